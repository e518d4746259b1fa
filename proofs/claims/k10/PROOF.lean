import PyProof.Rows.All
import Wide.All
import OpenK.AllK
import Wide.FinOn
import Lean
import PyProof.EqAt
import PyProof.EqKinds
import PyProof.TupleCall
import PySem.Challenge.RW_ferrynight_k10_refusals
set_option Elab.async false
set_option linter.all false
set_option maxRecDepth 100000
/-! THE HAND LAYER, for ints, bools, texts, own classes, LISTS and tuples (index, slices, in, append, pop ..), calls, loops. Paste it whole ahead of your own text; what your proof does not reach may be deleted. -/
namespace L2
open PySem PySem.Spec PyProof.Rows

/-- a key: an int or a str -/
abbrev Key := Sum Int Str
def keyIs : Key → Value → Bool
  | .inl k, v => Value.isInt k v
  | .inr x, v => Value.isStrOf x v
def keyH (w : World) : Key → Int
  | .inl k => hashInt k
  | .inr x => hashStr w x
theorem keyIs_shape : ∀ {k : Key} {v : Value}, keyIs k v = true → (∃ i t, k = Sum.inl i ∧ v = Value.int i t) ∨ (∃ x t, k = Sum.inr x ∧ v = Value.str x t)
  | .inl i, v, h => by
    obtain ⟨t, e⟩ := Value.isInt_shape (k := i) (v := v) h
    exact .inl ⟨i, t, rfl, e⟩
  | .inr x, v, h => by
    obtain ⟨t, e⟩ := Value.isStrOf_shape (x := x) (v := v) h
    exact .inr ⟨x, t, rfl, e⟩
theorem key_ll (a b : Int) : decide ((Sum.inl a : Key) = Sum.inl b) = (a == b) := by
  by_cases e : a = b
  · subst e; simp
  · have h : ¬ (Sum.inl a : Key) = Sum.inl b := fun q => e (Sum.inl.inj q)
    rw [decide_eq_false h]
    exact (beq_eq_false_iff_ne.mpr e).symm
theorem key_rr (a b : Str) : decide ((Sum.inr a : Key) = Sum.inr b) = decide (a = b) := by
  by_cases e : a = b
  · subst e; simp
  · have h : ¬ (Sum.inr a : Key) = Sum.inr b := fun q => e (Sum.inr.inj q)
    rw [decide_eq_false h, decide_eq_false e]
theorem key_lr (a : Int) (b : Str) : decide ((Sum.inl a : Key) = Sum.inr b) = false := decide_eq_false (fun q => nomatch q)
theorem key_rl (a : Str) (b : Int) : decide ((Sum.inr a : Key) = Sum.inl b) = false := decide_eq_false (fun q => nomatch q)

def mixKind (prog : Program) (w : World) : PySem.KeyKind prog w Key where
  is := keyIs
  hash := keyH w
  inj := fun v a b ha hb => by
    rcases keyIs_shape ha with ⟨i, t, rfl, rfl⟩ | ⟨x, t, rfl, rfl⟩
    · rcases keyIs_shape hb with ⟨j, u, rfl, e⟩ | ⟨y, u, rfl, e⟩
      · injection e with e1 _; rw [e1]
      · exact nomatch e
    · rcases keyIs_shape hb with ⟨j, u, rfl, e⟩ | ⟨y, u, rfl, e⟩
      · exact nomatch e
      · injection e with e1 _; rw [e1]
  byValue := fun k v h => by
    rcases keyIs_shape h with ⟨i, t, rfl, rfl⟩ | ⟨x, t, rfl, rfl⟩ <;> rfl
  pyHash := fun hv h => by
    rcases keyIs_shape hv with ⟨i, t, rfl, rfl⟩ | ⟨x, t, rfl, rfl⟩
    · exact wpAny_pyHash_int h
    · exact wpAny_pyHash_str h
  eqBool := fun hu hv h => by
    rcases keyIs_shape hu with ⟨i, t, rfl, rfl⟩ | ⟨x, t, rfl, rfl⟩
    · rcases keyIs_shape hv with ⟨j, u, rfl, rfl⟩ | ⟨y, u, rfl, rfl⟩
      · rw [key_ll] at h; exact wpAny_eqBool_int h
      · rw [key_lr] at h; exact SeqAt.EqAt.int_str i t y u _ _ _ _ h
    · rcases keyIs_shape hv with ⟨j, u, rfl, rfl⟩ | ⟨y, u, rfl, rfl⟩
      · rw [key_rl] at h; exact SeqAt.EqAt.str_int x t j u _ _ _ _ h
      · rw [key_rr] at h; exact wpAny_eqBool_str h
  «strs» := fun k x t v h => by
    rcases keyIs_shape h with ⟨i, u, rfl, e⟩ | ⟨y, u, rfl, e⟩
    · exact nomatch e
    · injection e with e1 _
      subst e1
      cases v <;> rfl

end L2

namespace L2
open PySem PySem.Spec PyProof.Rows

/-- a value, without the heap -/
inductive V where
  | non | bl (b : Bool) | int (i : Int) | str (x : Str) | byt (b : Array UInt8) | flt (b : UInt64) | ref (a : Addr) | ty (n : String)
  deriving DecidableEq

def RelV : V → Value → Prop
  | .non, u => u = Value.none
  | .bl b, u => u = Value.bool b
  | .int i, u => ∃ t, u = Value.int i t
  | .str x, u => ∃ t, u = Value.str x t
  | .byt b, u => ∃ t, u = Value.bytes b t
  | .flt b, u => ∃ t, u = Value.float b t
  | .ref a, u => u = Value.ref a
  | .ty n, u => u = Value.type n

abbrev Vals : List V → List Value → Prop := Paired RelV
theorem Vals.length {xs : List V} {us : List Value} (r : Vals xs us) : xs.length = us.length := Paired.length r
theorem Vals.get : ∀ {xs : List V} {us : List Value} {i : Nat} {x : V}, Vals xs us → xs[i]? = some x → ∃ u, us[i]? = some u ∧ RelV x u
  | _, _, _, _, .nil, e => by simp at e
  | _, _, 0, _, .cons r _, e => by simp at e; subst e; exact ⟨_, rfl, r⟩
  | _, _, i + 1, x, .cons _ t, e => by
    obtain ⟨u, h1, h2⟩ := Vals.get (i := i) (x := x) t (by simpa using e)
    exact ⟨u, by simpa using h1, h2⟩
theorem Vals.append : ∀ {xs ys : List V} {us ws : List Value}, Vals xs us → Vals ys ws → Vals (xs ++ ys) (us ++ ws)
  | _, _, _, _, .nil, s => s
  | _, _, _, _, .cons r t, s => .cons r (Vals.append t s)
theorem Vals.take : ∀ {xs : List V} {us : List Value} (n : Nat), Vals xs us → Vals (xs.take n) (us.take n)
  | _, _, 0, _ => .nil
  | _, _, _ + 1, .nil => .nil
  | _, _, n + 1, .cons r t => .cons r (Vals.take n t)
theorem Vals.drop : ∀ {xs : List V} {us : List Value} (n : Nat), Vals xs us → Vals (xs.drop n) (us.drop n)
  | _, _, 0, r => r
  | _, _, _ + 1, .nil => .nil
  | _, _, n + 1, .cons _ t => Vals.drop n t
def RelO : Option V → Option Value → Prop
  | some v, some u => RelV v u
  | none, none => True
  | _, _ => False
def KV {κ : Type} : List (κ × V) → List (κ × Value) → Prop := Paired fun (p : κ × V) (q : κ × Value) => p.1 = q.1 ∧ RelV p.2 q.2

/-- a key of a dict (00_mix): an int or a text -/
def kV : Key → V
  | .inl i => .int i
  | .inr x => .str x

/-- what stands at a tracked address -/
inductive HO where
  /-- a list -/
  | lst (xs : List V)
  /-- a tuple (never changes) -/
  | tup (xs : List V)
  /-- a dict whose keys are ints and texts; one whose keys are tuples of ints and texts (the empty one is both) -/
  | dK (kvs : List (Key × V)) | dT (kvs : List (List Key × V))
  /-- a set of ints: its members, its size -/
  | set (S : Int → Bool) (n : Nat)
  /-- an instance of the class at C, its dict at dx, its attributes -/
  | ins (C dx : Addr) (fs : List (Str × V))
  /-- the dict of the instance at x -/
  | own (x : Addr)
  /-- the dict of an exception -/
  | xd (fs : List (Str × V))
  /-- a bound method, f of x -/
  | met (f x : Addr)
  /-- a range object lo, lo + 1, .. below hi -/
  | rng (lo hi : Int)
  /-- a thing that is known to the object (the script; a dict while a loop walks it): read, never written while it is so -/
  | frz (o : Obj) (u : HO)
  /-- a code object's table -/
  | tbl (ps : Array Value)
  /-- any other thing, by what is true of its one object (a def of one's own: SetO a S n := HO.ext fun h => ..) -/
  | ext (φ : Heap → Prop)

abbrev Hp := Addr → Option HO
def upd (H : Hp) (a : Addr) (o : HO) : Hp := fun b => if b = a then some o else H b
theorem upd_same {H : Hp} {a : Addr} {o : HO} : upd H a o a = some o := by unfold upd; rw [if_pos rfl]
theorem upd_ne {H : Hp} {a b : Addr} {o : HO} (h : b ≠ a) : upd H a o b = H b := by unfold upd; rw [if_neg h]
/-- two objects of different content stand apart -/
theorem ne_of {H : Hp} {a b : Addr} {o u : HO} (h : H a = some o) (h' : H b = some u) (d : o ≠ u) : a ≠ b := by
  intro e; subst e; rw [h] at h'; exact d (Option.some.inj h')
theorem ne_of_none {H : Hp} {a b : Addr} {o : HO} (h : H a = some o) (h' : H b = none) : a ≠ b := by
  intro e; subst e; rw [h] at h'; cases h'

section
variable (P : Program) (w : World)
def ObjOk (H : Hp) (h : Heap) (a : Addr) : HO → Prop
  | .lst xs => xs.length ≤ sizeLine ∧ ∃ (its : List Value) (n : Nat), Vals xs its ∧ h.get? a = some { cls := .type "list", data := .seq its.toArray n }
  | .tup xs => xs.length ≤ sizeLine ∧ ∃ its : List Value, Vals xs its ∧ IsTup h a its.toArray
  | .dK kvs => kvs.length ≤ sizeLine ∧ (a == sysModules) = false ∧ ∃ vs, KV kvs vs ∧ h.DictOf (mixKind P w) a vs
  | .dT kvs => kvs.length ≤ sizeLine ∧ (a == sysModules) = false ∧ ∃ xs : List (List Key × Addr × Value),
      Paired (fun (p : List Key × V) (q : List Key × Addr × Value) => p.1 = q.1 ∧ H q.2.1 = some (.tup (p.1.map kV)) ∧ RelV p.2 q.2.2) kvs xs ∧
      ∃ o es ep, h.get? a = some o ∧ o.ExactDict ∧ o.data = .dict es ep ∧ es.toList = xs.map (entryOfKey (tupleKind (mixKind P w))) ∧ (xs.map (·.1)).Nodup
  | .set S n => h.SetOf (intKind P w) a S n
  | .ins C dx fs => H dx = some (.own a) ∧ fs.length ≤ 1000 ∧ dx ≠ a ∧ h.get? a = some (PySem.W.instObj C dx) ∧
      ∃ mA, h.Ns1 dx mA ∧ (∀ f, RelO (fs.lookup f) (mA f)) ∧ PySem.Within mA (fs.map (·.1))
  | .own _ => ∃ o, h.get? a = some o
  | .xd fs => ∃ mA, h.Ns1 a mA ∧ ∀ f, RelO (fs.lookup f) (mA f)
  | .rng lo hi => ∃ t u v, h.get? a = some { cls := .type "range", data := .fields #[.int lo t, .int hi u, .int 1 v] }
  | .frz o u => h.get? a = some o ∧ ObjOk H h a u
  | .tbl ps => h.get? a = some { cls := .none, data := .fields ps }
  | .met f x => h.get? a = some (PySem.W.methodObj (.ref f) (.ref x))
  | .ext φ => φ h ∧ (∃ o, h.get? a = some o) ∧ ∀ h1 h2 : Heap, φ h1 → (∀ o, h1.get? a = some o → h2.get? a = some o) → φ h2
/-- the abstract heap is held -/
def HOk (H : Hp) (h : Heap) : Prop := ∀ a o, H a = some o → ObjOk P w H h a o
end

section
variable {P : Program} {w : World} {H H' : Hp} {h h' : Heap} {a : Addr} {o : HO}
theorem ObjOk.lt (x : ObjOk P w H h a o) : a < h.objs.size := by
  cases o with
  | lst xs => obtain ⟨_, _, _, _, e⟩ := x; exact Heap.lt_size e
  | tup xs => obtain ⟨_, _, _, p⟩ := x; exact p.lt
  | dK kvs => obtain ⟨_, _, _, _, o, _, _, e, _⟩ := x; exact Heap.lt_size e
  | dT kvs => obtain ⟨_, _, _, _, o, _, _, e, _⟩ := x; exact Heap.lt_size e
  | set S n => obtain ⟨o, _, _, _, e, _⟩ := x; exact Heap.lt_size e
  | ins C dx fs => obtain ⟨_, _, _, e, _⟩ := x; exact Heap.lt_size e
  | own y => obtain ⟨_, e⟩ := x; exact Heap.lt_size e
  | xd fs => obtain ⟨_, ⟨_, _, _, e, _⟩, _⟩ := x; exact Heap.lt_size e
  | rng lo hi => obtain ⟨_, _, _, e⟩ := x; exact Heap.lt_size e
  | frz ob u => obtain ⟨e, _⟩ := x; exact Heap.lt_size e
  | tbl ps => exact Heap.lt_size (show h.get? a = some _ from x)
  | met f y => exact Heap.lt_size (show h.get? a = some _ from x)
  | ext φ => obtain ⟨_, ⟨_, e⟩, _⟩ := x; exact Heap.lt_size e
theorem Paired.mapP {α β : Type} {F G : α → β → Prop} : ∀ {l₁ : List α} {l₂ : List β}, Paired F l₁ l₂ → (∀ a b, F a b → G a b) → Paired G l₁ l₂
  | _, _, .nil, _ => .nil
  | _, _, .cons r t, f => .cons (f _ _ r) (Paired.mapP t f)
/-- what an object's description leans on: its own object, its own dict, the tuples -/
theorem ObjOk.stay (x : ObjOk P w H h a o) (k : ∀ b u, (b = a ∨ H b = some (.own a)) → h.get? b = some u → h'.get? b = some u)
    (ho : ∀ b, H b = some (.own a) → H' b = some (.own a)) (ht : ∀ b xs, H b = some (.tup xs) → H' b = some (.tup xs)) : ObjOk P w H' h' a o := by
  induction o with
  | lst xs => obtain ⟨z, its, n, r, e⟩ := x; exact ⟨z, its, n, r, k _ _ (.inl rfl) e⟩
  | tup xs => obtain ⟨z, its, r, ob, e, c⟩ := x; exact ⟨z, its, r, ob, k _ _ (.inl rfl) e, c⟩
  | dK kvs => obtain ⟨z, y, vs, r, ob, es, ep, e, c⟩ := x; exact ⟨z, y, vs, r, ob, es, ep, k _ _ (.inl rfl) e, c⟩
  | dT kvs =>
    obtain ⟨z, y, xs, r, ob, es, ep, e, c⟩ := x
    exact ⟨z, y, xs, Paired.mapP r fun p q z => ⟨z.1, ht _ _ z.2.1, z.2.2⟩, ob, es, ep, k _ _ (.inl rfl) e, c⟩
  | set S n => obtain ⟨ob, es, ep, t, e, c⟩ := x; exact ⟨ob, es, ep, t, k _ _ (.inl rfl) e, c⟩
  | ins C dx fs =>
    obtain ⟨d, z, ne, e, mA, ⟨od, es, ep, e2, c⟩, r⟩ := x
    exact ⟨ho _ d, z, ne, k _ _ (.inl rfl) e, mA, ⟨od, es, ep, k _ _ (.inr d) e2, c⟩, r⟩
  | own y => obtain ⟨ob, e⟩ := x; exact ⟨ob, k _ _ (.inl rfl) e⟩
  | xd fs => obtain ⟨mA, ⟨od, es, ep, e, c⟩, r⟩ := x; exact ⟨mA, ⟨od, es, ep, k _ _ (.inl rfl) e, c⟩, r⟩
  | rng lo hi => obtain ⟨t, u, v, e⟩ := x; exact ⟨t, u, v, k _ _ (.inl rfl) e⟩
  | frz ob u ih => obtain ⟨e, q⟩ := x; exact ⟨k _ _ (.inl rfl) e, ih q⟩
  | tbl ps =>
    have e : h.get? a = some { cls := .none, data := .fields ps } := x
    show h'.get? a = some { cls := .none, data := .fields ps }
    exact k a _ (.inl rfl) e
  | met f y =>
    have e : h.get? a = some (PySem.W.methodObj (.ref f) (.ref y)) := x
    show h'.get? a = some (PySem.W.methodObj (.ref f) (.ref y))
    exact k a _ (.inl rfl) e
  | ext φ => obtain ⟨p, ⟨o, e⟩, st⟩ := x; exact ⟨st _ _ p fun o q => k _ _ (.inl rfl) q, ⟨o, k _ _ (.inl rfl) e⟩, st⟩
theorem HOk.lt (x : HOk P w H h) (e : H a = some o) : a < h.objs.size := (x a o e).lt
theorem HOk.fresh (x : HOk P w H h) (e : h.objs.size ≤ a) : H a = none := by
  cases q : H a with
  | none => rfl
  | some u => exact absurd (Nat.lt_of_lt_of_le (x.lt q) e) (Nat.lt_irrefl _)
/-- every object of the heap is kept -/
theorem HOk.kept (x : HOk P w H h) (k : ∀ b u, h.get? b = some u → h'.get? b = some u) : HOk P w H h' := fun a o e =>
  (x a o e).stay (fun b u _ q => k b u q) (fun _ q => q) fun _ _ q => q
/-- a new object is laid and tracked -/
theorem HOk.laid (x : HOk P w H h) (k : ∀ b u, h.get? b = some u → h'.get? b = some u) (hp : h.objs.size ≤ a) (new : ObjOk P w (upd H a o) h' a o) : HOk P w (upd H a o) h' := fun b u e => by
  have hn := x.fresh hp
  by_cases hb : b = a
  · subst hb; rw [upd_same] at e; cases e; exact new
  · rw [upd_ne hb] at e
    exact (x b u e).stay (fun c v _ q => k c v q) (fun c q => by rw [upd_ne (ne_of_none q hn)]; exact q) fun c xs q => by rw [upd_ne (ne_of_none q hn)]; exact q
end

/-- what may be read as u: it is u, or a known u -/
def Rd (H : Hp) (a : Addr) (u : HO) : Prop := H a = some u ∨ ∃ o, H a = some (.frz o u)
theorem Rd.ok {P : Program} {w : World} {H : Hp} {h : Heap} {a : Addr} {u : HO} (r : Rd H a u) (x : HOk P w H h) : ObjOk P w H h a u := by
  rcases r with r | ⟨o, r⟩
  · exact x a u r
  · obtain ⟨_, q⟩ := x a _ r
    exact q
/-- what may be written -/
def Mut : Option HO → Prop
  | some (.lst _) => True
  | some (.dK _) => True
  | some (.dT _) => True
  | some (.set _ _) => True
  | some (.ins _ _ _) => True
  | some (.ext _) => True
  | _ => False
section
variable {P : Program} {w : World} {H : Hp} {h h' : Heap} {x e : Addr} {o' : HO}
/-- the object at e is changed: x itself, or the dict of the instance x -/
theorem HOk.write (ok : HOk P w H h) (mu : Mut (H x)) (he : e = x ∨ H e = some (.own x)) (k : ∀ b u, b ≠ e → h.get? b = some u → h'.get? b = some u) (heo : ∃ u, h'.get? e = some u)
    (new : ObjOk P w (upd H x o') h' x o') : HOk P w (upd H x o') h' := fun b u q => by
  have nown : ∀ c y, H c = some (.own y) → c ≠ x := fun c y r z => by subst z; rw [r] at mu; exact mu
  have ntup : ∀ c xs, H c = some (.tup xs) → c ≠ x := fun c xs r z => by subst z; rw [r] at mu; exact mu
  by_cases hb : b = x
  · subst hb; rw [upd_same] at q; cases q; exact new
  · rw [upd_ne hb] at q
    by_cases hbe : b = e
    · have q' : H b = some (.own x) := by
        rcases he with z | z
        · exact absurd (hbe.trans z) hb
        · rw [hbe]; exact z
      rw [q] at q'; cases q'
      obtain ⟨v, hv⟩ := heo
      exact ⟨v, by rw [hbe]; exact hv⟩
    · refine (ok b u q).stay (fun c v hc r => k c v ?_ r) (fun c r => by rw [upd_ne (nown c b r)]; exact r) fun c xs r => by rw [upd_ne (ntup c xs r)]; exact r
      rcases hc with rfl | hc
      · exact hbe
      · rintro rfl
        rcases he with z | z
        · exact nown c b hc z
        · rw [hc] at z; cases z; exact hb rfl
end

/-! ### kept unless tracked; of the frames at fs (the callers') the slots may change (an exception that passes writes there); of the records at ex (iterators) nothing is said -/
structure Un (fs ex : List Addr) (H H' : Hp) (h h' : Heap) : Prop where
  keep : ∀ b o, h.get? b = some o → H b = none → b ∉ fs → b ∉ ex → h'.get? b = some o
  slot : ∀ b o, h.get? b = some o → H b = none → b ∈ fs → b ∉ ex → ∃ sl, h'.get? b = some { o with slots := sl }
  free : ∀ b o, h.get? b = some o → H b = none → b ∉ ex → H' b = none
  there : ∀ b o, h.get? b = some o → b ∉ ex → ∃ o', h'.get? b = some o'
  tups : ∀ b xs, H b = some (.tup xs) → H' b = some (.tup xs)
  frzs : ∀ b o u, H b = some (.frz o u) → H' b = some (.frz o u)
  tbls : ∀ b ps, H b = some (.tbl ps) → ∃ more, H' b = some (.tbl (ps ++ more))
section
variable {fs fs' ex ex' : List Addr} {H H1 H2 : Hp} {h h1 h2 h' : Heap} {a x e : Addr} {o : HO}
theorem Un.any (u : Un fs ex H H1 h h1) {b : Addr} {ob : Obj} (q : h.get? b = some ob) (n : H b = none) (hx : b ∉ ex) : ∃ sl, h1.get? b = some { ob with slots := sl } := by
  by_cases hb : b ∈ fs
  · exact u.slot b ob q n hb hx
  · exact ⟨ob.slots, u.keep b ob q n hb hx⟩
theorem Un.kept (k : ∀ b u, h.get? b = some u → h'.get? b = some u) : Un fs ex H H h h' :=
  ⟨fun b ob q _ _ _ => k b ob q, fun b ob q _ _ _ => ⟨ob.slots, k b ob q⟩, fun _ _ _ n _ => n, fun b ob q _ => ⟨ob, k b ob q⟩, fun _ _ q => q, fun _ _ _ q => q, fun _ ps q => ⟨#[], by rw [q]; simp⟩⟩
theorem Un.refl : Un fs ex H H h h := Un.kept fun _ _ q => q
theorem Un.laid (k : ∀ b u, h.get? b = some u → h'.get? b = some u) (hp : h.objs.size ≤ a) (hn : H a = none) : Un fs ex H (upd H a o) h h' where
  keep := fun b u q _ _ _ => k b u q
  slot := fun b u q _ _ _ => ⟨u.slots, k b u q⟩
  free := fun b u q n _ => by rw [upd_ne (Nat.ne_of_lt (Nat.lt_of_lt_of_le (Heap.lt_size q) hp))]; exact n
  there := fun b u q _ => ⟨u, k b u q⟩
  tups := fun b xs q => by rw [upd_ne (ne_of_none q hn)]; exact q
  frzs := fun b u xs q => by rw [upd_ne (ne_of_none q hn)]; exact q
  tbls := fun b ps q => ⟨#[], by rw [upd_ne (ne_of_none q hn), q]; simp⟩
theorem Un.write (mu : Mut (H x)) (he : e = x ∨ H e = some (.own x)) (k : ∀ b u, b ≠ e → h.get? b = some u → h'.get? b = some u) (heo : ∃ u, h'.get? e = some u) : Un fs ex H (upd H x o) h h' := by
  have hx : ∀ b, H b = none → b ≠ x := fun b n z => by subst z; rw [n] at mu; exact mu
  have hb : ∀ b, H b = none → b ≠ e := fun b n z => by
    subst z
    rcases he with r | r
    · exact hx b n r
    · rw [n] at r; cases r
  have hm : ∀ b u, H b = some u → ¬ Mut (some u) → b ≠ x := fun b u q nm z => by subst z; rw [q] at mu; exact nm mu
  refine ⟨fun b u q n _ _ => k b u (hb b n) q, fun b u q n _ _ => ⟨u.slots, k b u (hb b n) q⟩, fun b u q n _ => by rw [upd_ne (hx b n)]; exact n, fun b u q _ => ?_,
    fun b xs q => by rw [upd_ne (hm b _ q fun z => z)]; exact q, fun b u xs q => by rw [upd_ne (hm b _ q fun z => z)]; exact q, fun b ps q => ⟨#[], by rw [upd_ne (hm b _ q fun z => z), q]; simp⟩⟩
  by_cases hbe : b = e
  · subst hbe; exact heo
  · exact ⟨u, k b u hbe q⟩
end

/-! ### the heap without what is tracked -/
def trk (h : Heap) (H : Hp) : List Addr := (List.range h.objs.size).filter fun a => (H a).isSome
def hidT (h : Heap) (H : Hp) : Heap := PySem.W.hideAll h (trk h H)
theorem hidT_size (h : Heap) (H : Hp) : (hidT h H).objs.size = h.objs.size := PySem.W.hideAll_size _ _
theorem hidT_get {h : Heap} {H : Hp} {b : Addr} {o : Obj} (e : h.get? b = some o) (n : H b = none) : (hidT h H).get? b = some o :=
  PySem.W.hideAll_get _ e fun hm => by
    have q : (H b).isSome = true := (List.mem_filter.mp hm).2
    rw [n] at q; simp at q
theorem of_hidT {h : Heap} {H : Hp} {b : Addr} {o : Obj} (e : (hidT h H).get? b = some o) : h.get? b = some o ∧ H b = none := by
  have e' : h.get? b = some o := PySem.W.of_hideAll (trk h H) e
  refine ⟨e', ?_⟩
  cases q : H b with
  | none => rfl
  | some x =>
    have hm : b ∈ trk h H := List.mem_filter.mpr ⟨List.mem_range.mpr (Heap.lt_size e'), by simp [q]⟩
    have z : (hidT h H).get? b = none := PySem.W.hideAll_none (trk h H) hm
    rw [z] at e; cases e

/-! ### OpenK's ledger, filled with every new object but one -/
def allNews (g h : Heap) (L : Addr) : List (Addr × Obj) := (List.range h.objs.size).filterMap fun a => if a = L ∨ (g.get? a).isSome = true then none else (h.get? a).map fun o => (a, o)
def rest (g h : Heap) (L d : Addr) : List (Addr × Obj) := (allNews g h L).filter fun p => decide (p.1 ≠ d)
end L2

namespace L2
open PySem PySem.Spec PyProof.Rows

/-- the module's facts, over the base: the heap at the law's entry without what is tracked there -/
structure Mod (K : PySem.W.Frag) (mg : Str → Option Value) (base : Heap) : Prop where
  kin : K.In base
  glob : base.Ns mainGlobals mg
  blt : ∃ mb, base.Ns builtinsNs mb ∧ ∀ x : Str, x ≠ "__name__" → mb x = bootBuiltins x
  nolimit : base.NoLimit

/-- the context: a def's body (or a comprehension's block) running. base: fixed through the whole law; s₀, H₀: the entry; outer: the frames whose slots others may change (a def's callers); stack: all frames that run;
   ex: iterators that were made ahead of the entry and are walked here (a comprehension's); fn: the names whose cells were made at the entry (a def: all; a comprehension's block: its own); calm: not within an except suite; pn: pins that every state bears; xe: what is wanted of an exception that leaves the code -/
structure Cx where
  prog : Program
  w : World
  K : PySem.W.Frag
  mg : Str → Option Value
  base : Heap
  A : Around
  N : List Str
  s₀ : Shared
  H₀ : Hp
  env : Env
  outer : List Env
  stack : List Env
  ex : List Addr
  fn : Str → Bool
  calm : Bool
  pn : List (Addr × Obj)
  xe : Value → Shared → Prop
/-- the callers' frames -/
def frs (l : List Env) : List Addr := l.filterMap (·.frame)
abbrev Cx.fs (X : Cx) : List Addr := frs X.outer

def Vis (sc : Scope) (x : Str) : Prop := sc.names.lookup x = some .local ∨ sc.names.lookup x = some .cell ∨ sc.names.lookup x = some .free
def Loc (sc : Scope) (x : Str) : Prop := sc.names.lookup x = some .local ∨ sc.names.lookup x = some .cell
def Look (env : Env) (h : Heap) (m : Str → Option Value) (x : Str) (u : Value) : Prop :=
  (env.kindOf x = some .local ∧ m x = some u) ∨ ((env.kindOf x = some .cell ∨ env.kindOf x = some .free) ∧ ∃ c, env.cells.lookup x = some c ∧ h.IsCell c (some u))

structure Cx.Ok (X : Cx) : Prop where
  mod : Mod X.K X.mg X.base
  kind : X.env.scope.kind = .function
  glob : X.env.globals = mainGlobals
  blt : X.env.builtins = builtinsNs
  above : X.s₀.heap.objs.size ≤ X.env.locals
  inj : ∀ x y c, X.env.cells.lookup x = some c → X.env.cells.lookup y = some c → x = y
  has : ∀ x, (X.env.kindOf x = some .cell ∨ X.env.kindOf x = some .free) → ∃ c, X.env.cells.lookup x = some c
  cab : ∀ x c, X.fn x = true → X.env.cells.lookup x = some c → X.s₀.heap.objs.size ≤ c
  hd : X.calm = true → X.A.handled = none
  frames : X.A.frames = some X.stack
  stk : X.stack = X.outer ∨ (X.stack = X.env :: X.outer ∧ X.env.frame = some X.env.locals)
  exf : ∀ b ∈ X.ex, b ≠ X.env.locals ∧ ∀ x c, X.env.cells.lookup x = some c → c ≠ b
  bs : ∀ b o, X.base.get? b = some o → X.s₀.heap.get? b = some o ∧ X.H₀ b = none
  bsz : X.base.objs.size ≤ X.s₀.heap.objs.size
  noex : ∀ b o, X.base.get? b = some o → b ∉ X.ex
  exfs : ∀ b ∈ X.ex, b ∉ X.fs
  funs : X.s₀.heap.FunFrames X.base X.outer
  frf : ∀ b ∈ X.fs, X.H₀ b = none

structure Inv (X : Cx) (pins : List (Addr × Obj)) (σ : List (Option V)) (H : Hp) (s : Shared) : Prop where
  ok : X.Ok
  os : s.os = X.s₀.os
  bare : AllBare s.gens
  base : Un X.fs X.ex X.H₀ H X.s₀.heap s.heap
  loc : ∃ m, s.heap.Ns X.env.locals m ∧ ∀ (i : Nat) (x : Str) (v : V), X.N[i]? = some x → σ[i]? = some (some v) → Vis X.env.scope x → ∃ u, RelV v u ∧ Look X.env s.heap m x u
  cell : ∀ x c, X.env.cells.lookup x = some c → ∃ v, s.heap.IsCell c v
  free : H X.env.locals = none
  freeC : ∀ x c, X.env.cells.lookup x = some c → H c = none
  pin : ∀ p ∈ X.pn ++ pins, s.heap.get? p.1 = some p.2 ∧ H p.1 = none ∧ p.1 ≠ X.env.locals ∧ p.1 ∉ X.fs ∧ ∀ v, p.2.data ≠ .cell v
  hok : HOk X.prog X.w H s.heap
  len : σ.length = X.N.length

section
variable {X : Cx} {pins : List (Addr × Obj)} {σ : List (Option V)} {H H' : Hp} {s : Shared} {h' : Heap}

theorem Cx.Ok.nofr (ok : X.Ok) {b : Addr} {o : Obj} (e : X.base.get? b = some o) : b ∉ X.fs := fun hb => by
  have := (ok.funs.mem hb).1
  rw [e] at this; cases this
theorem Inv.bs (I : Inv X pins σ H s) : ∀ b o, X.base.get? b = some o → s.heap.get? b = some o ∧ H b = none := fun b o e =>
  ⟨I.base.keep b o (I.ok.bs b o e).1 (I.ok.bs b o e).2 (I.ok.nofr e) (I.ok.noex b o e), I.base.free b o (I.ok.bs b o e).1 (I.ok.bs b o e).2 (I.ok.noex b o e)⟩
theorem Inv.bk (I : Inv X pins σ H s) : ∀ b o, X.base.get? b = some o → s.heap.get? b = some o := fun b o e => (I.bs b o e).1
theorem Inv.mod (I : Inv X pins σ H s) : Mod X.K X.mg X.base := I.ok.mod
theorem Inv.kIn (I : Inv X pins σ H s) : X.K.In s.heap := I.ok.mod.kin.keeps I.bk
/-- the frame over the base: for OpenK's rules (K.In X.base is I.mod.kin) -/
theorem Inv.fr (I : Inv X pins σ H s) : ∃ m, Fr X.base X.env.locals s.heap m :=
  let ⟨m, hn, _⟩ := I.loc
  ⟨m, hn, I.bk, Nat.le_trans I.ok.bsz I.ok.above⟩
theorem Inv.lt (I : Inv X pins σ H s) : X.env.locals < s.heap.objs.size := let ⟨_, hn, _⟩ := I.loc; hn.lt
theorem Inv.sz (I : Inv X pins σ H s) : X.s₀.heap.objs.size ≤ s.heap.objs.size := Nat.le_trans I.ok.above (Nat.le_of_lt I.lt)
theorem Inv.nofs (I : Inv X pins σ H s) {a : Addr} (h : s.heap.objs.size ≤ a) : a ∉ X.fs := fun hb => by
  obtain ⟨_, o, ho, _⟩ := I.ok.funs.mem hb
  exact absurd (Nat.lt_of_lt_of_le (Heap.lt_size ho) (Nat.le_trans I.sz h)) (Nat.lt_irrefl _)
theorem Inv.cne (I : Inv X pins σ H s) : ∀ x c, X.env.cells.lookup x = some c → c ≠ X.env.locals := fun x c e z => by
  obtain ⟨v, o, ho, hd⟩ := I.cell x c e
  obtain ⟨m, ⟨o', es, ep, ho', hd', _⟩, _⟩ := I.loc
  rw [z, ho'] at ho; cases ho; rw [hd'] at hd; cases hd
theorem Inv.funs (I : Inv X pins σ H s) : s.heap.FunFrames X.base X.outer := by
  have all : ∀ (l : List Env), (∀ b ∈ frs l, b ∈ X.fs) → X.s₀.heap.FunFrames X.base l → s.heap.FunFrames X.base l := by
    intro l
    induction l with
    | nil => intro _ _; trivial
    | cons env r ih =>
      intro hs hl
      obtain ⟨hk, ⟨L, o, hf, hn, ho, hd⟩, hr⟩ := hl
      have hL : L ∈ X.fs := hs L (by unfold frs; rw [List.filterMap_cons, hf]; exact List.mem_cons_self)
      obtain ⟨sl, e⟩ := I.base.slot L o ho (I.ok.frf L hL) hL fun z => I.ok.exfs L z hL
      exact ⟨hk, ⟨L, _, hf, hn, e, hd⟩, ih (fun b hb => hs b (by unfold frs; rw [List.filterMap_cons, hf]; exact List.mem_cons_of_mem _ hb)) hr⟩
  exact all X.outer (fun _ hb => hb) I.ok.funs

/-- the frames that run, for a call -/
theorem Inv.stack (I : Inv X pins σ H s) : s.heap.FunFrames X.base X.stack := by
  rcases I.ok.stk with e | ⟨e, hf⟩
  · rw [e]; exact I.funs
  · rw [e]
    obtain ⟨m, hn, _⟩ := I.loc
    refine .cons (by rw [I.ok.kind]; decide) hf hn ?_ I.funs
    exact Heap.get?_none_of_le (Nat.le_trans I.ok.bsz I.ok.above)
theorem Inv.stkSub (I : Inv X pins σ H s) : ∀ b ∈ frs X.stack, b ∈ X.env.locals :: X.fs := fun b hb => by
  rcases I.ok.stk with e | ⟨e, hf⟩
  · rw [e] at hb; exact List.mem_cons_of_mem _ hb
  · rw [e] at hb
    unfold frs at hb
    rw [List.filterMap_cons, hf] at hb
    exact hb
theorem Inv.stkFree (I : Inv X pins σ H s) : ∀ b ∈ frs X.stack, H b = none := fun b hb => by
  rcases List.mem_cons.mp (I.stkSub b hb) with e | hb
  · rw [e]; exact I.free
  · obtain ⟨_, o, ho, _⟩ := I.ok.funs.mem hb
    exact I.base.free b o ho (I.ok.frf b hb) fun z => I.ok.exfs b z hb

/-- THE STEP: the untracked objects but the frame and the records at ch are kept (the callers' frames up to slots), the frame's map is kept, the new abstract heap is held -/
theorem Inv.step {g' : Array GenState} {t' : Nat} {d' : Drawn} {ch : List Addr} (I : Inv X pins σ H s)
    (hch : ∀ b ∈ ch, (b ∈ X.ex ∨ X.s₀.heap.objs.size ≤ b) ∧ b ≠ X.env.locals ∧ (∀ x c, X.env.cells.lookup x = some c → c ≠ b) ∧ ∀ p ∈ X.pn ++ pins, p.1 ≠ b)
    (keep : ∀ b o, b ≠ X.env.locals → b ∉ X.fs → b ∉ ch → s.heap.get? b = some o → H b = none → h'.get? b = some o)
    (slot : ∀ b o, b ≠ X.env.locals → b ∈ X.fs → b ∉ ch → s.heap.get? b = some o → H b = none → ∃ sl, h'.get? b = some { o with slots := sl }) (free : ∀ b o, b ∉ ch → s.heap.get? b = some o → H b = none → H' b = none)
    (there : ∀ b o, b ∉ ch → s.heap.get? b = some o → ∃ o', h'.get? b = some o')
    (tups : ∀ b xs, H b = some (.tup xs) → H' b = some (.tup xs)) (frzs : ∀ b o u, H b = some (.frz o u) → H' b = some (.frz o u)) (tbls : ∀ b ps, H b = some (.tbl ps) → ∃ more, H' b = some (.tbl (ps ++ more)))
    (ns : ∀ m, s.heap.Ns X.env.locals m → h'.Ns X.env.locals m) (hok : HOk X.prog X.w H' h') (hg : AllBare g') :
    Inv X pins σ H' { s with heap := h', gens := g', drawn := d', toks := t' } := by
  have neL : ∀ b o, X.s₀.heap.get? b = some o → b ≠ X.env.locals := fun b o e => Nat.ne_of_lt (Nat.lt_of_lt_of_le (Heap.lt_size e) I.ok.above)
  have neC : ∀ b o, X.s₀.heap.get? b = some o → b ∉ X.ex → b ∉ ch := fun b o e hx hb => by
    rcases (hch b hb).1 with z | z
    · exact hx z
    · exact absurd (Nat.lt_of_lt_of_le (Heap.lt_size e) z) (Nat.lt_irrefl _)
  have cellK : ∀ x c, X.env.cells.lookup x = some c → ∀ v, s.heap.IsCell c v → h'.IsCell c v := fun x c e v ⟨o, ho, hd⟩ => by
    have nch : c ∉ ch := fun z => (hch c z).2.2.1 x c e rfl
    by_cases hc : c ∈ X.fs
    · obtain ⟨sl, q⟩ := slot c o (I.cne x c e) hc nch ho (I.freeC x c e)
      exact ⟨_, q, hd⟩
    · exact ⟨o, keep c o (I.cne x c e) hc nch ho (I.freeC x c e), hd⟩
  refine ⟨I.ok, I.os, hg, ⟨fun b o e n hb hx => ?_, fun b o e n hb hx => ?_, fun b o e n hx => ?_, fun b o e hx => ?_, fun b xs e => tups b xs (I.base.tups b xs e), fun b o xs e => frzs b o xs (I.base.frzs b o xs e), fun b ps e => ?_⟩, ?_, fun x c e => ?_, ?_, fun x c e => ?_, fun p hp => ?_, hok, I.len⟩
  · exact keep b o (neL b o e) hb (neC b o e hx) (I.base.keep b o e n hb hx) (I.base.free b o e n hx)
  · obtain ⟨sl, e1⟩ := I.base.slot b o e n hb hx
    obtain ⟨sl', e2⟩ := slot b _ (neL b o e) hb (neC b o e hx) e1 (I.base.free b o e n hx)
    exact ⟨sl', e2⟩
  · obtain ⟨o', e1⟩ := I.base.there b o e hx
    exact free b o' (neC b o e hx) e1 (I.base.free b o e n hx)
  · obtain ⟨o', e1⟩ := I.base.there b o e hx
    exact there b o' (neC b o e hx) e1
  · obtain ⟨m1, e1⟩ := I.base.tbls b ps e
    obtain ⟨m2, e2⟩ := tbls b _ e1
    exact ⟨m1 ++ m2, by rw [e2, Array.append_assoc]⟩
  · obtain ⟨m, hn, hl⟩ := I.loc
    refine ⟨m, ns m hn, fun i x v e1 e2 e3 => ?_⟩
    obtain ⟨u, r, l⟩ := hl i x v e1 e2 e3
    refine ⟨u, r, ?_⟩
    rcases l with l | ⟨k, c, e, z⟩
    · exact .inl l
    · exact .inr ⟨k, c, e, cellK x c e _ z⟩
  · obtain ⟨v, z⟩ := I.cell x c e
    exact ⟨v, cellK x c e v z⟩
  · obtain ⟨m, ⟨o, _, _, ho, _⟩, _⟩ := I.loc
    exact free _ o (fun z => (hch _ z).2.1 rfl) ho I.free
  · obtain ⟨v, o, ho, hd⟩ := I.cell x c e
    exact free c o (fun z => (hch c z).2.2.1 x c e rfl) ho (I.freeC x c e)
  · obtain ⟨e, n, ne, nf, d⟩ := I.pin p hp
    have nch : p.1 ∉ ch := fun z => (hch p.1 z).2.2.2 p hp rfl
    exact ⟨keep p.1 p.2 ne nf nch e n, free p.1 p.2 nch e n, ne, nf, d⟩
/-- .. where the frame's own object is kept too -/
theorem Inv.un {t' : Nat} (I : Inv X pins σ H s) (u : Un X.fs [] H H' s.heap h') (hok : HOk X.prog X.w H' h') : Inv X pins σ H' { s with heap := h', toks := t' } := by
  obtain ⟨m, ⟨o, es, ep, ho, r⟩, _⟩ := id I.loc
  obtain ⟨sl, hL⟩ := u.any ho I.free (by simp)
  exact I.step (g' := s.gens) (d' := s.drawn) (ch := []) (fun _ z => nomatch z) (fun b o _ hb _ e n => u.keep b o e n hb (by simp)) (fun b o _ hb _ e n => u.slot b o e n hb (by simp)) (fun b o _ e n => u.free b o e n (by simp)) (fun b o _ e => u.there b o e (by simp)) u.tups u.frzs u.tbls (fun m' hm => by
    obtain ⟨o', es', ep', ho', r'⟩ := hm
    rw [ho] at ho'; cases ho'
    exact ⟨_, es', ep', hL, r'⟩) hok I.bare
/-- behind a call (or a comprehension's block): the slots of this frame may have changed too, the records at ch may have turned -/
theorem Inv.call {g' : Array GenState} {t' : Nat} {d' : Drawn} {ch : List Addr} (I : Inv X pins σ H s) (u : Un (frs X.stack) ch H H' s.heap h') (hok : HOk X.prog X.w H' h') (hg : AllBare g')
    (hch : ∀ b ∈ ch, (b ∈ X.ex ∨ X.s₀.heap.objs.size ≤ b) ∧ b ≠ X.env.locals ∧ (∀ x c, X.env.cells.lookup x = some c → c ≠ b) ∧ ∀ p ∈ X.pn ++ pins, p.1 ≠ b) :
    Inv X pins σ H' { s with heap := h', gens := g', drawn := d', toks := t' } := by
  obtain ⟨m, ⟨o, es, ep, ho, r⟩, _⟩ := id I.loc
  obtain ⟨sl, hL⟩ := u.any ho I.free fun z => (hch _ z).2.1 rfl
  exact I.step (ch := ch) hch (fun b o hL hb hc e n => u.keep b o e n (fun z => (List.mem_cons.mp (I.stkSub b z)).elim hL hb) hc) (fun b o _ _ hc e n => u.any e n hc) (fun b o hc e n => u.free b o e n hc) (fun b o hc e => u.there b o e hc) u.tups u.frzs u.tbls (fun m' hm => by
    obtain ⟨o', es', ep', ho', r'⟩ := hm
    rw [ho] at ho'; cases ho'
    exact ⟨_, es', ep', hL, r'⟩) hok hg
/-- an untracked record of ours (an iterator) has turned -/
theorem Inv.turned {t' : Nat} {it : Addr} (I : Inv X pins σ H s) (k : ∀ b o, b ≠ it → s.heap.get? b = some o → h'.get? b = some o) (hn : H it = none) (hL : it ≠ X.env.locals)
    (h1 : it ∈ X.ex ∨ X.s₀.heap.objs.size ≤ it) (h2 : ∀ x c, X.env.cells.lookup x = some c → c ≠ it) (h3 : ∀ p ∈ X.pn ++ pins, p.1 ≠ it) : Inv X pins σ H { s with heap := h', toks := t' } := by
  have nit : ∀ b u, H b = some u → b ≠ it := fun b u e z => by rw [z, hn] at e; cases e
  refine I.step (g' := s.gens) (d' := s.drawn) (ch := [it]) (fun b hb => ?_) (fun b o _ _ hc e _ => k b o (fun z => hc (by simp [z])) e) (fun b o _ _ hc e _ => ⟨o.slots, k b o (fun z => hc (by simp [z])) e⟩) (fun _ _ _ _ n => n)
    (fun b o hc e => ⟨o, k b o (fun z => hc (by simp [z])) e⟩) (fun _ _ e => e) (fun _ _ _ e => e) (fun b ps e => ⟨#[], by rw [e]; simp⟩) (fun m hm => ?_) (fun b u e => ?_) I.bare
  · have e : b = it := by simpa using hb
    subst e
    exact ⟨h1, hL, h2, h3⟩
  · obtain ⟨o, es, ep, ho, r⟩ := hm
    exact ⟨o, es, ep, k _ o (Ne.symm hL) ho, r⟩
  · refine (I.hok b u e).stay (fun c v hc q => k c v ?_ q) (fun _ q => q) fun _ _ q => q
    rcases hc with z | z
    · rw [z]; exact nit b u e
    · exact nit c _ z
theorem Inv.tok (I : Inv X pins σ H s) (t : Nat) : Inv X pins σ H { s with toks := t } := I.un (h' := s.heap) (t' := t) Un.refl I.hok
/-- all objects kept -/
theorem Inv.kept {t' : Nat} (I : Inv X pins σ H s) (k : ∀ b u, s.heap.get? b = some u → h'.get? b = some u) : Inv X pins σ H { s with heap := h', toks := t' } := I.un (Un.kept k) (I.hok.kept k)
/-- a new object laid and tracked -/
theorem Inv.laid {a : Addr} {o : HO} {t' : Nat} (I : Inv X pins σ H s) (k : ∀ b u, s.heap.get? b = some u → h'.get? b = some u) (hp : s.heap.objs.size ≤ a) (new : ObjOk X.prog X.w (upd H a o) h' a o) :
    Inv X pins σ (upd H a o) { s with heap := h', toks := t' } := I.un (Un.laid k hp (I.hok.fresh hp)) (I.hok.laid k hp new)
/-- an object written -/
theorem Inv.write {x e : Addr} {o : HO} {t' : Nat} (I : Inv X pins σ H s) (mu : Mut (H x)) (he : e = x ∨ H e = some (.own x)) (k : ∀ b u, b ≠ e → s.heap.get? b = some u → h'.get? b = some u) (heo : ∃ u, h'.get? e = some u)
    (new : ObjOk X.prog X.w (upd H x o) h' x o) : Inv X pins σ (upd H x o) { s with heap := h', toks := t' } := I.un (Un.write mu he k heo) (I.hok.write mu he k heo new)
/-- forgetting slots, pins -/
theorem Inv.weak {σ' : List (Option V)} (I : Inv X pins σ H s) (hl : σ'.length = σ.length) (w : ∀ (i : Nat) v, σ'[i]? = some (some v) → σ[i]? = some (some v)) : Inv X pins σ' H s :=
  ⟨I.ok, I.os, I.bare, I.base, let ⟨m, hn, hl'⟩ := I.loc; ⟨m, hn, fun i x v e1 e2 e3 => hl' i x v e1 (w i v e2) e3⟩, I.cell, I.free, I.freeC, I.pin, I.hok, hl.trans I.len⟩
theorem Inv.pins_of {pins' : List (Addr × Obj)} (I : Inv X pins σ H s) (h : ∀ p ∈ pins', s.heap.get? p.1 = some p.2 ∧ H p.1 = none ∧ p.1 ≠ X.env.locals ∧ p.1 ∉ X.fs ∧ ∀ v, p.2.data ≠ .cell v) : Inv X pins' σ H s :=
  ⟨I.ok, I.os, I.bare, I.base, I.loc, I.cell, I.free, I.freeC, fun p hp => (List.mem_append.mp hp).elim (fun z => I.pin p (List.mem_append_left _ z)) (h p), I.hok, I.len⟩

theorem nodup_ix {N : List Str} (hN : N.Nodup) {i j : Nat} {x : Str} (a : N[i]? = some x) (b : N[j]? = some x) : i = j := by
  obtain ⟨h1, e1⟩ := List.getElem?_eq_some_iff.mp a
  obtain ⟨h2, e2⟩ := List.getElem?_eq_some_iff.mp b
  exact (List.getElem_inj hN).mp (e1.trans e2.symm)

/-- a name is stored; what changed -/
theorem store_ok2 {M : Model} {A : Around} {E : Value → Shared → Prop} {i : Nat} {x : Str} {v : V} {u : Value} {Q : Unit → Shared → Prop} (I : Inv X pins σ H s) (hN : X.N.Nodup) (hi : X.N[i]? = some x) (hx : Loc X.env.scope x) (r : RelV v u)
    (h : ∀ s', Inv X pins (σ.set i (some v)) H s' → (∃ a, Heap.SameBut a s.heap s'.heap ∧ (a = X.env.locals ∨ X.env.cells.lookup x = some a)) → Q () s') (hf : X.fn x = true ∨ X.env.scope.names.lookup x = some .local := by first | exact .inl rfl | exact .inr rfl | assumption) : wpAny M A (storeName X.env x u) Q E s := by
  obtain ⟨m, hn, hl⟩ := id I.loc
  have hcls : (X.env.scope.kind == .class || (X.env.scope.kind == .module && X.env.locals != X.env.globals)) = false := by rw [I.ok.kind]; rfl
  have hiσ : i < σ.length := by rw [I.len]; exact (List.getElem?_eq_some_iff.mp hi).1
  have cne := I.cne
  have tracked : ∀ {a : Addr} {h' : Heap}, (∃ o, s.heap.get? a = some o ∧ H a = none) → Heap.SameBut a s.heap h' → HOk X.prog X.w H h' := fun {a h'} ha hs b ob e => by
    obtain ⟨_, _, hfree⟩ := ha
    refine (I.hok b ob e).stay (fun c w' hc q => (hs.2 c ?_).trans q) (fun _ q => q) fun _ _ q => q
    rintro rfl
    rcases hc with rfl | hc
    · rw [hfree] at e; cases e
    · rw [hfree] at hc; cases hc
  rcases hx with hk | hk
  · refine wpAny_storeName_local hk hn (fun h' hn' hs => ?_) hcls
    obtain ⟨oL, _, _, hoL, _⟩ := id hn
    refine h _ ⟨I.ok, I.os, I.bare, ⟨fun b o e n hb hx => ?_, fun b o e n hb hx => ?_, I.base.free, fun b o e hx => ?_, I.base.tups, I.base.frzs, I.base.tbls⟩, ⟨_, hn', fun j y v' e1 e2 e3 => ?_⟩, fun y c e => ?_, I.free, I.freeC, fun p hp => ?_, tracked ⟨oL, hoL, I.free⟩ hs, by simpa using I.len⟩ ⟨_, hs, .inl rfl⟩
    · exact (hs.2 b (Nat.ne_of_lt (Nat.lt_of_lt_of_le (Heap.lt_size e) I.ok.above))).trans (I.base.keep b o e n hb hx)
    · obtain ⟨sl, e1⟩ := I.base.slot b o e n hb hx
      exact ⟨sl, (hs.2 b (Nat.ne_of_lt (Nat.lt_of_lt_of_le (Heap.lt_size e) I.ok.above))).trans e1⟩
    · obtain ⟨o', e1⟩ := I.base.there b o e hx
      exact ⟨o', (hs.2 b (Nat.ne_of_lt (Nat.lt_of_lt_of_le (Heap.lt_size e) I.ok.above))).trans e1⟩
    · by_cases hj : j = i
      · subst hj
        rw [hi] at e1; cases e1
        rw [List.getElem?_set_self hiσ] at e2
        cases e2
        exact ⟨u, r, .inl ⟨hk, by simp⟩⟩
      · rw [List.getElem?_set_ne (Ne.symm hj)] at e2
        obtain ⟨u', r', q⟩ := hl j y v' e1 e2 e3
        refine ⟨u', r', ?_⟩
        rcases q with ⟨k, e⟩ | ⟨k, c, e, z⟩
        · refine .inl ⟨k, ?_⟩
          have : y ≠ x := fun e => hj (nodup_ix hN e1 (e ▸ hi))
          simp [this, e]
        · exact .inr ⟨k, c, e, z.sameBut hs (cne y c e)⟩
    · obtain ⟨w', z⟩ := I.cell y c e
      exact ⟨w', z.sameBut hs (cne y c e)⟩
    · obtain ⟨e, n, ne, nf, d⟩ := I.pin p hp
      exact ⟨(hs.2 p.1 ne).trans e, n, ne, nf, d⟩
  · have hfn : X.fn x = true := by
      rcases hf with z | z
      · exact z
      · rw [z] at hk; cases hk
    obtain ⟨c, hc⟩ := I.ok.has x (.inl hk)
    obtain ⟨w', z⟩ := I.cell x c hc
    refine wpAny_storeName_cell I.ok.kind hk hc z (fun h' hc' hs => ?_)
    obtain ⟨oc, hoc, hocd⟩ := id z
    refine h { s with heap := h' } ⟨I.ok, I.os, I.bare, ⟨fun b o e n hb hx => ?_, fun b o e n hb hx => ?_, I.base.free, fun b o e hx => ?_, I.base.tups, I.base.frzs, I.base.tbls⟩, ⟨m, hn.sameBut hs (Ne.symm (cne x c hc)), fun j y v' e1 e2 e3 => ?_⟩, fun y c' e => ?_, I.free, I.freeC, fun p hp => ?_, tracked ⟨oc, hoc, I.freeC x c hc⟩ hs, by simpa using I.len⟩ ⟨c, hs, .inr hc⟩
    · exact (hs.2 b (Nat.ne_of_lt (Nat.lt_of_lt_of_le (Heap.lt_size e) (I.ok.cab x c hfn hc)))).trans (I.base.keep b o e n hb hx)
    · obtain ⟨sl, e1⟩ := I.base.slot b o e n hb hx
      exact ⟨sl, (hs.2 b (Nat.ne_of_lt (Nat.lt_of_lt_of_le (Heap.lt_size e) (I.ok.cab x c hfn hc)))).trans e1⟩
    · obtain ⟨o', e1⟩ := I.base.there b o e hx
      exact ⟨o', (hs.2 b (Nat.ne_of_lt (Nat.lt_of_lt_of_le (Heap.lt_size e) (I.ok.cab x c hfn hc)))).trans e1⟩
    · by_cases hj : j = i
      · subst hj
        rw [hi] at e1; cases e1
        rw [List.getElem?_set_self hiσ] at e2
        cases e2
        exact ⟨u, r, .inr ⟨.inl hk, c, hc, hc'⟩⟩
      · rw [List.getElem?_set_ne (Ne.symm hj)] at e2
        obtain ⟨u', r', q⟩ := hl j y v' e1 e2 e3
        refine ⟨u', r', ?_⟩
        rcases q with q | ⟨k, c', e, z'⟩
        · exact .inl q
        · refine .inr ⟨k, c', e, z'.sameBut hs ?_⟩
          rintro rfl
          exact hj (nodup_ix hN e1 (I.ok.inj _ _ _ e hc ▸ hi))
    · by_cases hcc : c' = c
      · subst hcc; exact ⟨_, hc'⟩
      · obtain ⟨w2, z2⟩ := I.cell y c' e
        exact ⟨w2, z2.sameBut hs hcc⟩
    · obtain ⟨e, n, ne, nf, d⟩ := I.pin p hp
      refine ⟨(hs.2 p.1 ?_).trans e, n, ne, nf, d⟩
      intro q
      rw [q, hoc] at e
      have q' : oc = p.2 := Option.some.inj e
      exact d w' (by rw [← q']; exact hocd)
theorem store_ok {M : Model} {A : Around} {E : Value → Shared → Prop} {i : Nat} {x : Str} {v : V} {u : Value} {Q : Unit → Shared → Prop} (I : Inv X pins σ H s) (hN : X.N.Nodup) (hi : X.N[i]? = some x) (hx : Loc X.env.scope x) (r : RelV v u)
    (h : ∀ s', Inv X pins (σ.set i (some v)) H s' → Q () s') (hf : X.fn x = true ∨ X.env.scope.names.lookup x = some .local := by first | exact .inl rfl | exact .inr rfl | assumption) : wpAny M A (storeName X.env x u) Q E s :=
  store_ok2 I hN hi hx r (fun s' I' _ => h s' I') hf
/-- behind a call or a block, the state as it is -/
theorem Inv.call' {s' : Shared} {ch : List Addr} (I : Inv X pins σ H s) (ho : s'.os = s.os) (u : Un (frs X.stack) ch H H' s.heap s'.heap) (hok : HOk X.prog X.w H' s'.heap) (hg : AllBare s'.gens)
    (hch : ∀ b ∈ ch, (b ∈ X.ex ∨ X.s₀.heap.objs.size ≤ b) ∧ b ≠ X.env.locals ∧ (∀ x c, X.env.cells.lookup x = some c → c ≠ b) ∧ ∀ p ∈ X.pn ++ pins, p.1 ≠ b) : Inv X pins σ H' s' := by
  obtain ⟨h', g', d', t', o'⟩ := s'
  have e : o' = s.os := ho
  subst e
  exact I.call (g' := g') (t' := t') (d' := d') u hok hg hch
end

/-! ### the judgements -/
/-- an exception: its class, its own dict's address (where it has one), the abstract heap behind it -/
abbrev XK := Value → Option Addr → Hp → Prop
abbrev St := List (Option V)
abbrev VK := V → Hp → Prop
/-- an expression's reading; a test's; an argument list's -/
abbrev TE := St → Hp → VK → Prop
abbrev TT := St → Hp → (Bool → Hp → Prop) → Prop
abbrev TA := St → Hp → (List V → Hp → Prop) → Prop
/-- what is wanted behind a statement -/
structure Ends where
  nx : St → Hp → Prop
  rt : VK
  bk : St → Hp → Prop := fun _ _ => False
  ct : St → Hp → Prop := fun _ _ => False
abbrev TS := Ends → St → Hp → Prop

def EP (X : Cx) (pins : List (Addr × Obj)) (σ : St) (Q : VK) (u : Value) (s' : Shared) : Prop := ∃ v H', Inv X pins σ H' s' ∧ RelV v u ∧ Q v H'
def TP (X : Cx) (pins : List (Addr × Obj)) (σ : St) (Q : Bool → Hp → Prop) (b : Bool) (s' : Shared) : Prop := ∃ H', Inv X pins σ H' s' ∧ Q b H'
def AP (X : Cx) (pins : List (Addr × Obj)) (σ : St) (Q : List V → Hp → Prop) (us : List Value) (s' : Shared) : Prop := ∃ vs H', Inv X pins σ H' s' ∧ Vals vs us ∧ Q vs H'
def SP (X : Cx) (pins : List (Addr × Obj)) (D : Ends) (f : Flow) (s' : Shared) : Prop :=
  match f with
  | .next => ∃ σ' H', Inv X pins σ' H' s' ∧ D.nx σ' H'
  | .brk => ∃ σ' H', Inv X pins σ' H' s' ∧ D.bk σ' H'
  | .cont => ∃ σ' H', Inv X pins σ' H' s' ∧ D.ct σ' H'
  | .ret u => ∃ v σ' H', Inv X pins σ' H' s' ∧ RelV v u ∧ D.rt v H'

def PE (X : Cx) (e : Expr) (t : TE) : Prop :=
  ∀ (pins : List (Addr × Obj)) (s : Shared) (σ : St) (H : Hp) (Q : VK), Inv X pins σ H s → t σ H Q → wpAny (model X.prog X.w) X.A (eval e X.env) (EP X pins σ Q) X.xe s
def PT (X : Cx) (e : Expr) (t : TT) : Prop :=
  ∀ (pins : List (Addr × Obj)) (s : Shared) (σ : St) (H : Hp) (Q : Bool → Hp → Prop), Inv X pins σ H s → t σ H Q → wpAny (model X.prog X.w) X.A (isTrue e X.env (eval e X.env)) (TP X pins σ Q) X.xe s
/-- a test whatever its 'whole' is (and, or) -/
def PW (X : Cx) (e : Expr) (t : TT) : Prop :=
  ∀ (whole : Sem Value) (pins : List (Addr × Obj)) (s : Shared) (σ : St) (H : Hp) (Q : Bool → Hp → Prop), Inv X pins σ H s → t σ H Q → wpAny (model X.prog X.w) X.A (isTrue e X.env whole) (TP X pins σ Q) X.xe s
theorem PW.pt {X : Cx} {e : Expr} {t : TT} (h : PW X e t) : PT X e t := h _
/-- an argument list (no star), from the left -/
def PA (X : Cx) (es : List Expr) (t : TA) : Prop :=
  ∀ (pos : Pos) (pins : List (Addr × Obj)) (s : Shared) (σ : St) (H : Hp) (Q : List V → Hp → Prop), Inv X pins σ H s → t σ H Q → wpAny (model X.prog X.w) X.A (spliced (backTo pos (starEach es X.env))) (AP X pins σ Q) X.xe s
def PS (X : Cx) (st : Stmt) (t : TS) : Prop :=
  ∀ (pins : List (Addr × Obj)) (s : Shared) (σ : St) (H : Hp) (D : Ends), Inv X pins σ H s → t D σ H → wpAny (model X.prog X.w) X.A (exec st X.env) (SP X pins D) X.xe s
def PSs (X : Cx) (st : List Stmt) (t : TS) : Prop :=
  ∀ (pins : List (Addr × Obj)) (s : Shared) (σ : St) (H : Hp) (D : Ends), Inv X pins σ H s → t D σ H → wpAny (model X.prog X.w) X.A (execs st X.env) (SP X pins D) X.xe s
/-- weaken the end -/
theorem thn {α : Type} {t : Sem α} {Q Q' : α → Shared → Prop} {M : Model} {A : Around} {E : Value → Shared → Prop} {s : Shared} (h : wpAny M A t Q E s) (hQ : ∀ a s, Q a s → Q' a s) : wpAny M A t Q' E s := wpAny_mono h hQ fun _ _ x => x
end L2

namespace L2
open PySem PySem.Spec PyProof.Rows
section
variable {X : Cx}

/-- two expressions in a row -/
theorem bin {a b : Expr} {ta tb : TE} (ha : PE X a ta) (hb : PE X b tb) {pins : List (Addr × Obj)} {s : Shared} {σ : St} {H : Hp} {R : V → V → Hp → Prop} (I : Inv X pins σ H s) (h : ta σ H fun x H1 => tb σ H1 fun y H2 => R x y H2)
    {α : Type} {Q : α → Shared → Prop} {f : Value → Value → Sem α}
    (hf : ∀ v u s2 x y H2, Inv X pins σ H2 s2 → RelV x v → RelV y u → R x y H2 → wpAny (model X.prog X.w) X.A (f v u) Q X.xe s2) :
    wpAny (model X.prog X.w) X.A (eval a X.env) (fun v s₁ => wpAny (model X.prog X.w) X.A (eval b X.env) (fun u s₂ => wpAny (model X.prog X.w) X.A (f v u) Q X.xe s₂) X.xe s₁) X.xe s := by
  refine thn (ha pins s σ H _ I h) fun v s1 ⟨x, H1, I1, r1, q1⟩ => ?_
  refine thn (hb pins s1 σ H1 _ I1 q1) fun u s2 ⟨y, H2, I2, r2, q2⟩ => ?_
  exact hf v u s2 x y H2 I2 r1 r2 q2

/-! ### names and constants -/
def tVar (i : Nat) : TE := fun σ H Q => ∃ v, σ[i]? = some (some v) ∧ Q v H
def tC (v : V) : TE := fun _ H Q => Q v H
theorem pe_var {i : Nat} {x : Str} {pos : Pos} (hN : X.N[i]? = some x) (hv : Vis X.env.scope x) (hd : (x == ("__debug__" : Str)) = false := by decide) (hcd : (x == ("__classdict__" : Str)) = false := by decide) : PE X (.Name x pos) (tVar i) := by
  intro pins s σ H Q I h
  obtain ⟨v, e, h⟩ := h
  obtain ⟨m, hn, hl⟩ := I.loc
  obtain ⟨u, r, l⟩ := hl i x v hN e hv
  have fin : EP X pins σ Q u s := ⟨v, H, I, r, h⟩
  rcases l with ⟨hk, hm⟩ | ⟨hk, c, hc, hcell⟩
  · exact wpAny_Name (wpAny_loadName_local I.ok.kind hk hn hm fin) hd
  · rcases hk with hk | hk
    · exact wpAny_Name (wpAny_loadName_cell I.ok.kind hk hc hcell fin) hd
    · exact wpAny_Name (wpAny_loadName_free I.ok.kind hk hc hcell fin hcd) hd
theorem pe_int {i j pos} : PE X (.Constant (.int i) j pos) (tC (.int i)) := fun _ _ _ H _ I h => wpAny_Constant_int ⟨.int i, H, I.tok _, ⟨_, rfl⟩, h⟩
theorem pe_bl {b j pos} : PE X (.Constant (.bool b) j pos) (tC (.bl b)) := fun _ _ _ H _ I h => Constant_bool ⟨.bl b, H, I, rfl, h⟩
theorem pe_non {j pos} : PE X (.Constant .none j pos) (tC .non) := fun _ _ _ H _ I h => Constant_none ⟨.non, H, I, rfl, h⟩
theorem pe_str {x j pos} : PE X (.Constant (.str x) j pos) (tC (.str x)) := fun _ _ _ H _ I h => Calls.Constant_str ⟨.str x, H, I.tok _, ⟨_, rfl⟩, h⟩

/-- a global name of the def -/
def Gl (X : Cx) (x : Str) : Prop := X.env.kindOf x = some .globalImplicit
theorem ld_glob {E : Value → Shared → Prop} {pins : List (Addr × Obj)} {s : Shared} {σ : St} {H : Hp} {x : Str} {u : Value} {pos : Pos} {Q : Value → Shared → Prop} (I : Inv X pins σ H s) (hg : Gl X x) (hm : X.mg x = some u) (h : Q u s)
    (hd : (x == ("__debug__" : Str)) = false := by decide) : wpAny (model X.prog X.w) X.A (eval (.Name x pos) X.env) Q E s :=
  Calls.Name_function_global I.ok.kind hg (Calls.loadGlobal_global (by rw [I.ok.glob]; exact I.mod.glob.keeps I.bk) hm h) hd
theorem ld_blt {E : Value → Shared → Prop} {pins : List (Addr × Obj)} {s : Shared} {σ : St} {H : Hp} {x : Str} {u : Value} {pos : Pos} {Q : Value → Shared → Prop} (I : Inv X pins σ H s) (hg : Gl X x) (hm : X.mg x = none) (hv : bootBuiltins x = some u) (h : Q u s)
    (hn : x ≠ "__name__" := by decide) (hd : (x == ("__debug__" : Str)) = false := by decide) : wpAny (model X.prog X.w) X.A (eval (.Name x pos) X.env) Q E s := by
  obtain ⟨mb, h1, h2⟩ := I.mod.blt
  exact Calls.Name_function_global I.ok.kind hg (Calls.loadGlobal_builtin (by rw [I.ok.glob]; exact I.mod.glob.keeps I.bk) hm (by rw [I.ok.blt]; exact h1.keeps I.bk) ((h2 x hn).trans hv) h) hd
/-- a module's constant, a class, a function, as a value -/
theorem pe_glob {x : Str} {v : V} {u : Value} {pos : Pos} (hg : Gl X x) (hm : X.mg x = some u) (r : RelV v u) (hd : (x == ("__debug__" : Str)) = false := by decide) : PE X (.Name x pos) (tC v) :=
  fun _ _ _ H _ I h => ld_glob I hg hm ⟨v, H, I, r, h⟩ hd
theorem pe_bltn {x : Str} {v : V} {u : Value} {pos : Pos} (hg : Gl X x) (hm : X.mg x = none) (hv : bootBuiltins x = some u) (r : RelV v u) (hn : x ≠ "__name__" := by decide) (hd : (x == ("__debug__" : Str)) = false := by decide) : PE X (.Name x pos) (tC v) :=
  fun _ _ _ H _ I h => ld_blt I hg hm hv ⟨v, H, I, r, h⟩ hn hd

/-! ### arithmetic -/
/-- two ints -/
def t2I (ta tb : TE) (k : Int → Int → Hp → Prop) : St → Hp → Prop := fun σ H => ta σ H fun x H1 => tb σ H1 fun y H2 => ∃ i j, x = .int i ∧ y = .int j ∧ k i j H2
def tAdd (ta tb : TE) : TE := fun σ H Q => t2I ta tb (fun i j H2 => Q (.int (i + j)) H2) σ H
def tSub (ta tb : TE) : TE := fun σ H Q => t2I ta tb (fun i j H2 => Q (.int (i - j)) H2) σ H
/-- the left factor below 2^64 -/
def tMul (ta tb : TE) : TE := fun σ H Q => t2I ta tb (fun i j H2 => (-(2 ^ 64) < i ∧ i < 2 ^ 64) ∧ Q (.int (i * j)) H2) σ H
variable {a b : Expr} {ta tb : TE} {pos : Pos}
/-! ### comparisons -/
def PC (X : Cx) (op : CmpOp) (a b : Expr) (t : TE) : Prop :=
  ∀ (pins : List (Addr × Obj)) (s : Shared) (σ : St) (H : Hp) (Q : VK), Inv X pins σ H s → t σ H Q →
    wpAny (model X.prog X.w) X.A (eval a X.env) (fun v s₁ => wpAny (model X.prog X.w) X.A (eval b X.env) (fun u s₂ => wpAny (model X.prog X.w) X.A (compareOp op v u) (EP X pins σ Q) X.xe s₂) X.xe s₁) X.xe s
def tCmp (p : Int → Int → Bool) (ta tb : TE) : TE := fun σ H Q => t2I ta tb (fun i j H2 => Q (.bl (p i j)) H2) σ H
abbrev tLt : TE → TE → TE := tCmp fun i j => decide (i < j)
abbrev tLe : TE → TE → TE := tCmp fun i j => decide (i ≤ j)
abbrev tGt : TE → TE → TE := tCmp fun i j => decide (j < i)
abbrev tGe : TE → TE → TE := tCmp fun i j => decide (j ≤ i)
abbrev tEqI : TE → TE → TE := tCmp fun i j => decide (i = j)
abbrev tNeI : TE → TE → TE := tCmp fun i j => !decide (i = j)
/-- is None -/
def tIsN (ta : TE) : TE := fun σ H Q => ta σ H fun x H1 => Q (.bl (decide (x = .non))) H1
def tNotN (ta : TE) : TE := fun σ H Q => ta σ H fun x H1 => Q (.bl (!decide (x = .non))) H1
/-- a comparison as a value, as a test -/
def tB (t : TE) : TT := fun σ H Q => t σ H fun x H1 => ∃ c, x = .bl c ∧ Q c H1
theorem pt_cmp {op : CmpOp} {t : TE} (h : PC X op a b t) (h1 : behindInMarks op b = false := by first | exact nobehind _ (by decide) (by decide) | rfl) : PT X (.Compare a [op] [b] pos) (tB t) := by
  intro pins s σ H Q I hw
  refine wpAny_isTrue_Compare1 (thn (h pins s σ H _ I hw) fun v s1 h1 => thn h1 fun u s2 h2 => thn h2 fun c s3 ⟨x, H1, I1, r1, q1⟩ => ?_) h1
  obtain ⟨d, rfl, q⟩ := q1
  cases r1
  exact wpAny_truthy_bool ⟨H1, I1, q⟩
/-- an expression whose value is a bool, as a test -/
theorem pt_val {e : Expr} {t : TE} (h : PE X e t) (he : ∀ whole, isTrue e X.env whole = (do let v ← whole; standAt e.pos; holding [v] (truthy v)) := by intro _; rfl) : PT X e (tB t) := by
  intro pins s σ H Q I hw
  refine isTrue_plain (thn (h pins s σ H _ I hw) fun v s1 ⟨x, H1, I1, r1, q1⟩ => ?_) (he _)
  obtain ⟨d, rfl, q⟩ := q1
  cases r1
  exact wpAny_truthy_bool ⟨H1, I1, q⟩

/-! ### and, or, not -/
variable {tA tB' : TT} {rest : List Expr}
def tAnd (t u : TT) : TT := fun σ H Q => t σ H fun c H1 => if c = true then u σ H1 Q else Q false H1
def tOr (t u : TT) : TT := fun σ H Q => t σ H fun c H1 => if c = true then Q true H1 else u σ H1 Q
def tNot (t : TT) : TT := fun σ H Q => t σ H fun c H1 => Q (!c) H1
theorem pw_and1 (ha : PT X a tA) : PW X (.BoolOp .And [a] pos) tA := by
  intro wh pins s σ H Q I h
  refine isTrue_and (thn (ha pins s σ H Q I h) fun c s1 e => ?_)
  cases c with
  | true => exact isTrue_and_nil e
  | false => exact e
theorem pw_or1 (ha : PT X a tA) : PW X (.BoolOp .Or [a] pos) tA := by
  intro wh pins s σ H Q I h
  refine isTrue_or (thn (ha pins s σ H Q I h) fun c s1 e => ?_)
  cases c with
  | false => exact isTrue_or_nil e
  | true => exact e
theorem pw_and (ha : PT X a tA) (hb : PW X (.BoolOp .And (b :: rest) pos) tB') : PW X (.BoolOp .And (a :: b :: rest) pos) (tAnd tA tB') := by
  intro wh pins s σ H Q I h
  refine isTrue_and (thn (ha pins s σ H _ I h) fun c s1 ⟨H1, I1, q1⟩ => ?_)
  cases c with
  | true => exact hb wh pins s1 σ H1 Q I1 q1
  | false => exact ⟨H1, I1, q1⟩
theorem pw_or (ha : PT X a tA) (hb : PW X (.BoolOp .Or (b :: rest) pos) tB') : PW X (.BoolOp .Or (a :: b :: rest) pos) (tOr tA tB') := by
  intro wh pins s σ H Q I h
  refine isTrue_or (thn (ha pins s σ H _ I h) fun c s1 ⟨H1, I1, q1⟩ => ?_)
  cases c with
  | true => exact ⟨H1, I1, q1⟩
  | false => exact hb wh pins s1 σ H1 Q I1 q1
theorem pt_not (ha : PT X a tA) : PT X (.UnaryOp .Not a pos) (tNot tA) := by
  intro pins s σ H Q I h
  exact isTrue_not (ha pins s σ H (fun c H1 => Q (!c) H1) I h)
/-- .. as values (bools) -/
def tAndV (ta tb : TE) : TE := fun σ H Q => ta σ H fun x H1 => ∃ c, x = .bl c ∧ if c = true then tb σ H1 Q else Q (.bl false) H1
def tOrV (ta tb : TE) : TE := fun σ H Q => ta σ H fun x H1 => ∃ c, x = .bl c ∧ if c = true then Q (.bl true) H1 else tb σ H1 Q
def tNotV (ta : TE) : TE := fun σ H Q => ta σ H fun x H1 => ∃ c, x = .bl c ∧ Q (.bl (!c)) H1
theorem pe_one {op} {t : TE} (h : PE X a t) : PE X (.BoolOp op [a] pos) t := fun pins s σ H Q I hw => BoolOp_one (h pins s σ H Q I hw)
theorem pe_and (ha : PE X a ta) (hb : PE X (.BoolOp .And (b :: rest) pos) tb) : PE X (.BoolOp .And (a :: b :: rest) pos) (tAndV ta tb) := by
  intro pins s σ H Q I h
  refine BoolOp_and (thn (ha pins s σ H _ I h) fun v s1 ⟨x, H1, I1, r1, q1⟩ => ?_)
  obtain ⟨c, rfl, q1⟩ := q1
  cases r1
  refine wpAny_truthy_bool ?_
  cases c with
  | true => exact hb pins s1 σ H1 Q I1 q1
  | false => exact ⟨.bl false, H1, I1, rfl, q1⟩
/-- a if t else b -/
def tIf (t : TT) (ta tb : TE) : TE := fun σ H Q => t σ H fun c H1 => if c = true then ta σ H1 Q else tb σ H1 Q
theorem pe_ifExp {c : Expr} (hc : PT X c tA) (ha : PE X a ta) (hb : PE X b tb) : PE X (.IfExp c a b pos) (tIf tA ta tb) := by
  intro pins s σ H Q I h
  refine wpAny_IfExp (thn (hc pins s σ H _ I h) fun d s1 ⟨H1, I1, q1⟩ => ?_)
  cases d with
  | true => exact ha pins s1 σ H1 Q I1 q1
  | false => exact hb pins s1 σ H1 Q I1 q1
end
end L2

namespace L2
open PySem PySem.Spec PyProof.Rows

/-! ### a list, a tuple that is read: tracked, frozen, or an object of the module -/
def SqL (K : PySem.W.Frag) (H : Hp) (a : Addr) (xs : List V) : Prop :=
  Rd H a (.lst xs) ∨
    ∃ (o : Obj) (its : Array Value) (n : Nat), K.lookup a = some o ∧ o.cls = .type "list" ∧ o.dict = none ∧ o.data = .seq its n ∧ its.size ≤ sizeLine ∧ Vals xs its.toList
def SqT (K : PySem.W.Frag) (H : Hp) (a : Addr) (xs : List V) : Prop :=
  Rd H a (.tup xs) ∨
    ∃ (o : Obj) (its : Array Value) (n : Nat), K.lookup a = some o ∧ o.cls = .type "tuple" ∧ o.data = .seq its n ∧ its.size ≤ sizeLine ∧ Vals xs its.toList
def absV : Value → Option V
  | .none => some .non
  | .bool b => some (.bl b)
  | .int i _ => some (.int i)
  | .str x _ => some (.str x)
  | .bytes b _ => some (.byt b)
  | .float b _ => some (.flt b)
  | .ref a => some (.ref a)
  | .type n => some (.ty n)
  | _ => none
theorem RelV.abs {x : V} {u : Value} (r : RelV x u) : absV u = some x := by
  cases x with
  | non => cases r; rfl
  | bl _ => cases r; rfl
  | int _ => obtain ⟨t, rfl⟩ := r; rfl
  | str _ => obtain ⟨t, rfl⟩ := r; rfl
  | byt _ => obtain ⟨t, rfl⟩ := r; rfl
  | flt _ => obtain ⟨t, rfl⟩ := r; rfl
  | ref _ => cases r; rfl
  | ty _ => cases r; rfl
theorem RelV.inj {x y : V} {u : Value} (r : RelV x u) (q : RelV y u) : x = y := Option.some.inj (r.abs.symm.trans q.abs)
theorem Vals.inj : ∀ {xs ys : List V} {us : List Value}, Vals xs us → Vals ys us → xs = ys
  | _, _, _, .nil, .nil => rfl
  | _, _, _, .cons r t, .cons r' t' => by rw [r.inj r', Vals.inj t t']
section
variable {X : Cx} {pins : List (Addr × Obj)} {σ : St} {H : Hp} {s : Shared} {a : Addr} {xs ys : List V}
theorem SqL.of {K : PySem.W.Frag} (h : H a = some (.lst xs)) : SqL K H a xs := .inl (.inl h)
theorem SqT.of {K : PySem.W.Frag} (h : H a = some (.tup xs)) : SqT K H a xs := .inl (.inl h)
theorem Inv.list (I : Inv X pins σ H s) (h : SqL X.K H a xs) : ∃ its : List Value, Vals xs its ∧ PlainL s.heap a its.toArray ∧ xs.length ≤ sizeLine := by
  rcases h with h | ⟨o, its, n, hk, hc, hd, hs, hz, r⟩
  · obtain ⟨z, its, n, r, e⟩ := h.ok I.hok
    exact ⟨its, r, ⟨_, n, e, rfl, rfl, rfl⟩, z⟩
  · refine ⟨its.toList, r, ⟨o, n, I.kIn a o hk, hc, hd, by simpa using hs⟩, ?_⟩
    have e := r.length
    simp only [Array.length_toList] at e
    omega
theorem Inv.tuple (I : Inv X pins σ H s) (h : SqT X.K H a xs) : ∃ its : List Value, Vals xs its ∧ IsTup s.heap a its.toArray ∧ xs.length ≤ sizeLine := by
  rcases h with h | ⟨o, its, n, hk, hc, hs, hz, r⟩
  · obtain ⟨z, its, r, p⟩ := h.ok I.hok
    exact ⟨its, r, p, z⟩
  · refine ⟨its.toList, r, ⟨o, I.kIn a o hk, hc, n, by simpa using hs⟩, ?_⟩
    have e := r.length
    simp only [Array.length_toList] at e
    omega
theorem Inv.list_inj (I : Inv X pins σ H s) (h : SqL X.K H a xs) (h' : SqL X.K H a ys) : xs = ys := by
  obtain ⟨its, r, ⟨o, n, e, _, _, d⟩, _⟩ := I.list h
  obtain ⟨its', r', ⟨o', n', e', _, _, d'⟩, _⟩ := I.list h'
  rw [e] at e'; cases e'
  rw [d] at d'
  injection d' with d1 _
  have : its = its' := by simpa using congrArg Array.toList d1
  subst this
  exact r.inj r'
theorem Inv.tuple_inj (I : Inv X pins σ H s) (h : SqT X.K H a xs) (h' : SqT X.K H a ys) : xs = ys := by
  obtain ⟨its, r, ⟨o, e, _, n, d⟩, _⟩ := I.tuple h
  obtain ⟨its', r', ⟨o', e', _, n', d'⟩, _⟩ := I.tuple h'
  rw [e] at e'; cases e'
  rw [d] at d'
  injection d' with d1 _
  have : its = its' := by simpa using congrArg Array.toList d1
  subst this
  exact r.inj r'
end

/-! ### another wish about exceptions -/
abbrev Cx.wish (X : Cx) (E : Value → Shared → Prop) : Cx := { X with xe := E }
/-- no exception leaves -/
abbrev Cx.nox (X : Cx) : Cx := X.wish fun _ _ => False
theorem Cx.Ok.wish {X : Cx} (ok : X.Ok) (E : Value → Shared → Prop) : (X.wish E).Ok :=
  ⟨ok.mod, ok.kind, ok.glob, ok.blt, ok.above, ok.inj, ok.has, ok.cab, ok.hd, ok.frames, ok.stk, ok.exf, ok.bs, ok.bsz, ok.noex, ok.exfs, ok.funs, ok.frf⟩
theorem Cx.Ok.unwish {X : Cx} {E : Value → Shared → Prop} (ok : (X.wish E).Ok) : X.Ok :=
  ⟨ok.mod, ok.kind, ok.glob, ok.blt, ok.above, ok.inj, ok.has, ok.cab, ok.hd, ok.frames, ok.stk, ok.exf, ok.bs, ok.bsz, ok.noex, ok.exfs, ok.funs, ok.frf⟩
section
variable {X : Cx} {pins : List (Addr × Obj)} {σ : St} {H : Hp} {s : Shared} {E : Value → Shared → Prop}
theorem Inv.wish (I : Inv X pins σ H s) (E : Value → Shared → Prop) : Inv (X.wish E) pins σ H s := ⟨I.ok.wish E, I.os, I.bare, I.base, I.loc, I.cell, I.free, I.freeC, I.pin, I.hok, I.len⟩
theorem Inv.unwish (I : Inv (X.wish E) pins σ H s) : Inv X pins σ H s := ⟨I.ok.unwish, I.os, I.bare, I.base, I.loc, I.cell, I.free, I.freeC, I.pin, I.hok, I.len⟩
theorem SP.unwish {D : Ends} {f : Flow} {s' : Shared} (h : SP (X.wish E) pins D f s') : SP X pins D f s' := by
  cases f with
  | next => obtain ⟨σ', H', I, q⟩ := h; exact ⟨σ', H', I.unwish, q⟩
  | brk => obtain ⟨σ', H', I, q⟩ := h; exact ⟨σ', H', I.unwish, q⟩
  | cont => obtain ⟨σ', H', I, q⟩ := h; exact ⟨σ', H', I.unwish, q⟩
  | ret u => obtain ⟨v, σ', H', I, r, q⟩ := h; exact ⟨v, σ', H', I.unwish, r, q⟩
theorem PSs.nox {st : List Stmt} {t : TS} (h : PSs X.nox st t) : PSs X st t := fun pins s σ H D I hw =>
  wpAny_mono (h pins s σ H D (I.wish _) hw) (fun _ _ q => q.unwish) fun _ _ z => False.elim z
end

/-! ### blocks and small statements -/
section
variable {X : Cx} {st : Stmt} {rest : List Stmt} {t u : TS} {e : Expr} {te : TE} {pos : Pos}
def tNext : TS := fun D σ H => D.nx σ H
def tSeq (t u : TS) : TS := fun D σ H => t { D with nx := u D } σ H
theorem pss_nil : PSs X [] tNext := fun _ _ σ H _ I h => wpAny_execs_nil ⟨σ, H, I, h⟩
theorem pss_cons (h1 : PS X st t) (h2 : PSs X rest u) : PSs X (st :: rest) (tSeq t u) := by
  intro pins s σ H D I h
  refine wpAny_execs_cons (thn (h1 pins s σ H { D with nx := u D } I h) fun f s1 q => ?_)
  cases f with
  | next =>
    obtain ⟨σ', H', I', q⟩ := q
    exact h2 pins s1 σ' H' D I' q
  | ret v => exact q
  | brk => exact q
  | cont => exact q
theorem pss_one (h1 : PS X st t) : PSs X [st] t := by
  intro pins s σ H D I h
  refine wpAny_execs_cons (thn (h1 pins s σ H D I h) fun f s1 q => ?_)
  cases f with
  | next => exact wpAny_execs_nil q
  | ret v => exact q
  | brk => exact q
  | cont => exact q
def tBreak : TS := fun D σ H => D.bk σ H
def tCont : TS := fun D σ H => D.ct σ H
/-- in a def's body nothing is shown -/
theorem Inv.quiet {pins : List (Addr × Obj)} {σ : St} {H : Hp} {s : Shared} (I : Inv X pins σ H s) : interactive X.env = false := by simp [interactive, I.ok.kind]
/-- an expression whose value is dropped -/
def tDrop (te : TE) : TS := fun D σ H => te σ H fun _ H1 => D.nx σ H1
theorem ps_expr (he : PE X e te) (hs : swapsWith e none pos.line X.env = pure false := by rfl) : PS X (.Expr e pos) (tDrop te) := by
  intro pins s σ H D I h
  exact wpAny_Expr_any (thn (he pins s σ H _ I h) fun v s1 ⟨x, H1, I1, r1, q1⟩ => ⟨σ, H1, I1, q1⟩) I.quiet hs
def tRet (te : TE) : TS := fun D σ H => te σ H D.rt
theorem ps_ret (he : PE X e te) : PS X (.Return (some e) pos) (tRet te) := by
  intro pins s σ H D I h
  exact wpAny_Return_some (thn (he pins s σ H _ I h) fun v s1 ⟨x, H1, I1, r1, q1⟩ => ⟨x, σ, H1, I1, r1, q1⟩)
def tRetN : TS := fun D _ H => D.rt .non H
def tIfS (c : TT) (t u : TS) : TS := fun D σ H => c σ H fun b H1 => if b = true then t D σ H1 else u D σ H1
theorem ps_if {c : Expr} {a b : List Stmt} {tc : TT} (hc : PT X c tc) (ha : PSs X a t) (hb : PSs X b u) : PS X (.If c a b pos) (tIfS tc t u) := by
  intro pins s σ H D I h
  refine wpAny_If (thn (hc pins s σ H _ I h) fun d s1 ⟨H1, I1, q1⟩ => ?_)
  cases d with
  | true => exact ha pins s1 σ H1 D I1 q1
  | false => exact hb pins s1 σ H1 D I1 q1
/-- code that the proof never comes to -/
def tNever : TS := fun _ _ _ => False
theorem ps_never : PS X st tNever := fun _ _ _ _ _ _ h => h.elim
theorem pss_never {sts : List Stmt} : PSs X sts tNever := fun _ _ _ _ _ _ h => h.elim
end

/-! ### targets -/
abbrev TG := V → St → Hp → (St → Hp → Prop) → Prop
abbrev TGs := List V → St → Hp → (St → Hp → Prop) → Prop
def PG (X : Cx) (target : Expr) (t : TG) : Prop :=
  ∀ (pins : List (Addr × Obj)) (s : Shared) (σ : St) (H : Hp) (v : V) (u : Value) (Q : St → Hp → Prop), Inv X pins σ H s → RelV v u → t v σ H Q →
    wpAny (model X.prog X.w) X.A (assign target X.env u) (fun _ s' => ∃ σ' H', Inv X pins σ' H' s' ∧ Q σ' H') X.xe s
/-- several targets, one after another -/
def PGs (X : Cx) (ts : List Expr) (t : TGs) : Prop :=
  ∀ (pins : List (Addr × Obj)) (s : Shared) (σ : St) (H : Hp) (vs : List V) (us : List Value) (Q : St → Hp → Prop), Inv X pins σ H s → Vals vs us → t vs σ H Q →
    wpAny (model X.prog X.w) X.A (assignInOrder ((assignEach ts X.env).map (·.2)) us) (fun _ s' => ∃ σ' H', Inv X pins σ' H' s' ∧ Q σ' H') X.xe s
/-- o[i] = v, by values -/
abbrev TSet := V → V → V → Hp → (Hp → Prop) → Prop
def PSet (X : Cx) (t : TSet) : Prop :=
  ∀ (pins : List (Addr × Obj)) (s : Shared) (σ : St) (H : Hp) (o i v : V) (ov iv u : Value) (Q : Hp → Prop), Inv X pins σ H s → RelV o ov → RelV i iv → RelV v u → t o i v H Q →
    wpAny (model X.prog X.w) X.A (setItem ov iv u) (fun _ s' => ∃ H', Inv X pins σ H' s' ∧ Q H') X.xe s
/-- a op= b, by values -/
abbrev TIp := V → V → Hp → VK → Prop
def PIp (X : Cx) (op : Operator) (t : TIp) : Prop :=
  ∀ (pins : List (Addr × Obj)) (s : Shared) (σ : St) (H : Hp) (x y : V) (v u : Value) (Q : VK), Inv X pins σ H s → RelV x v → RelV y u → t x y H Q →
    wpAny (model X.prog X.w) X.A (inplaceOp op v u) (EP X pins σ Q) X.xe s
section
variable {X : Cx} {pos : Pos}
def gName (i : Nat) : TG := fun v σ H Q => Q (σ.set i (some v)) H
theorem pg_name {i : Nat} {x : Str} (hN : X.N.Nodup) (hi : X.N[i]? = some x) (hx : Loc X.env.scope x) (hf : X.fn x = true ∨ X.env.scope.names.lookup x = some .local := by first | exact .inl rfl | exact .inr rfl | assumption) : PG X (.Name x pos) (gName i) := by
  intro pins s σ H v u Q I r h
  exact wpAny_assign_Name (store_ok I hN hi hx r (fun s' I' => ⟨_, H, I', h⟩) hf)
def gNil : TGs := fun vs σ H Q => vs = [] ∧ Q σ H
def gCons (t : TG) (u : TGs) : TGs := fun vs σ H Q => ∃ v r, vs = v :: r ∧ t v σ H fun σ' H' => u r σ' H' Q
theorem pgs_nil : PGs X [] gNil := by
  intro pins s σ H vs us Q I r h
  obtain ⟨e, h⟩ := h
  subst e
  cases r
  exact assignInOrder_nil ⟨σ, H, I, h⟩
theorem pgs_cons {e : Expr} {es : List Expr} {t : TG} {u : TGs} (h1 : PG X e t) (h2 : PGs X es u)
    (hs : (assignEach (e :: es) X.env).map (·.2) = assign e X.env :: (assignEach es X.env).map (·.2) := by rfl) : PGs X (e :: es) (gCons t u) := by
  intro pins s σ H vs us Q I r h
  obtain ⟨v, vr, e1, h⟩ := h
  subst e1
  cases r with
  | cons r rr =>
    rw [hs]
    refine assignInOrder_cons (thn (h1 pins s σ H _ _ _ I r h) fun _ s1 ⟨σ1, H1, I1, q1⟩ => ?_)
    exact h2 pins s1 σ1 H1 _ _ Q I1 rr q1
/-- (a, b, ..) = a tuple of that length -/
def gTup (K : PySem.W.Frag) (n : Nat) (t : TGs) : TG := fun v σ H Q => ∃ a xs, v = .ref a ∧ SqT K H a xs ∧ xs.length = n ∧ t xs σ H Q
theorem pg_tup {es : List Expr} {k : Nat} {t : TGs} {n : Nat} (hc : X.calm = true) (h : PGs X es t)
    (hn : (assignEach es X.env).length = n := by rfl) (hst : (assignEach es X.env).findIdx? (·.1) = none := by rfl) : PG X (.Tuple es k pos) (gTup X.K n t) := by
  intro pins s σ H v u Q I r hw
  obtain ⟨a, xs, e1, hq, hl, hw⟩ := hw
  subst e1
  cases r
  obtain ⟨its, rv, ht, hz⟩ := I.tuple hq
  refine assign_Tuple_tuple (I.ok.hd hc) ht (by simp [hn, ← hl, rv.length]) hst fun h' hx => ?_
  have I1 : Inv X pins σ H { s with heap := h' } := I.kept (t' := s.toks) fun b o e => hx b o (Nat.ne_of_lt (Heap.lt_size e)) e
  exact h pins _ σ H xs _ Q I1 (by simpa using rv) hw
/-- o[i] = .. -/
def gSub (to ti : TE) (t : TSet) : TG := fun v σ H Q => to σ H fun o H1 => ti σ H1 fun i H2 => t o i v H2 fun H3 => Q σ H3
/-- target = value -/
def tAsg (te : TE) (g : TG) : TS := fun D σ H => te σ H fun x H1 => g x σ H1 D.nx
/-- name = value -/
theorem ps_set {i : Nat} {x : Str} {e : Expr} {te : TE} {pos' : Pos} (hN : X.N.Nodup) (hi : X.N[i]? = some x) (hx : Loc X.env.scope x) (he : PE X e te) (hs : swapsWith e (some (.Name x pos')) pos.line X.env = pure false := by rfl) (hf : X.fn x = true ∨ X.env.scope.names.lookup x = some .local := by first | exact .inl rfl | exact .inr rfl | assumption) :
    PS X (.Assign [.Name x pos'] e pos) (tAsg te (gName i)) := by
  intro pins s σ H D I h
  refine wpAny_Assign_Name (thn (he pins s σ H _ I h) fun v s1 ⟨y, H1, I1, r1, q1⟩ => ?_) hs
  exact store_ok I1 hN hi hx r1 (fun s2 I2 => ⟨_, H1, I2, q1⟩) hf
/-- a, b = x, y with plain local names: stored from the right; the pair itself is not tracked (the opening rows as in PyProof/Rows/TupAssign.lean:23) -/
def tPar (i j : Nat) (ta : TA) : TS := fun D σ H => ta σ H fun vs H1 => ∃ v w, vs = [v, w] ∧ D.nx ((σ.set i (some v)).set j (some w)) H1
/-- name op= e -/
def tAug (i : Nat) (te : TE) (ti : TIp) : TS := fun D σ H => ∃ x, σ[i]? = some (some x) ∧ te σ H fun y H1 => ti x y H1 fun z H2 => D.nx (σ.set i (some z)) H2
theorem ps_aug {i : Nat} {x : Str} {e : Expr} {te : TE} {op : Operator} {ti : TIp} {pos' : Pos} (hN : X.N.Nodup) (hi : X.N[i]? = some x) (hx : Loc X.env.scope x) (he : PE X e te) (ho : PIp X op ti) (hf : X.fn x = true ∨ X.env.scope.names.lookup x = some .local := by first | exact .inl rfl | exact .inr rfl | assumption) :
    PS X (.AugAssign (.Name x pos') op e pos) (tAug i te ti) := by
  intro pins s σ H D I h
  obtain ⟨v, e1, h⟩ := h
  obtain ⟨m, hn, hl⟩ := I.loc
  have vis : Vis X.env.scope x := by rcases hx with k | k; exact .inl k; exact .inr (.inl k)
  obtain ⟨u, r, l⟩ := hl i x v hi e1 vis
  refine wpAny_AugAssign_Name ?_
  have go : wpAny (model X.prog X.w) X.A (eval e X.env) (fun w s₂ => wpAny (model X.prog X.w) X.A (inplaceOp op u w) (fun r s₃ => wpAny (model X.prog X.w) X.A (storeName X.env x r) (fun _ => SP X pins D .next) X.xe s₃) X.xe s₂) X.xe s := by
    refine thn (he pins s σ H _ I h) fun w s1 ⟨y, H1, I1, r1, q1⟩ => ?_
    refine thn (ho pins s1 σ H1 v y u w _ I1 r r1 q1) fun z s2 ⟨zv, H2, I2, r2, q2⟩ => ?_
    exact store_ok I2 hN hi hx r2 (fun s3 I3 => ⟨_, H2, I3, q2⟩) hf
  rcases l with ⟨hk, hm⟩ | ⟨hk, c, hc, hcell⟩
  · exact wpAny_loadName_local I.ok.kind hk hn hm go
  · rcases hk with hk | hk
    · exact wpAny_loadName_cell I.ok.kind hk hc hcell go
    · rcases hx with k | k
      · have : X.env.scope.names.lookup x = some .free := hk
        rw [k] at this; cases this
      · have : X.env.scope.names.lookup x = some .free := hk
        rw [k] at this; cases this
/-- o[i] op= e -/
def tAugS (to ti te : TE) (tget : V → V → Hp → VK → Prop) (tip : TIp) (tset : TSet) : TS := fun D σ H => to σ H fun o H1 => ti σ H1 fun i H2 => tget o i H2 fun x H3 => te σ H3 fun y H4 => tip x y H4 fun z H5 => tset o i z H5 fun H6 => D.nx σ H6
/-- o[i], by values -/
def PGet (X : Cx) (t : V → V → Hp → VK → Prop) : Prop :=
  ∀ (pins : List (Addr × Obj)) (s : Shared) (σ : St) (H : Hp) (o i : V) (ov iv : Value) (Q : VK), Inv X pins σ H s → RelV o ov → RelV i iv → t o i H Q →
    wpAny (model X.prog X.w) X.A (getItem ov iv) (EP X pins σ Q) X.xe s
/-- ints -/
def ipI (f : Int → Int → Int) : TIp := fun x y H Q => ∃ i j, x = .int i ∧ y = .int j ∧ Q (.int (f i j)) H
theorem ip_add : PIp X .Add (ipI fun i j => i + j) := by
  intro pins s σ H x y v u Q I r1 r2 h
  obtain ⟨i, j, e1, e2, q⟩ := h
  subst e1; subst e2
  obtain ⟨t, rfl⟩ := r1
  obtain ⟨t', rfl⟩ := r2
  exact iadd_int ⟨.int _, H, I.tok _, ⟨_, rfl⟩, q⟩
end

/-! ### while -/
section
variable {X : Cx} {pos : Pos}
/-- the invariant W with its measure -/
def tWhile (c : TT) (tb : TS) : TS := fun D σ H => ∃ W : Nat → St → Hp → Prop, (∃ m, W m σ H) ∧ ∀ m σ H, W m σ H →
  c σ H fun b H1 => if b = true then ∃ N : St → Hp → Prop, (∀ σ' H', N σ' H' → ∃ m', m' < m ∧ W m' σ' H') ∧ tb { D with nx := N, ct := N, bk := D.nx } σ H1 else D.nx σ H1
end

/-! ### what a loop or a comprehension walks -/
/-- at turn i: it yields x (the heap may grow), or it stops -/
structure It where
  go : Nat → Hp → Prop
  yld : Nat → Hp → V → Hp → Prop
  stop : Nat → Hp → Prop
/-- the iterator's own objects may turn: they are not the frame's, not pinned, younger than the entry (or a comprehension's own) -/
def FpOk (X : Cx) (pins : List (Addr × Obj)) (H : Hp) (b : Addr) : Prop :=
  H b = none ∧ b ≠ X.env.locals ∧ b ∉ X.fs ∧ (b ∈ X.ex ∨ X.s₀.heap.objs.size ≤ b) ∧ (∀ x c, X.env.cells.lookup x = some c → c ≠ b) ∧ ∀ p ∈ X.pn ++ pins, p.1 ≠ b
theorem Inv.fpOk {X : Cx} {pins : List (Addr × Obj)} {σ : St} {H H' : Hp} {s : Shared} {b : Addr} (I : Inv X pins σ H s) (hb : s.heap.objs.size ≤ b) (hn : H' b = none) : FpOk X pins H' b := by
  refine ⟨hn, Nat.ne_of_gt (Nat.lt_of_lt_of_le I.lt hb), I.nofs hb, .inr (Nat.le_trans I.sz hb), fun x c e z => ?_, fun p hp z => ?_⟩
  · obtain ⟨v, q⟩ := I.cell x c e
    exact absurd (Nat.lt_of_lt_of_le q.lt (by rw [z]; exact hb)) (Nat.lt_irrefl _)
  · exact absurd (Nat.lt_of_lt_of_le (Heap.lt_size (I.pin p hp).1) (by rw [z]; exact hb)) (Nat.lt_irrefl _)
structure Turn (P : Program) (w : World) (K : PySem.W.Frag) (tg : Expr) (J : It) (fp : List Addr) (it : Addr) (tn : Nat → Heap → Prop) : Prop where
  mem : it ∈ fp
  obj : ∀ i h, tn i h → ∀ b ∈ fp, ∃ o, h.get? b = some o ∧ ∀ v, o.data ≠ .cell v
  keep : ∀ i h h', tn i h → (∀ b ∈ fp, ∀ o, h.get? b = some o → h'.get? b = some o) → tn i h'
  item : ∀ (X : Cx), X.prog = P → X.w = w → X.K = K → X.calm = true → ∀ (i : Nat) (pins : List (Addr × Obj)) (s : Shared) (σ : St) (H : Hp) (E : Value → Shared → Prop), Inv X pins σ H s → (∀ b ∈ fp, FpOk X pins H b) → tn i s.heap → J.go i H →
    wpAny (model P w) X.A (pyNext (.ref it)) (fun r s1 => ∃ u, r = some u ∧
      wpAny (model P w) X.A (letOwnedTupleGo tg (.ref it) u) (fun _ s2 => ∃ x H', Inv X pins σ H' s2 ∧ RelV x u ∧ J.yld i H x H' ∧ tn (i + 1) s2.heap ∧ ∀ b ∈ fp, H' b = none) E s1) E s
  done : ∀ (X : Cx), X.prog = P → X.w = w → X.K = K → X.calm = true → ∀ (i : Nat) (pins : List (Addr × Obj)) (s : Shared) (σ : St) (H : Hp) (E : Value → Shared → Prop), Inv X pins σ H s → (∀ b ∈ fp, FpOk X pins H b) → tn i s.heap → J.stop i H →
    wpAny (model P w) X.A (pyNext (.ref it)) (fun r s1 => r = none ∧ Inv X pins σ H s1) E s
  self : ∀ (A : Around) (i : Nat) (s : Shared) (Q : Value → Shared → Prop) (E : Value → Shared → Prop), tn i s.heap → Q (.ref it) s → wpAny (model P w) A (pyIter (.ref it)) Q E s
abbrev TI := St → Hp → (It → Hp → Prop) → Prop
/-- an iterator has come -/
def PIE (X : Cx) (pins : List (Addr × Obj)) (σ : St) (tg : Expr) (R : It → Hp → Prop) (itv : Value) (s2 : Shared) : Prop :=
  ∃ (it : Addr) (fp : List Addr) (tn : Nat → Heap → Prop) (J : It) (H' : Hp), itv = .ref it ∧ Inv X pins σ H' s2 ∧ Turn X.prog X.w X.K tg J fp it tn ∧ tn 0 s2.heap ∧ (∀ b ∈ fp, FpOk X pins H' b) ∧ R J H'
def PI (X : Cx) (tg iter : Expr) (wi : TI) : Prop :=
  ∀ (pins : List (Addr × Obj)) (s : Shared) (σ : St) (H : Hp) (R : It → Hp → Prop), Inv X pins σ H s → wi σ H R →
    wpAny (model X.prog X.w) X.A (eval iter X.env) (fun v s1 => wpAny (model X.prog X.w) X.A (pyIter v) (PIE X pins σ tg R) X.xe s1) X.xe s

/-- the step ahead of the store is nothing for an iterator that keeps no tuple -/
theorem go_of {M : Model} {A : Around} {E : Value → Shared → Prop} {s : Shared} {tg : Expr} {it : Addr} {u : Value} {o : Obj} {n : String} {vs : Array Value} {Q : Unit → Shared → Prop} (ho : s.heap.get? it = some o) (hc : o.cls = .type n) (hd : o.data = .fields vs)
    (hn : ["enumerate", "zip", "dict_itemiterator", "dict_reverseitemiterator", "odict_iterator", "itertools.zip_longest", "itertools.pairwise"].contains n = false) (hQ : Q () s) : wpAny M A (letOwnedTupleGo tg (.ref it) u) Q E s := by
  unfold letOwnedTupleGo
  cases tg <;> first
    | exact wpAny_pure hQ
    | (cases u <;> first
        | exact wpAny_pure hQ
        | (refine wpAny_bind (wpAny_load ho ?_)
           rw [hc, hd]
           show wpAny M A (if (["enumerate", "zip", "dict_itemiterator", "dict_reverseitemiterator", "odict_iterator", "itertools.zip_longest", "itertools.pairwise"].contains n && vs[0]? == some (rawInt _)) = true then _ else _) Q E s
           rw [if_neg (by intro h; rw [hn, Bool.false_and] at h; cases h)]
           exact wpAny_pure hQ))

/-- the list at a, as it stands at each turn (a loop may append to it) -/
def Itl (K : PySem.W.Frag) (a : Addr) : It :=
  ⟨fun i H => ∃ xs x, SqL K H a xs ∧ xs[i]? = some x, fun i H x H' => H' = H ∧ ∀ xs, SqL K H a xs → xs[i]? = some x, fun i H => ∃ xs, SqL K H a xs ∧ xs.length ≤ i⟩
def Itt (K : PySem.W.Frag) (a : Addr) : It :=
  ⟨fun i H => ∃ xs x, SqT K H a xs ∧ xs[i]? = some x, fun i H x H' => H' = H ∧ ∀ xs, SqT K H a xs → xs[i]? = some x, fun i H => ∃ xs, SqT K H a xs ∧ xs.length ≤ i⟩
/-- lo, lo + 1, .. (n of them) -/
def Itr (lo : Int) (n : Nat) : It := ⟨fun i _ => i < n, fun i H x H' => H' = H ∧ x = .int (lo + i), fun i _ => n ≤ i⟩
theorem turn_list {P : Program} {w : World} {K : PySem.W.Frag} {tg : Expr} (a it : Addr) : Turn P w K tg (Itl K a) [it] it (fun i h => h.IsListIter it a i) where
  mem := by simp
  obj := fun i h st b hb => by
    have e : b = it := by simpa using hb
    subst e
    obtain ⟨o, e, c, d⟩ := st
    exact ⟨o, e, fun v z => by rw [d] at z; cases z⟩
  keep := fun i h h' st k => st.at fun o e => k it (by simp) o e
  item := by
    intro X hP hw hK hc i pins s σ H E I hf st hg
    subst hP hw hK
    obtain ⟨xs, x, hq, hx⟩ := hg
    obtain ⟨its, rv, p, hz⟩ := I.list hq
    obtain ⟨u, hu, ru⟩ := rv.get hx
    obtain ⟨f0, f1, f2, f3, f4, f5⟩ := hf it (by simp)
    refine wpAny_pyNext_list_item st p.isList (x := u) (by simpa using hu) fun h' st' sb => ?_
    have I1 : Inv X pins σ H { s with heap := h' } := I.turned (t' := s.toks) (fun b o hb e => (sb.2 b hb).trans e) f0 f1 f3 f4 f5
    obtain ⟨o, e, c, d⟩ := id st'
    exact ⟨u, rfl, go_of (s := { s with heap := h' }) e c d (by decide) ⟨x, H, I1, ru, ⟨rfl, fun ys hy => by rw [I.list_inj hy hq]; exact hx⟩, st', fun b hb => (hf b hb).1⟩⟩
  done := by
    intro X hP hw hK hc i pins s σ H E I hf st hg
    subst hP hw hK
    obtain ⟨xs, hq, hx⟩ := hg
    obtain ⟨its, rv, p, hz⟩ := I.list hq
    obtain ⟨f0, f1, f2, f3, f4, f5⟩ := hf it (by simp)
    have hl := rv.length
    exact wpAny_pyNext_list_end (I.ok.hd hc) st p.isList (by simp; omega) fun h' eb => ⟨rfl, I.turned (t' := s.toks) (fun b o hb e => eb b o hb e) f0 f1 f3 f4 f5⟩
  self := fun _ _ _ _ _ st h => wpAny_pyIter_listiter st h
theorem turn_tuple {P : Program} {w : World} {K : PySem.W.Frag} {tg : Expr} (a it : Addr) : Turn P w K tg (Itt K a) [it] it (fun i h => h.IsTupleIter it a i) where
  mem := by simp
  obj := fun i h st b hb => by
    have e : b = it := by simpa using hb
    subst e
    obtain ⟨o, e, c, d⟩ := st
    exact ⟨o, e, fun v z => by rw [d] at z; cases z⟩
  keep := fun i h h' st k => st.at fun o e => k it (by simp) o e
  item := by
    intro X hP hw hK hc i pins s σ H E I hf st hg
    subst hP hw hK
    obtain ⟨xs, x, hq, hx⟩ := hg
    obtain ⟨its, rv, p, hz⟩ := I.tuple hq
    obtain ⟨u, hu, ru⟩ := rv.get hx
    obtain ⟨f0, f1, f2, f3, f4, f5⟩ := hf it (by simp)
    refine wpAny_pyNext_tuple_item st (show s.heap.IsTuple a its.toArray from p) (x := u) (by simpa using hu) fun h' st' sb => ?_
    have I1 : Inv X pins σ H { s with heap := h' } := I.turned (t' := s.toks) (fun b o hb e => (sb.2 b hb).trans e) f0 f1 f3 f4 f5
    obtain ⟨o, e, c, d⟩ := id st'
    exact ⟨u, rfl, go_of (s := { s with heap := h' }) e c d (by decide) ⟨x, H, I1, ru, ⟨rfl, fun ys hy => by rw [I.tuple_inj hy hq]; exact hx⟩, st', fun b hb => (hf b hb).1⟩⟩
  done := by
    intro X hP hw hK hc i pins s σ H E I hf st hg
    subst hP hw hK
    obtain ⟨xs, hq, hx⟩ := hg
    obtain ⟨its, rv, p, hz⟩ := I.tuple hq
    obtain ⟨f0, f1, f2, f3, f4, f5⟩ := hf it (by simp)
    have hl := rv.length
    exact wpAny_pyNext_tuple_end (I.ok.hd hc) st (show s.heap.IsTuple a its.toArray from p) (by simp; omega) fun h' eb => ⟨rfl, I.turned (t' := s.toks) (fun b o hb e => eb b o hb e) f0 f1 f3 f4 f5⟩
  self := fun _ _ _ _ _ st h => wpAny_pyIter_tupleiter st h
theorem turn_range {P : Program} {w : World} {K : PySem.W.Frag} {tg : Expr} (it : Addr) (lo : Int) (n : Nat) : Turn P w K tg (Itr lo n) [it] it (fun i h => IsRangeIter h it (lo + (i : Nat) * 1) ((n : Int) - (i : Nat)) 1) where
  mem := by simp
  obj := fun i h st b hb => by
    have e : b = it := by simpa using hb
    subst e
    exact ⟨_, st, fun v z => by
      have z' : Data.fields _ = Data.cell v := z
      cases z'⟩
  keep := fun i h h' st k => k it (by simp) _ st
  item := by
    intro X hP hw hK hc i pins s σ H E I hf st hg
    subst hP hw hK
    obtain ⟨f0, f1, f2, f3, f4, f5⟩ := hf it (by simp)
    have W := Walks.range (prog := X.prog) (w := X.w) (I.ok.hd hc) it lo 1 n
    refine W.item i s _ _ hg st fun v h' tk hv st' kk => ?_
    obtain ⟨t, rfl⟩ := hv
    have I1 : Inv X pins σ H { s with heap := h', toks := tk } := I.turned (fun b o hb e => kk b o (by simpa using hb) e) f0 f1 f3 f4 f5
    refine ⟨_, rfl, go_of (s := { s with heap := h', toks := tk }) (n := "range_iterator") st' rfl rfl (by decide) ⟨.int (lo + i), H, I1, ⟨t, ?_⟩, ⟨rfl, rfl⟩, st', fun b hb => (hf b hb).1⟩⟩
    rw [Int.mul_one]
  done := by
    intro X hP hw hK hc i pins s σ H E I hf st hg
    subst hP hw hK
    obtain ⟨f0, f1, f2, f3, f4, f5⟩ := hf it (by simp)
    exact wpAny_pyNext_range_end (I.ok.hd hc) st (by have : n ≤ i := hg; omega) fun h' eb => ⟨rfl, I.turned (t' := s.toks) (fun b o hb e => eb b o hb e) f0 f1 f3 f4 f5⟩
  self := fun _ _ _ _ _ st h => wpAny_pyIter_rangeiter st h
end L2

namespace L2
open PySem PySem.Spec PyProof.Rows
section
variable {X : Cx} {tg : Expr}
def iList (K : PySem.W.Frag) (tl : TE) : TI := fun σ H R => tl σ H fun x H1 => ∃ a, x = .ref a ∧ (∃ xs, SqL K H1 a xs) ∧ R (Itl K a) H1
def iTup (K : PySem.W.Frag) (tl : TE) : TI := fun σ H R => tl σ H fun x H1 => ∃ a, x = .ref a ∧ (∃ xs, SqT K H1 a xs) ∧ R (Itt K a) H1
theorem pi_list {l : Expr} {tl : TE} (hl : PE X l tl) : PI X tg l (iList X.K tl) := by
  intro pins s σ H R I h
  refine thn (hl pins s σ H _ I h) fun v s1 ⟨x, H1, I1, r1, q1⟩ => ?_
  obtain ⟨a, e, ⟨xs, hq⟩, q⟩ := q1
  subst e
  cases r1
  obtain ⟨its, rv, p, hz⟩ := I1.list hq
  refine wpAny_pyIter_list p.isList ?_
  refine ⟨s1.heap.objs.size, [s1.heap.objs.size], _, _, H1, rfl, I1.kept (t' := s1.toks) fun b o e => Heap.get?_push_of_some _ e, turn_list a _, ⟨_, Heap.get?_push_size _ rfl, rfl, rfl⟩, fun b hb => ?_, q⟩
  have e : b = s1.heap.objs.size := by simpa using hb
  subst e
  exact I1.fpOk (Nat.le_refl _) (I1.hok.fresh (Nat.le_refl _))
theorem pi_tup {l : Expr} {tl : TE} (hl : PE X l tl) : PI X tg l (iTup X.K tl) := by
  intro pins s σ H R I h
  refine thn (hl pins s σ H _ I h) fun v s1 ⟨x, H1, I1, r1, q1⟩ => ?_
  obtain ⟨a, e, ⟨xs, hq⟩, q⟩ := q1
  subst e
  cases r1
  obtain ⟨its, rv, p, hz⟩ := I1.tuple hq
  refine wpAny_pyIter_tuple (show s1.heap.IsTuple a its.toArray from p) ?_
  refine ⟨s1.heap.objs.size, [s1.heap.objs.size], _, _, H1, rfl, I1.kept (t' := s1.toks) fun b o e => Heap.get?_push_of_some _ e, turn_tuple a _, ⟨_, Heap.get?_push_size _ rfl, rfl, rfl⟩, fun b hb => ?_, q⟩
  have e : b = s1.heap.objs.size := by simpa using hb
  subst e
  exact I1.fpOk (Nat.le_refl _) (I1.hok.fresh (Nat.le_refl _))
/-- a range object just made, walked -/
theorem range_it {pins : List (Addr × Obj)} {σ : St} {H : Hp} {s : Shared} {R : It → Hp → Prop} {E : Value → Shared → Prop} {lo hi : Int} {t u v : Tok} {tk : Nat} (I : Inv X pins σ H s) (h1 : -(2 ^ 62) ≤ lo) (h2 : lo < 2 ^ 62) (h3 : -(2 ^ 62) ≤ hi) (h4 : hi < 2 ^ 62)
    (q : R (Itr lo (hi - lo).toNat) H) : wpAny (model X.prog X.w) X.A (pyIter (.ref s.heap.objs.size)) (PIE X pins σ tg R) E { s with heap := s.heap.push { cls := .type "range", data := .fields #[.int lo t, .int hi u, .int 1 v] }, toks := tk } := by
  refine wpAny_pyIter_range (IsRange.new ..) (small_one h1 h2 h3 h4) ?_
  have I1 : Inv X pins σ H { s with heap := s.heap.push { cls := .type "range", data := .fields #[.int lo t, .int hi u, .int 1 v] }, toks := tk } := I.kept fun b o e => Heap.get?_push_of_some _ e
  refine ⟨(s.heap.push { cls := .type "range", data := .fields #[.int lo t, .int hi u, .int 1 v] }).objs.size, [(s.heap.push { cls := .type "range", data := .fields #[.int lo t, .int hi u, .int 1 v] }).objs.size], _, _, H, rfl,
    I1.kept (t' := tk) fun b o e => Heap.get?_push_of_some _ e, turn_range _ lo (hi - lo).toNat, ?_, fun b hb => ?_, q⟩
  · have e1 : lo + ((0 : Nat) : Int) * 1 = lo := by simp
    have e2 : (((hi - lo).toNat : Nat) : Int) - ((0 : Nat) : Int) = Builtin.Range.rangeSize lo hi 1 := by rw [rangeSize_one]; split <;> omega
    show IsRangeIter _ _ (lo + ((0 : Nat) : Int) * 1) ((((hi - lo).toNat : Nat) : Int) - ((0 : Nat) : Int)) 1
    rw [e1, e2]
    exact Heap.get?_push_size _ rfl
  · have e : b = (s.heap.push { cls := .type "range", data := .fields #[.int lo t, .int hi u, .int 1 v] }).objs.size := by simpa using hb
    subst e
    exact I1.fpOk (Nat.le_refl _) (I1.hok.fresh (Nat.le_refl _))
def iRng1 (ta : TA) : TI := fun σ H R => ta σ H fun vs H1 => ∃ j : Int, vs = [.int j] ∧ -(2 ^ 62) ≤ j ∧ j < 2 ^ 62 ∧ R (Itr 0 j.toNat) H1
def iRng2 (ta : TA) : TI := fun σ H R => ta σ H fun vs H1 => ∃ i j : Int, vs = [.int i, .int j] ∧ (-(2 ^ 62) ≤ i ∧ i < 2 ^ 62 ∧ -(2 ^ 62) ≤ j ∧ j < 2 ^ 62) ∧ R (Itr i (j - i).toNat) H1
theorem pi_range1 {a : Expr} {ta : TA} {p pos : Pos} (hg : Gl X "range") (hm : X.mg "range" = none) (ha : PA X [a] ta) (hs : starEach [a] X.env = [(false, eval a X.env)] := by rfl) : PI X tg (.Call (.Name "range" p) [a] [] pos) (iRng1 ta) := by
  intro pins s σ H R I h
  refine Call_ (ld_blt I hg hm boot_range (PyProof.Rows.callWith_type1 (thn (ha pos pins s σ H _ I h) fun us s1 ⟨vs, H1, I1, r1, q1⟩ => ?_) hs rfl))
  obtain ⟨j, e, q1, q2, q⟩ := q1
  subst e
  cases r1 with
  | cons r rr =>
    cases rr
    obtain ⟨t, rfl⟩ := r
    exact call_range_1 (range_it I1 (by omega) (by omega) q1 q2 (by simpa using q))
theorem pi_range2 {a b : Expr} {ta : TA} {p pos : Pos} (hg : Gl X "range") (hm : X.mg "range" = none) (ha : PA X [a, b] ta) (hs : starEach [a, b] X.env = [(false, eval a X.env), (false, eval b X.env)] := by rfl) (hs2 : starEach [b] X.env = [(false, eval b X.env)] := by rfl) :
    PI X tg (.Call (.Name "range" p) [a, b] [] pos) (iRng2 ta) := by
  intro pins s σ H R I h
  refine Call_ (ld_blt I hg hm boot_range (PyProof.Rows.callWith_type1 (thn (ha pos pins s σ H _ I h) fun us s1 ⟨vs, H1, I1, r1, q1⟩ => ?_) (by rw [hs, hs2]) (by rw [hs2]; rfl)))
  obtain ⟨i, j, e, ⟨q1, q2, q3, q4⟩, q⟩ := q1
  subst e
  cases r1 with
  | cons r rr =>
    cases rr with
    | cons r' rr =>
      cases rr
      obtain ⟨t, rfl⟩ := r
      obtain ⟨t', rfl⟩ := r'
      exact call_range_2 (range_it I1 q1 q2 q3 q4 q)

/-! ### for -/
/-- W: the invariant by the turn and a measure; N: what the body is to reach -/
def tFor (wi : TI) (g : TG) (tb : TS) : TS := fun D σ H => wi σ H fun J H1 => ∃ W : Nat → Nat → St → Hp → Prop, (∃ m, W 0 m σ H1) ∧ ∀ i m σ H, W i m σ H →
  (J.stop i H ∧ D.nx σ H) ∨ (J.go i H ∧ ∃ N : St → Hp → Prop, (∀ σ' H', N σ' H' → ∃ m', m' < m ∧ W (i + 1) m' σ' H') ∧ ∀ x H', J.yld i H x H' → g x σ H' fun σ2 H2 => tb { D with nx := N, ct := N, bk := D.nx } σ2 H2)
/-- the records at fp as they stand -/
def pinsAt (fp : List Addr) (h : Heap) : List (Addr × Obj) := fp.filterMap fun b => (h.get? b).map fun o => (b, o)
theorem mem_pinsAt {fp : List Addr} {h : Heap} {b : Addr} {o : Obj} (hb : b ∈ fp) (e : h.get? b = some o) : (b, o) ∈ pinsAt fp h := List.mem_filterMap.mpr ⟨b, hb, by rw [e]; rfl⟩
theorem of_pinsAt {fp : List Addr} {h : Heap} {p : Addr × Obj} (hp : p ∈ pinsAt fp h) : p.1 ∈ fp ∧ h.get? p.1 = some p.2 := by
  obtain ⟨b, hb, e⟩ := List.mem_filterMap.mp hp
  cases q : h.get? b with
  | none => rw [q] at e; cases e
  | some o =>
    rw [q] at e
    have e' : (b, o) = p := Option.some.inj e
    subst e'
    exact ⟨hb, q⟩
theorem Inv.pinned {pins : List (Addr × Obj)} {σ : St} {H : Hp} {s : Shared} {fp : List Addr} (I : Inv X pins σ H s) (hf : ∀ b ∈ fp, FpOk X pins H b) (ho : ∀ b ∈ fp, ∃ o, s.heap.get? b = some o ∧ ∀ v, o.data ≠ .cell v) : Inv X (pins ++ pinsAt fp s.heap) σ H s :=
  I.pins_of fun p hp => (List.mem_append.mp hp).elim (fun z => I.pin p (List.mem_append_right _ z)) fun z => by
    obtain ⟨hb, e⟩ := of_pinsAt z
    obtain ⟨f0, f1, f2, _⟩ := hf p.1 hb
    obtain ⟨o, e', d⟩ := ho p.1 hb
    rw [e] at e'; cases e'
    exact ⟨e, f0, f1, f2, d⟩
theorem Inv.unpinned {pins pl : List (Addr × Obj)} {σ : St} {H : Hp} {s : Shared} (I : Inv X (pins ++ pl) σ H s) : Inv X pins σ H s := I.pins_of fun p hp => I.pin p (List.mem_append_right _ (List.mem_append_left _ hp))
theorem ps_for {iter : Expr} {body : List Stmt} {wi : TI} {g : TG} {tb : TS} {pos : Pos} (hp : PassesOwn (model X.prog X.w) X.A X.env X.xe) (hc : X.calm = true) (hi : PI X tg iter wi) (hg : PG X tg g) (hb : PSs X body tb)
    (hs : ∀ x, foldedSetIterable iter X.env x = pure x := by intro _; rfl) : PS X (.For tg iter body [] pos) (tFor wi g tb) := by
  intro pins s σ H D I h
  refine wpAny_For (thn (hi pins s σ H _ I h) fun v s1 h1 => thn h1 fun itv s2 h2 => ?_) hs
  obtain ⟨it, fp, tn, J, H2, e, I2, T, st2, f2, W, ⟨m0, w0⟩, turn⟩ := h2
  subst e
  -- what stays true of the iterator's objects through the loop
  have stat : ∀ {H' : Hp}, (∀ b ∈ fp, H' b = none) → ∀ b ∈ fp, FpOk X pins H' b := fun hn b hb => ⟨hn b hb, (f2 b hb).2⟩
  refine codeAny_forLoop_any (fun n s' => ∃ i σ' H', Inv X pins σ' H' s' ∧ tn i s'.heap ∧ (∀ b ∈ fp, H' b = none) ∧ W i n σ' H') ?_ m0 ⟨0, σ, H2, I2, st2, fun b hb => (f2 b hb).1, w0⟩
  rintro n s3 ⟨i, σ3, H3, I3, st3, fr3, w3⟩
  rcases turn i n σ3 H3 w3 with ⟨stop, qn⟩ | ⟨go, N, hN, step⟩
  · refine wpAny_passesOwn hp (thn (T.done X rfl rfl rfl hc i pins s3 σ3 H3 X.xe I3 (stat fr3) st3 stop) fun r s4 ⟨hr, I4⟩ => ?_)
    subst hr
    exact wpAny_execs_nil ⟨σ3, H3, I4, qn⟩
  · refine wpAny_passesOwn hp (thn (T.item X rfl rfl rfl hc i pins s3 σ3 H3 X.xe I3 (stat fr3) st3 go) fun r s4 ⟨u, hr, h4⟩ => ?_)
    subst hr
    refine wpAny_passesOwn hp (thn h4 fun _ s5 ⟨x, H5, I5, r5, y5, st5, fr5⟩ => ?_)
    have I5' := I5.pinned (stat fr5) (T.obj _ _ st5)
    refine wpAny_passesOwn hp (thn (hg _ s5 σ3 H5 x u _ I5' r5 (step x H5 y5)) fun _ s6 ⟨σ6, H6, I6, q6⟩ => ?_)
    refine wpAny_passesOwn hp (thn (hb _ s6 σ6 H6 _ I6 q6) fun f s7 q7 => ?_)
    have again : ∀ {σ7 : St} {H7 : Hp}, Inv X (pins ++ pinsAt fp s5.heap) σ7 H7 s7 → N σ7 H7 → ∃ m, m < n ∧ ∃ i σ' H', Inv X pins σ' H' s7 ∧ tn i s7.heap ∧ (∀ b ∈ fp, H' b = none) ∧ W i m σ' H' := fun {σ7 H7} I7 n7 => by
      obtain ⟨m', hm, w7⟩ := hN σ7 H7 n7
      refine ⟨m', hm, i + 1, σ7, H7, I7.unpinned, T.keep _ _ _ st5 fun b hb o e => (I7.pin (b, o) (List.mem_append_right _ (List.mem_append_right _ (mem_pinsAt hb e)))).1, fun b hb => ?_, w7⟩
      obtain ⟨o, e, d⟩ := T.obj _ _ st5 b hb
      exact (I7.pin (b, o) (List.mem_append_right _ (List.mem_append_right _ (mem_pinsAt hb e)))).2.1
    cases f with
    | next => obtain ⟨σ7, H7, I7, n7⟩ := q7; exact again I7 n7
    | cont => obtain ⟨σ7, H7, I7, n7⟩ := q7; exact again I7 n7
    | brk => obtain ⟨σ7, H7, I7, q7⟩ := q7; exact ⟨σ7, H7, I7.unpinned, q7⟩
    | ret v => obtain ⟨x7, σ7, H7, I7, r7, q7⟩ := q7; exact ⟨x7, σ7, H7, I7.unpinned, r7, q7⟩
end

/-! ### the forms one uses -/
/-- over a list that the body leaves as it is -/
theorem for_list {K : PySem.W.Frag} {a : Addr} {xs : List V} {g : TG} {tb : TS} {D : Ends} {σ : St} {H : Hp} (Pv : Nat → St → Hp → Prop) (h0 : Pv 0 σ H) (hl : ∀ i σ H, i ≤ xs.length → Pv i σ H → SqL K H a xs)
    (hs : ∀ i x σ H, xs[i]? = some x → Pv i σ H → g x σ H fun σ2 H2 => tb { D with nx := Pv (i + 1), ct := Pv (i + 1), bk := D.nx } σ2 H2) (hd : ∀ σ H, Pv xs.length σ H → D.nx σ H) :
    ∃ W : Nat → Nat → St → Hp → Prop, (∃ m, W 0 m σ H) ∧ ∀ i m σ H, W i m σ H →
      ((Itl K a).stop i H ∧ D.nx σ H) ∨ ((Itl K a).go i H ∧ ∃ N : St → Hp → Prop, (∀ σ' H', N σ' H' → ∃ m', m' < m ∧ W (i + 1) m' σ' H') ∧ ∀ x H', (Itl K a).yld i H x H' → g x σ H' fun σ2 H2 => tb { D with nx := N, ct := N, bk := D.nx } σ2 H2) := by
  refine ⟨fun i m σ H => m = xs.length - i ∧ i ≤ xs.length ∧ Pv i σ H, ⟨xs.length, by simp, Nat.zero_le _, h0⟩, ?_⟩
  rintro i m σ H ⟨rfl, hi, p⟩
  have q := hl i σ H hi p
  by_cases hlt : i < xs.length
  · refine .inr ⟨⟨xs, xs[i], q, by simp [hlt]⟩, Pv (i + 1), fun σ' H' p' => ⟨xs.length - (i + 1), by omega, rfl, hlt, p'⟩, fun x H' y => ?_⟩
    obtain ⟨e, y⟩ := y
    subst e
    exact hs i x σ _ (y xs q) p
  · have e : i = xs.length := by omega
    subst e
    exact .inl ⟨⟨xs, q, Nat.le_refl _⟩, hd σ H p⟩
theorem for_tup {K : PySem.W.Frag} {a : Addr} {xs : List V} {g : TG} {tb : TS} {D : Ends} {σ : St} {H : Hp} (Pv : Nat → St → Hp → Prop) (h0 : Pv 0 σ H) (hl : ∀ i σ H, i ≤ xs.length → Pv i σ H → SqT K H a xs)
    (hs : ∀ i x σ H, xs[i]? = some x → Pv i σ H → g x σ H fun σ2 H2 => tb { D with nx := Pv (i + 1), ct := Pv (i + 1), bk := D.nx } σ2 H2) (hd : ∀ σ H, Pv xs.length σ H → D.nx σ H) :
    ∃ W : Nat → Nat → St → Hp → Prop, (∃ m, W 0 m σ H) ∧ ∀ i m σ H, W i m σ H →
      ((Itt K a).stop i H ∧ D.nx σ H) ∨ ((Itt K a).go i H ∧ ∃ N : St → Hp → Prop, (∀ σ' H', N σ' H' → ∃ m', m' < m ∧ W (i + 1) m' σ' H') ∧ ∀ x H', (Itt K a).yld i H x H' → g x σ H' fun σ2 H2 => tb { D with nx := N, ct := N, bk := D.nx } σ2 H2) := by
  refine ⟨fun i m σ H => m = xs.length - i ∧ i ≤ xs.length ∧ Pv i σ H, ⟨xs.length, by simp, Nat.zero_le _, h0⟩, ?_⟩
  rintro i m σ H ⟨rfl, hi, p⟩
  have q := hl i σ H hi p
  by_cases hlt : i < xs.length
  · refine .inr ⟨⟨xs, xs[i], q, by simp [hlt]⟩, Pv (i + 1), fun σ' H' p' => ⟨xs.length - (i + 1), by omega, rfl, hlt, p'⟩, fun x H' y => ?_⟩
    obtain ⟨e, y⟩ := y
    subst e
    exact hs i x σ _ (y xs q) p
  · have e : i = xs.length := by omega
    subst e
    exact .inl ⟨⟨xs, q, Nat.le_refl _⟩, hd σ H p⟩
theorem for_range {lo : Int} {n : Nat} {g : TG} {tb : TS} {D : Ends} {σ : St} {H : Hp} (Pv : Nat → St → Hp → Prop) (h0 : Pv 0 σ H)
    (hs : ∀ i σ H, i < n → Pv i σ H → g (.int (lo + i)) σ H fun σ2 H2 => tb { D with nx := Pv (i + 1), ct := Pv (i + 1), bk := D.nx } σ2 H2) (hd : ∀ σ H, Pv n σ H → D.nx σ H) :
    ∃ W : Nat → Nat → St → Hp → Prop, (∃ m, W 0 m σ H) ∧ ∀ i m σ H, W i m σ H →
      ((Itr lo n).stop i H ∧ D.nx σ H) ∨ ((Itr lo n).go i H ∧ ∃ N : St → Hp → Prop, (∀ σ' H', N σ' H' → ∃ m', m' < m ∧ W (i + 1) m' σ' H') ∧ ∀ x H', (Itr lo n).yld i H x H' → g x σ H' fun σ2 H2 => tb { D with nx := N, ct := N, bk := D.nx } σ2 H2) := by
  refine ⟨fun i m σ H => m = n - i ∧ i ≤ n ∧ Pv i σ H, ⟨n, by simp, Nat.zero_le _, h0⟩, ?_⟩
  rintro i m σ H ⟨rfl, hi, p⟩
  by_cases hlt : i < n
  · refine .inr ⟨hlt, Pv (i + 1), fun σ' H' p' => ⟨n - (i + 1), by omega, rfl, hlt, p'⟩, fun x H' y => ?_⟩
    obtain ⟨e, y⟩ := y
    subst e y
    exact hs i σ _ hlt p
  · have e : i = n := by omega
    subst e
    exact .inl ⟨Nat.le_refl _, hd σ H p⟩
end L2

namespace L2
open PySem PySem.Spec PyProof.Rows

abbrev R2 := V → V → Hp → VK → Prop
/-- a two-place operation on values: f is binaryOp op, inplaceOp op or compareOp op -/
def OpR (X : Cx) (f : Value → Value → Sem Value) (r : R2) : Prop :=
  ∀ (pins : List (Addr × Obj)) (s : Shared) (σ : St) (H : Hp) (x y : V) (v u : Value) (Q : VK), Inv X pins σ H s → RelV x v → RelV y u → r x y H Q →
    wpAny (model X.prog X.w) X.A (f v u) (EP X pins σ Q) X.xe s
/-- a one-place operation -/
def UnR (X : Cx) (f : Value → Sem Value) (r : V → Hp → VK → Prop) : Prop :=
  ∀ (pins : List (Addr × Obj)) (s : Shared) (σ : St) (H : Hp) (x : V) (v : Value) (Q : VK), Inv X pins σ H s → RelV x v → r x H Q →
    wpAny (model X.prog X.w) X.A (f v) (EP X pins σ Q) X.xe s
/-- a call of a value that is known (a builtin, a type) with values -/
def CallR (X : Cx) (f : Value) (r : List V → Hp → VK → Prop) : Prop :=
  ∀ (pins : List (Addr × Obj)) (s : Shared) (σ : St) (H : Hp) (xs : List V) (us : List Value) (Q : VK), Inv X pins σ H s → Vals xs us → r xs H Q →
    wpAny (model X.prog X.w) X.A (call f us) (EP X pins σ Q) X.xe s
/-- a value's truth -/
def TruR (X : Cx) (r : V → Hp → (Bool → Hp → Prop) → Prop) : Prop :=
  ∀ (pins : List (Addr × Obj)) (s : Shared) (σ : St) (H : Hp) (x : V) (v : Value) (Q : Bool → Hp → Prop), Inv X pins σ H s → RelV x v → r x H Q →
    wpAny (model X.prog X.w) X.A (truthy v) (TP X pins σ Q) X.xe s

def tOp (r : R2) (ta tb : TE) : TE := fun σ H Q => ta σ H fun x H1 => tb σ H1 fun y H2 => r x y H2 Q
def tUn (r : V → Hp → VK → Prop) (ta : TE) : TE := fun σ H Q => ta σ H fun x H1 => r x H1 Q
/-- ints in, under C, and a value out -/
def rI (C : Int → Int → Prop) (g : Int → Int → V) : R2 := fun x y H Q => ∃ i j, x = .int i ∧ y = .int j ∧ C i j ∧ Q (g i j) H
def rI0 (g : Int → Int → V) : R2 := fun x y H Q => ∃ i j, x = .int i ∧ y = .int j ∧ Q (g i j) H
def rU (g : Int → V) : V → Hp → VK → Prop := fun x H Q => ∃ i, x = .int i ∧ Q (g i) H

section
variable {X : Cx} {a b c : Expr} {ta tb tc : TE} {pos : Pos}

theorem binT (ha : PE X a ta) (hb : PE X b tb) {pins : List (Addr × Obj)} {s : Shared} {σ : St} {H : Hp} {R : V → V → Hp → Prop} (I : Inv X pins σ H s)
    (h : ta σ H fun x H1 => tb σ H1 fun y H2 => R x y H2) {Q : Value → Shared → Prop} {f : Value → Value → Sem Value}
    (hf : ∀ v u s2 x y H2, Inv X pins σ H2 s2 → RelV x v → RelV y u → R x y H2 → wpAny (model X.prog X.w) X.A (f v u) Q X.xe s2) :
    wpAny (model X.prog X.w) X.A (eval a X.env) (fun v s₁ => wpAny (model X.prog X.w) X.A (eval b X.env) (fun u s₂ => wpAny (model X.prog X.w) X.A (f v u) Q X.xe s₂) X.xe s₁) X.xe s := by
  refine thn (ha pins s σ H _ I h) fun v s1 ⟨x, H1, I1, r1, q1⟩ => ?_
  refine thn (hb pins s1 σ H1 _ I1 q1) fun u s2 ⟨y, H2, I2, r2, q2⟩ => ?_
  exact hf v u s2 x y H2 I2 r1 r2 q2

theorem pe_op {op : Operator} {r : R2} (ho : OpR X (binaryOp op) r) (ha : PE X a ta) (hb : PE X b tb) : PE X (.BinOp a op b pos) (tOp r ta tb) := by
  intro pins s σ H Q I h
  exact wpAny_BinOp (binT ha hb I h fun v u s2 x y H2 I2 rx ry q => ho pins s2 σ H2 x y v u Q I2 rx ry q)
theorem pe_un {op : UnaryOp} {r : V → Hp → VK → Prop} (ho : UnR X (unaryOp op) r) (ha : PE X a ta) : PE X (.UnaryOp op a pos) (tUn r ta) := by
  intro pins s σ H Q I h
  exact UnaryOp_ (thn (ha pins s σ H _ I h) fun v s1 ⟨x, H1, I1, r1, q1⟩ => ho pins s1 σ H1 x v Q I1 r1 q1)
/-! ### ints -/
theorem opI {f : Value → Value → Sem Value} {C : Int → Int → Prop} {g : Int → Int → Int}
    (rule : ∀ (i j : Int) (t u : Tok) (s : Shared) (Q : Value → Shared → Prop) (E : Value → Shared → Prop), C i j → Q (.int (g i j) s.toks) { s with toks := s.toks + 1 } → wpAny (model X.prog X.w) X.A (f (.int i t) (.int j u)) Q E s) :
    OpR X f (rI C fun i j => .int (g i j)) := by
  intro pins s σ H x y v u Q I rx ry h
  obtain ⟨i, j, rfl, rfl, hc, q⟩ := h
  obtain ⟨t, rfl⟩ := rx
  obtain ⟨t', rfl⟩ := ry
  exact rule i j t t' s _ _ hc ⟨.int (g i j), H, I.tok _, ⟨_, rfl⟩, q⟩
theorem opI0 {f : Value → Value → Sem Value} {g : Int → Int → Int}
    (rule : ∀ (i j : Int) (t u : Tok) (s : Shared) (Q : Value → Shared → Prop) (E : Value → Shared → Prop), Q (.int (g i j) s.toks) { s with toks := s.toks + 1 } → wpAny (model X.prog X.w) X.A (f (.int i t) (.int j u)) Q E s) :
    OpR X f (rI0 fun i j => .int (g i j)) := by
  intro pins s σ H x y v u Q I rx ry h
  obtain ⟨i, j, rfl, rfl, q⟩ := h
  obtain ⟨t, rfl⟩ := rx
  obtain ⟨t', rfl⟩ := ry
  exact rule i j t t' s _ _ ⟨.int (g i j), H, I.tok _, ⟨_, rfl⟩, q⟩
theorem opB0 {f : Value → Value → Sem Value} {g : Int → Int → Bool}
    (rule : ∀ (i j : Int) (t u : Tok) (s : Shared) (Q : Value → Shared → Prop) (E : Value → Shared → Prop), Q (.bool (g i j)) s → wpAny (model X.prog X.w) X.A (f (.int i t) (.int j u)) Q E s) :
    OpR X f (rI0 fun i j => .bl (g i j)) := by
  intro pins s σ H x y v u Q I rx ry h
  obtain ⟨i, j, rfl, rfl, q⟩ := h
  obtain ⟨t, rfl⟩ := rx
  obtain ⟨t', rfl⟩ := ry
  exact rule i j t t' s _ _ ⟨.bl (g i j), H, I, rfl, q⟩

def CDiv (i j : Int) : Prop := 0 < j ∧ j < 1073741824
def CDivN (i j : Int) : Prop := j ≠ 0 ∧ j.natAbs < 1073741824
def CPow (i j : Int) : Prop := 0 ≤ j ∧ j ≤ 1000000 ∧ i.natAbs < 2 ^ 64
def CMul (i j : Int) : Prop := (-(2 ^ 64) < i ∧ i < 2 ^ 64) ∨ (-(2 ^ 64) < j ∧ j < 2 ^ 64)
theorem CMul.ok {i j : Int} (h : CMul i j) : IntMulOk i j := by
  rcases h with ⟨h1, h2⟩ | ⟨h1, h2⟩
  · exact .of_left (intBits_le_64 h1 h2)
  · exact .of_right (intBits_le_64 h1 h2)
theorem op_add : OpR X (binaryOp .Add) (rI0 fun i j => .int (i + j)) := opI0 fun _ _ _ _ _ _ _ q => add_int q
theorem op_sub : OpR X (binaryOp .Sub) (rI0 fun i j => .int (i - j)) := opI0 fun _ _ _ _ _ _ _ q => sub_int q
theorem op_mul : OpR X (binaryOp .Mult) (rI CMul fun i j => .int (i * j)) := opI fun _ _ _ _ _ _ _ hc q => mul_int q hc.ok
/-- // by a positive divisor -/
theorem op_fdiv : OpR X (binaryOp .FloorDiv) (rI CDiv fun i j => .int (i / j)) := opI fun i j _ _ _ _ _ hc q => by
  have h1 : (0 : Int) < j := hc.1
  have h2 : j < 1073741824 := hc.2
  exact floordiv_int (by omega) (by rw [Int.fdiv_eq_ediv_of_nonneg i (by omega)]; exact q) (.inl (PyProof.noPylong_small (by omega)))
/-- % by a positive divisor of any size -/
theorem op_mod : OpR X (binaryOp .Mod) (rI (fun _ j => 0 < j) fun i j => .int (i % j)) := opI fun i j _ _ _ _ _ hc q => by
  have h1 : (0 : Int) < j := hc
  exact mod_int' (by omega) (by rw [Int.fmod_eq_emod_of_nonneg i (by omega)]; exact q)
theorem op_pow : OpR X (binaryOp .Pow) (rI CPow fun i j => .int (i ^ j.toNat)) := opI fun _ _ _ _ _ _ _ hc q => pow_int_small hc.1 hc.2.1 hc.2.2 q
theorem unI {f : Value → Sem Value} {g : Int → Int}
    (rule : ∀ (i : Int) (t : Tok) (s : Shared) (Q : Value → Shared → Prop) (E : Value → Shared → Prop), Q (.int (g i) s.toks) { s with toks := s.toks + 1 } → wpAny (model X.prog X.w) X.A (f (.int i t)) Q E s) :
    UnR X f (rU fun i => .int (g i)) := by
  intro pins s σ H x v Q I rx h
  obtain ⟨i, rfl, q⟩ := h
  obtain ⟨t, rfl⟩ := rx
  exact rule i t s _ _ ⟨.int (g i), H, I.tok _, ⟨_, rfl⟩, q⟩
theorem un_neg : UnR X (unaryOp .USub) (rU fun i => .int (-i)) := unI fun _ _ _ _ _ q => neg_int q
/-! ### bools among ints: n += (a < b) -/
end

/-! ### comparisons -/
/-- the scalars that == tells apart as data does -/
def scal : V → V → Bool
  | .non, .non => true | .non, .int _ => true | .int _, .non => true | .non, .bl _ => true | .bl _, .non => true | .non, .str _ => true | .str _, .non => true
  | .int _, .int _ => true | .bl _, .bl _ => true | .str _, .str _ => true | .byt _, .byt _ => true
  | .int _, .str _ => true | .str _, .int _ => true | .bl _, .str _ => true | .str _, .bl _ => true
  | _, _ => false
def rEq : R2 := fun x y H Q => scal x y = true ∧ Q (.bl (decide (x = y))) H
def rNe : R2 := fun x y H Q => scal x y = true ∧ Q (.bl (!decide (x = y))) H

theorem dec_int {i j : Int} : decide (V.int i = V.int j) = (i == j) := by
  rw [Bool.eq_iff_iff]
  simp
theorem dec_bl {i j : Bool} : decide (V.bl i = V.bl j) = (i == j) := by
  rw [Bool.eq_iff_iff]
  simp
theorem dec_str {i j : Str} : decide (V.str i = V.str j) = (i == j) := by
  rw [Bool.eq_iff_iff]
  simp
theorem dec_byt {i j : Array UInt8} : decide (V.byt i = V.byt j) = (i.toList == j.toList) := by
  rw [Bool.eq_iff_iff]
  cases i
  cases j
  simp

section
variable {X : Cx} {a b c : Expr} {ta tb tc : TE} {pos : Pos}
theorem fin_bl {pins : List (Addr × Obj)} {σ : St} {H : Hp} {s : Shared} {Q : VK} {k k' : Bool} (I : Inv X pins σ H s) (q : Q (.bl k) H) (e : k = k') : EP X pins σ Q (.bool k') s := by
  subst e
  exact ⟨.bl k, H, I, rfl, q⟩
theorem op_eq : OpR X (compareOp .Eq) rEq := by
  intro pins s σ H x y v u Q I rx ry h
  obtain ⟨hs, q⟩ := h
  cases x with
  | non =>
    cases rx
    cases y with
    | non => cases ry; exact PySem.EqNone.eq_none_none (fin_bl I q (by simp))
    | bl j => cases ry; exact PySem.EqNone.eq_none_bool (fin_bl I q (by simp))
    | int j => obtain ⟨t', rfl⟩ := ry; exact PySem.EqNone.eq_none_int (fin_bl I q (by simp))
    | str j => obtain ⟨t', rfl⟩ := ry; exact PySem.EqNone.eq_none_str (fin_bl I q (by simp))
    | _ => exact absurd (show false = true from hs) Bool.false_ne_true
  | bl i =>
    cases rx
    cases y with
    | non => cases ry; exact PySem.EqNone.eq_bool_none (fin_bl I q (by simp))
    | bl j => cases ry; exact eq_bool (fin_bl I q dec_bl)
    | str j => obtain ⟨t', rfl⟩ := ry; exact PySem.EqMixed.eq_bool_str (fin_bl I q (by simp))
    | _ => exact absurd (show false = true from hs) Bool.false_ne_true
  | int i =>
    obtain ⟨t, rfl⟩ := rx
    cases y with
    | non => cases ry; exact PySem.EqNone.eq_int_none (fin_bl I q (by simp))
    | int j => obtain ⟨t', rfl⟩ := ry; exact eq_int (fin_bl I q dec_int)
    | str j => obtain ⟨t', rfl⟩ := ry; exact PySem.EqMixed.eq_int_str (fin_bl I q (by simp))
    | _ => exact absurd (show false = true from hs) Bool.false_ne_true
  | str i =>
    obtain ⟨t, rfl⟩ := rx
    cases y with
    | non => cases ry; exact PySem.EqNone.eq_str_none (fin_bl I q (by simp))
    | bl j => cases ry; exact PySem.EqMixed.eq_str_bool (fin_bl I q (by simp))
    | int j => obtain ⟨t', rfl⟩ := ry; exact PySem.EqMixed.eq_str_int (fin_bl I q (by simp))
    | str j => obtain ⟨t', rfl⟩ := ry; exact eq_str (fin_bl I q dec_str)
    | _ => exact absurd (show false = true from hs) Bool.false_ne_true
  | byt i =>
    obtain ⟨t, rfl⟩ := rx
    cases y with
    | byt j => obtain ⟨t', rfl⟩ := ry; exact PySem.W.eq_bytes (fin_bl I q dec_byt)
    | _ => exact absurd (show false = true from hs) Bool.false_ne_true
  | _ => cases y <;> exact absurd (show false = true from hs) Bool.false_ne_true
theorem op_ne : OpR X (compareOp .NotEq) rNe := by
  intro pins s σ H x y v u Q I rx ry h
  obtain ⟨hs, q⟩ := h
  cases x with
  | non =>
    cases rx
    cases y with
    | non => cases ry; exact PySem.EqNone.ne_none_none (fin_bl I q (by simp))
    | bl j => cases ry; exact PySem.EqNone.ne_none_bool (fin_bl I q (by simp))
    | int j => obtain ⟨t', rfl⟩ := ry; exact PySem.EqNone.ne_none_int (fin_bl I q (by simp))
    | str j => obtain ⟨t', rfl⟩ := ry; exact PySem.EqNone.ne_none_str (fin_bl I q (by simp))
    | _ => exact absurd (show false = true from hs) Bool.false_ne_true
  | bl i =>
    cases rx
    cases y with
    | non => cases ry; exact PySem.EqNone.ne_bool_none (fin_bl I q (by simp))
    | bl j => cases ry; exact ne_bool (fin_bl I q (congrArg not dec_bl))
    | str j => obtain ⟨t', rfl⟩ := ry; exact PySem.EqMixed.ne_bool_str (fin_bl I q (by simp))
    | _ => exact absurd (show false = true from hs) Bool.false_ne_true
  | int i =>
    obtain ⟨t, rfl⟩ := rx
    cases y with
    | non => cases ry; exact PySem.EqNone.ne_int_none (fin_bl I q (by simp))
    | int j => obtain ⟨t', rfl⟩ := ry; exact ne_int (fin_bl I q (congrArg not dec_int))
    | str j => obtain ⟨t', rfl⟩ := ry; exact PySem.EqMixed.ne_int_str (fin_bl I q (by simp))
    | _ => exact absurd (show false = true from hs) Bool.false_ne_true
  | str i =>
    obtain ⟨t, rfl⟩ := rx
    cases y with
    | non => cases ry; exact PySem.EqNone.ne_str_none (fin_bl I q (by simp))
    | bl j => cases ry; exact PySem.EqMixed.ne_str_bool (fin_bl I q (by simp))
    | int j => obtain ⟨t', rfl⟩ := ry; exact PySem.EqMixed.ne_str_int (fin_bl I q (by simp))
    | str j => obtain ⟨t', rfl⟩ := ry; exact ne_str (fin_bl I q (congrArg not dec_str))
    | _ => exact absurd (show false = true from hs) Bool.false_ne_true
  | byt i =>
    obtain ⟨t, rfl⟩ := rx
    cases y with
    | byt j => obtain ⟨t', rfl⟩ := ry; exact PySem.W.ne_bytes (fin_bl I q (congrArg not dec_byt))
    | _ => exact absurd (show false = true from hs) Bool.false_ne_true
  | _ => cases y <;> exact absurd (show false = true from hs) Bool.false_ne_true

theorem op_lt : OpR X (compareOp .Lt) (rI0 fun i j => .bl (decide (i < j))) := opB0 fun _ _ _ _ _ _ _ q => lt_int q
theorem op_le : OpR X (compareOp .LtE) (rI0 fun i j => .bl (decide (i ≤ j))) := opB0 fun _ _ _ _ _ _ _ q => le_int q
theorem op_gt : OpR X (compareOp .Gt) (rI0 fun i j => .bl (decide (j < i))) := opB0 fun _ _ _ _ _ _ _ q => gt_int q
/-- is, is not of two objects that are tracked lists or instances -/
def isObj : HO → Bool
  | .lst _ => true
  | .ins _ _ _ => true
  | _ => false
theorem nomark (b : Expr) {op : CmpOp} (h : op ≠ .In := by decide) (h2 : op ≠ .NotIn := by decide) : behindInMarks op b = false := by
  have e1 : (op == CmpOp.In) = false := by cases op <;> first | rfl | exact absurd rfl h
  have e2 : (op == CmpOp.NotIn) = false := by cases op <;> first | rfl | exact absurd rfl h2
  cases b <;> simp [behindInMarks, e1, e2]
/-- a comparison as a value; hm: nomark b, or (for in, not in) by with_unfolding_all rfl -/
theorem pe_cmpR {op : CmpOp} {r : R2} (ho : OpR X (compareOp op) r) (ha : PE X a ta) (hb : PE X b tb) (hm : behindInMarks op b = false) : PE X (.Compare a [op] [b] pos) (tOp r ta tb) := by
  intro pins s σ H Q I h
  exact wpAny_Compare1 (binT ha hb I h fun v u s2 x y H2 I2 rx ry q => ho pins s2 σ H2 x y v u Q I2 rx ry q) hm
/-- a reading of a value as a test -/
def tTest (t : TE) : TT := fun σ H Q => t σ H fun x H' => ∃ k, x = .bl k ∧ Q k H'
theorem pt_cmpR {op : CmpOp} {r : R2} (ho : OpR X (compareOp op) r) (ha : PE X a ta) (hb : PE X b tb) (hm : behindInMarks op b = false) : PT X (.Compare a [op] [b] pos) (tTest (tOp r ta tb)) := by
  intro pins s σ H Q I h
  refine wpAny_isTrue_Compare1 (thn (ha pins s σ H _ I h) fun v s1 ⟨x, H1, I1, r1, q1⟩ => thn (hb pins s1 σ H1 _ I1 q1) fun u s2 ⟨y, H2, I2, r2, q2⟩ =>
    thn (ho pins s2 σ H2 x y v u _ I2 r1 r2 q2) fun c s3 ⟨z, H3, I3, r3, k, e, q3⟩ => ?_) hm
  subst e
  cases r3
  exact wpAny_truthy_bool ⟨H3, I3, q3⟩
/-- a op1 b op2 c -/
def tChain (r r' : R2) (ta tb tc : TE) : TE := fun σ H Q => ta σ H fun x H1 => tb σ H1 fun y H2 => r x y H2 fun z H3 => ∃ k, z = .bl k ∧
  (if k = true then tc σ H3 fun w' H4 => r' y w' H4 Q else Q (.bl false) H3)
theorem pe_chain {op op' : CmpOp} {r r' : R2} (ho : OpR X (compareOp op) r) (ho' : OpR X (compareOp op') r') (ha : PE X a ta) (hb : PE X b tb) (hc : PE X c tc)
    (hm : lastMarks [op, op'] [b, c] = false := by with_unfolding_all rfl) : PE X (.Compare a [op, op'] [b, c] pos) (tChain r r' ta tb tc) := by
  intro pins s σ H Q I h
  refine Compare_chain (thn (ha pins s σ H _ I h) fun v s1 ⟨x, H1, I1, r1, q1⟩ => chain_link (thn (hb pins s1 σ H1 _ I1 q1) fun u s2 ⟨y, H2, I2, r2, q2⟩ =>
    thn (ho pins s2 σ H2 x y v u _ I2 r1 r2 q2) fun d s3 ⟨z, H3, I3, r3, k, e, q3⟩ => ?_)) hm
  subst e
  cases r3
  refine wpAny_truthy_bool ?_
  cases k with
  | false => exact ite_ff ⟨.bl false, H3, I3, rfl, q3⟩
  | true => exact ite_tt (chain_last (thn (hc pins s3 σ H3 _ I3 q3) fun w' s4 ⟨z', H4, I4, r4, q4⟩ => ho' pins s4 σ H4 y z' u w' Q I4 r2 r4 q4))
theorem pt_chain {op op' : CmpOp} {r r' : R2} (ho : OpR X (compareOp op) r) (ho' : OpR X (compareOp op') r') (ha : PE X a ta) (hb : PE X b tb) (hc : PE X c tc)
    (hm : lastMarks [op, op'] [b, c] = false := by with_unfolding_all rfl) : PT X (.Compare a [op, op'] [b, c] pos) (tTest (tChain r r' ta tb tc)) := by
  intro pins s σ H Q I h
  refine isTrue_chain (thn (ha pins s σ H _ I h) fun v s1 ⟨x, H1, I1, r1, q1⟩ => test_link (thn (hb pins s1 σ H1 _ I1 q1) fun u s2 ⟨y, H2, I2, r2, q2⟩ =>
    thn (ho pins s2 σ H2 x y v u _ I2 r1 r2 q2) fun d s3 ⟨z, H3, I3, r3, k, e, q3⟩ => ?_)) hm
  subst e
  cases r3
  refine wpAny_truthy_bool ?_
  cases k with
  | false =>
    obtain ⟨k', e', q'⟩ := q3
    cases e'
    exact ite_ff ⟨H3, I3, q'⟩
  | true =>
    refine ite_tt (test_last (thn (hc pins s3 σ H3 _ I3 q3) fun w' s4 ⟨z', H4, I4, r4, q4⟩ => thn (ho' pins s4 σ H4 y z' u w' _ I4 r2 r4 q4) fun d' s5 ⟨z2, H5, I5, r5, k2, e2, q5⟩ => ?_))
    subst e2
    cases r5
    exact wpAny_truthy_bool ⟨H5, I5, q5⟩

/-! ### truth -/
/-- a value's truth by the abstract heap -/
def TruV (K : PySem.W.Frag) (x : V) (H : Hp) (k : Bool) : Prop :=
  match x with
  | .non => k = false
  | .bl b => k = b
  | .int i => k = (i != 0)
  | .str y => y.length ≤ sizeLine ∧ k = ((y.length : Int) != 0)
  | .byt y => y.size ≤ sizeLine ∧ k = ((y.size : Int) != 0)
  | .ref p => (∃ xs, SqL K H p xs ∧ k = !xs.isEmpty) ∨ (∃ xs, SqT K H p xs ∧ k = !xs.isEmpty) ∨ ∃ kvs, H p = some (.dK kvs) ∧ k = !kvs.isEmpty
  | _ => False
theorem line63 : (sizeLine : Nat) < 2 ^ 63 := by rw [sizeLine_eq]; decide
/-! ### strs and bytes -/
def PlainIxT (b : Expr) : Prop := ∀ o i, subscripted b false o i = operate [o, i] (getItem o i)
/-! ### scalar builtins, by CallR -/
theorem vals1 {x : V} {us : List Value} (r : Vals [x] us) : ∃ u, us = [u] ∧ RelV x u := by
  cases r with
  | cons r1 r2 => cases r2; exact ⟨_, rfl, r1⟩
theorem vals2 {x y : V} {us : List Value} (r : Vals [x, y] us) : ∃ u w', us = [u, w'] ∧ RelV x u ∧ RelV y w' := by
  cases r with
  | cons r1 r2 =>
    cases r2 with
    | cons r3 r4 => cases r4; exact ⟨_, _, rfl, r1, r3⟩
/-- len of a str, a bytes, a list, a tuple -/
def LenV (K : PySem.W.Frag) (x : V) (H : Hp) (n : Nat) : Prop :=
  match x with
  | .str y => y.length ≤ sizeLine ∧ n = y.length
  | .byt y => y.size ≤ sizeLine ∧ n = y.size
  | .ref p => (∃ xs, SqL K H p xs ∧ n = xs.length) ∨ ∃ xs, SqT K H p xs ∧ n = xs.length
  | _ => False
end
end L2

namespace L2
open PySem PySem.Spec PyProof.Rows

/-! ### an instance, its attributes a map -/
structure ObjM (h : Heap) (x dx C : Addr) (mA : Str → Option Value) : Prop where
  obj : h.get? x = some (PySem.W.instObj C dx)
  ns : h.Ns1 dx mA
  ne : dx ≠ x

theorem lookIn_ns {h : Heap} {dx : Addr} {mA : Str → Option Value} (n : h.Ns1 dx mA) : ∃ od, h.get? dx = some od ∧ ∀ name, PySem.W.lookIn name od = some (mA name) := by
  obtain ⟨o, es, ep, ho, hd, hk, _, hm⟩ := n
  refine ⟨o, ho, fun name => ?_⟩
  have e := hm name
  unfold nsFind findBy at e
  rw [← Array.find?_toList] at e
  unfold PySem.W.lookIn
  rw [hd]
  dsimp only
  split
  · rename_i y q
    rw [q] at e
    exact congrArg some e
  · rename_i q
    rw [q] at e
    have a : es.toList.any (·.refKey) = false := by
      rw [List.any_eq_false]
      intro y hy
      obtain ⟨z, t, hkey⟩ := hk y (Array.mem_toList_iff.mp hy)
      simp [DictEntry.refKey, hkey]
    have a' : ¬ es.toList.any (·.refKey) = true := by rw [a]; exact Bool.false_ne_true
    rw [if_neg a']
    exact congrArg some e

theorem ObjM.look {h : Heap} {x dx C : Addr} {mA : Str → Option Value} (I : ObjM h x dx C mA) : ∃ od, PySem.W.InstAt h x (PySem.W.instObj C dx) C (some od) ∧ ∀ name, PySem.W.lookIn name od = some (mA name) :=
  let ⟨od, ho, hl⟩ := lookIn_ns I.ns
  ⟨od, ⟨I.obj, rfl, rfl, ho⟩, hl⟩

section
variable {prog : Program} {w : World} {A : Around} {E : Value → Shared → Prop} {s : Shared} {K : PySem.W.Frag} {x dx C f : Addr} {mA : Str → Option Value} {name : Str} {v : Value}

theorem get_map {expr : Bool} {Q : Value → Shared → Prop} (X : K.In s.heap) (I : ObjM s.heap x dx C mA) (hg : PySem.W.plainGet K C name = true) (hh : PySem.W.hasDictIn K C = true)
    (ha : PySem.W.findIn K (.ref C) name = some none) (hv : mA name = some v) (hv' : PySem.W.handedIn v = true) (h : Q v { s with toks := s.toks + 1 }) :
    wpAny (model prog w) A (getAttr (.ref x) name expr) Q E s := by
  obtain ⟨od, J, hl⟩ := I.look
  exact PySem.W.get_value X J (PySem.W.plainGet_of hg).1 (PySem.W.findObj_own hh ha rfl (by rw [hl, hv])) hv' h

theorem get_meth {pl : Sem Bool} {Q : Value × List Value → Shared → Prop} (X : K.In s.heap) (I : ObjM s.heap x dx C mA) (hg : PySem.W.plainGet K C name = true)
    (hf : PySem.W.findIn K (.ref C) name = some (some (.ref f))) (ht : PySem.W.isFn K (.ref f) = true) (hv : mA name = none) (h : Q (.ref f, [.ref x]) s) :
    wpAny (model prog w) A (getMethod (.ref x) name pl) Q E s := by
  obtain ⟨od, J, hl⟩ := I.look
  exact PySem.W.method_fn X J (PySem.W.plainGet_of hg).1 (PySem.W.plainGet_of hg).2 hf (beq_iff_eq.mp ht) (by show (PySem.W.lookIn name od).map (·.isSome) = some false; rw [hl, hv]; rfl) h

theorem set_map {ns : List Str} {Q : Unit → Shared → Prop} (X : K.In s.heap) (I : ObjM s.heap x dx C mA)
    (hs : PySem.W.findIn K (.ref C) "__setattr__" = some (some (.builtin "object.__setattr__"))) (hp : PySem.W.plainOver K C = true) (ht : PySem.W.takerIn K C name = some none) (hh : PySem.W.hasDictIn K C = true)
    (hw : PySem.Within mA ns) (hsz : ns.length ≤ sizeLine)
    (h : ∀ h', ObjM h' x dx C (fun y => if y = name then some v else mA y) → Heap.SameBut dx s.heap h' → Q () { s with heap := h', toks := s.toks + 2 }) :
    wpAny (model prog w) A (setAttr (.ref x) name v) Q E s := by
  obtain ⟨od, J, hl⟩ := I.look
  refine PySem.W.set_plain X J hs (PySem.W.osa_open (s := { s with toks := s.toks + 1 }) (r := none) X J hp ht fun b => ?_)
  obtain ⟨cd, hc, hd'⟩ := PySem.W.any_some hh
  have hx : s.heap.get? x = some ⟨.ref C, some dx, .plain, #[]⟩ := I.obj
  refine wpAny_bind (wpAny_pure (wpAny_bind (wpAny_bind (wpAny_loadPart hx (wpAny_bind (PySem.W.Looks.here (s := { s with toks := s.toks + 1 }) (PySem.W.looks_clsIn X hc) ?_))))))
  rw [hd']
  refine wpAny_pure (a := some dx) (wpAny_bind (wpAny_pure (wpAny_bind ?_)))
  refine wpAny_nsSet1 (s := { s with toks := s.toks + 1 }) I.ns fun h' hn2 hs2 => ?_
  obtain ⟨oD, esD, epD, hoD, hdD, hcD⟩ := hn2.count (PySem.Within.cons name v hw)
  refine wpAny_bind (wpAny_lookBehind hoD (by rw [hdD]; exact pastItsLine_dict (Nat.le_trans hcD (by rw [List.length_cons]; omega))) ?_)
  exact wpAny_pure (h _ ⟨(hs2.2 _ (Ne.symm I.ne)).trans I.obj, hn2, I.ne⟩ hs2)

/-- C(..): the dict at the heap's end, the instance behind it; then its __init__ -/
theorem make_map {R : Result → Shared → Prop} {vs : List Value} {kw : List (Str × Value)} (X : K.In s.heap) (hm : PySem.W.makesIn K C = true)
    (hi : PySem.W.findIn K (.ref C) "__init__" = some (some (.ref f))) (hf : PySem.W.typeIn K (.ref f) = some (.type "function"))
    (h : codeAny (model prog w) (A.under (.builtin "type.__call__" ⟨.ref C :: vs, kw⟩)) (.call (.ref f) ⟨.ref (s.heap.objs.size + 1) :: vs, kw⟩) (PySem.W.InitBack (s.heap.objs.size + 1) R)
      { s with heap := (s.heap.push PySem.W.emptyDict).push (PySem.W.instObj C s.heap.objs.size) }) :
    codeAny (model prog w) A (.call (.ref C) ⟨vs, kw⟩) R s := by
  obtain ⟨hh, g, d, t, os⟩ := s
  exact PySem.W.make_core (PySem.W.makes_of X hm) (PySem.W.looks_findIn X hi) (fun self => PySem.W.bind_fn X self hf) (.inl rfl) h
end

/-! ### the attributes as a list of pairs -/
def putF (f : Str) (v : V) : List (Str × V) → List (Str × V)
  | [] => [(f, v)]
  | (g, x) :: r => if g = f then (g, v) :: r else (g, x) :: putF f v r
theorem lookup_putF (f g : Str) (v : V) : ∀ fs : List (Str × V), (putF f v fs).lookup g = if g = f then some v else fs.lookup g
  | [] => by
    show List.lookup g [(f, v)] = _
    by_cases h : g = f
    · have hb : (g == f) = true := beq_iff_eq.mpr h
      simp only [List.lookup, hb, if_pos h]
    · have hb : (g == f) = false := beq_eq_false_iff_ne.mpr h
      simp only [List.lookup, hb, if_neg h]
  | (k, x) :: r => by
    have ih := lookup_putF f g v r
    rw [show putF f v ((k, x) :: r) = (if k = f then (k, v) :: r else (k, x) :: putF f v r) from rfl]
    by_cases hk : k = f
    · rw [if_pos hk]
      by_cases h : g = k
      · have hb : (g == k) = true := beq_iff_eq.mpr h
        simp only [List.lookup, hb, if_pos (h.trans hk)]
      · have hb : (g == k) = false := beq_eq_false_iff_ne.mpr h
        simp only [List.lookup, hb, if_neg (fun e : g = f => h (e.trans hk.symm))]
    · rw [if_neg hk]
      by_cases h : g = k
      · have hb : (g == k) = true := beq_iff_eq.mpr h
        simp only [List.lookup, hb, if_neg (fun e : g = f => hk (h.symm.trans e))]
      · have hb : (g == k) = false := beq_eq_false_iff_ne.mpr h
        simp only [List.lookup, hb]
        exact ih
theorem keys_putF (f : Str) (v : V) : ∀ fs : List (Str × V), f ∈ (putF f v fs).map (·.1) ∧ ∀ g, g ∈ fs.map (·.1) → g ∈ (putF f v fs).map (·.1)
  | [] => ⟨by simp [putF], fun g h => by simp at h⟩
  | (k, x) :: r => by
    obtain ⟨i1, i2⟩ := keys_putF f v r
    rw [show putF f v ((k, x) :: r) = (if k = f then (k, v) :: r else (k, x) :: putF f v r) from rfl]
    by_cases hk : k = f
    · rw [if_pos hk]
      subst hk
      exact ⟨by simp, fun g h => by simpa using h⟩
    · rw [if_neg hk]
      refine ⟨?_, fun g h => ?_⟩
      · rw [List.map_cons]
        exact List.mem_cons_of_mem _ i1
      · rw [List.map_cons] at h ⊢
        rcases List.mem_cons.mp h with e | e
        · exact List.mem_cons.mpr (.inl e)
        · exact List.mem_cons_of_mem _ (i2 g e)
theorem length_putF (f : Str) (v : V) : ∀ fs : List (Str × V), (putF f v fs).length ≤ fs.length + 1
  | [] => by simp [putF]
  | (k, x) :: r => by
    have ih := length_putF f v r
    rw [show putF f v ((k, x) :: r) = (if k = f then (k, v) :: r else (k, x) :: putF f v r) from rfl]
    by_cases hk : k = f
    · rw [if_pos hk, List.length_cons, List.length_cons]; omega
    · rw [if_neg hk, List.length_cons, List.length_cons]; omega

theorem RelO.some_of {v : V} {o : Option Value} (r : RelO (some v) o) : ∃ u, o = some u ∧ RelV v u := by
  cases o with
  | none => exact (show False from r).elim
  | some u => exact ⟨u, rfl, r⟩
theorem RelO.none_of {o : Option Value} (r : RelO none o) : o = none := by
  cases o with
  | none => rfl
  | some u => exact (show False from r).elim
theorem handed_of {v : V} {u : Value} (r : RelV v u) : PySem.W.handedIn u = true := by
  cases v with
  | non => cases (show u = Value.none from r); rfl
  | bl b => cases (show u = Value.bool b from r); rfl
  | int i => obtain ⟨t, e⟩ := (show ∃ t, u = Value.int i t from r); cases e; rfl
  | str x => obtain ⟨t, e⟩ := (show ∃ t, u = Value.str x t from r); cases e; rfl
  | byt b => obtain ⟨t, e⟩ := (show ∃ t, u = Value.bytes b t from r); cases e; rfl
  | flt b => obtain ⟨t, e⟩ := (show ∃ t, u = Value.float b t from r); cases e; rfl
  | ref a => cases (show u = Value.ref a from r); rfl
  | ty n => cases (show u = Value.type n from r); rfl

section
variable {P : Program} {w : World} {H H' : Hp} {h h' : Heap} {a C dx : Addr} {fs fs' : List (Str × V)}
theorem ins_get (hok : HOk P w H h) (e : H a = some (.ins C dx fs)) : ∃ mA, ObjM h a dx C mA ∧ (∀ f, RelO (fs.lookup f) (mA f)) ∧ PySem.Within mA (fs.map (·.1)) ∧ fs.length ≤ 1000 ∧ H dx = some (.own a) := by
  obtain ⟨d, z, ne, ob, mA, n, r, q⟩ := (show ObjOk P w H h a (.ins C dx fs) from hok a _ e)
  exact ⟨mA, ⟨ob, n, ne⟩, r, q, z, d⟩
end

/-! ### what of the text a class must have -/
structure Cls (K : PySem.W.Frag) (C : Addr) : Prop where
  pg : PySem.W.plainGet K C Str.empty = true
  hd : PySem.W.hasDictIn K C = true
  po : PySem.W.plainOver K C = true
  sa : PySem.W.findIn K (.ref C) "__setattr__" = some (some (.builtin "object.__setattr__"))
theorem Cls.get {K : PySem.W.Frag} {C : Addr} (c : Cls K C) (f : Str) : PySem.W.plainGet K C f = true := c.pg
/-- no class of it has the name -/
def NoAttr (K : PySem.W.Frag) (C : Addr) (f : Str) : Prop := PySem.W.findIn K (.ref C) f = some none
theorem NoAttr.taker {K : PySem.W.Frag} {C : Addr} {f : Str} (n : NoAttr K C f) : PySem.W.takerIn K C f = some none := by
  unfold PySem.W.takerIn
  rw [show PySem.W.findIn K (.ref C) f = some none from n]
  rfl
/-- a constant of the class -/
structure Con (K : PySem.W.Frag) (C : Addr) (f : Str) (v : V) (u : Value) : Prop where
  at_ : PySem.W.findIn K (.ref C) f = some (some u)
  rel : RelV v u
  get : PySem.W.specialIn K u "__get__" = some none
  cp : PySem.W.copiedNames.contains f = false
/-- a method: a plain def of the class or of one above it -/
structure Meth (K : PySem.W.Frag) (C : Addr) (m : Str) (f : Addr) : Prop where
  at_ : PySem.W.findIn K (.ref C) m = some (some (.ref f))
  fn : PySem.W.isFn K (.ref f) = true
  kp : PySem.W.keepIn K (.ref f) = true

section
variable {X : Cx} {pins : List (Addr × Obj)} {σ : St} {H : Hp} {s : Shared} {a C dx : Addr} {fs : List (Str × V)} {f : Str} {v : V} {A : Around} {E : Value → Shared → Prop}

theorem getattr_ok {b : Bool} {Q : Value → Shared → Prop} (I : Inv X pins σ H s) (e : H a = some (.ins C dx fs)) (c : Cls X.K C) (n : NoAttr X.K C f) (l : fs.lookup f = some v)
    (h : ∀ u s', Inv X pins σ H s' → RelV v u → Q u s') : wpAny (model X.prog X.w) A (getAttr (.ref a) f b) Q E s := by
  obtain ⟨mA, O, r, _, _, _⟩ := ins_get I.hok e
  obtain ⟨u, hu, ru⟩ := RelO.some_of (v := v) (o := mA f) (by rw [← l]; exact r f)
  exact get_map I.kIn O (c.get f) c.hd n hu (handed_of ru) (h u _ (I.tok _) ru)

theorem getmeth_ok {m : Str} {g : Addr} {pl : Sem Bool} {Q : Value × List Value → Shared → Prop} (I : Inv X pins σ H s) (e : H a = some (.ins C dx fs)) (c : Cls X.K C) (k : Meth X.K C m g) (l : fs.lookup m = none)
    (h : Q (.ref g, [.ref a]) s) : wpAny (model X.prog X.w) A (getMethod (.ref a) m pl) Q E s := by
  obtain ⟨mA, O, r, _, _, _⟩ := ins_get I.hok e
  have hn : mA m = none := RelO.none_of (by rw [← l]; exact r m)
  exact get_meth I.kIn O (c.get m) k.at_ k.fn hn h

theorem setattr_ok {y : V} {u : Value} {Q : Unit → Shared → Prop} (I : Inv X pins σ H s) (e : H a = some (.ins C dx fs)) (c : Cls X.K C) (n : NoAttr X.K C f) (hl : fs.length < 1000) (ry : RelV y u)
    (h : ∀ s', Inv X pins σ (upd H a (.ins C dx (putF f y fs))) s' → Q () s') : wpAny (model X.prog X.w) A (setAttr (.ref a) f u) Q E s := by
  obtain ⟨mA, O, r, wi, _, ho⟩ := ins_get I.hok e
  have hz : (fs.map (·.1)).length ≤ sizeLine := by rw [List.length_map, sizeLine_eq]; omega
  refine set_map I.kIn O c.sa c.po n.taker c.hd wi hz fun h' O' sb => h _ ?_
  have hd : ∃ o, h'.get? dx = some o := let ⟨o, _, _, e', _⟩ := O'.ns; ⟨o, e'⟩
  refine I.write (x := a) (e := dx) (by rw [e]; exact True.intro) (.inr ho) (fun b q hb z => (sb.2 b hb).trans z) hd ?_
  refine ⟨by rw [upd_ne O.ne]; exact ho, ?_, O.ne, O'.obj, _, O'.ns, fun g => ?_, fun g hg => ?_⟩
  · have := length_putF f y fs; omega
  · show RelO ((putF f y fs).lookup g) (if g = f then some u else mA g)
    rw [lookup_putF]
    by_cases q : g = f
    · rw [if_pos q, if_pos q]; exact ry
    · rw [if_neg q, if_neg q]; exact r g
  · by_cases q : g = f
    · rw [q]; exact (keys_putF f y fs).1
    · refine (keys_putF f y fs).2 g (wi g fun z => hg ?_)
      show (if g = f then some u else mA g) = none
      rw [if_neg q]; exact z

/-- a new instance, tracked, without attributes -/
theorem Inv.made (I : Inv X pins σ H s) : Inv X pins σ (upd (upd H s.heap.objs.size (.own (s.heap.objs.size + 1))) (s.heap.objs.size + 1) (.ins C s.heap.objs.size []))
    { s with heap := (s.heap.push PySem.W.emptyDict).push (PySem.W.instObj C s.heap.objs.size) } := by
  have e1 : (s.heap.push PySem.W.emptyDict).get? s.heap.objs.size = some PySem.W.emptyDict := Heap.get?_push_size s.heap rfl
  have e2 : ((s.heap.push PySem.W.emptyDict).push (PySem.W.instObj C s.heap.objs.size)).get? (s.heap.objs.size + 1) = some (PySem.W.instObj C s.heap.objs.size) := by
    have := Heap.get?_push_size (s.heap.push PySem.W.emptyDict) (o := PySem.W.instObj C s.heap.objs.size) rfl
    rwa [Heap.size_push] at this
  have e3 : (s.heap.push PySem.W.emptyDict).Ns s.heap.objs.size (fun _ => none) := ⟨PySem.W.emptyDict, #[], _, e1, rfl, (fun e he => absurd he (by simp)), fun _ => rfl⟩
  have I1 := I.laid (a := s.heap.objs.size) (o := .own (s.heap.objs.size + 1)) (h' := s.heap.push PySem.W.emptyDict) (t' := s.toks) (fun b u q => Heap.get?_push_of_some _ q) (Nat.le_refl _) ⟨_, e1⟩
  refine I1.laid (a := s.heap.objs.size + 1) (o := .ins C s.heap.objs.size []) (t' := s.toks) (fun b u q => Heap.get?_push_of_some _ q) (Nat.le_of_eq (Heap.size_push _ _)) ?_
  have ne : s.heap.objs.size ≠ s.heap.objs.size + 1 := Nat.ne_of_lt (Nat.lt_succ_self _)
  refine ⟨by rw [upd_ne ne, upd_same], Nat.zero_le _, ne, e2, fun _ => none, (Heap.Ns1.of_empty e3).at fun o q => Heap.get?_push_of_some _ q, fun _ => True.intro, fun y hy => absurd rfl hy⟩

/-- e.f where nothing but the object is asked: through attributeBase (super) and the last hold -/
theorem attr_of {prog : Program} {w : World} {env : Env} {e : Expr} {f : Str} {pos : Pos} {s : Shared} {Q : Value → Shared → Prop} (hb : attributeBase e f env (eval e env) = eval e env)
    (h : wpAny (model prog w) A (eval e env) (fun o s₁ => wpAny (model prog w) A (getAttr o f true) Q E s₁) E s) : wpAny (model prog w) A (eval (.Attribute e f pos) env) Q E s :=
  Attribute_any_ h (by rw [arm_eval_Attribute, hb])
end

/-! ### readings and rules -/
/-- e.f, an attribute of the instance -/
def tFld (K : PySem.W.Frag) (ta : TE) (f : Str) : TE := fun σ H Q => ta σ H fun x H1 => ∃ a C dx fs v, x = .ref a ∧ H1 a = some (.ins C dx fs) ∧ Cls K C ∧ NoAttr K C f ∧ fs.lookup f = some v ∧ Q v H1
/-- e.f, a constant of the class -/
def tCon (K : PySem.W.Frag) (ta : TE) (f : Str) : TE := fun σ H Q => ta σ H fun x H1 => ∃ a C dx fs v u, x = .ref a ∧ H1 a = some (.ins C dx fs) ∧ Cls K C ∧ Con K C f v u ∧ fs.lookup f = none ∧ Q v H1
/-- e.f = value -/
def sFld (K : PySem.W.Frag) (ta tv : TE) (f : Str) : TS := fun D σ H => tv σ H fun y H1 => ta σ H1 fun x H2 => ∃ a C dx fs, x = .ref a ∧ H2 a = some (.ins C dx fs) ∧ Cls K C ∧ NoAttr K C f ∧ fs.length < 1000 ∧
  D.nx σ (upd H2 a (.ins C dx (putF f y fs)))
/-- an augmented operator on two values -/
def InOp (X : Cx) (op : Operator) (rd : V → V → Hp → VK → Prop) : Prop :=
  ∀ (pins : List (Addr × Obj)) (s : Shared) (σ : St) (H : Hp) (x y : V) (u v : Value) (Q : VK), Inv X pins σ H s → RelV x u → RelV y v → rd x y H Q → wpAny (model X.prog X.w) X.A (inplaceOp op u v) (EP X pins σ Q) X.xe s
/-- e.f op= value -/
def sFldAug (K : PySem.W.Frag) (ta tv : TE) (rd : V → V → Hp → VK → Prop) (f : Str) : TS := fun D σ H => ta σ H fun x H1 => ∃ a C dx fs v, x = .ref a ∧ H1 a = some (.ins C dx fs) ∧ Cls K C ∧ NoAttr K C f ∧ fs.lookup f = some v ∧
  tv σ H1 fun y H2 => rd v y H2 fun z H3 => ∃ dx' fs', H3 a = some (.ins C dx' fs') ∧ fs'.length < 1000 ∧ D.nx σ (upd H3 a (.ins C dx' (putF f z fs')))

section
variable {X : Cx} {o e value : Expr} {f : Str} {pos pos' tpos : Pos} {ta tv : TE}
theorem pe_fld (he : PE X e ta) (hb : attributeBase e f X.env (eval e X.env) = eval e X.env) : PE X (.Attribute e f pos) (tFld X.K ta f) := by
  intro pins s σ H Q I h
  refine attr_of hb (thn (he pins s σ H _ I h) fun u s1 ⟨x, H1, I1, rx, a, C, dx, fs, v, ex, ea, c, n, l, q⟩ => ?_)
  subst ex
  obtain rfl : u = Value.ref a := rx
  exact getattr_ok I1 ea c n l fun u' s2 I2 ru => ⟨v, H1, I2, ru, q⟩
theorem ps_fld (ha : PE X o ta) (hv : PE X value tv) (hs : swapsWith value (some (.Attribute o f pos')) pos.line X.env = pure false) : PS X (.Assign [.Attribute o f pos'] value pos) (sFld X.K ta tv f) := by
  intro pins s σ H D I h
  refine plainObj_wpAny_Assign_Attribute (thn (hv pins s σ H _ I h) fun u s1 ⟨y, H1, I1, ry, q⟩ => thn (ha pins s1 σ H1 _ I1 q) fun ov s2 ⟨x, H2, I2, rx, a, C, dx, fs, ex, ea, c, n, l, q2⟩ => ?_) hs
  subst ex
  obtain rfl : ov = Value.ref a := rx
  exact setattr_ok I2 ea c n l ry fun s3 I3 => ⟨σ, _, I3, q2⟩
def rAdd : V → V → Hp → VK → Prop := fun x y H Q => ∃ i j, x = .int i ∧ y = .int j ∧ Q (.int (i + j)) H
def rSub : V → V → Hp → VK → Prop := fun x y H Q => ∃ i j, x = .int i ∧ y = .int j ∧ Q (.int (i - j)) H
/-- what is between an instance and its method: the tree of a method call -/
theorem methcall_of {pl : Sem Bool} {m : Str} {apos : Pos} {args : List Expr} {pins : List (Addr × Obj)} {s : Shared} {σ : St} {H : Hp} {Q : Value → Shared → Prop} {te : TE} (he : PE X e te) (I : Inv X pins σ H s)
    (h : te σ H fun x H1 => ∃ a C dx fs g, x = .ref a ∧ H1 a = some (.ins C dx fs) ∧ Cls X.K C ∧ Meth X.K C m g ∧ fs.lookup m = none ∧
      ∀ s1, Inv X pins σ H1 s1 → wpAny (model X.prog X.w) X.A (callWith pos (.ref g) [.ref a] (backTo pos (starEach args X.env)) (backToKw pos (keywordEach [] X.env))) Q X.xe s1)
    (ht : eval (.Call (.Attribute e m apos) args [] pos) X.env = (do
      let ov ← eval e X.env
      standAt apos.atName
      let (f, first) ← holding [ov] (getMethod ov m pl)
      callWith pos f first (backTo pos (starEach args X.env)) (backToKw pos (keywordEach [] X.env)))) :
    wpAny (model X.prog X.w) X.A (eval (.Call (.Attribute e m apos) args [] pos) X.env) Q X.xe s := by
  refine PySem.W.methodCall_KW (pl := pl) (thn (he pins s σ H _ I h) fun u s1 ⟨x, H1, I1, rx, a, C, dx, fs, g, ex, ea, c, k, l, q⟩ => ?_) ht
  subst ex
  obtain rfl : u = Value.ref a := rx
  exact getmeth_ok I1 ea c k l (q s1 I1)
end

/-! ### isinstance -/
section
variable {X : Cx} {pins : List (Addr × Obj)} {σ : St} {H : Hp} {s : Shared} {A : Around} {E : Value → Shared → Prop} {Q : Value → Shared → Prop} {c : Value} {b : Bool}
/-- the type of a value, as the fragment's deciders take it; for an instance its class -/
inductive TyOf (K : PySem.W.Frag) (H : Hp) : V → Value → Prop where
  | non : TyOf K H .non (.type "NoneType")
  | bl (x : Bool) : TyOf K H (.bl x) (.type "bool")
  | int (i : Int) : TyOf K H (.int i) (.type "int")
  | str (x : Str) : TyOf K H (.str x) (.type "str")
  | flt (x : UInt64) : TyOf K H (.flt x) (.type "float")
  | lst {a : Addr} {xs : List V} (e : H a = some (.lst xs)) : TyOf K H (.ref a) (.type "list")
  | frz {a : Addr} {o : Obj} {xs : List V} (e : H a = some (.frz o (.lst xs))) : TyOf K H (.ref a) (.type "list")
  | tup {a : Addr} {xs : List V} (e : H a = some (.tup xs)) : TyOf K H (.ref a) (.type "tuple")
  | dK {a : Addr} {kvs : List (Key × V)} (e : H a = some (.dK kvs)) : TyOf K H (.ref a) (.type "dict")
  | dT {a : Addr} {kvs : List (List Key × V)} (e : H a = some (.dT kvs)) : TyOf K H (.ref a) (.type "dict")
  | ins {a C dx : Addr} {fs : List (Str × V)} (e : H a = some (.ins C dx fs)) (cl : Cls K C) (ha : PySem.W.findIn K (.ref C) "__class__" = some (some (.builtin "object.__class__")))
      (hn : PySem.W.specialIn K (.builtin "object.__class__") "__get__" = some (some (.builtin "getset_descriptor.__get__"))) (htk : PySem.W.takesIn K (.builtin "object.__class__") = some true)
      (hm : PySem.W.mroIn K C (.type "object") = some true) : TyOf K H (.ref a) (.ref C)
end
end L2

namespace L2
open PySem PySem.Spec PyProof.Rows

/-! ### room -/
structure Room (k : Nat) (A : Around) : Prop where
  hd : A.handled = none
  dp : A.depth + 3 * k + 5 < recursionLimit
  un : A.units + 16 * k + 200 < cLine
theorem Room.mono {j k : Nat} {A : Around} (r : Room k A) (h : j ≤ k) : Room j A := ⟨r.hd, by have := r.dp; omega, by have := r.un; omega⟩
theorem Room.deeper {k : Nat} {A : Around} (r : Room (k + 1) A) (env : Env) : Room k (A.deeper env) :=
  ⟨r.hd, by have := r.dp; show A.depth + 1 + 3 * k + 5 < _; omega, by have := r.un; show A.units + 3 + 16 * k + 200 < _; omega⟩
theorem make_depth {A : Around} {C : Addr} {us : List Value} {kw : List (Str × Value)} : (A.under (.builtin "type.__call__" ⟨.ref C :: us, kw⟩)).depth = A.depth + 1 := by
  first | rfl | simp [Around.under, Code.weight, Code.isCreation, Code.isGuard, Code.isCaller, Code.frames, Code.isFrame, guardIds]
theorem make_units {A : Around} {C : Addr} {us : List Value} {kw : List (Str × Value)} : (A.under (.builtin "type.__call__" ⟨.ref C :: us, kw⟩)).units = A.units + 1 := by
  first | rfl | simp [Around.under, Code.cUnits, Code.frames, Code.isFrame]
theorem Room.make {k : Nat} {A : Around} (r : Room (k + 1) A) (C : Addr) (us : List Value) (kw : List (Str × Value)) : Room k (A.under (.builtin "type.__call__" ⟨.ref C :: us, kw⟩)) :=
  ⟨r.hd, by have := r.dp; rw [make_depth]; omega, by have := r.un; rw [make_units]; omega⟩
theorem Room.depth {k : Nat} {A : Around} (r : Room k A) : A.depth < recursionLimit := by have := r.dp; omega
theorem Room.units {k : Nat} {A : Around} (r : Room k A) : A.units + 64 < cLine := by have := r.un; omega
/-! ### argument lists and displays -/
def tNil : TA := fun _ H Q => Q [] H
def tCons (ta : TE) (tr : TA) : TA := fun σ H Q => ta σ H fun x H1 => tr σ H1 fun xs H2 => Q (x :: xs) H2
section
variable {X : Cx} {e : Expr} {es : List Expr} {te : TE} {t : TA} {pos : Pos}
theorem pa_nil : PA X [] tNil := fun _ _ _ _ H Q I h => Calls.spliced_nil ⟨[], H, I, .nil, h⟩
theorem pa_cons (ha : PE X e te) (hr : PA X es t) (hs : starEach (e :: es) X.env = (false, eval e X.env) :: starEach es X.env := by rfl) : PA X (e :: es) (tCons te t) := by
  intro pos pins s σ H Q I h
  rw [hs]
  show wpAny _ _ (spliced ((false, eval e X.env) :: backTo pos (starEach es X.env))) _ _ s
  refine Calls.spliced_cons (thn (ha pins s σ H _ I h) fun u s1 ⟨x, H1, I1, r1, q1⟩ => ?_)
  exact thn (hr pos pins s1 σ H1 _ I1 q1) fun us s2 ⟨xs, H2, I2, r2, q2⟩ => ⟨x :: xs, H2, I2, .cons r1 r2, q2⟩

/-- a tuple, a list of written items -/
def tTup (t : TA) : TE := fun σ H Q => t σ H fun xs H1 => xs.length ≤ sizeLine ∧ ∀ p, H1 p = none → Q (.ref p) (upd H1 p (.tup xs))
def tLst (t : TA) : TE := fun σ H Q => t σ H fun xs H1 => xs.length ≤ sizeLine ∧ ∀ p, H1 p = none → Q (.ref p) (upd H1 p (.lst xs))
theorem pe_tup {x1} (h : PA X es t) : PE X (.Tuple es x1 pos) (tTup t) := by
  intro pins s σ H Q I hq
  refine wpAny_Tuple_spliced (thn (h pos pins s σ H _ I hq) fun us s1 ⟨xs, H1, I1, r, z, q⟩ => ⟨by rw [← r.length]; exact z, ?_⟩)
  have hf : H1 s1.heap.objs.size = none := I1.hok.fresh (Nat.le_refl _)
  refine ⟨.ref s1.heap.objs.size, upd H1 s1.heap.objs.size (.tup xs), I1.laid (t' := s1.toks) (fun b u e => Heap.get?_push_of_some _ e) (Nat.le_refl _) ?_, rfl, q _ hf⟩
  exact ⟨z, us, r, ⟨_, Heap.get?_push_size _ rfl, rfl, _, rfl⟩⟩
theorem pe_lst (h : PA X es t) : PE X (.List es pos) (tLst t) := by
  intro pins s σ H Q I hq
  refine wpAny_List_spliced (thn (h pos pins s σ H _ I hq) fun us s1 ⟨xs, H1, I1, r, z, q⟩ => ⟨by rw [← r.length]; exact z, ?_⟩)
  have hf : H1 s1.heap.objs.size = none := I1.hok.fresh (Nat.le_refl _)
  refine ⟨.ref s1.heap.objs.size, upd H1 s1.heap.objs.size (.lst xs), I1.laid (t' := s1.toks) (fun b u e => Heap.get?_push_of_some _ e) (Nat.le_refl _) ?_, rfl, q _ hf⟩
  exact ⟨z, us, 0, r, Heap.get?_push_size _ rfl⟩
end

/-! ### what a def promises -/
/-- a def's promise: the bound arguments in the parameters' order, the heap, the wanted end, the wanted exception -/
abbrev Sp := List V → Hp → VK → XK → Prop
/-- how an exception lies behind a call (file 08 gives it): the callers' frames, abstract heap and state ahead of the call, the wish, the exception, the state -/
abbrev CXT := List Env → Hp → Shared → XK → Value → Shared → Prop

/-- the state at a call -/
structure Env0 (P : Program) (w : World) (K : PySem.W.Frag) (mg : Str → Option Value) (base : Heap) (A : Around) (outer : List Env) (s : Shared) (H : Hp) : Prop where
  frames : A.frames = some outer
  mod : Mod K mg base
  bs : ∀ b o, base.get? b = some o → s.heap.get? b = some o ∧ H b = none
  bsz : base.objs.size ≤ s.heap.objs.size
  funs : s.heap.FunFrames base outer
  frf : ∀ b ∈ frs outer, H b = none
  hok : HOk P w H s.heap
  bare : AllBare s.gens
/-- a call's end -/
def CE (outer : List Env) (P : Program) (w : World) (H : Hp) (s : Shared) (Q : VK) (u : Value) (s' : Shared) : Prop :=
  ∃ v H', s'.os = s.os ∧ AllBare s'.gens ∧ Un (frs outer) [] H H' s.heap s'.heap ∧ HOk P w H' s'.heap ∧ RelV v u ∧ Q v H'
def CR (CX : CXT) (outer : List Env) (P : Program) (w : World) (H : Hp) (s : Shared) (Q : VK) (E : XK) (r : Result) (s' : Shared) : Prop :=
  match r with
  | .ok (.ret u) => CE outer P w H s Q u s'
  | .ok _ => False
  | .error e => CX outer H s E e s'
structure FnOk (P : Program) (w : World) (K : PySem.W.Frag) (mg : Str → Option Value) (base : Heap) (CX : CXT) (k : Nat) (f : Addr) (fd : FuncData) (ps : List Str) (sp : Sp) : Prop where
  len : ∀ vs H Q E, sp vs H Q E → vs.length = ps.length
  run : ∀ (A : Around) (outer : List Env) (s : Shared) (H : Hp) (args : Args) (us : List Value) (vs : List V) (Q : VK) (E : XK), Room k A → Env0 P w K mg base A outer s H → BindsTo s fd args (ps.zip us) → Vals vs us → sp vs H Q E →
    codeAny (model P w) A (.call (.ref f) args) (CR CX outer P w H s Q E) s
theorem Env0.make {P : Program} {w : World} {K : PySem.W.Frag} {mg : Str → Option Value} {base : Heap} {A : Around} {outer : List Env} {s : Shared} {H : Hp} (e : Env0 P w K mg base A outer s H) (C : Addr) (us : List Value) (kw : List (Str × Value)) :
    Env0 P w K mg base (A.under (.builtin "type.__call__" ⟨.ref C :: us, kw⟩)) outer s H := ⟨by first | exact e.frames | (simpa [Around.under, Code.envs, Code.isFrame, pushEnvs] using e.frames), e.mod, e.bs, e.bsz, e.funs, e.frf, e.hok, e.bare⟩
section
variable {X : Cx} {pins : List (Addr × Obj)} {σ : St} {H : Hp} {s s' : Shared}
/-- from a body: what a callee wants -/
theorem Inv.env0 (I : Inv X pins σ H s) : Env0 X.prog X.w X.K X.mg X.base X.A X.stack s H :=
  ⟨I.ok.frames, I.ok.mod, I.bs, Nat.le_trans I.ok.bsz I.sz, I.stack, I.stkFree, I.hok, I.bare⟩
/-- behind a call -/
theorem Inv.after {Q : VK} {u : Value} (I : Inv X pins σ H s) (h : CE X.stack X.prog X.w H s Q u s') : EP X pins σ Q u s' := by
  obtain ⟨v, H', os, bare, un, hok, r, q⟩ := h
  obtain ⟨hh, g, d, t, os'⟩ := s'
  obtain rfl : os' = s.os := os
  exact ⟨v, H', I.call (h' := hh) (g' := g) (d' := d) (t' := t) (ch := []) un hok bare (fun b z => absurd z (by simp)), r, q⟩
end

/-! ### calls -/
/-- f(..): the written arguments, then the defaults dvs; E: what is wanted of an exception -/
def tCall (sp : Sp) (dvs : List V) (E : XK) (t : TA) : TE := fun σ H Q => t σ H fun vs H1 => sp (vs ++ dvs) H1 Q E
/-- o.m(..) of an instance of the class at C -/
def tMeth (C : Addr) (m : Str) (sp : Sp) (dvs : List V) (E : XK) (ta : TE) (t : TA) : TE := fun σ H Q => ta σ H fun x H1 => ∃ a dx fs, x = .ref a ∧ H1 a = some (.ins C dx fs) ∧ fs.lookup m = none ∧
  t σ H1 fun vs H2 => sp (x :: (vs ++ dvs)) H2 Q E
/-- C(..): a new instance and its dict, then __init__ -/
def tMake (C : Addr) (sp : Sp) (dvs : List V) (E : XK) (t : TA) : TE := fun σ H Q => t σ H fun vs H1 => ∀ x dx, H1 x = none → H1 dx = none → dx ≠ x →
  sp (.ref x :: (vs ++ dvs)) (upd (upd H1 dx (.own x)) x (.ins C dx [])) (fun v H2 => v = .non ∧ Q (.ref x) H2) E

/-- how the parameters are bound: us the positional arguments, kw the keywords' values by name, ds the defaults that fill up -/
def Binds (K : PySem.W.Frag) (fd : FuncData) (ps : List Str) (ds : List Value) : Prop :=
  ∀ (s : Shared) (us : List Value), K.In s.heap → (us ++ ds).length = ps.length → BindsTo s fd ⟨us, []⟩ (ps.zip (us ++ ds))
/-- every parameter is given -/
theorem Binds.all {K : PySem.W.Frag} {fd : FuncData} {ps : List Str} (h : ∀ us : List Value, us.length = ps.length → bindArgs fd ⟨us, []⟩ = pure (ps.zip us)) : Binds K fd ps [] := fun s us _ hl => by
  rw [List.append_nil] at hl ⊢
  exact .of_eq (h us hl)

/-- an exception of a callee reaches what this body wants of exceptions -/
def Passes (CX : CXT) (X : Cx) (E : XK) : Prop := ∀ (pins : List (Addr × Obj)) (σ : St) (H : Hp) (s : Shared) (e : Value) (s' : Shared), Inv X pins σ H s → CX X.stack H s E e s' → X.xe e s'

section
variable {X : Cx} {CX : CXT} {k : Nat} {f C : Addr} {fd : FuncData} {ps : List Str} {sp : Sp} {dvs : List V} {ds : List Value} {E : XK} {x m : Str} {p pos apos : Pos} {e o : Expr} {es : List Expr} {ta : TE} {t : TA}

/-- the callee runs -/
theorem run_fn {pins : List (Addr × Obj)} {σ : St} {H : Hp} {s : Shared} {Q : VK} {us : List Value} {vs : List V} (F : FnOk X.prog X.w X.K X.mg X.base CX k f fd ps sp) (hr : Room k X.A) (hb : Binds X.K fd ps ds) (hd : Vals dvs ds) (hx : Passes CX X E)
    (I : Inv X pins σ H s) (r : Vals vs us) (h : sp (vs ++ dvs) H Q E) : wpAny (model X.prog X.w) X.A (call (.ref f) us) (EP X pins σ Q) X.xe s := by
  have r2 : Vals (vs ++ dvs) (us ++ ds) := r.append hd
  have hl : (us ++ ds).length = ps.length := by rw [← r2.length]; exact F.len _ _ _ _ h
  refine wpAny_call (codeAny_mono (F.run X.A X.stack s H ⟨us, []⟩ (us ++ ds) (vs ++ dvs) Q E hr I.env0 (hb s us I.kIn hl) r2 h) fun r s' hq => ?_)
  cases r with
  | error e => exact hx pins σ H s e s' I hq
  | ok fl =>
    cases fl with
    | ret u => exact I.after hq
    | next => exact False.elim hq
    | brk => exact False.elim hq
    | cont => exact False.elim hq

theorem pe_call (F : FnOk X.prog X.w X.K X.mg X.base CX k f fd ps sp) (hr : Room k X.A) (hg : Gl X x) (hm : X.mg x = some (.ref f)) (hk : PySem.W.keepIn X.K (.ref f) = true) (hb : Binds X.K fd ps ds) (hd : Vals dvs ds) (hx : Passes CX X E)
    (ha : PA X (e :: es) t) (hdb : (x == ("__debug__" : Str)) = false := by decide) (he : starEach (e :: es) X.env = (false, eval e X.env) :: starEach es X.env := by rfl) (hpl : (backTo pos (starEach es X.env)).any (·.1) = false := by rfl) :
    PE X (.Call (.Name x p) (e :: es) [] pos) (tCall sp dvs E t) := by
  intro pins s σ H Q I h
  refine wpAny_Call_Name_kw (ld_glob I hg hm ?_ hdb)
  refine PySem.W.callWith_K (h₀ := X.base) I.ok.mod.kin hk (thn (ha pos pins s σ H _ I h) fun us s1 ⟨vs, H1, I1, r, q⟩ => ⟨I1.kIn, ?_⟩) he hpl
  exact run_fn F hr hb hd hx I1 r q
/-- o.m(e, ..) -/
theorem pe_meth {pl : Sem Bool} (he : PE X o ta) (c : Cls X.K C) (hm : Meth X.K C m f) (F : FnOk X.prog X.w X.K X.mg X.base CX k f fd ps sp) (hr : Room k X.A) (hb : Binds X.K fd ps ds) (hd : Vals dvs ds) (hx : Passes CX X E) (ha : PA X (e :: es) t)
    (hst : starEach (e :: es) X.env = (false, eval e X.env) :: starEach es X.env := by rfl) (hpl : (backTo pos (starEach es X.env)).any (·.1) = false := by rfl)
    (ht : eval (.Call (.Attribute o m apos) (e :: es) [] pos) X.env = (do
      let ov ← eval o X.env
      standAt apos.atName
      let (f, first) ← holding [ov] (getMethod ov m pl)
      callWith pos f first (backTo pos (starEach (e :: es) X.env)) (backToKw pos (keywordEach [] X.env))) := by rfl) :
    PE X (.Call (.Attribute o m apos) (e :: es) [] pos) (tMeth C m sp dvs E ta t) := by
  intro pins s σ H Q I h
  refine PySem.W.methodCall_KW (pl := pl) (thn (he pins s σ H _ I h) fun u s1 ⟨x, H1, I1, rx, a, dx, fs, ex, ea, l, q⟩ => ?_) ht
  subst ex
  obtain rfl : u = Value.ref a := rx
  refine getmeth_ok I1 ea c hm l ?_
  refine PySem.W.callWith_K (first := [.ref a]) (h₀ := X.base) I.ok.mod.kin hm.kp (thn (ha pos pins s1 σ H1 _ I1 q) fun us s2 ⟨vs, H2, I2, r, q2⟩ => ⟨I2.kIn, ?_⟩) hst hpl
  exact run_fn (us := .ref a :: us) (vs := .ref a :: vs) F hr hb hd hx I2 (.cons rfl r) q2
/-- o.m() -/
theorem pe_meth0 {pl : Sem Bool} (he : PE X o ta) (c : Cls X.K C) (hm : Meth X.K C m f) (F : FnOk X.prog X.w X.K X.mg X.base CX k f fd ps sp) (hr : Room k X.A) (hb : Binds X.K fd ps ds) (hd : Vals dvs ds) (hx : Passes CX X E)
    (ht : eval (.Call (.Attribute o m apos) [] [] pos) X.env = (do
      let ov ← eval o X.env
      standAt apos.atName
      let (f, first) ← holding [ov] (getMethod ov m pl)
      callWith pos f first (backTo pos (starEach [] X.env)) (backToKw pos (keywordEach [] X.env))) := by rfl) :
    PE X (.Call (.Attribute o m apos) [] [] pos) (tMeth C m sp dvs E ta tNil) := by
  intro pins s σ H Q I h
  refine PySem.W.methodCall_KW (pl := pl) (thn (he pins s σ H _ I h) fun u s1 ⟨x, H1, I1, rx, a, dx, fs, ex, ea, l, q⟩ => ?_) ht
  subst ex
  obtain rfl : u = Value.ref a := rx
  refine getmeth_ok I1 ea c hm l ?_
  exact PySem.W.callWith_K0 (first := [.ref a]) I1.kIn hm.kp (run_fn (us := [.ref a]) (vs := [.ref a]) F hr hb hd hx I1 (.cons rfl .nil) q)

/-- what a class must have to be made -/
structure Mk (K : PySem.W.Frag) (C f : Addr) : Prop where
  makes : PySem.W.makesIn K C = true
  init : PySem.W.findIn K (.ref C) "__init__" = some (some (.ref f))
  fn : PySem.W.isFn K (.ref f) = true
  kp : PySem.W.keepIn K (.ref C) = true

theorem run_make {pins : List (Addr × Obj)} {σ : St} {H : Hp} {s : Shared} {Q : VK} {us : List Value} {vs : List V} (M : Mk X.K C f) (F : FnOk X.prog X.w X.K X.mg X.base CX k f fd ps sp) (hr : Room (k + 1) X.A) (hb : Binds X.K fd ps ds) (hd : Vals dvs ds)
    (hx : Passes CX X E) (I : Inv X pins σ H s) (r : Vals vs us)
    (h : ∀ x dx, H x = none → H dx = none → dx ≠ x → sp (.ref x :: (vs ++ dvs)) (upd (upd H dx (.own x)) x (.ins C dx [])) (fun v H2 => v = .non ∧ Q (.ref x) H2) E) :
    wpAny (model X.prog X.w) X.A (call (.ref C) us) (EP X pins σ Q) X.xe s := by
  have hq := h (s.heap.objs.size + 1) s.heap.objs.size (I.hok.fresh (Nat.le_succ _)) (I.hok.fresh (Nat.le_refl _)) (Nat.ne_of_lt (Nat.lt_succ_self _))
  have I2 := Inv.made (C := C) I
  have r2 : Vals (V.ref (s.heap.objs.size + 1) :: (vs ++ dvs)) (Value.ref (s.heap.objs.size + 1) :: (us ++ ds)) := .cons rfl (r.append hd)
  have hl : (Value.ref (s.heap.objs.size + 1) :: us ++ ds).length = ps.length := by
    have e := r2.length
    rw [F.len _ _ _ _ hq] at e
    exact e.symm
  refine wpAny_call (make_map (f := f) I.kIn M.makes M.init (beq_iff_eq.mp M.fn) (codeAny_mono (F.run _ X.stack _ _ ⟨Value.ref (s.heap.objs.size + 1) :: us, []⟩ (Value.ref (s.heap.objs.size + 1) :: (us ++ ds)) _ _ E (hr.make C us [])
    (I2.env0.make C us []) (hb _ (Value.ref (s.heap.objs.size + 1) :: us) I2.kIn hl) r2 hq) fun r s' hq' => ?_))
  cases r with
  | error e => exact hx pins σ _ _ e s' I2 hq'
  | ok fl =>
    cases fl with
    | ret u =>
      obtain ⟨v, H', I3, rv, ev, q3⟩ := I2.after hq'
      subst ev
      exact ⟨rv, ⟨V.ref (s.heap.objs.size + 1), H', I3, rfl, q3⟩⟩
    | next => exact False.elim hq'
    | brk => exact False.elim hq'
    | cont => exact False.elim hq'
theorem pe_make (M : Mk X.K C f) (F : FnOk X.prog X.w X.K X.mg X.base CX k f fd ps sp) (hr : Room (k + 1) X.A) (hg : Gl X x) (hm : X.mg x = some (.ref C)) (hb : Binds X.K fd ps ds) (hd : Vals dvs ds) (hx : Passes CX X E)
    (ha : PA X (e :: es) t) (hdb : (x == ("__debug__" : Str)) = false := by decide) (he : starEach (e :: es) X.env = (false, eval e X.env) :: starEach es X.env := by rfl) (hpl : (backTo pos (starEach es X.env)).any (·.1) = false := by rfl) :
    PE X (.Call (.Name x p) (e :: es) [] pos) (tMake C sp dvs E t) := by
  intro pins s σ H Q I h
  refine wpAny_Call_Name_kw (ld_glob I hg hm ?_ hdb)
  refine PySem.W.callWith_K (h₀ := X.base) I.ok.mod.kin M.kp (thn (ha pos pins s σ H _ I h) fun us s1 ⟨vs, H1, I1, r, q⟩ => ⟨I1.kIn, ?_⟩) he hpl
  exact run_make M F hr hb hd hx I1 r q
end

/-! ### keywords -/
/-- the values of the keywords, from the left -/
def PK (X : Cx) (kws : List Keyword) (t : TA) : Prop :=
  ∀ (pos : Pos) (pins : List (Addr × Obj)) (s : Shared) (σ : St) (H : Hp) (Q : List V → Hp → Prop), Inv X pins σ H s → t σ H Q → wpAny (model X.prog X.w) X.A (evalAll ((backToKw pos (keywordEach kws X.env)).map (·.2))) (AP X pins σ Q) X.xe s
section
variable {X : Cx} {CX : CXT} {k : Nat} {f C : Addr} {fd : FuncData} {ps ks : List Str} {sp : Sp} {E : XK} {x m : Str} {p pos apos kpos : Pos} {e o : Expr} {es : List Expr} {kws : List Keyword} {te ta : TE} {t tk : TA} {nm : Option Str}
/-- how a call with keywords binds: g puts the positional values us and the keywords' values ws (names ks) in the parameters' order, defaults among them -/
structure KBinds (K : PySem.W.Frag) (fd : FuncData) (ps ks : List Str) (g : List Value → List Value → List Value) (gV : List V → List V → List V) : Prop where
  to : ∀ (s : Shared) (us ws : List Value), K.In s.heap → (g us ws).length = ps.length → BindsTo s fd ⟨us, ks.zip ws⟩ (ps.zip (g us ws))
  rel : ∀ {vs : List V} {us : List Value} {zs : List V} {ws : List Value}, Vals vs us → Vals zs ws → Vals (gV vs zs) (g us ws)
def tCallK (sp : Sp) (gV : List V → List V → List V) (E : XK) (t tk : TA) : TE := fun σ H Q => t σ H fun vs H1 => tk σ H1 fun zs H2 => sp (gV vs zs) H2 Q E
variable {g : List Value → List Value → List Value} {gV : List V → List V → List V}
end

/-! ### a def's body keeps its promise -/
/-- names: the parameters first -/
structure FnScope (N P : List Str) (sc : Scope) : Prop where
  kind : sc.kind = .function
  co : sc.isCoroutine = false
  gen : sc.isGenerator = false
  nd : N.Nodup
  pre : N.take P.length = P
  par : ∀ x ∈ P, sc.names.lookup x = some .local ∨ sc.names.lookup x = some .cell
  nofree : ∀ y ∈ sc.names, y.2 ≠ .free

theorem bindL_out {kindOf : Str → Option NameKind} {x : Str} : ∀ {binds : List (Str × Value)} {m : Str → Option Value}, (∀ v, (x, v) ∉ binds) → bindL kindOf binds m x = m x
  | [], _, _ => rfl
  | (n, v) :: r, m, h => by
    unfold bindL
    rw [bindL_out fun w hw => h w (List.mem_cons_of_mem _ hw)]
    split
    · have : x ≠ n := by rintro rfl; exact h v List.mem_cons_self
      simp [this]
    · rfl
theorem bindC_out {kindOf : Str → Option NameKind} {x : Str} : ∀ {binds : List (Str × Value)} {m : Str → Option Value}, (∀ v, (x, v) ∉ binds) → bindC kindOf binds m x = m x
  | [], _, _ => rfl
  | (n, v) :: r, m, h => by
    unfold bindC
    rw [bindC_out fun w hw => h w (List.mem_cons_of_mem _ hw)]
    split
    · rfl
    · have : x ≠ n := by rintro rfl; exact h v List.mem_cons_self
      simp [this]
theorem bindL_get {kindOf : Str → Option NameKind} {x : Str} {v : Value} : ∀ {P : List Str} {vs : List Value} {i : Nat} {m : Str → Option Value}, P.Nodup → P[i]? = some x → vs[i]? = some v → kindOf x = some .local →
    bindL kindOf (P.zip vs) m x = some v
  | [], _, _, _, _, h, _, _ => by simp at h
  | _ :: _, [], _, _, _, _, h, _ => by simp at h
  | p :: P, w :: vs, 0, m, nd, h1, h2, hk => by
    simp at h1 h2; subst h1; subst h2
    show bindL kindOf ((p, w) :: P.zip vs) m p = _
    unfold bindL
    rw [bindL_out fun v hv => (List.nodup_cons.mp nd).1 (List.of_mem_zip hv).1, if_pos hk]
    simp
  | p :: P, w :: vs, i + 1, m, nd, h1, h2, hk => by
    show bindL kindOf ((p, w) :: P.zip vs) m x = _
    unfold bindL
    exact bindL_get (i := i) (List.nodup_cons.mp nd).2 (by simpa using h1) (by simpa using h2) hk
theorem bindC_get {kindOf : Str → Option NameKind} {x : Str} {v : Value} : ∀ {P : List Str} {vs : List Value} {i : Nat} {m : Str → Option Value}, P.Nodup → P[i]? = some x → vs[i]? = some v → kindOf x ≠ some .local →
    bindC kindOf (P.zip vs) m x = some v
  | [], _, _, _, _, h, _, _ => by simp at h
  | _ :: _, [], _, _, _, _, h, _ => by simp at h
  | p :: P, w :: vs, 0, m, nd, h1, h2, hk => by
    simp at h1 h2; subst h1; subst h2
    show bindC kindOf ((p, w) :: P.zip vs) m p = _
    unfold bindC
    rw [bindC_out fun v hv => (List.nodup_cons.mp nd).1 (List.of_mem_zip hv).1, if_neg hk]
    simp
  | p :: P, w :: vs, i + 1, m, nd, h1, h2, hk => by
    show bindC kindOf ((p, w) :: P.zip vs) m x = _
    unfold bindC
    exact bindC_get (i := i) (List.nodup_cons.mp nd).2 (by simpa using h1) (by simpa using h2) hk

/-- the names' values at the entry -/
def start (N : List Str) (vs : List V) : St := vs.map some ++ List.replicate (N.length - vs.length) none

/-- the context of a def's body, at its entry; an exception leaves the frame, then lies as CX says -/
def cxOf (CX : CXT) (P : Program) (w : World) (K : PySem.W.Frag) (mg : Str → Option Value) (base : Heap) (N : List Str) (qual : Str) (scope : Scope) (f : Addr) (cd : Value) (A : Around) (outer : List Env) (s : Shared) (H : Hp) (E : XK) : Cx where
  prog := P
  w := w
  K := K
  mg := mg
  base := base
  A := A.deeper (envOfC qual scope s.heap.objs.size f cd)
  N := N
  s₀ := s
  H₀ := H
  env := envOfC qual scope s.heap.objs.size f cd
  outer := outer
  stack := envOfC qual scope s.heap.objs.size f cd :: outer
  ex := []
  calm := true
  fn := fun _ => true
  pn := []
  xe := fun e s' => wpAny (model P w) (A.deeper (envOfC qual scope s.heap.objs.size f cd)) (leaving (envOfC qual scope s.heap.objs.size f cd) e) (fun _ s'' => CX outer H s E e s'') (fun e' s'' => CX outer H s E e' s'') s'

theorem cell_has {sc : Scope} {n : Nat} {x : Str} (h : sc.names.lookup x = some .cell) : ∃ c, (cellsFrom n sc.names []).lookup x = some c := by
  have q := PySem.W.cellsFrom_some sc.names n [] (.inl h)
  exact Option.isSome_iff_exists.mp q

theorem inv_start {CX : CXT} {P : Program} {w : World} {K : PySem.W.Frag} {mg : Str → Option Value} {base : Heap} {N ps : List Str} {qual : Str} {scope : Scope} {f : Addr} {cd : Value} {A : Around} {outer : List Env} {s s1 : Shared} {H : Hp} {E : XK} {us : List Value} {vs : List V}
    (S : FnScope N ps scope) (hd : A.handled = none) (e0 : Env0 P w K mg base A outer s H) (hl : vs.length = ps.length) (r : Vals vs us)
    (x : InCallC s s.heap.objs.size (bindL (envOfC qual scope s.heap.objs.size f cd).kindOf (ps.zip us) fun _ => none) (cellsFrom (s.heap.objs.size + 1) scope.names []) (bindC (envOfC qual scope s.heap.objs.size f cd).kindOf (ps.zip us) fun _ => none) s1) :
    Inv (cxOf CX P w K mg base N qual scope f cd A outer s H E) [] (start N vs) H s1 := by
  have hpl : ps.length ≤ N.length := by have := congrArg List.length S.pre; rw [List.length_take] at this; omega
  obtain ⟨h1, tk, rfl, hk⟩ := x.done
  have noA : ∀ b : Addr, b ∉ (cxOf CX P w K mg base N qual scope f cd A outer s H E).ex := fun b z => absurd (show b ∈ ([] : List Addr) from z) (by simp)
  refine ⟨⟨e0.mod, S.kind, rfl, rfl, Nat.le_refl _, fun y z c h1 h2 => ?_, fun y hy => ?_, fun y c _ h => ?_, fun _ => hd, Around.frames_deeper e0.frames, .inr ⟨rfl, rfl⟩, fun b z => absurd z (noA b), e0.bs, e0.bsz, fun b _ _ => noA b, fun b z => absurd z (noA b), e0.funs, e0.frf⟩,
    rfl, e0.bare, Un.kept hk, ⟨_, x.toInCall.ns, fun i y v h1 h2 h3 => ?_⟩, fun y c h => ⟨_, x.cell y c h⟩, e0.hok.fresh (Nat.le_refl _), fun y c h => ?_, fun p hp => absurd (show p ∈ ([] : List (Addr × Obj)) from hp) (by simp), e0.hok.kept hk, ?_⟩
  · exact name_of_addr x.apart (PySem.mem_of_lookup h1) (PySem.mem_of_lookup h2)
  · have hy : scope.names.lookup y = some .cell ∨ scope.names.lookup y = some .free := hy
    rcases hy with hy | hy
    · exact cell_has hy
    · exact absurd rfl (S.nofree _ (PySem.mem_of_lookup hy))
  · exact Nat.le_of_lt (x.above y c (PySem.mem_of_lookup h))
  · have hi : i < vs.length := by
      unfold start at h2
      by_cases hi : i < vs.length
      · exact hi
      · rw [List.getElem?_append_right (by simpa using hi)] at h2
        rw [List.getElem?_replicate] at h2
        split at h2 <;> cases h2
    have ha : vs[i]? = some v := by
      unfold start at h2
      rw [List.getElem?_append_left (by simpa using hi), List.getElem?_map] at h2
      cases e : vs[i]? with
      | none => rw [e] at h2; cases h2
      | some a => rw [e] at h2; cases h2; rfl
    obtain ⟨u, hu, rv⟩ := r.get ha
    have hp : ps[i]? = some y := by
      rw [← S.pre, List.getElem?_take_of_lt (by omega)]; exact h1
    have ndP : ps.Nodup := by rw [← S.pre]; exact S.nd.sublist (List.take_sublist _ _)
    refine ⟨u, rv, ?_⟩
    rcases S.par y (List.mem_of_getElem? hp) with k | k
    · exact .inl ⟨k, bindL_get ndP hp hu k⟩
    · obtain ⟨c, e⟩ := cell_has (n := s.heap.objs.size + 1) k
      refine .inr ⟨.inl k, c, e, ?_⟩
      have q := x.cell y c e
      rw [bindC_get ndP hp hu (by show scope.names.lookup y ≠ _; rw [k]; decide)] at q
      exact q
  · exact e0.hok.fresh (Nat.le_of_lt (x.above y c (PySem.mem_of_lookup h)))
  · unfold start
    show _ = N.length
    rw [List.length_append, List.length_map, List.length_replicate]
    omega

/-- THE RULE: a def (or a method) of the text, by its body. The body's reading t is chosen for each entry; it is run at the parameters' values -/
theorem fn_of {CX : CXT} {P : Program} {w : World} {K : PySem.W.Frag} {mg : Str → Option Value} {base : Heap} {k : Nat} {f : Addr} {name qual : Str} {params : Arguments} {body : List Stmt} {scope : Scope} {dV kV doc pm cdv ct oc : Value} {an od : Option Addr}
    {osl : Array (Option Value)} {N ps : List Str} {sp : Sp} (lk : K.lookup f = some ⟨oc, od, .func (PySem.W.fnOf name qual params body scope dV kV doc pm an cdv ct), osl⟩) (hcd : PySem.W.codeIn K cdv qual = true) (S : FnScope N ps scope)
    (len : ∀ vs H Q E, sp vs H Q E → vs.length = ps.length)
    (hbody : ∀ (A : Around) (outer : List Env) (s : Shared) (H : Hp) (vs : List V) (Q : VK) (E : XK), Room k (A.deeper (envOfC qual scope s.heap.objs.size f cdv)) → sp vs H Q E →
      ∃ t, PSs (cxOf CX P w K mg base N qual scope f cdv A outer s H E) body t ∧ t { nx := fun _ H' => Q .non H', rt := Q } (start N vs) H) :
    FnOk P w K mg base CX (k + 1) f (PySem.W.fnOf name qual params body scope dV kV doc pm an cdv ct) ps sp := by
  refine ⟨len, fun A outer s H args us vs Q E hr e0 hb r hsp => ?_⟩
  have hl := len _ _ _ _ hsp
  have KX : K.In s.heap := e0.mod.kin.keeps fun b o e => (e0.bs b o e).1
  have lim : s.heap.NoLimit := e0.mod.nolimit.keeps fun b o e => (e0.bs b o e).1
  have hkind : ∀ y ∈ ps.zip us, scope.names.lookup y.1 = some .local ∨ (scope.names.lookup y.1 = some .cell ∧ ((cellsFrom (s.heap.objs.size + 1) scope.names []).lookup y.1).isSome = true) := fun ⟨n, v⟩ hy => by
    rcases S.par n (List.of_mem_zip hy).1 with q | q
    · exact .inl q
    · exact .inr ⟨q, PySem.W.cellsFrom_some _ _ _ (.inl q)⟩
  refine codeAny_call_function hr.depth (KX _ _ lk) rfl S.co S.gen rfl (PySem.W.codeRec_of KX hcd) (hb _ _ _ _ ?_)
  refine wpAny_newFunctionEnv_cells S.kind hkind fun env he s1 x => ?_
  subst he
  refine ⟨lim.keeps x.toInCall.keep, codeAny_func ?_⟩
  obtain ⟨t, ht, hq⟩ := hbody A outer s H vs Q E (hr.deeper _) hsp
  have I : Inv (cxOf CX P w K mg base N qual scope f cdv A outer s H E) [] (start N vs) H s1 := inv_start S hr.hd e0 hl r x
  refine wpAny_mono (ht [] s1 (start N vs) H _ I hq) (fun fl s' hs => ?_) fun e s' hs => hs
  have fin : ∀ {σ' : St} {H' : Hp} {v : V} {u : Value}, Inv (cxOf CX P w K mg base N qual scope f cdv A outer s H E) [] σ' H' s' → RelV v u → Q v H' → CE outer P w H s Q u s' :=
    fun {σ' H' v u} J rv q => ⟨v, H', J.os, J.bare, J.base, J.hok, rv, q⟩
  cases fl with
  | ret u =>
    obtain ⟨v, σ', H', J, rv, q⟩ := hs
    exact fin J rv q
  | next =>
    obtain ⟨σ', H', J, q⟩ := hs
    exact fin (v := V.non) (u := Value.none) J rfl q
  | brk =>
    obtain ⟨_, _, _, q⟩ := hs
    exact False.elim q
  | cont =>
    obtain ⟨_, _, _, q⟩ := hs
    exact False.elim q
end L2

namespace L2
open PySem PySem.Spec PyProof.Rows
section
variable {X : Cx} {x : Str} {p pos : Pos} {e : Expr} {es : List Expr} {t : TA} {id T : String} {r : List V → Hp → VK → Prop}

def tCB (r : List V → Hp → VK → Prop) (t : TA) : TE := fun σ H Q => t σ H fun vs H1 => r vs H1 Q
/-- f(e, ..), f a built-in function -/
theorem pe_callB (hc : CallR X (.builtin id) r) (hg : Gl X x) (hm : X.mg x = none) (hv : bootBuiltins x = some (.builtin id)) (ha : PA X (e :: es) t) (hn : x ≠ "__name__" := by decide) (hdb : (x == ("__debug__" : Str)) = false := by decide)
    (he : starEach (e :: es) X.env = (false, eval e X.env) :: starEach es X.env := by rfl) (hpl : (backTo pos (starEach es X.env)).any (·.1) = false := by rfl) : PE X (.Call (.Name x p) (e :: es) [] pos) (tCB r t) := by
  intro pins s σ H Q I h
  refine wpAny_Call_Name_kw (ld_blt I hg hm hv ?_ hn hdb)
  exact PyProof.Rows.callWith_builtin1 (thn (ha pos pins s σ H _ I h) fun us s1 ⟨vs, H1, I1, r1, q1⟩ => hc pins s1 σ H1 vs us Q I1 r1 q1) he hpl
/-- T(e, ..), T a built-in type -/
theorem pe_callTy (hc : CallR X (.type T) r) (hg : Gl X x) (hm : X.mg x = none) (hv : bootBuiltins x = some (.type T)) (ha : PA X (e :: es) t) (hn : x ≠ "__name__" := by decide) (hdb : (x == ("__debug__" : Str)) = false := by decide)
    (he : starEach (e :: es) X.env = (false, eval e X.env) :: starEach es X.env := by rfl) (hpl : (backTo pos (starEach es X.env)).any (·.1) = false := by rfl) : PE X (.Call (.Name x p) (e :: es) [] pos) (tCB r t) := by
  intro pins s σ H Q I h
  refine wpAny_Call_Name_kw (ld_blt I hg hm hv ?_ hn hdb)
  exact PyProof.Rows.callWith_type1 (thn (ha pos pins s σ H _ I h) fun us s1 ⟨vs, H1, I1, r1, q1⟩ => hc pins s1 σ H1 vs us Q I1 r1 q1) he hpl
end
end L2

namespace HT
open PySem PyProof.Rows

/-- t < u of tuples of ints -/
def lexLt : List Int → List Int → Bool
  | [], [] => false
  | [], _ :: _ => true
  | _ :: _, [] => false
  | x :: xs, y :: ys => if x = y then lexLt xs ys else decide (x < y)
theorem lexLt_cons (x y : Int) (xs ys : List Int) : lexLt (x :: xs) (y :: ys) = if x = y then lexLt xs ys else decide (x < y) := rfl
section
open PySem.SeqAt
open PySem.AutoSeq1 (wpAny_loadPart')
open PySem.MeetsSeq PySem.MeetsSeq2 PySem.MeetsSeq3

end

section
variable {prog : Program} {w : World} {A : Around} {E : Value → Shared → Prop} {s : Shared}

/-- t + u, t not empty -/
theorem cat_tup {t b : Addr} {vs ws : List Value} {Q : Value → Shared → Prop} (ht : IsTup s.heap t vs.toArray) (hb : IsTup s.heap b ws.toArray) (hv : vs ≠ [])
    (h1 : ws = [] → Q (.ref t) s) (h2 : ws ≠ [] → Q (.ref s.heap.objs.size) { s with heap := s.heap.push { cls := .type "tuple", data := .seq (vs ++ ws).toArray } })
    (hsz : vs.length + ws.length ≤ sizeLine) : wpAny (model prog w) A (binaryOp .Add (.ref t) (.ref b)) Q E s := by
  obtain ⟨⟨cls, dd, data, sl⟩, ho, hc, n, hd⟩ := id ht
  obtain ⟨⟨cls2, dd2, data2, sl2⟩, ho2, hc2, n2, hd2⟩ := id hb
  simp only at hc hd hc2 hd2
  subst hc hd hc2 hd2
  have e : vs.toArray ++ ws.toArray = (vs ++ ws).toArray := by simp
  by_cases hw : ws = []
  · exact concat_meets ⟨_, ho, rfl⟩ ⟨_, ho2, rfl⟩ noFill_tuple_add seq_tuple_add PySem.F.slot_tuple_add PySem.F.entry_tuple_add (PySem.F.args_tuple_add_2 _ _)
      (tuple_addW1 t b vs.toArray ws.toArray n n2 dd dd2 sl sl2 (by simpa using hv) (by simp [hw])) ⟨ho, ho2, h1 hw⟩
  · refine concat_meets ⟨_, ho, rfl⟩ ⟨_, ho2, rfl⟩ noFill_tuple_add seq_tuple_add PySem.F.slot_tuple_add PySem.F.entry_tuple_add (PySem.F.args_tuple_add_2 _ _)
      (tuple_addW2 t b vs.toArray ws.toArray n n2 dd dd2 sl sl2 (by simpa using hv) (by simpa using hw) (by rw [List.size_toArray, List.size_toArray]; exact hsz)) ⟨ho, ho2, ?_⟩
    rw [e]
    exact h2 hw

/-! ### t[a:b], not the whole -/
/-- a slice's bound as a place among n (d where it is left out) -/
def sIx (n d : Nat) : Option Int → Nat
  | none => d
  | some v => if v < 0 then (v + (n : Int)).toNat else min v.toNat n
theorem sIx_nat (n d k : Nat) : sIx n d (some (k : Int)) = min k n := by
  show (if (k : Int) < 0 then ((k : Int) + (n : Int)).toNat else min (k : Int).toNat n) = min k n
  rw [if_neg (by omega), Int.toNat_natCast]
theorem sIx_le (n d : Nat) (hd : d ≤ n) (o : Option Int) : sIx n d o ≤ n := by
  cases o with
  | none => exact hd
  | some v =>
    show (if v < 0 then (v + (n : Int)).toNat else min v.toNat n) ≤ n
    by_cases hv : v < 0
    · rw [if_pos hv]; omega
    · rw [if_neg hv]; exact Nat.min_le_right _ _
theorem clip_eq (v : Int) (n d : Nat) : (if v < 0 then max (v + (n : Int)) 0 else min v (n : Int)) = ((sIx n d (some v) : Nat) : Int) := by
  show (if v < 0 then max (v + (n : Int)) 0 else min v (n : Int)) = (((if v < 0 then (v + (n : Int)).toNat else min v.toNat n) : Nat) : Int)
  by_cases hv : v < 0
  · simp only [if_pos hv]; omega
  · simp only [if_neg hv]; omega
theorem adjust_gen (lo hi : Option Int) (n : Nat) : Builtin.Slice.sliceAdjust lo hi 1 (n : Int) = (((sIx n 0 lo : Nat) : Int), ((sIx n n hi : Nat) : Int)) := by
  have h1 : ¬ ((1 : Int) < 0) := by omega
  unfold Builtin.Slice.sliceAdjust
  simp only [h1, if_false]
  refine Prod.ext ?_ ?_
  · cases lo with
    | none => rfl
    | some v => exact clip_eq v n 0
  · cases hi with
    | none => rfl
    | some v => exact clip_eq v n n
theorem places_gen (i j : Nat) : Builtin.Slice.slicePlaces (i : Int) (j : Int) 1 = j - i := by
  unfold Builtin.Slice.slicePlaces
  have h1 : (1 : Int) > 0 := by omega
  simp only [h1, if_true, Int.ediv_one]
  split <;> omega
theorem slicePart_ {v : Value} {o : Option Int} {Q : Option Int → Shared → Prop} (p : IsPart v o) (h : Q o s) : wpAny (model prog w) A (Builtin.Slice.slicePartIndex v) Q E s := by
  cases p with
  | none => exact slicePart_none h
  | int i t => exact slicePart_int h
theorem sliceApplied_gen {sl : Addr} {vl vu : Value} {lo hi : Option Int} {n : Nat} {Q : Int × Int × Nat → Shared → Prop} (hs : s.heap.IsSliceOf sl vl vu .none) (pl : IsPart vl lo) (pu : IsPart vu hi)
    (h : Q (((sIx n 0 lo : Nat) : Int), 1, sIx n n hi - sIx n 0 lo) s) : wpAny (model prog w) A (Builtin.Slice.sliceApplied (.ref sl) (pure (n : Int))) Q E s := by
  obtain ⟨os, hos, hcs, hds⟩ := id hs
  unfold Builtin.Slice.sliceApplied Builtin.Slice.sliceFields
  refine wpAny_bind (wpAny_bind (wpAny_field hos hds (x := vl) rfl (wpAny_bind (wpAny_field hos hds (x := vu) rfl (wpAny_bind (wpAny_field hos hds (x := .none) rfl (wpAny_pure ?_)))))))
  refine wpAny_bind (slicePart_none ?_)
  show wpAny _ _ (if ((1 : Int) == 0) = true then _ else _) _ _ s
  rw [if_neg (by decide)]
  refine wpAny_bind (slicePart_ pl (wpAny_bind (slicePart_ pu (wpAny_bind (wpAny_pure ?_)))))
  show wpAny _ _ (match Builtin.Slice.sliceAdjust lo hi 1 (n : Int) with | (lo, hi) => pure (lo, (1 : Int), Builtin.Slice.slicePlaces lo hi 1)) _ _ s
  rw [adjust_gen lo hi n]
  show wpAny _ _ (pure (((sIx n 0 lo : Nat) : Int), (1 : Int), Builtin.Slice.slicePlaces ((sIx n 0 lo : Nat) : Int) ((sIx n n hi : Nat) : Int) 1)) _ _ s
  rw [places_gen]
  exact wpAny_pure h
theorem pick_gen (xs : Array Value) (i k : Nat) : ((List.range k).filterMap fun (m : Nat) => xs[((i : Int) + (m : Int) * 1).toNat]?).toArray = ((xs.toList.drop i).take k).toArray := by
  have e : (fun (m : Nat) => xs[((i : Int) + (m : Int) * 1).toNat]?) = fun m => xs[i + m]? := by
    funext m
    have : ((i : Int) + (m : Int) * 1).toNat = i + m := by omega
    rw [this]
  rw [e]
  have := pick_run xs i k
  rw [List.filterMap_map] at this
  have e2 : ((fun x => xs[x]?) ∘ fun x => i + x) = fun m => xs[i + m]? := rfl
  rw [e2] at this
  rw [this]

theorem getItem_tuple_cut {t sl : Addr} {items : Array Value} {vl vu : Value} {lo hi : Option Int} {Q : Value → Shared → Prop} (ht : IsTup s.heap t items) (hs : s.heap.IsSliceOf sl vl vu .none) (pl : IsPart vl lo) (pu : IsPart vu hi)
    (hw : ¬ (sIx items.size 0 lo = 0 ∧ sIx items.size items.size hi = items.size))
    (h : Q (.ref s.heap.objs.size) { s with heap := s.heap.push { cls := .type "tuple", data := .seq ((items.toList.drop (sIx items.size 0 lo)).take (sIx items.size items.size hi - sIx items.size 0 lo)).toArray } })
    (hsz : items.size ≤ sizeLine) : wpAny (model prog w) A (getItem (.ref t) (.ref sl)) Q E s := by
  have htake : sizeOk (.seq ((items.toList.drop (sIx items.size 0 lo)).take (sIx items.size items.size hi - sIx items.size 0 lo)).toArray) := by
    show ((items.toList.drop (sIx items.size 0 lo)).take (sIx items.size items.size hi - sIx items.size 0 lo)).toArray.size ≤ sizeLine
    rw [List.size_toArray, List.length_take, List.length_drop, Array.length_toList]
    omega
  have hj : sIx items.size items.size hi ≤ items.size := sIx_le _ _ (Nat.le_refl _) hi
  obtain ⟨os, hos, hcs, hds⟩ := id hs
  have hTs : s.TypeIs (.ref sl) "slice" := ⟨os, hos, hcs⟩
  unfold getItem
  try with_reducible refine wpAny_holding ?_
  first | refine wpAny_bind (wpAny_pure ?_) | skip
  refine wpAny_bind (wpAny_sequenceKey ht.typeIs (by decide) ?_)
  refine wpAny_bind (wpAny_callSpecial?_slot (name := Str.ofString "__getitem__") ht.typeIs PyProof.Rows.slot_tuple_getitem
    (wpAny_call_entry PyProof.Rows.slot_tuple_getitem ht.typeIs entry_tuple_getitem ?_ (args_tuple_getitem _ _)))
  show wpAny _ _ (Builtin.Tuple.tupleItemsOf (.ref t) >>= _) _ _ s
  refine wpAny_bind (tupleItemsOf_ ht ?_)
  refine wpAny_bind (wpAny_typeOf hTs ?_)
  rw [if_pos (by decide)]
  refine wpAny_bind (sliceApplied_gen hs pl pu ?_)
  have hno : ¬ ((((sIx items.size 0 lo : Nat) : Int) == 0 && (1 : Int) == 1 && (sIx items.size items.size hi - sIx items.size 0 lo) == items.size) = true) := by
    intro q
    rw [Bool.and_eq_true, Bool.and_eq_true] at q
    have q1 : ((sIx items.size 0 lo : Nat) : Int) = 0 := eq_of_beq q.1.1
    have q2 : sIx items.size items.size hi - sIx items.size 0 lo = items.size := eq_of_beq q.2
    exact hw ⟨by omega, by omega⟩
  show wpAny _ _ (if (((sIx items.size 0 lo : Nat) : Int) == 0 && (1 : Int) == 1 && (sIx items.size items.size hi - sIx items.size 0 lo) == items.size) = true then _ else _) _ _ s
  rw [if_neg hno, pick_gen]
  first
    | exact wpAny_bind (m := Builtin.Tuple.tupleExact _) (wpAny_newObj_type (wpAny_pure ⟨_, rfl, wpAny_pure h⟩) htake)
    | exact wpAny_bind (m := Builtin.Tuple.tupleExact _) (wpAny_newObj_type (wpAny_bind (wpAny_pure (wpAny_pure ⟨_, rfl, wpAny_pure h⟩))) htake)
    | exact wpAny_bind (wpAny_bind (m := Builtin.Tuple.tupleExact _) (wpAny_newObj_type (wpAny_pure (wpAny_pure ⟨_, rfl, wpAny_pure h⟩)) htake))
    | exact wpAny_bind (wpAny_bind (m := Builtin.Tuple.tupleExact _) (wpAny_newObj_type (wpAny_pure ⟨_, rfl, wpAny_pure h⟩) htake))
end
end HT

namespace L2
open PySem PySem.Spec PyProof.Rows

/-! ### the parts of a slice -/
abbrev TO := St → Hp → (Option Int → Hp → Prop) → Prop
/-- a slice's part (left out, or an int) -/
def PO (X : Cx) (e : Option Expr) (t : TO) : Prop :=
  ∀ (pins : List (Addr × Obj)) (s : Shared) (σ : St) (H : Hp) (Q : Option Int → Hp → Prop), Inv X pins σ H s → t σ H Q →
    wpAny (model X.prog X.w) X.A (evalPart e X.env) (fun u s' => ∃ o H', Inv X pins σ H' s' ∧ IsPart u o ∧ Q o H') X.xe s
def tNoPart : TO := fun _ H Q => Q none H
def tPart (t : TE) : TO := fun σ H Q => t σ H fun x H1 => ∃ i, x = .int i ∧ Q (some i) H1

theorem intsAre_of {ns : List Int} : ∀ {us : List Value}, Vals (ns.map V.int) us → IntsAre us ns := by
  induction ns with
  | nil => intro us r; rw [List.map_nil] at r; cases r; exact .nil
  | cons n ns ih =>
    intro us r
    rw [List.map_cons] at r
    cases r with
    | cons r1 r2 =>
      obtain ⟨t, e⟩ := r1
      subst e
      exact .cons n t (ih r2)

section
variable {X : Cx} {e : Expr} {te : TE} {lo hi : Option Expr} {tl th : TO} {pos p2 : Pos}

theorem po_none : PO X none tNoPart := by
  intro pins s σ H Q I h
  rw [evalPart_none]
  exact wpAny_pure ⟨none, H, I, .none, h⟩
theorem po_some (h : PE X e te) : PO X (some e) (tPart te) := by
  intro pins s σ H Q I hw
  rw [evalPart_some]
  refine thn (h pins s σ H _ I hw) fun u s1 ⟨x, H1, I1, r1, q1⟩ => ?_
  obtain ⟨i, rfl, q⟩ := q1
  obtain ⟨t, rfl⟩ := r1
  exact ⟨some i, H1, I1, .int i t, q⟩

/-- what a slice of a value is, by values: the slice object stands at sl -/
def SlR (X : Cx) (r : V → Option Int → Option Int → Hp → VK → Prop) : Prop :=
  ∀ (pins : List (Addr × Obj)) (s : Shared) (σ : St) (H : Hp) (x : V) (v vl vu : Value) (lo hi : Option Int) (sl : Addr) (Q : VK), Inv X pins σ H s → RelV x v → s.heap.IsSliceOf sl vl vu .none → IsPart vl lo → IsPart vu hi → r x lo hi H Q →
    ∃ T id, typeLookup (.type T) "__getitem__" = pure (some (.builtin id)) ∧ s.TypeIs v T ∧ wpAny (model X.prog X.w) X.A (getItem v (.ref sl)) (EP X pins σ Q) X.xe s
theorem SlR.or {r r' : V → Option Int → Option Int → Hp → VK → Prop} (h : SlR X r) (h' : SlR X r') : SlR X (fun x lo hi H Q => r x lo hi H Q ∨ r' x lo hi H Q) := by
  intro pins s σ H x v vl vu lo hi sl Q I rx hs pl pu q
  rcases q with q | q
  · exact h pins s σ H x v vl vu lo hi sl Q I rx hs pl pu q
  · exact h' pins s σ H x v vl vu lo hi sl Q I rx hs pl pu q
def tSl (r : V → Option Int → Option Int → Hp → VK → Prop) (te : TE) (tl th : TO) : TE := fun σ H Q => te σ H fun x H1 => tl σ H1 fun l H2 => th σ H2 fun u H3 => r x l u H3 Q
/-- a[lo:hi], any a -/
theorem pe_slice {r : V → Option Int → Option Int → Hp → VK → Prop} (hr : SlR X r) (he : PE X e te) (hl : PO X lo tl) (hu : PO X hi th) : PE X (.Subscript e (.Slice lo hi none p2) pos) (tSl r te tl th) := by
  intro pins s σ H Q I h
  refine Subscript_ (thn (he pins s σ H _ I h) fun v s1 ⟨x, H1, I1, r1, q1⟩ => ?_)
  refine wpAny_Slice (thn (hl pins s1 σ H1 _ I1 q1) fun vl s2 ⟨l, H2, I2, pl, q2⟩ => thn (hu pins s2 σ H2 _ I2 q2) fun vu s3 ⟨u, H3, I3, pu, q3⟩ => ?_)
  rw [evalPart_none]
  refine wpAny_pure ?_
  have I4 : Inv X pins σ H3 { s3 with heap := s3.heap.push { cls := .type "slice", data := .fields #[vl, vu, .none] } } := I3.kept (t' := s3.toks) fun b ob q => Heap.get?_push_of_some _ q
  obtain ⟨T, id, hT, ht, hg⟩ := hr pins { s3 with heap := s3.heap.push { cls := .type "slice", data := .fields #[vl, vu, .none] } } σ H3 x v vl vu l u s3.heap.objs.size Q I4 r1 (Heap.IsSliceOf.new ..) pl pu q3
  show wpAny (model X.prog X.w) X.A (subscriptTail e (.Slice lo hi none p2) v (.ref s3.heap.objs.size)) (EP X pins σ Q) X.xe { s3 with heap := s3.heap.push { cls := .type "slice", data := .fields #[vl, vu, .none] } }
  exact tail_any (ops := [.ref s3.heap.objs.size, v]) ht hT hg (by with_unfolding_all rfl)

/-- the items of xs[lo:hi] -/
def cutV (xs : List V) (lo hi : Option Int) : List V := (xs.drop (HT.sIx xs.length 0 lo)).take (HT.sIx xs.length xs.length hi - HT.sIx xs.length 0 lo)
theorem cutV_length (xs : List V) (lo hi : Option Int) : (cutV xs lo hi).length ≤ xs.length := by
  unfold cutV
  rw [List.length_take, List.length_drop]
  omega
/-- t[lo:hi], not the whole of it (the whole would be t itself) -/
def rSlT (K : PySem.W.Frag) : V → Option Int → Option Int → Hp → VK → Prop := fun x lo hi H Q => ∃ a xs, x = .ref a ∧ SqT K H a xs ∧
  ¬ (HT.sIx xs.length 0 lo = 0 ∧ HT.sIx xs.length xs.length hi = xs.length) ∧ ∀ p, H p = none → Q (.ref p) (upd H p (.tup (cutV xs lo hi)))
theorem sl_tup : SlR X (rSlT X.K) := by
  intro pins s σ H x v vl vu lo hi sl Q I rx hs pl pu h
  obtain ⟨a, xs, rfl, hx, hw, q⟩ := h
  cases rx
  obtain ⟨its, r, ht, hz⟩ := I.tuple hx
  have hlen : its.toArray.size = xs.length := by rw [List.size_toArray]; exact r.length.symm
  refine ⟨"tuple", _, PyProof.Rows.slot_tuple_getitem.lookup, ht.typeIs, ?_⟩
  refine HT.getItem_tuple_cut ht hs pl pu (by rw [hlen]; exact hw) ?_ (by rw [hlen]; exact hz)
  rw [hlen]
  refine ⟨.ref s.heap.objs.size, _, I.laid (t' := s.toks) (o := .tup (cutV xs lo hi)) (fun b ob q => Heap.get?_push_of_some _ q) (Nat.le_refl _) ?_, rfl, q _ (I.hok.fresh (Nat.le_refl _))⟩
  exact ⟨Nat.le_trans (cutV_length xs lo hi) hz, _, (r.drop (HT.sIx xs.length 0 lo)).take (HT.sIx xs.length xs.length hi - HT.sIx xs.length 0 lo), IsTup.new _ _⟩

/-! ### t < u, t + u -/
def rLtT (K : PySem.W.Frag) : R2 := fun x y H Q => ∃ a b ns ms, x = .ref a ∧ y = .ref b ∧ SqT K H a (ns.map V.int) ∧ SqT K H b (ms.map V.int) ∧ Q (.bl (HT.lexLt ns ms)) H
/-- t + u, t not empty: u empty gives t itself -/
def rCatT (K : PySem.W.Frag) : R2 := fun x y H Q => ∃ a b xs ys, x = .ref a ∧ y = .ref b ∧ SqT K H a xs ∧ SqT K H b ys ∧ xs ≠ [] ∧ xs.length + ys.length ≤ sizeLine ∧
  (ys = [] → Q (.ref a) H) ∧ (ys ≠ [] → ∀ p, H p = none → Q (.ref p) (upd H p (.tup (xs ++ ys))))
theorem Vals.nil_iff {xs : List V} {us : List Value} (r : Vals xs us) : us = [] ↔ xs = [] := by
  cases r with
  | nil => simp
  | cons _ _ => simp
end
end L2

namespace L2
open PySem PySem.Spec PyProof.Rows

/-! ### places -/
/-- the place that an index of any sign means -/
def ixN (n : Nat) (i : Int) : Option Nat := if 0 ≤ i then (if i < n then some i.toNat else none) else if -(n : Int) ≤ i then some (i + n).toNat else none
def atI {α : Type} (xs : List α) (i : Int) : Option α := (ixN xs.length i).bind fun j => xs[j]?
theorem ixN_seq {n : Nat} {i : Int} {j : Nat} (h : ixN n i = some j) : seqIndex? i n = some j ∧ j < n ∧ -(n : Int) ≤ i ∧ i < n := by
  unfold ixN at h
  by_cases h0 : 0 ≤ i
  · rw [if_pos h0] at h
    by_cases h1 : i < n
    · rw [if_pos h1] at h
      have e : i.toNat = j := Option.some.inj h
      exact ⟨by rw [seqIndex_of h0 h1, e], by omega, by omega, h1⟩
    · rw [if_neg h1] at h; cases h
  · rw [if_neg h0] at h
    by_cases h1 : -(n : Int) ≤ i
    · rw [if_pos h1] at h
      have e : (i + n).toNat = j := Option.some.inj h
      exact ⟨by rw [seqIndex_neg (by omega) h1, e], by omega, h1, by omega⟩
    · rw [if_neg h1] at h; cases h
theorem atI_get {α : Type} {xs : List α} {i : Int} {v : α} (h : atI xs i = some v) : ∃ j, seqIndex? i xs.length = some j ∧ xs[j]? = some v ∧ j < xs.length ∧ -(xs.length : Int) ≤ i ∧ i < xs.length := by
  unfold atI at h
  cases e : ixN xs.length i with
  | none => rw [e] at h; cases h
  | some j =>
    rw [e] at h
    obtain ⟨h1, h2, h3, h4⟩ := ixN_seq e
    exact ⟨j, h1, h, h2, h3, h4⟩
theorem atI_nat {α : Type} {xs : List α} {j : Nat} {v : α} (h : xs[j]? = some v) : atI xs (j : Int) = some v := by
  have hj : j < xs.length := (List.getElem?_eq_some_iff.mp h).1
  have e : ixN xs.length (j : Int) = some j := by
    unfold ixN
    rw [if_pos (by omega), if_pos (by omega)]; simp
  unfold atI; rw [e]; exact h
/-! ### what may be subscripted -/
/-- what stands as an index of a plain subscript -/
def PlainIx (b : Expr) : Prop := ∀ o i, subscripted b false o i = operate [o, i] (getItem o i)
/-- a subscript by values -/
def IxR (X : Cx) (r : R2) : Prop :=
  ∀ (value slice : Expr) (pins : List (Addr × Obj)) (s : Shared) (σ : St) (H : Hp) (x y : V) (v u : Value) (Q : VK), Inv X pins σ H s → RelV x v → RelV y u → r x y H Q →
    subscripted slice false v u = operate [v, u] (getItem v u) → wpAny (model X.prog X.w) X.A (subscriptTail value slice v u) (EP X pins σ Q) X.xe s
/-- a call of a builtin's method by values: the receiver, the arguments -/
def MtR (X : Cx) (id : String) (r : V → List V → Hp → VK → Prop) : Prop :=
  ∀ (pins : List (Addr × Obj)) (s : Shared) (σ : St) (H : Hp) (x : V) (xs : List V) (v : Value) (us : List Value) (Q : VK), Inv X pins σ H s → RelV x v → Vals xs us → r x xs H Q →
    wpAny (model X.prog X.w) X.A (call (.builtin id) (v :: us)) (EP X pins σ Q) X.xe s
section
variable {X : Cx} {a b : Expr} {ta tb : TE} {pos : Pos}
/-- a[b] -/
theorem pe_ix {r : R2} (hr : IxR X r) (ha : PE X a ta) (hb : PE X b tb) (hs : PlainIx b) : PE X (.Subscript a b pos) (tOp r ta tb) := by
  intro pins s σ H Q I h
  exact Subscript_ (binT ha hb I h fun v u s2 x y H2 I2 rx ry q => hr a b pins s2 σ H2 x y v u Q I2 rx ry q (hs _ _))

def rIxL (K : PySem.W.Frag) : R2 := fun x y H Q => ∃ p xs i v, x = .ref p ∧ y = .int i ∧ SqL K H p xs ∧ atI xs i = some v ∧ Q v H
def rIxT (K : PySem.W.Frag) : R2 := fun x y H Q => ∃ p xs i v, x = .ref p ∧ y = .int i ∧ SqT K H p xs ∧ atI xs i = some v ∧ Q v H
def rIxS : R2 := fun x y H Q => ∃ z i c, x = .str z ∧ y = .int i ∧ z.length ≤ sizeLine ∧ atI z.cps.toList i = some c ∧ Q (.str ⟨#[c]⟩) H
theorem ix_list : IxR X (rIxL X.K) := by
  intro value slice pins s σ H x y v u Q I rx ry h hs
  obtain ⟨p, xs, i, z, rfl, rfl, hq, he, q⟩ := h
  cases rx
  obtain ⟨t, rfl⟩ := ry
  obtain ⟨its, r, pl, hz⟩ := I.list hq
  obtain ⟨j, h1, h2, h3, h4, h5⟩ := atI_get he
  obtain ⟨w, ew, rw'⟩ := r.get h2
  have hl := r.length
  have hn := line63
  have fin : EP X pins σ Q w s := ⟨z, H, I, rw', q⟩
  by_cases h0 : 0 ≤ i
  · have hj : i.toNat = j := by
      rw [seqIndex_of h0 h5] at h1
      exact Option.some.inj h1
    exact item_listR pl.isList h0 (by omega) (by rw [hj]; simpa using ew) fin hs
  · have hj : (i + (its.toArray.size : Int)).toNat = j := by
      rw [seqIndex_neg (by omega) h4] at h1
      rw [List.size_toArray, ← hl]
      exact Option.some.inj h1
    exact subscriptTail_builtinR (x := w) pl.isList.typeIs slot_list_getitem.lookup
      (wpAny_getItem_list_neg (Q := fun r s' => r = w ∧ EP X pins σ Q r s') pl.isList (by omega) (by rw [List.size_toArray] <;> omega) (by omega) (by rw [hj]; simpa using ew) ⟨rfl, fin⟩) hs
theorem ix_tup : IxR X (rIxT X.K) := by
  intro value slice pins s σ H x y v u Q I rx ry h hs
  obtain ⟨p, xs, i, z, rfl, rfl, hq, he, q⟩ := h
  cases rx
  obtain ⟨t, rfl⟩ := ry
  obtain ⟨its, r, pl, hz⟩ := I.tuple hq
  obtain ⟨j, h1, h2, h3, h4, h5⟩ := atI_get he
  obtain ⟨w, ew, rw'⟩ := r.get h2
  have hl := r.length
  have hn := line63
  have fin : EP X pins σ Q w s := ⟨z, H, I, rw', q⟩
  exact subscriptTail_builtinR (x := w) pl.typeIs slot_tuple_getitem.lookup
    (getItem_tuple (j := j) (Q := fun r s' => r = w ∧ EP X pins σ Q r s') pl (by omega) (by omega) (by rw [List.size_toArray, ← hl]; exact h1) (by simpa using ew) ⟨rfl, fin⟩) hs
/-- list, tuple or str -/
def rIx (K : PySem.W.Frag) : R2 := fun x y H Q => rIxL K x y H Q ∨ rIxT K x y H Q ∨ rIxS x y H Q
/-! ### xs[i] = v, any sign -/
def rSetL : V → V → V → Hp → (Hp → Prop) → Prop := fun o i v H Q => ∃ p xs k j, o = .ref p ∧ i = .int k ∧ H p = some (.lst xs) ∧ ixN xs.length k = some j ∧ Q (upd H p (.lst (xs.set j v)))
/-! ### slices -/
theorem slice_bounds (lo hi : Option Int) (n : Nat) : (sliceBounds lo hi none n).1 = ((HT.sIx n 0 lo : Nat) : Int) ∧ (sliceBounds lo hi none n).2.1 = ((HT.sIx n n hi : Nat) : Int) ∧ (sliceBounds lo hi none n).2.2 = 1 := by
  refine ⟨?_, ?_, rfl⟩
  · cases lo with
    | none => simp [sliceBounds, HT.sIx]
    | some i =>
      simp only [sliceBounds, HT.sIx, Option.getD_none, show (1 : Int) > 0 by decide, if_true]
      by_cases h : i < 0
      · simp only [h, if_true] <;> omega
      · simp only [h, if_false] <;> omega
  · cases hi with
    | none => simp [sliceBounds, HT.sIx]
    | some i =>
      simp only [sliceBounds, HT.sIx, Option.getD_none, show (1 : Int) > 0 by decide, if_true]
      by_cases h : i < 0
      · simp only [h, if_true] <;> omega
      · simp only [h, if_false] <;> omega
theorem slicePick_cut (its : List Value) (lo hi : Option Int) : slicePick its.toArray lo hi none = ((its.drop (HT.sIx its.length 0 lo)).take (HT.sIx its.length its.length hi - HT.sIx its.length 0 lo)).toArray := by
  obtain ⟨h1, h2, h3⟩ := slice_bounds lo hi its.toArray.size
  unfold slicePick
  rw [h1, h2, h3]
  simp only [sliceRange_one, pick_run, List.size_toArray] <;> rfl
/-- xs[lo:hi] of a list: a new list -/
def rSlL (K : PySem.W.Frag) : V → Option Int → Option Int → Hp → VK → Prop := fun x lo hi H Q => ∃ a xs, x = .ref a ∧ SqL K H a xs ∧ ∀ p, H p = none → Q (.ref p) (upd H p (.lst (cutV xs lo hi)))
theorem sl_list : SlR X (rSlL X.K) := by
  intro pins s σ H x v vl vu lo hi sl Q I rx hs pl pu h
  obtain ⟨a, xs, rfl, hx, q⟩ := h
  cases rx
  obtain ⟨its, r, ht, hz⟩ := I.list hx
  have hlen := r.length
  refine ⟨"list", _, slot_list_getitem.lookup, ht.isList.typeIs, ?_⟩
  refine wpAny_getItem_list_slice ht.isList hs pl pu .none (by simp) ?_ (by rw [List.size_toArray] <;> omega)
  rw [slicePick_cut, ← hlen]
  refine ⟨.ref s.heap.objs.size, _, I.laid (t' := s.toks) (o := .lst (cutV xs lo hi)) (fun b ob q => Heap.get?_push_of_some _ q) (Nat.le_refl _) ?_, rfl, q _ (I.hok.fresh (Nat.le_refl _))⟩
  exact ⟨Nat.le_trans (cutV_length xs lo hi) hz, _, 0, (r.drop (HT.sIx xs.length 0 lo)).take (HT.sIx xs.length xs.length hi - HT.sIx xs.length 0 lo), Heap.get?_push_size _ rfl⟩

/-! ### in, not in: flat items -/
def flatV : V → Bool
  | .non => true
  | .bl _ => true
  | .int _ => true
  | .str _ => true
  | _ => false
/-- == of flat values -/
def eqV : V → V → Bool
  | .non, .non => true
  | .bl a, .bl b => a == b
  | .bl a, .int b => (if a then 1 else 0) == b
  | .int a, .bl b => a == (if b then 1 else 0)
  | .int a, .int b => a == b
  | .str a, .str b => a == b
  | _, _ => false
theorem eqAt_V {A : Around} {s : Shared} {y x : V} {u v : Value} (ry : RelV y u) (rx : RelV x v) (fy : flatV y = true) (fx : flatV x = true) : SeqAt.EqAt A s u v (eqV y x) := by
  cases y with
  | non =>
    cases ry
    cases x with
    | non => cases rx; exact SeqAt.EqAt.same _
    | bl b => cases rx; exact SeqAt.EqAt.none_bool b
    | int b => obtain ⟨t, rfl⟩ := rx; exact SeqAt.EqAt.none_int b t
    | str b => obtain ⟨t, rfl⟩ := rx; exact SeqAt.EqAt.none_str b t
    | _ => exact absurd (show false = true from fx) Bool.false_ne_true
  | bl a =>
    cases ry
    cases x with
    | non => cases rx; exact SeqAt.EqAt.bool_none a
    | bl b => cases rx; exact SeqAt.EqAt.bool_bool a b
    | int b => obtain ⟨t, rfl⟩ := rx; exact SeqAt.EqAt.bool_int a b t
    | str b => obtain ⟨t, rfl⟩ := rx; exact SeqAt.EqAt.bool_str a b t
    | _ => exact absurd (show false = true from fx) Bool.false_ne_true
  | int a =>
    obtain ⟨t', rfl⟩ := ry
    cases x with
    | non => cases rx; exact SeqAt.EqAt.int_none a t'
    | bl b => cases rx; exact SeqAt.EqAt.int_bool a t' b
    | int b => obtain ⟨t, rfl⟩ := rx; exact SeqAt.EqAt.int_int a t' b t
    | str b => obtain ⟨t, rfl⟩ := rx; exact SeqAt.EqAt.int_str a t' b t
    | _ => exact absurd (show false = true from fx) Bool.false_ne_true
  | str a =>
    obtain ⟨t', rfl⟩ := ry
    cases x with
    | non => cases rx; exact SeqAt.EqAt.str_none a t'
    | bl b => cases rx; exact SeqAt.EqAt.str_bool a t' b
    | int b => obtain ⟨t, rfl⟩ := rx; exact SeqAt.EqAt.str_int a t' b t
    | str b => obtain ⟨t, rfl⟩ := rx; exact SeqAt.EqAt.str_str a t' b t
    | _ => exact absurd (show false = true from fx) Bool.false_ne_true
  | _ => exact absurd (show false = true from fy) Bool.false_ne_true
/-- the items' answers, read off the values (a value's own answer does not lean on its token) -/
def eqU (x : V) (u : Value) : Bool := match u with
  | .none => eqV .non x
  | .bool b => eqV (.bl b) x
  | .int i _ => eqV (.int i) x
  | .str z _ => eqV (.str z) x
  | _ => false
theorem eqU_of {x y : V} {u : Value} (r : RelV y u) (f : flatV y = true) : eqU x u = eqV y x := by
  cases y with
  | non => cases r; rfl
  | bl b => cases r; rfl
  | int i => obtain ⟨t, rfl⟩ := r; rfl
  | str z => obtain ⟨t, rfl⟩ := r; rfl
  | _ => exact absurd (show false = true from f) Bool.false_ne_true
theorem any_eqU {x : V} : ∀ {xs : List V} {us : List Value}, Vals xs us → xs.all flatV = true → us.any (eqU x) = xs.any fun y => eqV y x
  | _, _, .nil, _ => rfl
  | y :: xs, u :: us, .cons r t, f => by
    rw [List.all_cons, Bool.and_eq_true] at f
    rw [List.any_cons, List.any_cons, eqU_of r f.1, any_eqU t f.2]
theorem mem_eqAt {A : Around} {s : Shared} {x : V} {v : Value} (rx : RelV x v) (fx : flatV x = true) : ∀ {xs : List V} {us : List Value}, Vals xs us → xs.all flatV = true → ∀ u ∈ us, SeqAt.EqAt A s u v (eqU x u)
  | _, _, .nil, _ => fun u hu => by cases hu
  | y :: xs, u :: us, .cons r t, f => fun u' hu => by
    rw [List.all_cons, Bool.and_eq_true] at f
    rcases List.mem_cons.mp hu with rfl | hu
    · rw [eqU_of r f.1]; exact eqAt_V r rx f.1 fx
    · exact mem_eqAt rx fx t f.2 u' hu
def inV (x : V) (xs : List V) : Bool := xs.any fun y => eqV y x
/-- x in a list or tuple of flat items -/
def rIn (K : PySem.W.Frag) (neg : Bool) : R2 := fun x y H Q => ∃ p xs, y = .ref p ∧ (SqL K H p xs ∨ SqT K H p xs) ∧ flatV x = true ∧ xs.all flatV = true ∧ Q (.bl (if neg then !inV x xs else inV x xs)) H
theorem op_in_seq : OpR X (compareOp .In) (rIn X.K false) := by
  intro pins s σ H x y v u Q I rx ry h
  obtain ⟨p, xs, rfl, hq, fx, fs, q⟩ := h
  cases ry
  rcases hq with hq | hq
  · obtain ⟨its, r, pl, hz⟩ := I.list hq
    refine SeqAt.in_listAt (eqU x) pl.isList (fun w hw => mem_eqAt rx fx r fs w (by simpa using hw)) ⟨.bl _, H, I, rfl, ?_⟩
    rw [show its.toArray.any (eqU x) = its.any (eqU x) by simp, any_eqU r fs]
    exact q
  · obtain ⟨its, r, pl, hz⟩ := I.tuple hq
    refine SeqAt.in_tupleAt (eqU x) pl (fun w hw => mem_eqAt rx fx r fs w (by simpa using hw)) ⟨.bl _, H, I, rfl, ?_⟩
    rw [show its.toArray.any (eqU x) = its.any (eqU x) by simp, any_eqU r fs]
    exact q
theorem op_notIn_seq : OpR X (compareOp .NotIn) (rIn X.K true) := by
  intro pins s σ H x y v u Q I rx ry h
  obtain ⟨p, xs, rfl, hq, fx, fs, q⟩ := h
  cases ry
  rcases hq with hq | hq
  · obtain ⟨its, r, pl, hz⟩ := I.list hq
    refine SeqAt.notIn_listAt (eqU x) pl.isList (fun w hw => mem_eqAt rx fx r fs w (by simpa using hw)) ⟨.bl _, H, I, rfl, ?_⟩
    rw [show its.toArray.any (eqU x) = its.any (eqU x) by simp, any_eqU r fs]
    exact q
  · obtain ⟨its, r, pl, hz⟩ := I.tuple hq
    refine SeqAt.notIn_tupleAt (eqU x) pl (fun w hw => mem_eqAt rx fx r fs w (by simpa using hw)) ⟨.bl _, H, I, rfl, ?_⟩
    rw [show its.toArray.any (eqU x) = its.any (eqU x) by simp, any_eqU r fs]
    exact q
/-! ### len, list(x), tuple(x) of any list or tuple that is read -/
theorem call_len_seq : CallR X (.builtin "len") (fun xs H Q => ∃ p ys, xs = [.ref p] ∧ (SqL X.K H p ys ∨ SqT X.K H p ys) ∧ Q (.int ys.length) H) := by
  intro pins s σ H xs us Q I r h
  obtain ⟨p, ys, rfl, hq, q⟩ := h
  obtain ⟨u, rfl, rx⟩ := vals1 r
  cases rx
  have hn := line63
  rcases hq with hq | hq
  · obtain ⟨its, r', pl, hz⟩ := I.list hq
    have hlen := r'.length
    exact Calls.call_len_list pl.isList (by simp only [List.size_toArray] <;> omega) ⟨.int ys.length, H, I.tok _, ⟨s.toks + 1, by rw [List.size_toArray, hlen]⟩, q⟩
  · obtain ⟨its, r', pl, hz⟩ := I.tuple hq
    have hlen := r'.length
    exact len_tuple pl (by simp only [List.size_toArray] <;> omega) ⟨.int ys.length, H, I.tok _, ⟨s.toks + 1, by rw [List.size_toArray, hlen]⟩, q⟩
theorem call_list_of : CallR X (.type "list") (fun xs H Q => ∃ p ys, xs = [.ref p] ∧ (SqL X.K H p ys ∨ SqT X.K H p ys) ∧ ∀ l, H l = none → Q (.ref l) (upd H l (.lst ys))) := by
  intro pins s σ H xs us Q I r h
  obtain ⟨p, ys, rfl, hq, q⟩ := h
  obtain ⟨u, rfl, rx⟩ := vals1 r
  cases rx
  have fin : ∀ (its : List Value), Vals ys its → ys.length ≤ sizeLine → ∀ (h' : Heap) (c' : Nat), (∀ b o', s.heap.get? b = some o' → h'.get? b = some o') →
      h'.get? s.heap.objs.size = some { cls := .type "list", dict := none, data := .seq its.toArray c', slots := #[] } → EP X pins σ Q (.ref s.heap.objs.size) { s with heap := h' } := fun its r' hz h' c' kp e =>
    ⟨.ref s.heap.objs.size, _, I.laid (t' := s.toks) kp (Nat.le_refl _) (show ObjOk X.prog X.w _ h' _ (.lst ys) from ⟨hz, its, c', r', e⟩), rfl, q _ (I.hok.fresh (Nat.le_refl _))⟩
  rcases hq with hq | hq
  · obtain ⟨its, r', pl, hz⟩ := I.list hq
    have hlen := r'.length
    obtain ⟨o, ho, hc, n, hd⟩ := pl.isList
    exact call_list_seq p (.inl rfl) ho hc hd (fun h' c' kp e => fin its r' hz h' c' kp e) (by simp only [List.size_toArray] <;> omega)
  · obtain ⟨its, r', pl, hz⟩ := I.tuple hq
    have hlen := r'.length
    obtain ⟨o, ho, hc, n, hd⟩ := pl
    exact call_list_seq p (.inr rfl) ho hc hd (fun h' c' kp e => fin its r' hz h' c' kp e) (by simp only [List.size_toArray] <;> omega)
theorem call_tuple_of : CallR X (.type "tuple") (fun xs H Q => ∃ p ys, xs = [.ref p] ∧ ((SqL X.K H p ys ∧ ∀ l, H l = none → Q (.ref l) (upd H l (.tup ys))) ∨ (SqT X.K H p ys ∧ Q (.ref p) H))) := by
  intro pins s σ H xs us Q I r h
  obtain ⟨p, ys, rfl, h⟩ := h
  obtain ⟨u, rfl, rx⟩ := vals1 r
  cases rx
  rcases h with ⟨hq, q⟩ | ⟨hq, q⟩
  · obtain ⟨its, r', pl, hz⟩ := I.list hq
    have hlen := r'.length
    refine call_tuple_list pl.isList (fun h' kp => ?_) (by simp only [List.size_toArray] <;> omega)
    have I1 : Inv X pins σ H { s with heap := h' } := I.kept (t' := s.toks) kp
    have I2 : Inv X pins σ (upd H h'.objs.size (.tup ys)) { s with heap := h'.push { cls := .type "tuple", data := .seq its.toArray } } :=
      I1.laid (t' := s.toks) (fun b o e => Heap.get?_push_of_some _ e) (Nat.le_refl _) (show ObjOk X.prog X.w _ _ _ (.tup ys) from ⟨hz, its, r', IsTup.new _ _⟩)
    exact ⟨.ref h'.objs.size, _, I2, rfl, q _ (I1.hok.fresh (Nat.le_refl _))⟩
  · obtain ⟨its, r', pl, hz⟩ := I.tuple hq
    exact call_tuple_same pl ⟨.ref p, H, I, rfl, q⟩

/-! ### the call of a builtin's method: o.m(..) -/
/-- the value is of that builtin type -/
def tyV (K : PySem.W.Frag) (T : String) (x : V) (H : Hp) : Prop := match x with
  | .str _ => T = "str"
  | .int _ => T = "int"
  | .ref p => (T = "list" ∧ ∃ xs, SqL K H p xs) ∨ (T = "tuple" ∧ ∃ o, K.lookup p = some o ∧ o.cls = .type "tuple" ∧ o.dict = none) ∨
      (T = "dict" ∧ ((∃ kvs, H p = some (.dK kvs)) ∨ ∃ kvs, H p = some (.dT kvs))) ∨ (T = "set" ∧ ∃ S n, H p = some (.set S n))
  | _ => False
theorem tyV_is {pins : List (Addr × Obj)} {σ : St} {H : Hp} {s : Shared} {T : String} {x : V} {v : Value} (I : Inv X pins σ H s) (r : RelV x v) (ty : tyV X.K T x H) :
    s.TypeIs v T ∧ ∀ a, v = .ref a → ∃ ob, s.heap.get? a = some ob ∧ ob.dict = none := by
  cases x with
  | str z =>
    obtain ⟨t, rfl⟩ := r
    cases (show T = "str" from ty)
    exact ⟨typeIs_str s z t, fun _ e => nomatch e⟩
  | int i =>
    obtain ⟨t, rfl⟩ := r
    cases (show T = "int" from ty)
    exact ⟨typeIs_int s i t, fun _ e => nomatch e⟩
  | ref p =>
    cases r
    rcases ty with ⟨rfl, xs, hq⟩ | ⟨rfl, o, hk, hc, hd⟩ | ⟨rfl, hk⟩ | ⟨rfl, S, n, hk⟩
    · obtain ⟨its, _, pl, _⟩ := I.list hq
      refine ⟨pl.isList.typeIs, fun a e => ?_⟩
      cases e
      obtain ⟨o, n, e, c, hd, _⟩ := pl
      exact ⟨o, e, hd⟩
    · refine ⟨⟨o, I.kIn p o hk, hc⟩, fun a e => ?_⟩
      cases e
      exact ⟨o, I.kIn _ o hk, hd⟩
    · have z : ∃ o, s.heap.get? p = some o ∧ o.ExactDict := by
        rcases hk with ⟨kvs, hk⟩ | ⟨kvs, hk⟩
        · obtain ⟨_, _, _, _, o, _, _, e, ex, _⟩ := I.hok p _ hk
          exact ⟨o, e, ex⟩
        · obtain ⟨_, _, _, _, o, _, _, e, ex, _⟩ := I.hok p _ hk
          exact ⟨o, e, ex⟩
      obtain ⟨o, e, ex⟩ := z
      refine ⟨⟨o, e, ex.1⟩, fun a e2 => ?_⟩
      cases e2
      exact ⟨o, e, ex.2.1⟩
    · obtain ⟨o, _, _, _, e, ex, _⟩ := I.hok p _ hk
      refine ⟨⟨o, e, ex.1⟩, fun a e2 => ?_⟩
      cases e2
      exact ⟨o, e, ex.2.1⟩
  | _ => exact False.elim ty
def tBM0 (K : PySem.W.Frag) (T : String) (r : V → List V → Hp → VK → Prop) (to : TE) : TE := fun σ H Q => to σ H fun x H1 => tyV K T x H1 ∧ r x [] H1 Q
def tBM (K : PySem.W.Frag) (T : String) (r : V → List V → Hp → VK → Prop) (to : TE) (t : TA) : TE := fun σ H Q => to σ H fun x H1 => tyV K T x H1 ∧ t σ H1 fun xs H2 => r x xs H2 Q
variable {o e : Expr} {es : List Expr} {to : TE} {t : TA} {name : Str} {apos cpos : Pos} {T id : String} {r : V → List V → Hp → VK → Prop}
theorem pe_bm (pa : PlainAttrs T) (slot : Slot T name id) (hty : typeOf (.builtin id) = pure (.type "method_descriptor")) (hm : MtR X id r) (ho : PE X o to) (ha : PA X (e :: es) t)
    (hbase : attributeBase o name X.env (eval o X.env) = eval o X.env := by rfl)
    (hfew : ((backTo cpos (starEach (e :: es) X.env)).all (fun x => !x.1) && (backToKw cpos (keywordEach [] X.env)).all (fun x => x.1.isSome)
      && decide ((e :: es).length + ([] : List Keyword).length + (if ([] : List Keyword).isEmpty then 0 else 1) < 30)) = true := by rfl)
    (hline : (apos.endLine == cpos.line) = true := by rfl) (hs : starEach (e :: es) X.env = (false, eval e X.env) :: starEach es X.env := by rfl) (hplain : (backTo cpos (starEach es X.env)).any (·.1) = false := by rfl) :
    PE X (.Call (.Attribute o name apos) (e :: es) [] cpos) (tBM X.K T r to t) := by
  intro pins s σ H Q I h
  refine wpAny_Call_method_late hbase hfew hline rfl (thn (ho pins s σ H _ I h) fun v s1 ⟨x, H1, I1, r1, ty, q1⟩ => ?_)
  obtain ⟨h1, h2⟩ := tyV_is I1 r1 ty
  refine ⟨T, id, pa, slot, hty, h1, h2, ?_⟩
  have hA := ha cpos pins s1 σ H1 _ I1 q1
  rw [hs] at hA ⊢
  refine Calls.callWith_builtin (by show (false || (backTo cpos (starEach es X.env)).any (·.1)) = false; rw [hplain] <;> rfl) (Calls.evalArgs_plain ?_)
  exact thn hA fun us s2 ⟨vs, H2, I2, r2, q2⟩ => hm pins s2 σ H2 x vs v us Q I2 r1 r2 q2
/- xs.append(e), list.index on a module's tuple .. are MtR facts of 06m -/
end
end L2

namespace L2
open PySem PySem.Spec PyProof.Rows

def MtM (X : Cx) (id : String) (r : V → List V → Hp → VK → Prop) : Prop :=
  ∀ (pins : List (Addr × Obj)) (s : Shared) (σ : St) (H : Hp) (x : V) (xs : List V) (v : Value) (us : List Value) (Q : VK), Inv X pins σ H s → RelV x v → Vals xs us → r x xs H Q →
    wpAny (model X.prog X.w) X.A (call (.builtin id) (v :: us)) (EP X pins σ Q) X.xe s

/-! ### lists of values -/
theorem Vals.one : ∀ {x : V} {us : List Value}, Vals [x] us → ∃ u, us = [u] ∧ RelV x u
  | _, _, .cons r .nil => ⟨_, rfl, r⟩
theorem Vals.rep {xs : List V} {us : List Value} (h : Vals xs us) : ∀ k : Nat, Vals (List.replicate k xs).flatten (List.replicate k us).flatten
  | 0 => .nil
  | k + 1 => by
    rw [List.replicate_succ, List.replicate_succ, List.flatten_cons, List.flatten_cons]
    exact Vals.append h (Vals.rep h k)
theorem foldl_rep (its : List Value) : ∀ (k : Nat) (acc : List Value),
    List.foldl (fun x1 x2 => x1 ++ x2) acc.toArray (List.replicate k its.toArray) = (acc ++ (List.replicate k its).flatten).toArray
  | 0, acc => by simp
  | k + 1, acc => by
    have e : acc.toArray ++ its.toArray = (acc ++ its).toArray := by simp
    have e2 : (acc ++ its) ++ (List.replicate k its).flatten = acc ++ (List.replicate (k + 1) its).flatten := by
      rw [List.replicate_succ, List.flatten_cons, List.append_assoc]
    rw [← e2, ← foldl_rep its k (acc ++ its), ← e, List.replicate_succ, List.foldl_cons]

section
variable {X : Cx} {pins : List (Addr × Obj)} {σ : St} {H : Hp} {s : Shared} {l b : Addr} {xs ys zs : List V}

/-! ### the two steps: a tracked list is rewritten, a new list is laid -/
theorem Inv.lset {its its' : List Value} {n : Nat} {f : Array Value → Array Value} {t' : Nat} (I : Inv X pins σ H s) (hH : H l = some (.lst xs))
    (e : s.heap.get? l = some { cls := .type "list", data := .seq its.toArray n }) (hf : f its.toArray = its'.toArray) (hv : Vals ys its') (hz : ys.length ≤ sizeLine) :
    Inv X pins σ (upd H l (.lst ys)) { s with heap := s.heap.update l (Obj.mapSeq f), toks := t' } := by
  have q := PySem.IsL.update e f
  rw [hf] at q
  refine I.write (x := l) (e := l) (by rw [hH]; exact trivial) (.inl rfl) (fun b' u hb hu => (Heap.get?_update_other s.heap (Obj.mapSeq f) (Ne.symm hb)).trans hu) ⟨_, q⟩ ?_
  exact ⟨hz, its', _, hv, q⟩
theorem Inv.lnew {its : List Value} {t' : Nat} (I : Inv X pins σ H s) (hv : Vals ys its) (hz : ys.length ≤ sizeLine) :
    Inv X pins σ (upd H s.heap.objs.size (.lst ys)) { s with heap := s.heap.push { cls := .type "list", data := .seq its.toArray }, toks := t' } :=
  I.laid (fun _ _ q => Heap.get?_push_of_some _ q) (Nat.le_refl _) ⟨hz, its, 0, hv, Heap.get?_push_size _ rfl⟩
theorem Inv.fresh (I : Inv X pins σ H s) : H s.heap.objs.size = none := I.hok.fresh (Nat.le_refl _)
theorem Inv.lstM (I : Inv X pins σ H s) (hH : H l = some (.lst xs)) : xs.length ≤ sizeLine ∧ ∃ (its : List Value) (n : Nat), Vals xs its ∧ xs.length = its.length ∧ s.heap.get? l = some { cls := .type "list", data := .seq its.toArray n } := by
  obtain ⟨z, its, n, r, e⟩ := I.hok l _ hH
  exact ⟨z, its, n, r, r.length, e⟩

theorem notLongL {n : Nat} (h : n ≤ sizeLine) : Builtin.List.listTooLong n = false := by
  unfold Builtin.List.listTooLong
  exact decide_eq_false (by omega)
end

section
variable {X : Cx}

/-! ### methods -/
def rAppend : V → List V → Hp → VK → Prop := fun x vs H Q => ∃ l xs y, x = .ref l ∧ vs = [y] ∧ H l = some (.lst xs) ∧ xs.length < sizeLine ∧ Q .non (upd H l (.lst (xs ++ [y])))
theorem mt_append : MtM X "list.append" rAppend := by
  intro pins s σ H x vs v us Q I rx rv h
  obtain ⟨l, xs, y, rfl, rfl, hH, hz, q⟩ := h
  cases rx
  obtain ⟨u, rfl, ru⟩ := rv.one
  obtain ⟨z, its, n, r, hl, e⟩ := I.lstM hH
  refine call_meets F.slot_list_append ⟨_, e, rfl⟩ F.entry_list_append (F.args_list_append_2 _ _) (PySem.list_append l its.toArray n u (by rw [List.size_toArray]; omega)) ⟨e, ?_⟩
  refine ⟨.non, _, I.lset (its' := its ++ [u]) hH e (by simp) (r.append (.cons ru .nil)) ?_, rfl, q⟩
  rw [List.length_append, List.length_singleton]
  omega

def rExtend : V → List V → Hp → VK → Prop := fun x vs H Q => ∃ l b xs zs, x = .ref l ∧ vs = [.ref b] ∧ H l = some (.lst xs) ∧ H b = some (.lst zs) ∧ xs.length + zs.length ≤ sizeLine ∧ Q .non (upd H l (.lst (xs ++ zs)))
theorem mt_extend : MtM X "list.extend" rExtend := by
  intro pins s σ H x vs v us Q I rx rv h
  obtain ⟨l, b, xs, zs, rfl, rfl, hH, hB, hz, q⟩ := h
  cases rx
  obtain ⟨u, rfl, ru⟩ := rv.one
  cases ru
  obtain ⟨z, its, n, r, hl, e⟩ := I.lstM hH
  obtain ⟨z2, its2, n2, r2, hl2, e2⟩ := I.lstM hB
  have hsz : its.toArray.size + its2.toArray.size ≤ sizeLine := by rw [List.size_toArray, List.size_toArray]; omega
  have hlong : ¬ (!its.toArray.isEmpty && Builtin.List.listTooLong (its.toArray.size + its2.toArray.size)) = true := by
    rw [notLongL hsz, Bool.and_false]
    exact Bool.false_ne_true
  refine call_meets F.slot_list_extend ⟨_, e, rfl⟩ F.entry_list_extend (F.args_list_extend_2 _ _)
    (AutoSeq1.list_extend_list_list_0 l its.toArray n b its2.toArray n2 hlong (by rw [List.size_toArray]; omega) (by omega)) ⟨e, e2, ?_⟩
  refine ⟨.non, _, I.lset (its' := its ++ its2) hH e (by simp) (r.append r2) ?_, rfl, q⟩
  rw [List.length_append]
  omega

def rPop : V → List V → Hp → VK → Prop := fun x vs H Q => ∃ l xs y, x = .ref l ∧ vs = [] ∧ H l = some (.lst xs) ∧ xs[xs.length - 1]? = some y ∧ Q y (upd H l (.lst xs.dropLast))
def rPopAt : V → List V → Hp → VK → Prop := fun x vs H Q => ∃ l xs i k y, x = .ref l ∧ vs = [.int i] ∧ H l = some (.lst xs) ∧ -(2 ^ 63) ≤ i ∧ i < 2 ^ 63 ∧ seqIndex? i xs.length = some k ∧ xs[k]? = some y ∧ Q y (upd H l (.lst (xs.eraseIdx k)))
def rReverse : V → List V → Hp → VK → Prop := fun x vs H Q => ∃ l xs, x = .ref l ∧ vs = [] ∧ H l = some (.lst xs) ∧ Q .non (upd H l (.lst xs.reverse))
def rClear : V → List V → Hp → VK → Prop := fun x vs H Q => ∃ l xs, x = .ref l ∧ vs = [] ∧ H l = some (.lst xs) ∧ Q .non (upd H l (.lst []))
/-! ### list + list, list += list, list * int -/
def rCat : R2 := fun x y H Q => ∃ l b xs zs, x = .ref l ∧ y = .ref b ∧ H l = some (.lst xs) ∧ H b = some (.lst zs) ∧ xs.length + zs.length ≤ sizeLine ∧ ∀ p, H p = none → Q (.ref p) (upd H p (.lst (xs ++ zs)))
theorem op_cat : OpR X (binaryOp .Add) rCat := by
  intro pins s σ H x y v u Q I rx ry h
  obtain ⟨l, b, xs, zs, rfl, rfl, hH, hB, hz, q⟩ := h
  cases rx
  cases ry
  obtain ⟨z, its, n, r, hl, e⟩ := I.lstM hH
  obtain ⟨z2, its2, n2, r2, hl2, e2⟩ := I.lstM hB
  refine PySem.P.add_list e e2 ?_ (by rw [List.size_toArray, List.size_toArray]; omega)
  have ea : its.toArray ++ its2.toArray = (its ++ its2).toArray := by simp
  rw [ea]
  exact ⟨.ref _, _, I.lnew (t' := s.toks) (r.append r2) (by rw [List.length_append]; omega), rfl, q _ I.fresh⟩
/-- a list times an int (a negative one is nothing) -/
def rRep : R2 := fun x y H Q => ∃ l k xs, x = .ref l ∧ y = .int k ∧ H l = some (.lst xs) ∧ -(2 ^ 63) ≤ k ∧ k < 2 ^ 63 ∧ xs.length * k.toNat ≤ sizeLine ∧
  ∀ p, H p = none → Q (.ref p) (upd H p (.lst (List.replicate k.toNat xs).flatten))
theorem len_rep {α : Type} (xs : List α) (k : Nat) : (List.replicate k xs).flatten.length = k * xs.length := by
  induction k with
  | zero => simp
  | succ k ih => rw [List.replicate_succ, List.flatten_cons, List.length_append, ih, Nat.succ_mul, Nat.add_comm]
theorem op_rep : OpR X (binaryOp .Mult) rRep := by
  intro pins s σ H x y v u Q I rx ry h
  obtain ⟨l, k, xs, rfl, rfl, hH, h1, h2, hz, q⟩ := h
  cases rx
  obtain ⟨t, rfl⟩ := ry
  obtain ⟨z, its, n, r, hl, e⟩ := I.lstM hH
  have hlen : its.toArray.size * k.toNat ≤ sizeLine := by rw [List.size_toArray, ← hl]; exact hz
  have hcap : ¬ its.toArray.size * k.toNat > (2 ^ 63 - 1) / 8 := by
    have : (sizeLine : Nat) ≤ (2 ^ 63 - 1) / 8 := by decide
    omega
  have hfit : ¬ (!Builtin.List.listFitsIndex k) = true := by
    rw [fitsIndex_both h1 h2]
    exact Bool.false_ne_true
  have hlong : ¬ Builtin.List.listTooLong (its.toArray.size * k.toNat) = true := by
    rw [notLongL hlen]
    exact Bool.false_ne_true
  have hnew : List.foldl (fun x1 x2 => x1 ++ x2) #[] (List.replicate (if its.toArray.isEmpty = true then 0 else k.toNat) its.toArray) = (List.replicate k.toNat its).flatten.toArray := by
    have f0 : ∀ m : Nat, List.foldl (fun x1 x2 => x1 ++ x2) #[] (List.replicate m its.toArray) = (List.replicate m its).flatten.toArray := fun m => by
      have := foldl_rep its m []
      rw [List.nil_append] at this
      exact this
    rw [f0]
    cases its with
    | nil => simp
    | cons a r' => rw [if_neg (by simp)]
  refine wpAny_binaryOp_repeat_ref (T := "list") (U := "int") (by decide) ⟨_, e, rfl⟩ (fun s' => typeIs_int s' k t) noFill_list_mul F.fills_int_mul F.slot_int_rmul repeat_list F.slot_int_index.lookup
    (call_meets F.slot_int_rmul (typeIs_int s k t) F.entry_int_rmul (F.args_int_rmul_2 _ _) (int___rmul___int_list k t l its.toArray n)
      ⟨e, rfl, ⟨_, e, rfl⟩, call_meets F.slot_list_mul ⟨_, e, rfl⟩ F.entry_list_mul (F.args_list_mul_2 _ _) (AutoListH.list___mul___list_int_3 l its.toArray n k t hfit hcap hlong) ⟨e, ?_⟩⟩)
  rw [hnew]
  exact ⟨.ref _, _, I.lnew (t' := s.toks) (r.rep k.toNat) (by rw [len_rep, Nat.mul_comm]; exact hz), rfl, q _ I.fresh⟩

/-! ### del xs[i] -/
end

/-! ### xs[a:b] = ys -/
section
variable {prog : Program} {w : World} {A : Around} {E : Value → Shared → Prop} {s : Shared}
set_option maxRecDepth 100000 in
end

section
variable {X : Cx}
end
end L2

namespace Att
open PySem PySem.W PySem.Calls PyProof.Rows

/-! ### the script -/
theorem ints_of_wellAll {P : Params} {h : Heap} : ∀ (ns : List Int) (vs : List Value), WellAll P h vs (ns.map WData.int) → IntsAre vs ns := by
  intro ns
  induction ns with
  | nil =>
    intro vs w
    rw [List.map_nil] at w
    cases w
    exact .nil
  | cons n ns ih =>
    intro vs w
    rw [List.map_cons] at w
    cases w with
    | cons a b =>
      cases a
      exact .cons _ _ (ih _ b)

theorem script_of {l : OpenLaw} {n : Nat} (hn : l.most = some n) {P : Params} {h : Heap} {args : List WData} {vals : List Value}
    (hpre : l.row.toRowW.claim.pre args = true) (hwl : WellAll P h vals args) :
    ∃ a vs ns, vals = [Value.ref a] ∧ args = [WData.list (ns.map WData.int)] ∧ h.get? a = some { cls := .type "list", data := .seq vs.toArray } ∧ IntsAre vs ns ∧ ns.length ≤ n := by
  have hsh : WShape.hasAll [] args [.list .int] = true := (pre_splitW hpre).1
  have hc : l.pre.holds [] { args := args } = true := (pre_splitW hpre).2
  obtain ⟨d, r, rfl, h1, h2⟩ := hasAllW_cons hsh
  obtain rfl := hasAllW_nil h2
  obtain ⟨xs, rfl, h3⟩ := hasW_list h1
  obtain ⟨ns, rfl⟩ := items_int h3
  have hlen : ns.length ≤ n := by
    unfold OpenLaw.pre at hc
    have h4 : (WTm.not (.lt (.lit (.int (n : Int))) (.len (.arg 0)))).holds [] { args := [.list (ns.map .int)] } = true := by
      have h4 := (holds_andW hc).1
      rw [hn] at h4
      exact h4
    have h5 := condW_of h4 (w_not (w_lt w_lit (w_len_list (w_arg rfl))))
    rw [List.length_map] at h5
    refine Nat.le_of_not_lt fun q => ?_
    have q' : (n : Int) < ((ns.length : Nat) : Int) := by omega
    first
      | (rw [decide_eq_true q'] at h5; exact absurd h5 (by decide))
      | (simp at h5; omega)
  cases hwl with
  | cons w1 w2 =>
    cases w2
    cases w1 with
    | list ho hall => exact ⟨_, _, ns, rfl, rfl, ho, ints_of_wellAll ns _ hall, hlen⟩

theorem post_true (l : OpenLaw) (args : List WData) : l.row.toRowW.claim.post args (.bool true) args = true :=
  postW_of (r := l.row.toRowW) (X := (true == true))
    (show WShape.has [] (.bool true) .bool = true by first | rfl | decide | simp [WShape.has, WShape.arms, WShape.armsAll])
    (show (WTm.eq .res (.lit (.bool true))).value [] { args := args, res := some (.bool true), after := args } = some (.bool (true == true)) from w_eq_bool (w_res rfl) w_lit) rfl

/-! ### the attachment: holds_open's last premise (the goal 'hc' behind k_head) from a wpAny of the law's body -/
/-- the same from a codeAny of the CALL (for a layer whose function contracts speak of calls) -/
theorem attach_call {l : OpenLaw} {n : Nat} {q : Program} {loose : List Str} {XP : (Str → Option Value) → Heap → Prop} {YP : World → Heap → Prop} {d : DefRec}
    (hn : l.most = some n) (hdf : d.params.defaults = [])
    (call : ∀ (w : World) (s₀ s₁ : Shared) (mg mb : Str → Option Value) (fa : Addr) (o : Obj) (pm cd doc : Value) (a : Addr) (vs : List Value) (ns : List Int),
      Ground q loose [] XP w s₀ mg mb s₁.heap → YP w s₁.heap →
      s₁.heap.get? fa = some o → o.data = .func (docDef d.name d.params d.body d.scope pm cd doc) → s₁.heap.CodeRec cd d.name → mg d.name = some (.ref fa) →
      s₁.heap.get? a = some { cls := .type "list", data := .seq vs.toArray } → IntsAre vs ns → ns.length ≤ n → s₁.gens = #[] →
      codeAny (model l.prog w) callerA (.call (.ref fa) ⟨[.ref a], []⟩) (fun r s' => r = .ok (.ret (.bool true)) ∧ OldK s₁.heap s'.heap ∧ s'.os = s₁.os ∧ AllBare s'.gens) s₁) :
    WalkO q loose XP YP l.row.toRowW d [] (fun f vs => PySem.call f vs) := by
  intro w s₀ s₁ mg mb G Y fa o pm cd doc dV kV ho hd hcd hD hmg hg args vals as hpre hlay hrd hwl hlo
  obtain rfl : dV = .none := Dflts.none hD hdf
  obtain rfl : kV = .none := Dflts.noKw hD
  obtain ⟨a, vs, ns, rfl, rfl, hobj, hints, hlen⟩ := script_of hn hpre hwl
  refine enter_call (codeAny_mono (call w s₀ s₁ mg mb fa o pm cd doc a vs ns G Y ho (fd_plain hd) hcd hmg hobj hints hlen hg) fun r s' hq => ?_)
  obtain ⟨rfl, h2, h3, h4⟩ := hq
  exact ⟨.inl ⟨.bool true, .bool true, [], rfl, fun _ => rfl, .bool true, post_true l _, fun _ => ⟨List.Pairwise.nil, fun _ hm => (nomatch hm)⟩⟩, h2, h3, h4⟩

/-! ### rules over ANY heap (no ledger) from facts about the written part K: the library's own take a ledger (News) for what they write -/
section
variable {prog : Program} {w : World} {A : Around} {E : Value → Shared → Prop} {s : Shared} {K : Frag}

/-! the whole heap as the ledger: makes every rule that writes through a ledger a rule over any heap -/
def noObjs (h : Heap) : Heap := { h with objs := #[] }
def ledger (h : Heap) (L d : Addr) : List (Addr × Obj) := (List.range h.objs.size).filterMap fun a => if a = L ∨ a = d then none else (h.get? a).map fun o => (a, o)
end
end Att

namespace L2
open PySem PySem.Spec PyProof.Rows

theorem vals_ints : ∀ {vs : List Value} {ns : List Int}, IntsAre vs ns → Vals (ns.map V.int) vs
  | _, _, .nil => .nil
  | _, _, .cons n t h => .cons ⟨t, rfl⟩ (vals_ints h)

/-- nothing is tracked but the script, known to the object (or it is an object of the module) -/
def Only (H : Hp) : Prop := ∀ b, H b = none ∨ ∃ o xs, H b = some (.frz o (.lst xs))

/-- THE HEAD: the law's promise, at the heap behind the top. F, the promise of the law's def, may use that base is part of the heap (so K.In base, base.Ns mainGlobals mg stand in Mod) -/
theorem law_call {P : Program} {w : World} {K : PySem.W.Frag} {mg mb : Str → Option Value} {CX : CXT} {k : Nat} {fa a : Addr} {fd : FuncData} {x : Str} {sp : Sp} {s₁ : Shared} {vs : List Value} {ns : List Int}
    (KX : K.In s₁.heap) (hns : s₁.heap.Ns mainGlobals mg) (hb : s₁.heap.Ns builtinsNs mb) (hbb : ∀ x : Str, x ≠ "__name__" → mb x = bootBuiltins x) (hlim : s₁.heap.NoLimit) (hg : s₁.gens = #[])
    (ha : s₁.heap.get? a = some { cls := .type "list", data := .seq vs.toArray }) (hi : IntsAre vs ns) (hl : ns.length ≤ sizeLine) (hr : Room k callerA)
    (F : ∀ base : Heap, K.In base → base.Ns mainGlobals mg → FnOk P w K mg base CX k fa fd [x] sp) (hbind : ∀ (s : Shared) (u : Value), BindsTo s fd ⟨[u], []⟩ [(x, u)])
    (hsp : ∀ H : Hp, Only H → SqL K H a (ns.map V.int) → sp [.ref a] H (fun v _ => v = .bl true) fun _ _ _ => False)
    (hCX : ∀ H e s', CX [] H s₁ (fun _ _ _ => False) e s' → False) :
    codeAny (model P w) callerA (.call (.ref fa) ⟨[.ref a], []⟩) (fun r s' => r = .ok (.ret (.bool true)) ∧ OldK s₁.heap s'.heap ∧ s'.os = s₁.os ∧ AllBare s'.gens) s₁ := by
  have rv := vals_ints hi
  have lenV := hi.length
  -- from an abstract heap in which nothing but the script may be tracked
  have core : ∀ H : Hp, Only H → SqL K H a (ns.map V.int) → HOk P w H s₁.heap → (∀ b, H b ≠ none → b = a) → (H a ≠ none → K.lookup a = none) →
      codeAny (model P w) callerA (.call (.ref fa) ⟨[.ref a], []⟩) (fun r s' => r = .ok (.ret (.bool true)) ∧ OldK s₁.heap s'.heap ∧ s'.os = s₁.os ∧ AllBare s'.gens) s₁ := by
    intro H hO hS hok hA hK
    have base_of : ∀ {b : Addr} {o : Obj}, s₁.heap.get? b = some o → H b = none → (hidT s₁.heap H).get? b = some o := fun e n => hidT_get e n
    have noA : ∀ {b : Addr} {o : Obj} {es : Array DictEntry} {ep : Nat}, s₁.heap.get? b = some o → o.data = .dict es ep → H b = none := fun {b o es ep} e d => by
      cases q : H b with
      | none => rfl
      | some u =>
        have e' : b = a := hA b (by rw [q]; simp)
        subst e'
        rw [ha] at e; cases e
        have d' : Data.seq vs.toArray _ = Data.dict es ep := d
        cases d'
    have nsK : ∀ {b : Addr} {m : Str → Option Value}, s₁.heap.Ns b m → (hidT s₁.heap H).Ns b m := fun {b m} ⟨o, es, ep, e, d, r⟩ => ⟨o, es, ep, base_of e (noA e d), d, r⟩
    have hKb : K.In (hidT s₁.heap H) := fun b o e => base_of (KX b o e) (by
      cases q : H b with
      | none => rfl
      | some u =>
        have e' : b = a := hA b (by rw [q]; simp)
        subst e'
        rw [hK (by rw [q]; simp)] at e; cases e)
    have hM : Mod K mg (hidT s₁.heap H) := ⟨hKb, nsK hns, ⟨mb, nsK hb, hbb⟩, let ⟨mc, h1, h2⟩ := hlim; ⟨mc, nsK h1, h2⟩⟩
    have e0 : Env0 P w K mg (hidT s₁.heap H) callerA [] s₁ H := ⟨rfl, hM, fun b o e => of_hidT e, Nat.le_of_eq (hidT_size _ _), trivial, fun b hb => absurd (show b ∈ ([] : List Addr) from hb) (by simp), hok, .of_eq hg⟩
    refine codeAny_mono ((F _ hKb (nsK hns)).run callerA [] s₁ H ⟨[.ref a], []⟩ [.ref a] [.ref a] _ _ hr e0 (hbind s₁ (.ref a)) (.cons rfl .nil) (hsp H hO hS)) fun r s' h => ?_
    cases r with
    | error e => exact (hCX H e s' h).elim
    | ok fl =>
      cases fl with
      | next => exact False.elim h
      | brk => exact False.elim h
      | cont => exact False.elim h
      | ret u =>
        obtain ⟨v, H', os, bare, un, hok', r', q⟩ := h
        have q' : v = .bl true := q
        subst q'
        obtain rfl : u = Value.bool true := r'
        refine ⟨rfl, OldK.of_keep fun b o e => ?_, os, bare⟩
        cases q : H b with
        | none => exact un.keep b o e q (by intro z; exact absurd (show b ∈ ([] : List Addr) from z) (by simp)) (by simp)
        | some u =>
          rcases hO b with z | ⟨ob, xs, z⟩
          · rw [q] at z; cases z
          · have z2 := un.frzs b ob _ z
            obtain ⟨e1, _⟩ := hok b _ z
            obtain ⟨e2, _⟩ := hok' b _ z2
            rw [e] at e1; cases e1
            exact e2
  cases hk : K.lookup a with
  | some o =>
    -- the script is one of the module's own objects
    have e := KX a o hk
    rw [ha] at e
    cases e
    refine core (fun _ => none) (fun _ => .inl rfl) (.inr ⟨_, vs.toArray, _, hk, rfl, rfl, rfl, by rw [List.size_toArray, lenV]; exact hl, by simpa using rv⟩) (fun b u z => by have z' : (none : Option HO) = some u := z; cases z') (fun b z => absurd rfl z) fun z => absurd rfl z
  | none =>
    refine core (fun b => if b = a then some (.frz { cls := .type "list", data := .seq vs.toArray } (.lst (ns.map V.int))) else none) (fun b => ?_) (.inl (.inr ⟨{ cls := .type "list", data := .seq vs.toArray }, if_pos rfl⟩)) (fun b u z => ?_) (fun b z => ?_) fun _ => hk
    · by_cases hb : b = a
      · exact .inr ⟨_, _, if_pos hb⟩
      · exact .inl (if_neg hb)
    · by_cases hb : b = a
      · have z' := (if_pos hb).symm.trans z
        cases z'
        subst hb
        exact ⟨ha, by rw [List.length_map]; exact hl, vs, _, rv, ha⟩
      · have z' := (if_neg hb).symm.trans z
        cases z'
    · by_cases hb : b = a
      · exact hb
      · exact absurd (if_neg hb) z
end L2

namespace L2
open PySem PySem.Spec PyProof.Rows

abbrev KOf {K : PySem.W.Frag} {h : Heap} (_ : K.In h) : PySem.W.Frag := K

/-- the goal that k_head leaves (case hc), from the law's promise. F gives the function object fd (K's own) once, then the promise over every base -/
theorem walk_of {l : PySem.W.OpenLaw} {n k : Nat} {q : Program} {loose : List Str} {XP : (Str → Option Value) → Heap → Prop} {YP : World → Heap → Prop} {d : DefRec} {K : Params → PySem.W.Frag} {CX : World → CXT} {sp : World → Sp} {x : Str}
    (hn : l.most = some n) (hn2 : n ≤ sizeLine) (hdf : d.params.defaults = []) (hr : Room k callerA)
    (hY : ∀ (w : World) (h : Heap), YP w h → (K w.params).In h)
    (F : ∀ (w : World) (mg : Str → Option Value) (fa : Addr) (h : Heap), (K w.params).In h → h.Ns mainGlobals mg → mg d.name = some (.ref fa) →
      ∃ fd : FuncData, (∀ (s : Shared) (u : Value), BindsTo s fd ⟨[u], []⟩ [(x, u)]) ∧
        ∀ base : Heap, (K w.params).In base → base.Ns mainGlobals mg → FnOk l.prog w (K w.params) mg base (CX w) k fa fd [x] (sp w))
    (hsp : ∀ (w : World) (H : Hp) (a : Addr) (ns : List Int), ns.length ≤ n → Only H → SqL (K w.params) H a (ns.map V.int) → sp w [.ref a] H (fun v _ => v = .bl true) fun _ _ _ => False)
    (hCX : ∀ (w : World) (H : Hp) (s : Shared) (e : Value) (s' : Shared), CX w [] H s (fun _ _ _ => False) e s' → False) :
    PySem.W.WalkO q loose XP YP l.row.toRowW d [] (fun f vs => PySem.call f vs) := by
  refine Att.attach_call hn hdf fun w s₀ s₁ mg mb fa o pm cd doc a vs ns G Y ho hd hcd hmg hobj hints hlen hg => ?_
  have KX := hY w _ Y
  obtain ⟨fd, hb, hF⟩ := F w mg fa _ KX G.T.g hmg
  exact law_call KX G.T.g G.T.b G.T.builtins G.T.nolimit hg hobj hints (Nat.le_trans hlen hn2) hr hF hb (fun H hO hS => hsp w H a ns hlen hO hS) fun H e s' => hCX w H s₁ e s'
end L2

/- THE LAST THEOREM (shape; LID, My.* are yours):
   My.Adr: a structure of the addresses that your layer names (classes, functions); My.Txt K t: a structure (Prop) of the equations over K;
   My.txt_mk : {K} {implicit addresses ..} (e1 : nsIn K mainGlobals "law" = some (some (.ref f))) (e2 : K.lookup f = some ⟨oc, od, .func (fnOf "law" "law" params body scope dV kV doc pm an cdv ct), sl⟩) (e3 : codeIn K cdv "law" = true) .. : ∃ t, My.Txt K t

set_option maxRecDepth 100000 in
set_option maxHeartbeats 0 in
theorem PySem.Challenge.cw_LID_holds : PySem.Challenge.rw_LID.Holds := by
  w_on; o_law; k_head; (case hw => w_witness2)
  k_fill
  refine L2.walk_of (l := PySem.Challenge.rw_LID) (n := 63) (k := 40) (x := "script") (CX := fun w => ..) (sp := fun _ => My.sp_law) rfl (by decide) rfl ⟨rfl, by decide, by decide⟩ (fun w h Y => PySem.W.kIn_of Y) ?F ?S ?C
  case F =>
    intro w mg fa h KX G hmg
    have T : ∃ t, My.Txt (L2.KOf KX) t := by
      dsimp only [L2.KOf]                          -- K must stand as «<heap const> w.params» for k_is
      refine' My.txt_mk ?e1 ?e2 ?e3 ..
      (case e1 => PySem.W.k_is)                    -- in the order: a name -> its address -> its object -> its parts
      (case e2 => PySem.W.k_is)
      ..
    obtain ⟨t, T⟩ := T
    have e0 := hmg.symm.trans (PySem.W.mg_of KX G T.law)
    cases e0                                       -- fa is the law's own address
    exact ⟨_, fun s u => .of_eq rfl, fun base kb nb => My.law_fn T kb nb⟩     -- if «.of_eq rfl» comes too early: refine' ⟨_, ?b, fun base kb nb => My.law_fn T kb nb⟩; exact fun s u => .of_eq rfl
  case S => exact fun w H a ns hl hO hS => ..
  case C => exact ..
(the tactic k_is has no namespace: write k_is) -/

/-! SHORT WORDS over the layer: a def of the text, its body, what a loop and a test want. -/
namespace L2
open PySem PySem.Spec PyProof.Rows

/-! ### the text by places -/
/-- the j-th statement of a class's body -/
def inClass (s : Stmt) (j : Nat) : Stmt := match s with
  | .ClassDef _ _ _ body _ _ _ _ _ _ _ => body.getD j (.Pass ⟨0, 0, 0, 0⟩)
  | _ => .Pass ⟨0, 0, 0, 0⟩
def defArgs (s : Stmt) : Arguments := match s with
  | .FunctionDef _ a _ _ _ _ _ _ _ _ => a
  | _ => { posonlyargs := [], args := [], vararg := none, kwonlyargs := [], kw_defaults := [], kwarg := none, defaults := [] }
def defBody (s : Stmt) : List Stmt := match s with
  | .FunctionDef _ _ b _ _ _ _ _ _ _ => b
  | _ => []
def defScope (s : Stmt) : Scope := match s with
  | .FunctionDef _ _ _ _ _ _ sc _ _ _ => sc
  | _ => { kind := .function, names := [], isGenerator := false, isCoroutine := false }

/-! ### no exception leaves a def -/
abbrev CX0 : CXT := fun _ _ _ _ _ _ => False
abbrev E0 : XK := fun _ _ _ => False
theorem pass0 {X : Cx} : Passes CX0 X E0 := fun _ _ _ _ _ _ _ h => h.elim

/-! ### a def (or method) of the text as it stands behind the top -/
structure Fun (K : PySem.W.Frag) (x qual : Str) (st : Stmt) (f : Addr) (fd : FuncData) : Prop where
  ex : ∃ (oc : Value) (od : Option Addr) (kV doc pm : Value) (an : Option Addr) (cdv ct : Value) (osl : Array (Option Value)),
    fd = PySem.W.fnOf x qual (defArgs st) (defBody st) (defScope st) .none kV doc pm an cdv ct ∧ K.lookup f = some ⟨oc, od, .func fd, osl⟩ ∧ PySem.W.codeIn K cdv qual = true
  kp : PySem.W.keepIn K (.ref f) = true
section
variable {P : Program} {w : World} {K : PySem.W.Frag} {mg : Str → Option Value} {base : Heap}
/-- THE RULE for a def: its body as a term of rules, and the reading of that term -/
theorem Fun.ok {x qual : Str} {st : Stmt} {f : Addr} {fd : FuncData} {N ps : List Str} {k : Nat} {sp : Sp} (F : Fun K x qual st f fd) (S : FnScope N ps (defScope st)) (len : ∀ vs H Q E, sp vs H Q E → vs.length = ps.length)
    (hbody : ∀ (cdv : Value) (A : Around) (outer : List Env) (s : Shared) (H : Hp) (vs : List V) (Q : VK) (E : XK), Room k (A.deeper (envOfC qual (defScope st) s.heap.objs.size f cdv)) → sp vs H Q E →
      ∃ t, PSs (cxOf CX0 P w K mg base N qual (defScope st) f cdv A outer s H E).nox (defBody st) t ∧ t { nx := fun _ H' => Q .non H', rt := Q } (start N vs) H) : FnOk P w K mg base CX0 (k + 1) f fd ps sp := by
  obtain ⟨oc, od, kV, doc, pm, an, cdv, ct, osl, rfl, lk, hcd⟩ := F.ex
  refine fn_of lk hcd S len fun A outer s H vs Q E hr hsp => ?_
  obtain ⟨t, h, q⟩ := hbody cdv A outer s H vs Q E hr hsp
  exact ⟨t, h.nox, q⟩
/-- how its arguments bind (no defaults): h is «fun _ _ _ _ _ _ us hl => match us, hl with | [_, _], _ => rfl», one _ a parameter -/
theorem Fun.binds {x qual : Str} {st : Stmt} {f : Addr} {fd : FuncData} {ps : List Str} (F : Fun K x qual st f fd)
    (h : ∀ (kV doc pm : Value) (an : Option Addr) (cdv ct : Value) (us : List Value), us.length = ps.length → bindArgs (PySem.W.fnOf x qual (defArgs st) (defBody st) (defScope st) .none kV doc pm an cdv ct) ⟨us, []⟩ = pure (ps.zip us)) : Binds K fd ps [] := by
  obtain ⟨oc, od, kV, doc, pm, an, cdv, ct, osl, rfl, lk, hcd⟩ := F.ex
  exact .all (h kV doc pm an cdv ct)
theorem fun_mk {x qual : Str} {st : Stmt} {f : Addr} {oc : Value} {od an : Option Addr} {osl : Array (Option Value)} {kV doc pm cdv ct : Value} (l : K.lookup f = some ⟨oc, od, .func (PySem.W.fnOf x qual (defArgs st) (defBody st) (defScope st) .none kV doc pm an cdv ct), osl⟩)
    (c : PySem.W.codeIn K cdv qual = true) (k : PySem.W.keepIn K (.ref f) = true) : Fun K x qual st f (PySem.W.fnOf x qual (defArgs st) (defBody st) (defScope st) .none kV doc pm an cdv ct) := ⟨⟨oc, od, kV, doc, pm, an, cdv, ct, osl, rfl, l, c⟩, k⟩
end
/-! ### expressions in short: the name that stands in the i-th slot -/
section
variable {X : Cx}
theorem pv (i : Nat) {x : Str} {pos : Pos} (hN : X.N[i]? = some x := by rfl) (hv : Vis X.env.scope x := by first | exact Or.inl rfl | exact Or.inr (Or.inl rfl) | exact Or.inr (Or.inr rfl)) (hd : (x == ("__debug__" : Str)) = false := by decide)
    (hcd : (x == ("__classdict__" : Str)) = false := by decide) : PE X (.Name x pos) (tVar i) := pe_var hN hv hd hcd
end

/-! ### tests -/
theorem iteF {A B : Prop} (h : B) : if false = true then A else B := by
  rw [if_neg Bool.false_ne_true]
  exact h
theorem iteT {A B : Prop} (h : A) : if true = true then A else B := by
  rw [if_pos rfl]
  exact h
theorem ite2 {c A B : Prop} [Decidable c] (h1 : c → A) (h2 : ¬ c → B) : if c then A else B := by
  by_cases h : c
  · rw [if_pos h]
    exact h1 h
  · rw [if_neg h]
    exact h2 h
/-! ### heaps -/
/-- all that was tracked is as it was -/
def Same (H H' : Hp) : Prop := ∀ b o, H b = some o → H' b = some o
theorem Same.refl (H : Hp) : Same H H := fun _ _ h => h
theorem Same.trans {H H1 H2 : Hp} (a : Same H H1) (b : Same H1 H2) : Same H H2 := fun c o h => b c o (a c o h)
theorem Same.free {H H' : Hp} (e : Same H H') {l : Addr} (h : H' l = Option.none) : H l = Option.none := by
  cases q : H l with
  | none => rfl
  | some o =>
    rw [e l o q] at h
    cases h
theorem Same.seq {K : PySem.W.Frag} {H H' : Hp} {a : Addr} {xs : List V} (e : Same H H') (h : SqL K H a xs) : SqL K H' a xs := by
  rcases h with (h | ⟨o, h⟩) | h
  · exact .inl (.inl (e _ _ h))
  · exact .inl (.inr ⟨o, e _ _ h⟩)
  · exact .inr h

end L2

set_option Elab.async false
set_option linter.all false
set_option maxRecDepth 100000
set_option maxHeartbeats 4000000
/-! THE COMPREHENSION, over the layer -/
namespace L2
open PySem PySem.Spec PyProof.Rows

/-! ### names of a comprehension's scope -/
theorem lookup_relab {c : Str → NameKind → Bool} : ∀ (names : List (Str × NameKind)) (x : Str),
    (names.map fun (n, k) => if c n k then (n, NameKind.cell) else (n, k)).lookup x = (names.lookup x).map fun k => if c x k then NameKind.cell else k
  | [], _ => rfl
  | (n, k) :: r, x => by
    have ih := lookup_relab (c := c) r x
    show List.lookup x ((if c n k = true then (n, NameKind.cell) else (n, k)) :: _) = _
    cases hx : x == n with
    | true =>
      have e : x = n := eq_of_beq hx
      subst e
      by_cases hc : c x k = true
      · rw [if_pos hc]; simp [List.lookup_cons, hc]
      · rw [if_neg hc]; simp [List.lookup_cons, hc]
    | false =>
      by_cases hc : c n k = true
      · rw [if_pos hc]; simp only [List.lookup_cons, hx]; exact ih
      · rw [if_neg hc]; simp only [List.lookup_cons, hx]; exact ih
theorem kindOf_comp (scope : Scope) (cl : List (Str × Addr)) (C : Addr) (env : Env) (x : Str) :
    (compEnvC scope cl C env).kindOf x = (scope.names.lookup x).map fun k => if (k == .free && env.scope.kind == .function && env.kindOf x == some .cell) then NameKind.cell else k :=
  lookup_relab (c := fun n k => (k == .free && env.scope.kind == .function && env.kindOf n == some .cell)) scope.names x
theorem kindOf_comp_free {scope : Scope} {cl : List (Str × Addr)} {C : Addr} {env : Env} {x : Str} (h : scope.names.lookup x = some .free) : (compEnvC scope cl C env).kindOf x = some .cell ∨ (compEnvC scope cl C env).kindOf x = some .free := by
  rw [kindOf_comp, h]
  show some (if _ then _ else _) = _ ∨ some (if _ then _ else _) = _
  split
  · exact .inl rfl
  · exact .inr rfl
theorem kindOf_comp_inv {scope : Scope} {cl : List (Str × Addr)} {C : Addr} {env : Env} {x : Str} (nc : ∀ y ∈ scope.names, y.2 ≠ .cell) (h : (compEnvC scope cl C env).kindOf x = some .cell ∨ (compEnvC scope cl C env).kindOf x = some .free) : scope.names.lookup x = some .free := by
  rw [kindOf_comp] at h
  cases e : scope.names.lookup x with
  | none => rw [e] at h; rcases h with h | h <;> cases h
  | some k =>
    rw [e] at h
    have hm := nc _ (PySem.mem_of_lookup e)
    cases k with
    | free => rfl
    | cell => exact absurd rfl hm
    | _ => rcases h with h | h <;> cases h

theorem closureFor_ok {scope : Scope} {env : Env} (h : ∀ y ∈ scope.names, y.2 = .free → ∃ c, env.cells.lookup y.1 = some c) :
    ∃ cl, closureFor scope env = pure cl ∧ (∀ x c, cl.lookup x = some c → env.cells.lookup x = some c) ∧ (∀ x, (x, NameKind.free) ∈ scope.names → ∃ c, cl.lookup x = some c) := by
  have go : ∀ (l : List (Str × NameKind)) (acc : List (Str × Addr)), (∀ y ∈ l, y.2 = .free → ∃ c, env.cells.lookup y.1 = some c) → (∀ x c, acc.lookup x = some c → env.cells.lookup x = some c) →
      ∃ cl, (forIn l acc (fun (x : Str × NameKind) (r : List (Str × Addr)) => if (x.2 == NameKind.free) = true then (do let a ← cellOf env x.1; pure (ForInStep.yield ((x.1, a) :: r))) else pure (ForInStep.yield r)) : Sem (List (Str × Addr))) = pure cl ∧
        (∀ x c, cl.lookup x = some c → env.cells.lookup x = some c) ∧ (∀ x, (acc.lookup x).isSome = true ∨ (x, NameKind.free) ∈ l → ∃ c, cl.lookup x = some c) := by
    intro l
    induction l with
    | nil => exact fun acc _ ha => ⟨acc, rfl, ha, fun x hx => by
        rcases hx with hx | hx
        · exact Option.isSome_iff_exists.mp hx
        · cases hx⟩
    | cons y l ih =>
      intro acc hl ha
      obtain ⟨n, k⟩ := y
      by_cases hk : k = .free
      · subst hk
        obtain ⟨c, hc⟩ := hl (n, .free) List.mem_cons_self rfl
        obtain ⟨cl, e1, e2, e3⟩ := ih ((n, c) :: acc) (fun y hy => hl y (List.mem_cons_of_mem _ hy)) (fun x d hd => by
          rw [List.lookup_cons] at hd
          cases q : x == n with
          | true => rw [q] at hd; cases hd; rw [eq_of_beq q]; exact hc
          | false => rw [q] at hd; exact ha x d hd)
        refine ⟨cl, ?_, e2, fun x hx => e3 x ?_⟩
        · rw [List.forIn_cons]
          have ec : cellOf env n = pure c := by unfold cellOf; rw [hc]
          show ((if (NameKind.free == NameKind.free) = true then (do let a ← cellOf env n; pure (ForInStep.yield ((n, a) :: acc))) else pure (ForInStep.yield acc)) >>= _) = _
          rw [if_pos (by decide), ec, pure_bind, pure_bind]
          exact e1
        · rcases hx with hx | hx
          · refine .inl ?_
            rw [List.lookup_cons]
            cases q : x == n with
            | true => rfl
            | false => exact hx
          · rcases List.mem_cons.mp hx with hx | hx
            · cases hx
              exact .inl (by rw [List.lookup_cons, beq_self_eq_true]; rfl)
            · exact .inr hx
      · obtain ⟨cl, e1, e2, e3⟩ := ih acc (fun y hy => hl y (List.mem_cons_of_mem _ hy)) ha
        refine ⟨cl, ?_, e2, fun x hx => e3 x ?_⟩
        · rw [List.forIn_cons]
          show ((if (k == NameKind.free) = true then (do let a ← cellOf env n; pure (ForInStep.yield ((n, a) :: acc))) else pure (ForInStep.yield acc)) >>= _) = _
          rw [if_neg (by simpa using hk), pure_bind]
          exact e1
        · rcases hx with hx | hx
          · exact .inl hx
          · rcases List.mem_cons.mp hx with hx | hx
            · cases hx; exact absurd rfl hk
            · exact .inr hx
  obtain ⟨cl, e1, e2, e3⟩ := go scope.names [] h (fun x c hx => by cases hx)
  refine ⟨cl, ?_, e2, fun x hx => e3 x (.inr hx)⟩
  rw [← e1]
  simp only [closureFor, bind_pure]

/-! ### the loop -/
theorem compLoop_gen {prog : Program} {w : World} {A : Around} {R : Result → Shared → Prop} {s : Shared} {elt target iter : Expr} {ifs : List Expr} {scope : Scope} {pos : Pos} {it acc : Value} {env : Env} (I : Nat → Shared → Prop)
    (turn : ∀ n s, I n s → wpAny (model prog w) A (pyNext it) (fun r s₁ => match r with
      | none => R (.ok .next) s₁
      | some v => wpAny (model prog w) A (letOwnedTupleGo target it v) (fun _ s₁' => wpAny (model prog w) A (assign target env v) (fun _ s₂ =>
          wpAny (model prog w) A (forIn ifs true fun c r => if r = true then do let ok ← isTrue c env (eval c env); pure (ForInStep.yield ok) else pure (ForInStep.yield r)) (fun ok s₃ =>
            if ok = true then wpAny (model prog w) A (eval elt env) (fun x s₄ =>
              wpAny (model prog w) A (call (.builtin "list.append") [acc, x]) (fun _ s₅ => ∃ m, m < n ∧ I m s₅) (fun _ _ => False) s₄) (fun _ _ => False) s₃
            else ∃ m, m < n ∧ I m s₃) (fun _ _ => False) s₂) (fun _ _ => False) s₁') (fun _ _ => False) s₁) (fun _ _ => False) s)
    (n : Nat) (h : I n s) :
    codeAny (model prog w) A (.compLoop (.ListComp elt [⟨target, iter, ifs, 0⟩] scope pos) 0 it acc env) R s := by
  refine codeAny_loop rfl I (fun n s hI => ?_) n h
  show wpAny _ A ((compTurn (.ListComp elt [⟨target, iter, ifs, 0⟩] scope pos) 0 it acc env).onRaise (fun x => do noteFrame x env; theTreesLotGoes x)) _ _ s
  refine wpAny_noted ?_
  rw [compTurn_list]
  refine wpAny_bind (wpAny_standAt (wpAny_bind (wpAny_mono (turn n s hI) (fun r s₁ h₁ => ?_) fun _ _ h' => h'.elim)))
  cases r with
  | none => exact wpAny_pure h₁
  | some v =>
    refine wpAny_bind (wpAny_mono h₁ (fun _ s₁' h₁' => ?_) fun _ _ h' => h'.elim)
    refine wpAny_bind (wpAny_mono h₁' (fun _ s₂ h₂ => wpAny_bind (wpAny_mono h₂ (fun ok s₃ h₃ => ?_) fun _ _ h' => h'.elim)) fun _ _ h' => h'.elim)
    cases ok with
    | false => exact wpAny_pure ⟨rfl, h₃⟩
    | true =>
      exact wpAny_bind (wpAny_bind (wpAny_mono h₃ (fun x s₄ h₄ => wpAny_bind (wpAny_mono h₄ (fun _ s₅ h₅ => wpAny_pure (wpAny_pure ⟨rfl, h₅⟩)) fun _ _ h' => h'.elim)) fun _ _ h' => h'.elim))

/-! ### the block's context -/
structure CP where
  cl : List (Str × Addr)
  C : Addr
  s : Shared
  H : Hp
  fp : List Addr
  pn : List (Addr × Obj)
abbrev Cx.comp (X : Cx) (N' : List Str) (scope : Scope) (p : CP) : Cx where
  prog := X.prog
  w := X.w
  K := X.K
  mg := X.mg
  base := X.base
  A := X.A
  N := N'
  s₀ := p.s
  H₀ := p.H
  env := compEnvC scope p.cl p.C X.env
  outer := X.stack
  stack := X.stack
  ex := p.fp
  fn := fun _ => false
  calm := X.calm
  pn := p.pn
  xe := fun _ _ => False
def PIfs (X : Cx) (ifs : List Expr) (t : TT) : Prop :=
  ∀ (pins : List (Addr × Obj)) (s : Shared) (σ : St) (H : Hp) (Q : Bool → Hp → Prop), Inv X pins σ H s → t σ H Q →
    wpAny (model X.prog X.w) X.A (forIn ifs true fun c r => if r = true then do let ok ← isTrue c X.env (eval c X.env); pure (ForInStep.yield ok) else pure (ForInStep.yield r)) (TP X pins σ Q) X.xe s
def tYes : TT := fun _ H Q => Q true H
theorem pifs_nil {X : Cx} : PIfs X [] tYes := fun _ _ _ H _ I h => wpAny_tests_nil ⟨H, I, h⟩
theorem pifs_one {X : Cx} {c : Expr} {t : TT} (h : PT X c t) : PIfs X [c] t := fun pins s σ H Q I hw => wpAny_tests_one (h pins s σ H Q I hw)

/-- what is to be looked up once: the names of the block (own first), where the captured ones stand in the frame around -/
def compOk (N : List Str) (kinds : List (Str × NameKind)) (N' : List Str) (cap : List (Option Nat)) (names : List (Str × NameKind)) : Bool :=
  names.all (fun y => y.2 != .cell) && names.all (fun y => y.2 != .local || names.lookup y.1 == some .local) &&
  names.all (fun y => y.2 != .free || (kinds.lookup y.1 == some .cell || kinds.lookup y.1 == some .free)) && (cap.length == N'.length) &&
  (N'.zip cap).all (fun q => match q.2 with
    | none => true
    | some j => N[j]? == some q.1 && (kinds.lookup q.1 == some .cell || kinds.lookup q.1 == some .free) && names.lookup q.1 == some .free)
structure CompScope (X : Cx) (N' : List Str) (cap : List (Option Nat)) (scope : Scope) : Prop where
  kind : scope.kind = .function
  ok : compOk X.N X.env.scope.names N' cap scope.names = true
section
variable {X : Cx} {N' : List Str} {cap : List (Option Nat)} {scope : Scope}
theorem CompScope.nocell (S : CompScope X N' cap scope) : ∀ y ∈ scope.names, y.2 ≠ .cell := by
  have h := S.ok
  simp only [compOk, Bool.and_eq_true, List.all_eq_true] at h
  intro y hy
  simpa using h.1.1.1.1 y hy
theorem CompScope.names (S : CompScope X N' cap scope) : ∀ y ∈ scope.names, y.2 = .local → scope.names.lookup y.1 = some .local := by
  have h := S.ok
  simp only [compOk, Bool.and_eq_true, List.all_eq_true] at h
  intro y hy hl
  have q := h.1.1.1.2 y hy
  rw [hl] at q
  simpa using q
theorem CompScope.free (S : CompScope X N' cap scope) : ∀ y ∈ scope.names, y.2 = .free → X.env.kindOf y.1 = some .cell ∨ X.env.kindOf y.1 = some .free := by
  have h := S.ok
  simp only [compOk, Bool.and_eq_true, List.all_eq_true] at h
  intro y hy hl
  have q := h.1.1.2 y hy
  rw [hl] at q
  have q' : X.env.scope.names.lookup y.1 = some .cell ∨ X.env.scope.names.lookup y.1 = some .free := by simpa using q
  exact q'
theorem CompScope.len (S : CompScope X N' cap scope) : cap.length = N'.length := by
  have h := S.ok
  simp only [compOk, Bool.and_eq_true, List.all_eq_true] at h
  simpa using h.1.2
theorem CompScope.capt (S : CompScope X N' cap scope) {i j : Nat} {x : Str} (h1 : N'[i]? = some x) (h2 : cap[i]? = some (some j)) :
    X.N[j]? = some x ∧ (X.env.kindOf x = some .cell ∨ X.env.kindOf x = some .free) ∧ scope.names.lookup x = some .free := by
  have h := S.ok
  simp only [compOk, Bool.and_eq_true, List.all_eq_true] at h
  have hm : (x, some j) ∈ N'.zip cap := List.mem_iff_getElem?.mpr ⟨i, by rw [List.getElem?_zip_eq_some]; exact ⟨h1, h2⟩⟩
  have q := h.2 _ hm
  have q' : X.N[j]? = some x ∧ (X.env.scope.names.lookup x = some .cell ∨ X.env.scope.names.lookup x = some .free) ∧ scope.names.lookup x = some .free := by simpa [and_assoc] using q
  exact q'
end
/-- the values at the block's entry -/
def capσ (cap : List (Option Nat)) (σ : St) : St := cap.map fun o => match o with
  | some j => (σ[j]?).getD none
  | none => none
/-- what the target's store leaves as it was -/
def Keep (σ σ' : St) : Prop := σ'.length = σ.length ∧ ∀ (i : Nat) v, σ[i]? = some (some v) → σ'[i]? = some (some v)
theorem Keep.trans {a b c : St} (h : Keep a b) (h' : Keep b c) : Keep a c := ⟨h'.1.trans h.1, fun i v e => h'.2 i v (h.2 i v e)⟩
theorem Keep.set {σ : St} {i : Nat} {v : Option V} (h : σ[i]? = some none) : Keep σ (σ.set i v) := ⟨List.length_set .., fun j u e => by
  have hj : i ≠ j := fun z => by subst z; rw [h] at e; cases e
  rw [List.getElem?_set_ne hj]; exact e⟩

/-- the block's turns, over what J walks, the list grown at D: n turns, Pv by the turn, the list so far -/
def CompOk (J : It) (D : Addr) (cap : List (Option Nat)) (σ : St) (H1 : Hp) (g : TG) (tc : TT) (te : TE) (Q : VK) : Prop := ∃ (n : Nat) (Pv : Nat → List V → Hp → Prop),
  Pv 0 [] (upd H1 D (.lst [])) ∧ ∀ i xs H2, i ≤ n → Pv i xs H2 → H2 D = some (.lst xs) ∧ ((i = n ∧ J.stop i H2 ∧ Q (.ref D) H2) ∨ (i < n ∧ J.go i H2 ∧ ∀ x H3, J.yld i H2 x H3 → g x (capσ cap σ) H3 fun σ2 H4 => Keep (capσ cap σ) σ2 ∧
    tc σ2 H4 fun b H5 => if b = true then te σ2 H5 fun y H6 => H6 D = some (.lst xs) ∧ xs.length < sizeLine ∧ Pv (i + 1) (xs ++ [y]) (upd H6 D (.lst (xs ++ [y]))) else Pv (i + 1) xs H5))
/-- [elt for tg in iter if c] -/
def tComp (cap : List (Option Nat)) (wi : TI) (g : TG) (tc : TT) (te : TE) : TE := fun σ H Q => wi σ H fun J H1 => ∀ D, H1 D = none → CompOk J D cap σ H1 g tc te Q

section
variable {X : Cx} {pins : List (Addr × Obj)} {σ : St} {H : Hp} {s : Shared} {N' : List Str} {cap : List (Option Nat)} {scope : Scope} {elt iter tg : Expr} {ifs : List Expr} {pos : Pos} {wi : TI} {g : TG} {tc : TT} {te : TE}

theorem comp_core {pos' : Pos} {use : Option (Value → Sem Unit)} {Q : VK} {Qf : Value → Shared → Prop} (hca : X.calm = true) (S : CompScope X N' cap scope) (hi : PI X tg iter wi) (hg : ∀ p, PG (X.comp N' scope p) tg g) (hc : ∀ p, PIfs (X.comp N' scope p) ifs tc) (he : ∀ p, PE (X.comp N' scope p) elt te)
    (hs : ∀ x, foldedSetIterable iter X.env x = pure x) (I : Inv X pins σ H s) (h : tComp cap wi g tc te σ H Q)
    (fin : ∀ D C H' s', Inv X pins σ H' s' → Q (.ref D) H' → (∃ m, s'.heap.Ns C m) → H' C = none → C ≠ X.env.locals → X.s₀.heap.objs.size ≤ C → (∀ x c, X.env.cells.lookup x = some c → c ≠ C) → (∀ p ∈ X.pn ++ pins, p.1 ≠ C) →
      compPost (model X.prog X.w) X.A X.xe use Qf (.ref D) C (.ok .next) s') :
    wpAny (model X.prog X.w) X.A (comprehension (.ListComp elt [⟨tg, iter, ifs, 0⟩] scope pos) scope X.env pos' (newList []) false (eval iter X.env) use) Qf X.xe s := by
  obtain ⟨cl, hcl, cl1, cl2⟩ := closureFor_ok (scope := scope) (env := X.env) fun y hy hf => I.ok.has _ (S.free y hy hf)
  refine wpAny_comprehension_free (g := ⟨tg, iter, ifs, 0⟩) (gs := []) rfl hs hcl S.kind S.names ?_
  refine thn (hi pins s σ H _ I h) fun xv s1 h1 => thn h1 fun itv s2 h2 => ?_
  obtain ⟨it, fp, tn, J, H2, e, I2, T, st2, f2, h2⟩ := h2
  subst e
  refine wpAny_newObj_type ?_ (by size_fits)
  have hD : H2 s2.heap.objs.size = none := I2.hok.fresh (Nat.le_refl _)
  obtain ⟨cnt, Pv, w0, turn⟩ := h2 s2.heap.objs.size hD
  refine wpAny_newFunctionEnv S.nocell (by intro y hy; cases hy) (fun h₁ hns₁ hsb₁ => ?_) S.kind
  dsimp only at hns₁ hsb₁ ⊢
  generalize hA2 : s2.heap.push { cls := .type "list", dict := none, data := .seq ([] : List Value).toArray } = A2 at hns₁ hsb₁ ⊢
  have hC : A2.objs.size = s2.heap.objs.size + 1 := by rw [← hA2, Heap.size_push]
  have old : ∀ b o, s2.heap.get? b = some o → h₁.get? b = some o := fun b o e => by
    have lt : @LT.lt Nat instLTNat b s2.heap.objs.size := Heap.lt_size e
    exact hsb₁.extBut b o (Nat.ne_of_lt (by omega)) (Heap.get?_push_of_some _ (hA2 ▸ Heap.get?_push_of_some _ e))
  have accO : h₁.get? s2.heap.objs.size = some { cls := .type "list", dict := none, data := .seq ([] : List Value).toArray } :=
    hsb₁.extBut _ _ (Nat.ne_of_lt (by omega)) (Heap.get?_push_of_some _ (hA2 ▸ Heap.get?_push_size _ rfl))
  -- the block's context
  have cellLt : ∀ x c, X.env.cells.lookup x = some c → @LT.lt Nat instLTNat c s2.heap.objs.size := fun x c e => by obtain ⟨v, q⟩ := I2.cell x c e; exact q.lt
  have pinLt : ∀ p ∈ X.pn ++ pins, @LT.lt Nat instLTNat p.1 s2.heap.objs.size := fun p hp => Heap.lt_size (I2.pin p hp).1
  have fpNe : ∀ b ∈ fp, @LT.lt Nat instLTNat b s2.heap.objs.size := fun b hb => by obtain ⟨o, e, _⟩ := T.obj 0 _ st2 b hb; exact Heap.lt_size e
  let p : CP := ⟨cl, A2.objs.size, s2, H2, fp, X.pn ++ pins⟩
  have ok : (X.comp N' scope p).Ok := {
    mod := I2.ok.mod
    kind := S.kind
    glob := I2.ok.glob
    blt := I2.ok.blt
    above := by show s2.heap.objs.size ≤ A2.objs.size; omega
    inj := fun x y c h1 h2 => I2.ok.inj x y c (cl1 x c h1) (cl1 y c h2)
    has := fun x hx => cl2 x (PySem.mem_of_lookup (kindOf_comp_inv S.nocell hx))
    cab := fun x c hf _ => by cases hf
    hd := I2.ok.hd
    frames := I2.ok.frames
    stk := .inl rfl
    exf := fun b hb => ⟨Nat.ne_of_lt (show @LT.lt Nat instLTNat b A2.objs.size by have := fpNe b hb; omega), fun x c e => (f2 b hb).2.2.2.2.1 x c (cl1 x c e)⟩
    bs := I2.bs
    bsz := Nat.le_trans I2.ok.bsz I2.sz
    noex := fun b o e hb => by
      rcases (f2 b hb).2.2.2.1 with z | z
      · exact I2.ok.noex b o e z
      · exact absurd (Nat.lt_of_lt_of_le (Nat.lt_of_lt_of_le (Heap.lt_size e) I2.ok.bsz) z) (Nat.lt_irrefl _)
    exfs := fun b hb hf => by
      rcases List.mem_cons.mp (I2.stkSub b hf) with z | z
      · exact (f2 b hb).2.1 z
      · exact (f2 b hb).2.2.1 z
    funs := I2.stack
    frf := I2.stkFree }
  have hlay : Un (frs X.stack) fp H2 (upd H2 s2.heap.objs.size (.lst [])) s2.heap h₁ := Un.laid old (Nat.le_refl _) hD
  have I0 : ∀ tk, Inv (X.comp N' scope p) [] (capσ cap σ) (upd H2 s2.heap.objs.size (.lst [])) { s2 with heap := h₁, toks := tk } := fun tk => {
    ok := ok
    os := rfl
    bare := I2.bare
    base := hlay
    loc := by
      refine ⟨_, hns₁, fun i x v h1 h2 h3 => ?_⟩
      unfold capσ at h2
      rw [List.getElem?_map] at h2
      cases hq : cap[i]? with
      | none => rw [hq] at h2; cases h2
      | some o =>
        rw [hq] at h2
        cases o with
        | none => cases h2
        | some j =>
          have h2' : (σ[j]?).getD none = some v := Option.some.inj h2
          have h2'' : σ[j]? = some (some v) := by
            cases hz : σ[j]? with
            | none => rw [hz] at h2'; cases h2'
            | some z => rw [hz] at h2'; exact congrArg some h2'
          obtain ⟨n1, n2, n3⟩ := S.capt h1 hq
          obtain ⟨m, hn, hl⟩ := I2.loc
          obtain ⟨u, r, l⟩ := hl j x v n1 h2'' (by rcases n2 with z | z; exact .inr (.inl z); exact .inr (.inr z))
          refine ⟨u, r, .inr ⟨kindOf_comp_free n3, ?_⟩⟩
          obtain ⟨c, hc⟩ := cl2 x (PySem.mem_of_lookup n3)
          refine ⟨c, hc, ?_⟩
          rcases l with ⟨z, _⟩ | ⟨_, c', hc', hcell⟩
          · rcases n2 with n2 | n2 <;> (rw [n2] at z; cases z)
          · have := cl1 x c hc
            rw [hc'] at this; cases this
            obtain ⟨o, ho, hd⟩ := hcell
            exact ⟨o, old _ _ ho, hd⟩
    cell := fun x c e => by
      obtain ⟨v, o, ho, hd⟩ := I2.cell x c (cl1 x c e)
      exact ⟨v, o, old _ _ ho, hd⟩
    free := by
      show upd H2 s2.heap.objs.size (.lst []) A2.objs.size = none
      rw [upd_ne (Nat.ne_of_gt (by omega))]
      exact I2.hok.fresh (by omega)
    freeC := fun x c e => by
      have := cellLt x c (cl1 x c e)
      show upd H2 s2.heap.objs.size (.lst []) c = none
      rw [upd_ne (Nat.ne_of_lt this)]
      exact I2.freeC x c (cl1 x c e)
    pin := fun q hq => by
      have hq' : q ∈ X.pn ++ pins := by
        have z : q ∈ (X.pn ++ pins) ++ ([] : List (Addr × Obj)) := hq
        simpa using z
      have lt := pinLt q hq'
      obtain ⟨e, n, ne, nf, d⟩ := I2.pin q hq'
      refine ⟨old _ _ e, by rw [upd_ne (Nat.ne_of_lt lt)]; exact n, Nat.ne_of_lt (show @LT.lt Nat instLTNat q.1 A2.objs.size by omega), fun hf => ?_, d⟩
      rcases List.mem_cons.mp (I2.stkSub _ hf) with z | z
      · exact ne z
      · exact nf z
    hok := I2.hok.laid old (Nat.le_refl _) ⟨Nat.zero_le _, [], _, .nil, accO⟩
    len := by show (capσ cap σ).length = N'.length; unfold capσ; rw [List.length_map, S.len] }
  have fpok : ∀ {H' : Hp}, (∀ b ∈ fp, H' b = none) → ∀ b ∈ fp, FpOk (X.comp N' scope p) [] H' b := fun hn b hb =>
    ⟨hn b hb, (ok.exf b hb).1, ok.exfs b hb, .inl hb, (ok.exf b hb).2, fun q hq => (f2 b hb).2.2.2.2.2 q (by
      have z : q ∈ (X.pn ++ pins) ++ ([] : List (Addr × Obj)) := hq
      simpa using z)⟩
  have hn0 : ∀ b ∈ fp, (upd H2 s2.heap.objs.size (.lst [])) b = none := fun b hb => by
    rw [upd_ne (Nat.ne_of_lt (fpNe b hb))]
    exact (f2 b hb).1
  have loop : ∀ s3 : Shared, (∃ tk, s3 = { s2 with heap := h₁, toks := tk }) → codeAny (model X.prog X.w) X.A (.compLoop (.ListComp elt [⟨tg, iter, ifs, 0⟩] scope pos) 0 (.ref it) (.ref s2.heap.objs.size) (compEnvC scope cl A2.objs.size X.env))
      (compPost (model X.prog X.w) X.A X.xe use Qf (.ref s2.heap.objs.size) A2.objs.size) s3 := by
    rintro s3 ⟨tk, rfl⟩
    refine compLoop_gen (fun n s' => ∃ i xs H', Inv (X.comp N' scope p) [] (capσ cap σ) H' s' ∧ tn i s'.heap ∧ (∀ b ∈ fp, H' b = none) ∧ n = cnt - i ∧ i ≤ cnt ∧ Pv i xs H') ?_ cnt
      ⟨0, [], _, I0 tk, T.keep 0 _ _ st2 (fun b _ o e => old b o e), hn0, rfl, Nat.zero_le _, w0⟩
    rintro n s4 ⟨i, xs, H4, I4, st4, fr4, en, hin, w4⟩
    obtain ⟨acc4, w4⟩ := turn i xs H4 hin w4
    rcases w4 with ⟨_, stop, qn⟩ | ⟨hlt, go, step⟩
    · refine thn (T.done (X.comp N' scope p) rfl rfl rfl hca i [] s4 _ H4 _ I4 (fpok fr4) st4 stop) fun r s5 ⟨hr, I5⟩ => ?_
      subst hr
      -- back in the frame around
      have I6 : Inv X pins σ H4 s5 := I2.call' I5.os I5.base I5.hok I5.bare fun b hb => ⟨(f2 b hb).2.2.2.1, (f2 b hb).2.1, (f2 b hb).2.2.2.2.1, (f2 b hb).2.2.2.2.2⟩
      obtain ⟨m, hm, _⟩ := I5.loc
      refine fin _ _ H4 s5 I6 qn ⟨m, hm⟩ I5.free ?_ ?_ (fun x c e => ?_) fun q hq => ?_
      · exact Nat.ne_of_gt (by have : @LT.lt Nat instLTNat X.env.locals s2.heap.objs.size := I2.lt; omega)
      · have := I2.sz; omega
      · exact Nat.ne_of_lt (by have := cellLt x c e; omega)
      · exact Nat.ne_of_lt (by have := pinLt q hq; omega)
    · refine thn (T.item (X.comp N' scope p) rfl rfl rfl hca i [] s4 _ H4 _ I4 (fpok fr4) st4 go) fun r s5 ⟨u, hr, h5⟩ => ?_
      subst hr
      refine thn h5 fun _ s6 ⟨x, H6, I6, r6, y6, st6, fr6⟩ => ?_
      have I6' := I6.pinned (fpok fr6) (T.obj _ _ st6)
      refine thn (hg p _ s6 _ H6 x u _ I6' r6 (step x H6 y6)) fun _ s7 ⟨σ7, H7, I7, kp7, q7⟩ => ?_
      refine thn (hc p _ s7 σ7 H7 _ I7 q7) fun b s8 ⟨H8, I8, q8⟩ => ?_
      have again : ∀ {H9 : Hp} {s9 : Shared} {zs : List V}, Inv (X.comp N' scope p) ([] ++ pinsAt fp s6.heap) σ7 H9 s9 → Pv (i + 1) zs H9 →
          ∃ m, m < n ∧ ∃ i xs H', Inv (X.comp N' scope p) [] (capσ cap σ) H' s9 ∧ tn i s9.heap ∧ (∀ b ∈ fp, H' b = none) ∧ m = cnt - i ∧ i ≤ cnt ∧ Pv i xs H' := fun {H9 s9 zs} I9 w9 => by
        refine ⟨cnt - (i + 1), by omega, i + 1, zs, H9, I9.unpinned.weak kp7.1.symm (fun i v e => kp7.2 i v e), T.keep _ _ _ st6 fun b hb o e => (I9.pin (b, o) (List.mem_append_right _ (List.mem_append_right _ (mem_pinsAt hb e)))).1, fun b hb => ?_, rfl, hlt, w9⟩
        obtain ⟨o, e, d⟩ := T.obj _ _ st6 b hb
        exact (I9.pin (b, o) (List.mem_append_right _ (List.mem_append_right _ (mem_pinsAt hb e)))).2.1
      cases b with
      | false =>
        exact again I8 q8
      | true =>
        refine thn (he p _ s8 σ7 H8 _ I8 q8) fun yv s9 ⟨y, H9, I9, ry, acc9, hz, w9⟩ => ?_
        refine thn (mt_append (X := X.comp N' scope p) _ s9 σ7 H9 (.ref s2.heap.objs.size) [y] (.ref s2.heap.objs.size) [yv] (fun v H' => v = .non ∧ H' = upd H9 s2.heap.objs.size (.lst (xs ++ [y]))) I9 rfl (.cons ry .nil) ⟨_, xs, y, rfl, rfl, acc9, hz, rfl, rfl⟩) fun _ s10 ⟨_, H10, I10, _, _, e10⟩ => ?_
        subst e10
        exact again I10 w9
  refine codeAny_compStart_list (loop _ ⟨_, rfl⟩) (T.self _ 0 _ _ _ (T.keep 0 _ _ st2 fun b _ o e => old b o e) (loop _ ⟨_, rfl⟩))

theorem pe_comp (hca : X.calm = true) (S : CompScope X N' cap scope) (hi : PI X tg iter wi) (hg : ∀ p, PG (X.comp N' scope p) tg g) (hc : ∀ p, PIfs (X.comp N' scope p) ifs tc) (he : ∀ p, PE (X.comp N' scope p) elt te)
    (hs : ∀ x, foldedSetIterable iter X.env x = pure x := by intro _; rfl) : PE X (.ListComp elt [⟨tg, iter, ifs, 0⟩] scope pos) (tComp cap wi g tc te) := by
  intro pins s σ H Q I h
  rw [eval_ListComp]
  refine comp_core (use := none) (Q := Q) hca S hi hg hc he hs I h ?_
  intro D C H' s' I' q ns hC hL h1 h2 h3
  obtain ⟨m, hm⟩ := ns
  exact ⟨m, hm, fun h'' sb => ⟨.ref D, H', I'.turned (t' := s'.toks) (fun b o hb e => (sb.2 b hb).trans e) hC hL (.inr h1) h2 h3, rfl, q⟩⟩

/-- x = [..] where the stores are exchanged -/
theorem ps_setC {j : Nat} {y : Str} {py spos : Pos} (hca : X.calm = true) (S : CompScope X N' cap scope) (hi : PI X tg iter wi) (hg : ∀ p, PG (X.comp N' scope p) tg g) (hc : ∀ p, PIfs (X.comp N' scope p) ifs tc) (he : ∀ p, PE (X.comp N' scope p) elt te)
    (hN : X.N.Nodup) (hj : X.N[j]? = some y) (hy : X.env.scope.names.lookup y = some .local)
    (hsw : swapsWith (.ListComp elt [⟨tg, iter, ifs, 0⟩] scope pos) (some (.Name y py)) spos.line X.env = pure true)
    (hs : ∀ x, foldedSetIterable iter X.env x = pure x := by intro _; rfl) : PS X (.Assign [.Name y py] (.ListComp elt [⟨tg, iter, ifs, 0⟩] scope pos) spos) (tAsg (tComp cap wi g tc te) (gName j)) := by
  intro pins s σ H D I h
  rw [exec_Assign_Name_used _ _ _ _ hsw]
  refine wpAny_bind (wpAny_standAt (wpAny_bind ?_))
  show wpAny _ X.A (do let _ ← comprehension (.ListComp elt [⟨tg, iter, ifs, 0⟩] scope pos) scope X.env _ (newList []) false (eval iter X.env) (some (assign (.Name y py) X.env))) _ _ s
  refine wpAny_bind (wpAny_mono (comp_core (use := some (assign (.Name y py) X.env)) (Qf := fun _ s' => SP X pins D .next s') hca S hi hg hc he hs I h ?_) (fun _ s' hq => wpAny_pure (wpAny_pure hq)) fun _ _ e => e)
  intro D' C H' s' I' q ns hC hL h1 h2 h3
  obtain ⟨m, hm⟩ := ns
  show wpAny _ X.A (assign (.Name y py) X.env (.ref D')) _ _ _
  refine wpAny_assign_Name (store_ok2 I' hN hj (.inl hy) (v := .ref D') rfl (fun s'' I'' ⟨a, sb, ha⟩ => ?_) (.inr hy))
  have ne : C ≠ a := fun z => by
    rcases ha with e | e
    · exact hL (z.trans e)
    · exact h2 y a e z.symm
  exact ⟨m, hm.sameBut sb ne, fun h'' sb' => ⟨_, H', I''.turned (t' := s''.toks) (fun b o hb e => (sb'.2 b hb).trans e) hC hL (.inr h1) h2 h3, q⟩⟩
end

/-! ### the forms one uses: what stands behind «∀ D, H1 D = none → » -/
section
variable {K : PySem.W.Frag} {cap : List (Option Nat)} {σ : St} {H : Hp} {g : TG} {tc : TT} {te : TE} {Q : VK} {D : Addr}
theorem comp_range {lo : Int} {n : Nat} (Pv : Nat → List V → Hp → Prop) (h0 : Pv 0 [] (upd H D (.lst []))) (hD : ∀ i xs H, i ≤ n → Pv i xs H → H D = some (.lst xs))
    (hs : ∀ i xs H, i < n → Pv i xs H → g (.int (lo + i)) (capσ cap σ) H fun σ2 H4 => Keep (capσ cap σ) σ2 ∧
      tc σ2 H4 fun b H5 => if b = true then te σ2 H5 fun y H6 => H6 D = some (.lst xs) ∧ xs.length < sizeLine ∧ Pv (i + 1) (xs ++ [y]) (upd H6 D (.lst (xs ++ [y]))) else Pv (i + 1) xs H5)
    (hd : ∀ xs H, Pv n xs H → Q (.ref D) H) : CompOk (Itr lo n) D cap σ H g tc te Q := by
  refine ⟨n, Pv, h0, fun i xs H2 hi p => ⟨hD i xs H2 hi p, ?_⟩⟩
  by_cases hlt : i < n
  · refine .inr ⟨hlt, hlt, fun x H' y => ?_⟩
    obtain ⟨e, y⟩ := y
    subst e y
    exact hs i xs _ hlt p
  · have e : i = n := by omega
    subst e
    exact .inl ⟨rfl, Nat.le_refl _, hd xs H2 p⟩
theorem comp_list {a : Addr} {ys : List V} (Pv : Nat → List V → Hp → Prop) (h0 : Pv 0 [] (upd H D (.lst []))) (hD : ∀ i xs H, i ≤ ys.length → Pv i xs H → H D = some (.lst xs) ∧ SqL K H a ys)
    (hs : ∀ i x xs H, ys[i]? = some x → Pv i xs H → g x (capσ cap σ) H fun σ2 H4 => Keep (capσ cap σ) σ2 ∧
      tc σ2 H4 fun b H5 => if b = true then te σ2 H5 fun y H6 => H6 D = some (.lst xs) ∧ xs.length < sizeLine ∧ Pv (i + 1) (xs ++ [y]) (upd H6 D (.lst (xs ++ [y]))) else Pv (i + 1) xs H5)
    (hd : ∀ xs H, Pv ys.length xs H → Q (.ref D) H) : CompOk (Itl K a) D cap σ H g tc te Q := by
  refine ⟨ys.length, Pv, h0, fun i xs H2 hi p => ⟨(hD i xs H2 hi p).1, ?_⟩⟩
  have q := (hD i xs H2 hi p).2
  by_cases hlt : i < ys.length
  · refine .inr ⟨hlt, ⟨ys, ys[i], q, by simp [hlt]⟩, fun x H' y => ?_⟩
    obtain ⟨e, y⟩ := y
    subst e
    exact hs i x xs _ (y ys q) p
  · have e : i = ys.length := by omega
    subst e
    exact .inl ⟨rfl, ⟨ys, q, Nat.le_refl _⟩, hd xs H2 p⟩
theorem comp_tup {a : Addr} {ys : List V} (Pv : Nat → List V → Hp → Prop) (h0 : Pv 0 [] (upd H D (.lst []))) (hD : ∀ i xs H, i ≤ ys.length → Pv i xs H → H D = some (.lst xs) ∧ SqT K H a ys)
    (hs : ∀ i x xs H, ys[i]? = some x → Pv i xs H → g x (capσ cap σ) H fun σ2 H4 => Keep (capσ cap σ) σ2 ∧
      tc σ2 H4 fun b H5 => if b = true then te σ2 H5 fun y H6 => H6 D = some (.lst xs) ∧ xs.length < sizeLine ∧ Pv (i + 1) (xs ++ [y]) (upd H6 D (.lst (xs ++ [y]))) else Pv (i + 1) xs H5)
    (hd : ∀ xs H, Pv ys.length xs H → Q (.ref D) H) : CompOk (Itt K a) D cap σ H g tc te Q := by
  refine ⟨ys.length, Pv, h0, fun i xs H2 hi p => ⟨(hD i xs H2 hi p).1, ?_⟩⟩
  have q := (hD i xs H2 hi p).2
  by_cases hlt : i < ys.length
  · refine .inr ⟨hlt, ⟨ys, ys[i], q, by simp [hlt]⟩, fun x H' y => ?_⟩
    obtain ⟨e, y⟩ := y
    subst e
    exact hs i x xs _ (y ys q) p
  · have e : i = ys.length := by omega
    subst e
    exact .inl ⟨rfl, ⟨ys, q, Nat.le_refl _⟩, hd xs H2 p⟩
end
end L2


set_option Elab.async false
set_option linter.all false
set_option maxRecDepth 100000
set_option maxHeartbeats 4000000
/-! DEEP DATA over the layer; ==, !=, in, not in of it; isinstance; tuple(range(n)) -/
namespace L2
open PySem PySem.Spec PyProof.Rows

mutual
/-- the value v stands for the data d -/
inductive DV (H : Hp) : PyData → V → Prop
  | non : DV H .none .non
  | bl (b : Bool) : DV H (.bool b) (.bl b)
  | int (i : Int) : DV H (.int i) (.int i)
  | str (x : Str) : DV H (.str x) (.str x)
  | lst {a : Addr} {ds : List PyData} {vs : List V} : H a = some (.lst vs) → DVs H ds vs → DV H (.list ds) (.ref a)
  | tup {a : Addr} {ds : List PyData} {vs : List V} : H a = some (.tup vs) → DVs H ds vs → DV H (.tuple ds) (.ref a)
inductive DVs (H : Hp) : List PyData → List V → Prop
  | nil : DVs H [] []
  | cons {d : PyData} {v : V} {ds : List PyData} {vs : List V} : DV H d v → DVs H ds vs → DVs H (d :: ds) (v :: vs)
end
section
variable {H H' : Hp}
mutual
theorem DV.mono (e : Same H H') : ∀ {d : PyData} {v : V}, DV H d v → DV H' d v
  | _, _, .non => .non
  | _, _, .bl b => .bl b
  | _, _, .int i => .int i
  | _, _, .str x => .str x
  | _, _, .lst h t => .lst (e _ _ h) (DVs.mono e t)
  | _, _, .tup h t => .tup (e _ _ h) (DVs.mono e t)
theorem DVs.mono (e : Same H H') : ∀ {ds : List PyData} {vs : List V}, DVs H ds vs → DVs H' ds vs
  | _, _, .nil => .nil
  | _, _, .cons h t => .cons (DV.mono e h) (DVs.mono e t)
end
theorem DVs.length : ∀ {ds : List PyData} {vs : List V}, DVs H ds vs → ds.length = vs.length
  | _, _, .nil => rfl
  | _, _, .cons _ t => congrArg (· + 1) (DVs.length t)
theorem DVs.get : ∀ {ds : List PyData} {vs : List V} {i : Nat} {d : PyData}, DVs H ds vs → ds[i]? = some d → ∃ v, vs[i]? = some v ∧ DV H d v
  | _, _, _, _, .nil, e => by simp at e
  | _, _, 0, _, .cons h _, e => by simp at e; subst e; exact ⟨_, rfl, h⟩
  | _, _, i + 1, d, .cons _ t, e => by
    obtain ⟨v, h1, h2⟩ := DVs.get (i := i) (d := d) t (by simpa using e)
    exact ⟨v, by simpa using h1, h2⟩
theorem DVs.get' : ∀ {ds : List PyData} {vs : List V} {i : Nat} {v : V}, DVs H ds vs → vs[i]? = some v → ∃ d, ds[i]? = some d ∧ DV H d v
  | _, _, _, _, .nil, e => by simp at e
  | _, _, 0, _, .cons h _, e => by simp at e; subst e; exact ⟨_, rfl, h⟩
  | _, _, i + 1, v, .cons _ t, e => by
    obtain ⟨d, h1, h2⟩ := DVs.get' (i := i) (v := v) t (by simpa using e)
    exact ⟨d, by simpa using h1, h2⟩
theorem DVs.append : ∀ {ds es : List PyData} {vs ws : List V}, DVs H ds vs → DVs H es ws → DVs H (ds ++ es) (vs ++ ws)
  | _, _, _, _, .nil, s => s
  | _, _, _, _, .cons h t, s => .cons h (DVs.append t s)
theorem DVs.snoc {ds : List PyData} {vs : List V} {d : PyData} {v : V} (h : DVs H ds vs) (hd : DV H d v) : DVs H (ds ++ [d]) (vs ++ [v]) := h.append (.cons hd .nil)
theorem DVs.ints (ns : List Int) : DVs H (ns.map PyData.int) (ns.map V.int) := by
  induction ns with
  | nil => exact .nil
  | cons n r ih => exact .cons (.int n) ih
theorem DV.int_inv {i : Int} {v : V} (h : DV H (.int i) v) : v = .int i := by cases h; rfl
theorem DV.bl_inv {b : Bool} {v : V} (h : DV H (.bool b) v) : v = .bl b := by cases h; rfl
theorem DV.tup_inv {ds : List PyData} {v : V} (h : DV H (.tuple ds) v) : ∃ a vs, v = .ref a ∧ H a = some (.tup vs) ∧ DVs H ds vs := by cases h with | tup h t => exact ⟨_, _, rfl, h, t⟩
theorem DVs.ints_inv : ∀ {ns : List Int} {vs : List V}, DVs H (ns.map PyData.int) vs → vs = ns.map V.int
  | [], _, h => by cases h; rfl
  | n :: r, _, h => by
    cases h with
    | cons h t =>
      cases h
      show _ = V.int n :: r.map V.int
      rw [DVs.ints_inv t]
theorem DVs.two_inv {a b : PyData} {vs : List V} (h : DVs H [a, b] vs) : ∃ v w, vs = [v, w] ∧ DV H a v ∧ DV H b w := by
  cases h with
  | cons h t => cases t with
    | cons h' t' => cases t'; exact ⟨_, _, rfl, h, h'⟩
theorem DVs.three_inv {a b c : PyData} {vs : List V} (h : DVs H [a, b, c] vs) : ∃ v w u, vs = [v, w, u] ∧ DV H a v ∧ DV H b w ∧ DV H c u := by
  cases h with
  | cons h t =>
    obtain ⟨v, w, rfl, h1, h2⟩ := DVs.two_inv t
    exact ⟨_, _, _, rfl, h, h1, h2⟩
variable {P : Program} {w : World} {h : Heap}
mutual
theorem DV.reads (ok : HOk P w H h) : ∀ {d : PyData} {v : V} {u : Value}, DV H d v → RelV v u → ∃ as, Reads h u d as
  | _, _, _, .non, r => by cases r; exact ⟨_, .none⟩
  | _, _, _, .bl b, r => by cases r; exact ⟨_, .bool b⟩
  | _, _, _, .int i, r => by obtain ⟨t, rfl⟩ := r; exact ⟨_, .int i t⟩
  | _, _, _, .str x, r => by obtain ⟨t, rfl⟩ := r; exact ⟨_, .str x t⟩
  | _, _, _, .lst e t, r => by
    cases r
    obtain ⟨_, its, n, rv, eo⟩ := ok _ _ e
    obtain ⟨as, q⟩ := DVs.reads ok t rv
    exact ⟨_, .list eo rfl rfl (by simpa using q)⟩
  | _, _, _, .tup e t, r => by
    cases r
    obtain ⟨_, its, rv, o, eo, hc, n, hd⟩ := ok _ _ e
    obtain ⟨as, q⟩ := DVs.reads ok t rv
    exact ⟨_, .tuple eo hc hd (by simpa using q)⟩
theorem DVs.reads (ok : HOk P w H h) : ∀ {ds : List PyData} {vs : List V} {us : List Value}, DVs H ds vs → Vals vs us → ∃ as, ReadsAll h us ds as
  | _, _, _, .nil, r => by cases r; exact ⟨_, .nil⟩
  | _, _, _, .cons e t, r => by
    cases r with
    | cons r rr =>
      obtain ⟨as, q⟩ := DV.reads ok e r
      obtain ⟨bs, q'⟩ := DVs.reads ok t rr
      exact ⟨_, .cons q q'⟩
end
end

/-! ### comparisons of deep data -/
section
variable {X : Cx}
def rEqD (neg : Bool) : R2 := fun x y H Q => ∃ d e, DV H d x ∧ DV H e y ∧ d.canLay0 = true ∧ e.canLay0 = true ∧ min d.depth e.depth ≤ 60 ∧ Q (.bl (if neg then !PyData.eqv d e else PyData.eqv d e)) H
theorem op_eqD (hu : X.A.units + 64 < cLine) : OpR X (compareOp .Eq) (rEqD false) := by
  intro pins s σ H x y v u Q I rx ry h
  obtain ⟨d, e, hd, he, c1, c2, dp, q⟩ := h
  obtain ⟨as, ra⟩ := hd.reads I.hok rx
  obtain ⟨bs, rb⟩ := he.reads I.hok ry
  exact SeqAt.compareEq_reads ra rb c1 c2 (by omega) ⟨.bl _, H, I, rfl, q⟩
theorem op_neD (hu : X.A.units + 64 < cLine) : OpR X (compareOp .NotEq) (rEqD true) := by
  intro pins s σ H x y v u Q I rx ry h
  obtain ⟨d, e, hd, he, c1, c2, dp, q⟩ := h
  obtain ⟨as, ra⟩ := hd.reads I.hok rx
  obtain ⟨bs, rb⟩ := he.reads I.hok ry
  exact SeqAt.compareNe_reads ra rb c1 c2 (by omega) ⟨.bl _, H, I, rfl, q⟩
/-- x in a list or a tuple of deep data -/
def rInD (neg : Bool) : R2 := fun x y H Q => ∃ d es, DV H d x ∧ (DV H (.list es) y ∨ DV H (.tuple es) y) ∧ d.canLay0 = true ∧ PyData.canLayAll0 es = true ∧ d.depth ≤ 60 ∧
  Q (.bl (if neg then !(es.any fun e => PyData.eqv e d) else es.any fun e => PyData.eqv e d)) H
theorem op_inD (hu : X.A.units + 64 < cLine) : OpR X (compareOp .In) (rInD false) := by
  intro pins s σ H x y v u Q I rx ry h
  obtain ⟨d, es, hd, he, c1, c2, dp, q⟩ := h
  obtain ⟨as, ra⟩ := hd.reads I.hok rx
  rcases he with he | he
  · obtain ⟨bs, rb⟩ := he.reads I.hok ry
    exact SeqAt.in_list_reads rb ra c2 c1 (by omega) ⟨.bl _, H, I, rfl, q⟩
  · obtain ⟨bs, rb⟩ := he.reads I.hok ry
    exact SeqAt.in_tuple_reads rb ra c2 c1 (by omega) ⟨.bl _, H, I, rfl, q⟩
theorem op_notInD (hu : X.A.units + 64 < cLine) : OpR X (compareOp .NotIn) (rInD true) := by
  intro pins s σ H x y v u Q I rx ry h
  obtain ⟨d, es, hd, he, c1, c2, dp, q⟩ := h
  obtain ⟨as, ra⟩ := hd.reads I.hok rx
  rcases he with he | he
  · obtain ⟨bs, rb⟩ := he.reads I.hok ry
    exact SeqAt.notIn_list_reads rb ra c2 c1 (by omega) ⟨.bl _, H, I, rfl, q⟩
  · obtain ⟨bs, rb⟩ := he.reads I.hok ry
    exact SeqAt.notIn_tuple_reads rb ra c2 c1 (by omega) ⟨.bl _, H, I, rfl, q⟩

/-! ### isinstance -/
end
end L2

/-! ### tuple(range(n)) -/
namespace PySem
open Sem (wp)
open AutoSeq1 (wpAny_loadPart')
section
variable {prog : Program} {w : World} {A : Around} {E : Value → Shared → Prop} {s : Shared}
end
section
variable {prog : Program} {w : World} {A : Around} {E : Value → Shared → Prop} {s : Shared}
end
end PySem

namespace L2
open PySem PySem.Spec PyProof.Rows
theorem vals_by : ∀ {xs : List V} {us : List Value}, xs.length = us.length → (∀ (i : Nat) x u, xs[i]? = some x → us[i]? = some u → RelV x u) → Vals xs us
  | [], [], _, _ => .nil
  | [], _ :: _, h, _ => by simp at h
  | _ :: _, [], h, _ => by simp at h
  | x :: xs, u :: us, h, f => .cons (f 0 x u rfl rfl) (vals_by (by simpa using h) fun i y z h1 h2 => f (i + 1) y z (by simpa using h1) (by simpa using h2))
/-- 0, 1, .. below n, as ints -/
def till (n : Nat) : List Int := (List.range n).map fun k : Nat => (k : Int)
theorem till_length (n : Nat) : (till n).length = n := by simp [till]
theorem till_succ (n : Nat) : till (n + 1) = till n ++ [(n : Int)] := by simp [till, List.range_succ]
theorem mem_till {n : Nat} {i : Int} : i ∈ till n ↔ 0 ≤ i ∧ i < n := by
  simp only [till, List.mem_map, List.mem_range]
  constructor
  · rintro ⟨k, hk, rfl⟩; omega
  · rintro ⟨h0, h1⟩; exact ⟨i.toNat, by omega, by omega⟩
section
variable {X : Cx}
end
end L2


set_option Elab.async false
set_option linter.all false
set_option maxRecDepth 100000
set_option maxHeartbeats 4000000
/-! EXCEPTIONS over the layer: own classes raised, going through frames -/
namespace L2
open PySem PySem.Spec PyProof.Rows

theorem ObjOk.there {P : Program} {w : World} {H : Hp} {h : Heap} {a : Addr} {o : HO} (x : ObjOk P w H h a o) : ∃ ob, h.get? a = some ob := by
  cases o with
  | lst xs => obtain ⟨_, _, _, _, e⟩ := x; exact ⟨_, e⟩
  | tup xs => obtain ⟨_, _, _, o, e, _⟩ := x; exact ⟨o, e⟩
  | dK kvs => obtain ⟨_, _, _, _, o, _, _, e, _⟩ := x; exact ⟨o, e⟩
  | dT kvs => obtain ⟨_, _, _, _, o, _, _, e, _⟩ := x; exact ⟨o, e⟩
  | set S n => obtain ⟨o, _, _, _, e, _⟩ := x; exact ⟨o, e⟩
  | ins C dx fs => obtain ⟨_, _, _, e, _⟩ := x; exact ⟨_, e⟩
  | own y => exact x
  | xd fs => obtain ⟨_, ⟨o, _, _, e, _⟩, _⟩ := x; exact ⟨o, e⟩
  | rng lo hi => obtain ⟨_, _, _, e⟩ := x; exact ⟨_, e⟩
  | frz ob u => obtain ⟨e, _⟩ := x; exact ⟨_, e⟩
  | tbl ps => exact ⟨_, x⟩
  | met f y => exact ⟨_, x⟩
  | ext φ => obtain ⟨_, e, _⟩ := x; exact e

/-- an exception of an own class has come out of a call -/
def CXF (P : Program) (w : World) : CXT := fun outer H s E e s' => ∃ (a C : Addr) (a0 : Value) (B : Heap) (H' : Hp), e = .ref a ∧ s'.os = s.os ∧ AllBare s'.gens ∧ Un (frs outer) [] H H' s.heap s'.heap ∧ HOk P w H' s'.heap ∧
  Heap.FlyingW B outer a (.ref C) a0 s'.heap ∧ (∀ b o, s.heap.get? b = some o → H b = none → b ∉ frs outer → B.get? b = some o) ∧ (∀ b o, s.heap.get? b = some o → b ∉ frs outer → ∃ o', B.get? b = some o') ∧
  (∀ b u, H' b = some u → ∃ ob, s'.heap.get? b = some ob ∧ B.get? b = some ob) ∧ E (.ref C) none H'

section
variable {X : Cx} {pins : List (Addr × Obj)} {σ : St} {H H' : Hp} {s : Shared} {h' : Heap}
/-- from a step over the whole stack to the def's own end -/
theorem un_out (I : Inv X pins σ H s) (hex : X.ex = []) (u : Un (frs X.stack) [] H H' s.heap h') : Un X.fs [] X.H₀ H' X.s₀.heap h' := by
  have nst : ∀ b o, X.s₀.heap.get? b = some o → b ∉ X.fs → b ∉ frs X.stack := fun b o e hb hm => by
    rcases List.mem_cons.mp (I.stkSub b hm) with z | z
    · exact absurd (Nat.lt_of_lt_of_le (Heap.lt_size e) I.ok.above) (by rw [z]; exact Nat.lt_irrefl _)
    · exact hb z
  have nx : ∀ b : Addr, b ∉ X.ex := fun b hb => by rw [hex] at hb; cases hb
  have ne : ∀ b : Addr, b ∉ ([] : List Addr) := fun b hb => by cases hb
  refine ⟨fun b o e n hb _ => ?_, fun b o e n hb _ => ?_, fun b o e n _ => ?_, fun b o e _ => ?_, fun b xs e => u.tups b xs (I.base.tups b xs e), fun b o v e => u.frzs b o v (I.base.frzs b o v e), fun b ps e => ?_⟩
  · exact u.keep b o (I.base.keep b o e n hb (nx b)) (I.base.free b o e n (nx b)) (nst b o e hb) (ne b)
  · obtain ⟨sl, e1⟩ := I.base.slot b o e n hb (nx b)
    obtain ⟨sl', e2⟩ := u.any e1 (I.base.free b o e n (nx b)) (ne b)
    exact ⟨sl', e2⟩
  · obtain ⟨o', e1⟩ := I.base.there b o e (nx b)
    exact u.free b o' e1 (I.base.free b o e n (nx b)) (ne b)
  · obtain ⟨o', e1⟩ := I.base.there b o e (nx b)
    exact u.there b o' e1 (ne b)
  · obtain ⟨m1, e1⟩ := I.base.tbls b ps e
    obtain ⟨m2, e2⟩ := u.tbls b _ e1
    exact ⟨m1 ++ m2, by rw [e2, Array.append_assoc]⟩
theorem out_st (I : Inv X pins σ H s) {b : Addr} {o : Obj} (e : X.s₀.heap.get? b = some o) (hb : b ∉ X.fs) : b ∉ frs X.stack := fun hm => by
  rcases List.mem_cons.mp (I.stkSub b hm) with z | z
  · exact absurd (Nat.lt_of_lt_of_le (Heap.lt_size e) I.ok.above) (by rw [z]; exact Nat.lt_irrefl _)
  · exact hb z
end

/-- an exception that is made here goes the way that E wants -/
def Outs (X : Cx) (E : XK) : Prop := ∀ (pins : List (Addr × Obj)) (σ : St) (H : Hp) (s : Shared) (h' : Heap) (a C : Addr) (vs : List Value), Inv X pins σ H s → Heap.MadeExcOf s.heap h' a (.ref C) vs → E (.ref C) none H → X.xe (.ref a) { s with heap := h' }

section
variable {P : Program} {w : World} {K : PySem.W.Frag} {mg : Str → Option Value} {base : Heap} {N : List Str} {qual : Str} {scope : Scope} {f : Addr} {cd : Value} {A : Around} {outer : List Env} {s₀ : Shared} {H₀ : Hp} {E : XK}
abbrev cxF (P : Program) (w : World) (K : PySem.W.Frag) (mg : Str → Option Value) (base : Heap) (N : List Str) (qual : Str) (scope : Scope) (f : Addr) (cd : Value) (A : Around) (outer : List Env) (s₀ : Shared) (H₀ : Hp) (E : XK) : Cx :=
  cxOf (CXF P w) P w K mg base N qual scope f cd A outer s₀ H₀ E
theorem outs_def : Outs (cxF P w K mg base N qual scope f cd A outer s₀ H₀ E) E := by
  intro pins σ H s h' a C vs I hx hE
  have hst : (cxF P w K mg base N qual scope f cd A outer s₀ H₀ E).stack = envOfC qual scope s₀.heap.objs.size f cd :: outer := rfl
  have hin : ∀ env ∈ (cxF P w K mg base N qual scope f cd A outer s₀ H₀ E).stack, ∀ b, env.frame = some b → b ∈ frs (cxF P w K mg base N qual scope f cd A outer s₀ H₀ E).stack := fun env he b hb => List.mem_filterMap.mpr ⟨env, he, hb⟩
  show wpAny (model P w) (A.deeper (envOfC qual scope s₀.heap.objs.size f cd)) («leaving» (envOfC qual scope s₀.heap.objs.size f cd) (.ref a)) _ _ _
  refine wpAny_leaves_madeW (base := PySem.W.hideAll s.heap (frs (cxF P w K mg base N qual scope f cd A outer s₀ H₀ E).stack)) I.ok.frames rfl (fun b o q => PySem.W.of_hideAll _ q) (PySem.W.funFrames_hide I.stack hin) hx fun h2 t fl tup ht up => ?_
  have gB : ∀ b o, s.heap.get? b = some o → b ∉ frs (cxF P w K mg base N qual scope f cd A outer s₀ H₀ E).stack → (PySem.W.hideAll s.heap (frs (cxF P w K mg base N qual scope f cd A outer s₀ H₀ E).stack)).get? b = some o := fun b o e hb => PySem.W.hideAll_get _ e hb
  have gF : ∀ b o, s.heap.get? b = some o → b ∈ frs (cxF P w K mg base N qual scope f cd A outer s₀ H₀ E).stack → ∃ sl, h2.get? b = some { o with slots := sl } := fun b o e hb => by
    obtain ⟨_, o', e', hd⟩ := I.stack.mem hb
    rw [e] at e'; cases e'
    exact up b o (hx.keeps b o e) hd
  have trk : ∀ b u, H b = some u → b ∉ frs (cxF P w K mg base N qual scope f cd A outer s₀ H₀ E).stack := fun b u e hb => by rw [I.stkFree b hb] at e; cases e
  have un : Un (frs (cxF P w K mg base N qual scope f cd A outer s₀ H₀ E).stack) [] H H s.heap h2 := by
    refine ⟨fun b o e _ hb _ => fl.1 b o (gB b o e hb), fun b o e _ hb _ => gF b o e hb, fun _ _ _ n _ => n, fun b o e _ => ?_, fun _ _ q => q, fun _ _ _ q => q, fun _ ps q => ⟨#[], by rw [q]; simp⟩⟩
    by_cases hb : b ∈ frs (cxF P w K mg base N qual scope f cd A outer s₀ H₀ E).stack
    · obtain ⟨sl, q⟩ := gF b o e hb
      exact ⟨_, q⟩
    · exact ⟨o, fl.1 b o (gB b o e hb)⟩
  have nx : ∀ b : Addr, b ∉ (cxF P w K mg base N qual scope f cd A outer s₀ H₀ E).ex := fun b hb => by cases hb
  refine ⟨a, C, .ref t, _, H, rfl, I.os, I.bare, un_out I rfl un, fun b u e => ?_, fl, fun b o e n hb => ?_, fun b o e hb => ?_, fun b u e => ?_, hE⟩
  · refine (I.hok b u e).stay (fun c v hc q => ?_) (fun _ q => q) fun _ _ q => q
    have hH : ∃ u', H c = some u' := by
      rcases hc with z | z
      · exact ⟨u, by rw [z]; exact e⟩
      · exact ⟨_, z⟩
    obtain ⟨u', hu'⟩ := hH
    exact fl.1 c v (gB c v q (trk c u' hu'))
  · exact gB b o (I.base.keep b o e n hb (nx b)) (out_st I e hb)
  · obtain ⟨o', e1⟩ := I.base.there b o e (nx b)
    exact ⟨o', gB b o' e1 (out_st I e hb)⟩
  · obtain ⟨ob, q⟩ := (I.hok b u e).there
    have z := gB b ob q (trk b u e)
    exact ⟨ob, fl.1 b ob z, z⟩
theorem passes_def : Passes (CXF P w) (cxF P w K mg base N qual scope f cd A outer s₀ H₀ E) E := by
  intro pins σ H s e s' I h
  obtain ⟨a, C, a0, B, H', rfl, os, bare, un, hok, fl, inB, thB, tr, hE⟩ := h
  show wpAny (model P w) (A.deeper (envOfC qual scope s₀.heap.objs.size f cd)) («leaving» (envOfC qual scope s₀.heap.objs.size f cd) (.ref a)) _ _ _
  refine wpAny_leaves_onW I.ok.frames rfl fl fun h2 fl2 up => ?_
  have ne : ∀ b : Addr, b ∉ ([] : List Addr) := fun b hb => by cases hb
  have nx : ∀ b : Addr, b ∉ (cxF P w K mg base N qual scope f cd A outer s₀ H₀ E).ex := fun b hb => by cases hb
  have gF : ∀ b o, s.heap.get? b = some o → b ∈ frs (cxF P w K mg base N qual scope f cd A outer s₀ H₀ E).stack → ∃ sl, h2.get? b = some { o with slots := sl } := fun b o e hb => by
    obtain ⟨_, o', e', hd⟩ := I.stack.mem hb
    rw [e] at e'; cases e'
    obtain ⟨sl, q⟩ := un.slot b o e (I.stkFree b hb) hb (ne b)
    obtain ⟨sl', q'⟩ := up b _ q hd
    exact ⟨sl', q'⟩
  have un2 : Un (frs (cxF P w K mg base N qual scope f cd A outer s₀ H₀ E).stack) [] H H' s.heap h2 := by
    refine ⟨fun b o e n hb _ => fl2.1 b o (inB b o e n hb), fun b o e _ hb _ => gF b o e hb, un.free, fun b o e _ => ?_, un.tups, un.frzs, un.tbls⟩
    by_cases hb : b ∈ frs (cxF P w K mg base N qual scope f cd A outer s₀ H₀ E).stack
    · obtain ⟨sl, q⟩ := gF b o e hb
      exact ⟨_, q⟩
    · obtain ⟨o', q⟩ := thB b o e hb
      exact ⟨o', fl2.1 b o' q⟩
  refine ⟨a, C, a0, B, H', rfl, os.trans I.os, bare, un_out I rfl un2, fun b u e => ?_, fl2, fun b o e n hb => ?_, fun b o e hb => ?_, fun b u e => ?_, hE⟩
  · refine (hok b u e).stay (fun c v hc q => ?_) (fun _ q => q) fun _ _ q => q
    have hH : ∃ u', H' c = some u' := by
      rcases hc with z | z
      · exact ⟨u, by rw [z]; exact e⟩
      · exact ⟨_, z⟩
    obtain ⟨u', hu'⟩ := hH
    obtain ⟨ob, q1, q2⟩ := tr c u' hu'
    rw [q] at q1; cases q1
    exact fl2.1 c v q2
  · exact inB b o (I.base.keep b o e n hb (nx b)) (I.base.free b o e n (nx b)) (out_st I e hb)
  · obtain ⟨o', e1⟩ := I.base.there b o e (nx b)
    exact thB b o' e1 (out_st I e hb)
  · obtain ⟨ob, q1, q2⟩ := tr b u e
    exact ⟨ob, fl2.1 b ob q2, q2⟩
theorem own_def : PassesOwn (model P w) (cxF P w K mg base N qual scope f cd A outer s₀ H₀ E).A (cxF P w K mg base N qual scope f cd A outer s₀ H₀ E).env (cxF P w K mg base N qual scope f cd A outer s₀ H₀ E).xe := PassesOwn.leaving
end

/-! ### raise C(..), C an own class -/
theorem exc_obj {K : PySem.W.Frag} {h : Heap} {C : Addr} {bmB : List Value} {newId : String} (X : K.In h) (q : PySem.W.excIn K C bmB newId = true) : ∃ bm N nm qn bs hdct sn sub ab col dd k0 k1 k2 k3 k5 mN,
    h.get? C = some (excClassObj nm qn C N bs bm hdct sn sub ab col dd k0 k1 k2 k3 k5 newId) ∧ h.Ns N mN ∧ mN "__init__" = none ∧ OwnTail h bmB bm := by
  unfold PySem.W.excIn at q
  split at q
  · rename_i dd cd sl ho
    split at q
    · rename_i C' bm k0 k1 k2 k3 n k5 hm hs
      simp only [Bool.and_eq_true, beq_iff_eq, Bool.not_eq_true'] at q
      obtain ⟨⟨⟨⟨⟨rfl, rfl⟩, hdel⟩, ht⟩, hok⟩, hni⟩ := q
      obtain ⟨nm, bs, mro, ns, qn, hd, sn, sub, ab, col, del⟩ := cd
      dsimp only at hm hdel hok hni
      subst hm hdel
      have hsl : sl = #[k0, k1, k2, k3, some (.builtin n), k5] := by
        obtain ⟨l⟩ := sl
        simp only at hs
        rw [hs]
      subst hsl
      exact ⟨bm, ns, nm, qn, bs, hd, sn, sub, ab, col, dd, k0, k1, k2, k3, k5, _, X _ _ ho, .of_isNs (PySem.W.isNs_of_in X hok), PySem.W.nsMap_none_of_in X hok hni, PySem.W.tail_of_in X ht⟩
    · cases q
  · cases q
section
variable {X : Cx} {E : XK} {x : Str} {C : Addr} {B newId initId : String} {bmB : List Value} {np cpos pos : Pos} {e₀ : Expr} {rest : List Expr} {ta : TA}
def tRaise (C : Addr) (E : XK) (ta : TA) : TS := fun _ σ H => ta σ H fun vs H1 => vs.length ≤ sizeLine ∧ E (.ref C) none H1
theorem ps_raise (ho : Outs X E) (hc : X.calm = true) (hg : Gl X x) (hm : X.mg x = some (.ref C)) (q : PySem.W.excIn X.K C bmB newId = true) (FB : ExcBaseFacts B newId initId bmB) (ha : PA X (e₀ :: rest) ta)
    (he : starEach (e₀ :: rest) X.env = (false, eval e₀ X.env) :: starEach rest X.env := by rfl) (hplain : (backTo cpos (starEach rest X.env)).any (·.1) = false := by rfl) (hd : (x == ("__debug__" : Str)) = false := by decide) :
    PS X (.Raise (some (.Call (.Name x np) (e₀ :: rest) [] cpos)) none pos) (tRaise C E ta) := by
  intro pins s σ H D I h
  obtain ⟨bm, N, nm, qn, bs, hdct, sn, sub, ab, col, dd, k0, k1, k2, k3, k5, mN, hC, hN, hni, T⟩ := exc_obj I.mod.kin q
  refine wpAny_Raise_call_subT (C := C) (nm := nm) (q := qn) (N := N) (bs := bs) (bm := bm) (hdct := hdct) (sn := sn) (sub := sub) (ab := ab) (col := col) (dd := dd) (k0 := k0) (k1 := k1) (k2 := k2) (k3 := k3) (k5 := k5)
    FB (mN := mN) (T.hasType FB.hasBase) (I.ok.hd hc) (by rw [he]; show (false || (backTo cpos (starEach rest X.env)).any (·.1)) = false; rw [hplain]; rfl) hni (ld_glob I hg hm ⟨rfl, ?_⟩ hd)
  have hA := ha cpos pins s σ H _ I h
  rw [he] at hA ⊢
  refine Calls.evalArgs_plain (thn hA fun us s2 ⟨vs, H2, I2, r2, hl, hE⟩ => ⟨rfl, by rw [← r2.length]; exact hl, I2.bk _ _ hC, hN.keeps I2.bk, T.keeps I2.bk, fun h' e hx => ?_⟩)
  exact ho pins σ H2 s2 h' e C us I2 hx hE
end
/-- THE RULE for a def that raises -/
theorem Fun.okX {P : Program} {w : World} {K : PySem.W.Frag} {mg : Str → Option Value} {base : Heap} {x qual : Str} {st : Stmt} {f : Addr} {fd : FuncData} {N ps : List Str} {k : Nat} {sp : Sp} (F : Fun K x qual st f fd) (S : FnScope N ps (defScope st)) (len : ∀ vs H Q E, sp vs H Q E → vs.length = ps.length)
    (hbody : ∀ (cdv : Value) (A : Around) (outer : List Env) (s : Shared) (H : Hp) (vs : List V) (Q : VK) (E : XK), Room k (A.deeper (envOfC qual (defScope st) s.heap.objs.size f cdv)) → sp vs H Q E →
      ∃ t, PSs (cxF P w K mg base N qual (defScope st) f cdv A outer s H E) (defBody st) t ∧ t { nx := fun _ H' => Q .non H', rt := Q } (start N vs) H) : FnOk P w K mg base (CXF P w) (k + 1) f fd ps sp := by
  obtain ⟨oc, od, kV, doc, pm, an, cdv, ct, osl, rfl, lk, hcd⟩ := F.ex
  exact fn_of lk hcd S len fun A outer s H vs Q E hr hsp => hbody cdv A outer s H vs Q E hr hsp
end L2


set_option Elab.async false
set_option linter.all false
set_option maxRecDepth 100000
set_option maxHeartbeats 4000000
/-! MORE OF SEQUENCES: sorted, max, all, any, zip of two tuples, t + u -/
namespace PyProof.Rows
open PySem PySem.W
section
variable {prog : Program} {w : World} {A : Around} {E : Value → Shared → Prop} {s : Shared}
/-- the items of a list or a tuple are drawn into a new list -/
theorem draw_seq {T : String} {l : Addr} {o : Obj} {vs : List Value} {n : Nat} {Q : List Value → Shared → Prop} (hT : T = "list" ∨ T = "tuple") (ho : s.heap.get? l = some o) (hc : o.cls = .type T) (hd : o.data = .seq vs.toArray n) (hz : vs.length ≤ sizeLine)
    (hQ : Q vs { s with heap := (s.heap.push (seqObj "list" #[] 0)).update s.heap.objs.size (Obj.mapSeq (· ++ vs.toArray)) }) : wpAny (model prog w) A (collect (.ref l)) Q E s := by
  have up : (s.heap.push (seqObj "list" #[] 0)).get? l = some o := Heap.get?_push_of_some _ ho
  have nw : (s.heap.push (seqObj "list" #[] 0)).get? s.heap.objs.size = some (seqObj "list" #[] 0) := Heap.get?_push_size _ rfl
  have cond : ∀ x y : Value, (Builtin.List.listSameRef x y || Value.type T == Value.type "list" || Value.type T == Value.type "tuple") = true := fun x y => by
    rcases hT with rfl | rfl <;> simp
  unfold collect
  refine wpAny_bind (wpAny_runValue (codeAny_builtin entry_proto_collect' ?run))
  case run =>
    refine wpAny_bind (wpAny_newList (wpAny_pure ⟨Code.quiet_builtin _ (by decide +kernel), codeAny_builtin entry_list_iadd' ?ext⟩))
    case ext =>
      show wpAny _ _ (Builtin.List.listExtendWith (.ref s.heap.objs.size) (.ref l) (.ref s.heap.objs.size)) _ _ _
      unfold Builtin.List.listExtendWith
      refine wpAny_bind (wpAny_typeOf (T := T) ⟨o, up, hc⟩ ?_); rw [if_pos (cond _ _)]
      refine wpAny_bind (listItems_at up hd (wpAny_bind (listItems_at nw rfl ?_))); rw [if_neg (by simp)]
      refine wpAny_bind (listUpdate_at nw rfl (wpAny_pure ?_) (Nat.zero_le _) (by show (#[] ++ vs.toArray).size ≤ sizeLine + 1; simp only [Array.size_append, List.size_toArray, List.length_nil]; omega))
      refine wpAny_bind (wpAny_load (get?_update_seq nw _) ?_)
      have e : (#[] ++ vs.toArray : Array Value).toList = vs := by simp
      show wpAny _ _ (pure (#[] ++ vs.toArray : Array Value).toList) Q E _
      rw [e]; exact wpAny_pure hQ
/-- a list sorts itself: what the comparisons say is run's business, they change nothing -/
theorem sort_self {a : Addr} {vs out : List Value} {n : Nat} {P : PySem.Fin → Shared → Prop} (ho : s.heap.get? a = some (seqObj "list" vs.toArray n)) (hz : vs.length ≤ sizeLine) (hlen : out.length = vs.length) (short : vs.length < 2 → out = vs)
    (run : 2 ≤ vs.length → ∀ h' : Heap, (∀ b o, b ≠ a → s.heap.get? b = some o → h'.get? b = some o) → wpAny (model prog w) A (keyKind' vs.toArray) (fun κ s1 => s1 = { s with heap := h' } ∧
      wpAny (model prog w) A ((sortRuns').run (SortSt.mk' κ (vs.toArray.zip vs.toArray) #[] 7 none)) (fun r s2 => s2 = { s with heap := h' } ∧ failedOf r.2 = none ∧ (arrOf r.2).map (·.2) = out.toArray) E s1) E { s with heap := h' })
    (hP : P (.done (.ret .none)) { s with heap := sortedHeap s.heap a vs out.toArray }) : wpAny (model prog w) A (Builtin.«list.sort» ⟨[.ref a], []⟩) P E s := by
  have ha : a < s.heap.objs.size := Heap.lt_size ho
  have hz1 : vs.toArray.size ≤ sizeLine := hz
  have hz2 : out.toArray.size ≤ sizeLine + 1 := Nat.le_succ_of_le (by show out.length ≤ sizeLine; rw [hlen]; exact hz)
  obtain ⟨e1, ho1⟩ : ∃ e1, (s.heap.update a (Obj.mapSeq fun _ => #[])).get? a = some (seqObj "list" #[] e1) := ⟨_, get?_update_seq ho fun _ => #[]⟩
  have old : ∀ b o, b ≠ a → s.heap.get? b = some o → (((s.heap.update a (Obj.mapSeq fun _ => #[])).push (seqObj "tuple" vs.toArray 0)).push (seqObj "list" #[] 0)).get? b = some o := fun b o hb e =>
    Heap.get?_push_of_some _ (Heap.get?_push_of_some _ ((Heap.get?_update_ne _ _ _ _ hb).trans e))
  have at_a : (((s.heap.update a (Obj.mapSeq fun _ => #[])).push (seqObj "tuple" vs.toArray 0)).push (seqObj "list" #[] 0)).get? a = some (seqObj "list" #[] e1) := Heap.get?_push_of_some _ (Heap.get?_push_of_some _ ho1)
  rw [list_sort_plain]
  refine wpAny_bind (listItems_at ho rfl (wpAny_bind (listUpdate_at ho rfl (wpAny_bind (seqEpoch_at ho1 rfl (wpAny_bind (wpAny_newTuple (wpAny_bind (wpAny_newList (wpAny_holding ?_) (Nat.zero_le _))) hz))) ) hz1 (Nat.zero_le _))))
  show wpAny _ _ _ _ _ { s with heap := ((s.heap.update a (Obj.mapSeq fun _ => #[])).push (seqObj "tuple" vs.toArray 0)).push (seqObj "list" #[] 0) }
  dsimp only
  have fin : ∀ st : SortSt, failedOf st = none → (arrOf st).map (·.2) = out.toArray → wpAny (model prog w) A (do
      let touched ← (do let x ← seqEpoch a; pure (x != e1))
      Builtin.List.listUpdate (.ref a) fun _ => (arrOf st).map (·.2)
      if let some e := failedOf st then do rule "list.sort.comparison-raised"; throw e
      if touched then do rule "list.sort.modified"; raiseError "ValueError" "list modified during sort"
      ret .none) P E { s with heap := ((s.heap.update a (Obj.mapSeq fun _ => #[])).push (seqObj "tuple" vs.toArray 0)).push (seqObj "list" #[] 0) } := by
    intro st hf har
    rw [hf, har]
    refine wpAny_bind (wpAny_bind (seqEpoch_at at_a rfl (wpAny_pure (wpAny_bind (listUpdate_at at_a rfl ?_ (Nat.zero_le _) hz2)))))
    simp only [bne_self_eq_false, Bool.false_eq_true, if_false]
    exact wpAny_pure hP
  by_cases h2 : vs.toArray.size < 2
  · have ev := short h2
    rw [if_pos h2, if_pos h2]
    refine wpAny_bind (wpAny_pure ?_)
    rw [StateT.run_pure]
    refine wpAny_bind (wpAny_pure ?_)
    have ez : (arrOf (SortSt.mk' general' (vs.toArray.zip vs.toArray) #[] 7 none)).map (·.2) = out.toArray := by
      show (vs.toArray.zip vs.toArray).map (·.2) = out.toArray
      rw [ev]; apply Array.toList_inj.mp; simp [List.map_snd_zip]
    have q := fin (SortSt.mk' general' (vs.toArray.zip vs.toArray) #[] 7 none) rfl ez
    simp only [bind_assoc, pure_bind] at q
    exact q
  · rw [if_neg h2, if_neg h2]
    refine wpAny_bind (wpAny_mono (run (Nat.le_of_not_lt h2) _ old) (fun κ s1 hk => ?_) fun _ _ x => x)
    obtain ⟨rfl, hk⟩ := hk
    refine wpAny_bind (wpAny_mono hk (fun r s2 hr => ?_) fun _ _ x => x)
    obtain ⟨rfl, hf, har⟩ := hr
    obtain ⟨⟨⟩, st⟩ := r
    have q := fin st hf har
    simp only [bind_assoc, pure_bind] at q
    exact q
/-- sorted(x), x a list or a tuple: the new list sorts itself -/
theorem sorted_open {T : String} {l : Addr} {o : Obj} {vs : List Value} {n : Nat} {Q : Value → Shared → Prop} (hT : T = "list" ∨ T = "tuple") (ho : s.heap.get? l = some o) (hc : o.cls = .type T) (hd : o.data = .seq vs.toArray n) (hz : vs.length ≤ sizeLine)
    (hb : ∀ h' : Heap, h' = (((s.heap.push (seqObj "list" #[] 0)).update s.heap.objs.size (Obj.mapSeq (· ++ vs.toArray))).push (seqObj "list" vs.toArray 0)) → h'.get? (s.heap.objs.size + 1) = some (seqObj "list" vs.toArray 0) → (∀ b o, s.heap.get? b = some o → h'.get? b = some o) →
      wpAny (model prog w) A.in1.in1 (Builtin.«list.sort» ⟨[.ref (s.heap.objs.size + 1)], []⟩) (fun fin s' => fin = .done (.ret .none) ∧ Q (.ref (s.heap.objs.size + 1)) s') E { s with heap := h' }) : wpAny (model prog w) A (call (.builtin "sorted") [.ref l]) Q E s := by
  have zs : ((s.heap.push (seqObj "list" #[] 0)).update s.heap.objs.size (Obj.mapSeq (· ++ vs.toArray))).objs.size = s.heap.objs.size + 1 := by rw [Heap.size_update, size_push']
  have at1 : (((s.heap.push (seqObj "list" #[] 0)).update s.heap.objs.size (Obj.mapSeq (· ++ vs.toArray))).push (seqObj "list" vs.toArray 0)).get? (s.heap.objs.size + 1) = some (seqObj "list" vs.toArray 0) := by
    have q := Heap.get?_push_size ((s.heap.push (seqObj "list" #[] 0)).update s.heap.objs.size (Obj.mapSeq (· ++ vs.toArray))) (o := seqObj "list" vs.toArray 0) rfl
    rwa [zs] at q
  have old : ∀ b o, s.heap.get? b = some o → (((s.heap.push (seqObj "list" #[] 0)).update s.heap.objs.size (Obj.mapSeq (· ++ vs.toArray))).push (seqObj "list" vs.toArray 0)).get? b = some o := fun b o e =>
    Heap.get?_push_of_some _ ((Heap.get?_update_ne _ _ _ _ (Nat.ne_of_lt (Heap.lt_size e))).trans (Heap.get?_push_of_some _ e))
  refine Calls.call_function_entry kind_sorted plain_sorted entry_sorted (args_sorted1 _) ?body
  case body =>
    unfold Builtin.«sorted»
    refine wpAny_bind (m := checkCount "sorted" 1 1 _) (wpAny_pure (wpAny_bind (draw_seq hT ho hc hd hz (wpAny_bind (wpAny_newList ?_ hz)))))
    show wpAny _ _ _ _ _ { s with heap := ((s.heap.push (seqObj "list" #[] 0)).update s.heap.objs.size (Obj.mapSeq (· ++ vs.toArray))).push (seqObj "list" vs.toArray 0) }
    rw [zs]
    refine wpAny_bind (wpAny_holding (wpAny_call_entry slot_list_sort ⟨_, at1, rfl⟩ entry_list_sort (wpAny_mono (hb _ rfl at1 old) (fun fin s' q => ?_) fun _ _ z => z) (args_list_sort _)))
    obtain ⟨rfl, q⟩ := q
    exact ⟨_, rfl, wpAny_pure ⟨_, rfl, q⟩⟩
theorem sorted_of {T : String} {l : Addr} {o : Obj} {vs out : List Value} {n : Nat} {Q : Value → Shared → Prop} (hT : T = "list" ∨ T = "tuple") (ho : s.heap.get? l = some o) (hc : o.cls = .type T) (hd : o.data = .seq vs.toArray n) (hz : vs.length ≤ sizeLine)
    (hlen : out.length = vs.length) (short : vs.length < 2 → out = vs)
    (run : 2 ≤ vs.length → ∀ h' : Heap, (∀ b o, s.heap.get? b = some o → h'.get? b = some o) → wpAny (model prog w) A.in1.in1 (keyKind' vs.toArray) (fun κ s1 => s1 = { s with heap := h' } ∧
      wpAny (model prog w) A.in1.in1 ((sortRuns').run (SortSt.mk' κ (vs.toArray.zip vs.toArray) #[] 7 none)) (fun r s2 => s2 = { s with heap := h' } ∧ failedOf r.2 = none ∧ (arrOf r.2).map (·.2) = out.toArray) E s1) E { s with heap := h' })
    (hQ : Q (.ref (s.heap.objs.size + 1)) { s with heap := sortedAll s.heap vs out.toArray }) : wpAny (model prog w) A (call (.builtin "sorted") [.ref l]) Q E s := by
  refine sorted_open hT ho hc hd hz fun h1 e1 at1 old => ?_
  subst e1
  exact sort_self (s := { s with heap := _ }) (out := out) at1 hz hlen short (fun h2 h' kp => run h2 h' fun b o e => kp b o (Nat.ne_of_lt (Nat.lt_succ_of_lt (Heap.lt_size e))) (old b o e)) ⟨rfl, hQ⟩
end
/-- a tree of questions, answered by c -/
def ansT {α : Type} (c : Nat → Nat → Bool) : KasT α → α
  | .ret a => a
  | .ask i j k => ansT c (k (c i j))
/-- all questions asked are of places below n -/
def ordOf (c : Nat → Nat → Bool) (n : Nat) : List Nat := if n < 2 then List.range n else (ansT c (kas_sort n)).toList
end PyProof.Rows

namespace PyProof.Rows
open PySem PySem.W
/-! ### the tree of questions: only places below n are asked, what comes is a permutation -/
def FineT {α : Type} (n : Nat) (P : α → Prop) : KasT α → Prop
  | .ret a => P a
  | .ask i j k => i < n ∧ j < n ∧ ∀ b, FineT n P (k b)
theorem FineT.imp {α : Type} {n : Nat} {P P' : α → Prop} (f : ∀ a, P a → P' a) : ∀ {t : KasT α}, FineT n P t → FineT n P' t
  | .ret _, h => f _ h
  | .ask _ _ _, h => ⟨h.1, h.2.1, fun b => FineT.imp f (h.2.2 b)⟩
theorem FineT.bind {α β : Type} {n : Nat} {P : α → Prop} {P' : β → Prop} {f : α → KasT β} (hf : ∀ a, P a → FineT n P' (f a)) : ∀ {t : KasT α}, FineT n P t → FineT n P' (t.bind f)
  | .ret _, h => hf _ h
  | .ask _ _ _, h => ⟨h.1, h.2.1, fun b => FineT.bind hf (h.2.2 b)⟩
theorem FineT.ans {α : Type} {n : Nat} {P : α → Prop} {c : Nat → Nat → Bool} : ∀ {t : KasT α}, FineT n P t → P (ansT c t)
  | .ret _, h => h
  | .ask i j k, h => FineT.ans (t := k (c i j)) (h.2.2 (c i j))
theorem FineT.wp {α : Type} {n : Nat} {P : α → Prop} {cmp : Nat → Nat → (Bool → Shared → Prop) → Shared → Prop} {c : Nat → Nat → Bool} {s : Shared} (hc : ∀ i j (C : Bool → Shared → Prop), i < n → j < n → C (c i j) s → cmp i j C s) {Q : α → Shared → Prop} :
    ∀ {t : KasT α}, FineT n P t → Q (ansT c t) s → t.kasWp cmp Q s
  | .ret _, _, h => h
  | .ask i j k, f, h => hc i j _ f.1 f.2.1 (FineT.wp hc (t := k (c i j)) (f.2.2 (c i j)) h)
abbrev Pm (n : Nat) (p : Array Nat) : Prop := p.Perm (List.range n).toArray
theorem Pm.get {n : Nat} {p : Array Nat} (h : Pm n p) (hn : 0 < n) (k : Nat) : p.getD k 0 < n := by
  by_cases hk : k < p.size
  · have e : p.getD k 0 = p[k] := by simp [Array.getD, hk]
    rw [e]
    have m : p[k] ∈ (List.range n).toArray := h.mem_iff.mp (Array.getElem_mem hk)
    simpa using m
  · have e : p.getD k 0 = 0 := by simp [Array.getD, hk]
    rw [e]; exact hn
section
variable {n : Nat} (hn : 0 < n)
include hn
theorem fine_asc {p : Array Nat} (h : Pm n p) : ∀ (f k : Nat), FineT n (fun _ => True) (kas_asc p f k)
  | 0, _ => trivial
  | f + 1, k => ⟨h.get hn _, h.get hn _, fun b => by
      cases b with
      | true => exact trivial
      | false => exact fine_asc h f (k + 1)⟩
theorem fine_desc : ∀ (f : Nat) {p : Array Nat} (k q : Nat), Pm n p → FineT n (fun r => Pm n r.1) (kas_desc f p k q)
  | 0, _, _, _, h => h
  | f + 1, p, k, q, h => ⟨h.get hn _, h.get hn _, fun b => by
      cases b with
      | true =>
        show FineT n _ (if q > 0 then kas_desc f (kas_rev p (k - (q + 1)) k) (k + 1) 0 else kas_desc f p (k + 1) 0)
        split
        · exact fine_desc f _ _ ((mirror_perm _ _ _ _).trans h)
        · exact fine_desc f _ _ h
      | false => exact ⟨h.get hn _, h.get hn _, fun d => by
          cases d with
          | true => exact h
          | false => exact fine_desc f _ _ h⟩⟩
theorem fine_tail {p : Array Nat} (h : Pm n p) (a b : Nat) : FineT n (fun r => Pm n r.2) (kas_tail3 a b p) := by
  have q : Pm n (kas_rev p 0 a) := (mirror_perm _ _ _ _).trans h
  exact FineT.bind (P := fun _ => True) (P' := fun r => Pm n r.2) (f := fun m => KasT.ret (m, kas_rev p 0 a)) (fun m _ => show FineT n (fun r : Nat × Array Nat => Pm n r.2) (KasT.ret (m, kas_rev p 0 a)) from q) (fine_asc hn q _ _)
theorem fine_part {p : Array Nat} (h : Pm n p) (a b : Nat) : FineT n (fun r => Pm n r.2) (kas_descPart a b p) := by
  refine FineT.bind (fun r hr => ?_) (fine_desc hn _ _ _ h)
  show FineT n _ (if r.2.2 > 0 then _ else _)
  split
  · exact fine_tail hn ((mirror_perm _ _ _ _).trans hr) _ _
  · exact fine_tail hn hr _ _
theorem fine_count {p : Array Nat} (h : Pm n p) (b : Nat) : FineT n (fun r => Pm n r.2) (kas_count b p) := by
  refine FineT.bind (fun k _ => ?_) (fine_asc hn h _ _)
  show FineT n _ (if (k == b) = true then _ else if k > 1 then _ else _)
  split
  · exact h
  · split
    · refine ⟨h.get hn _, h.get hn _, fun c => ?_⟩
      cases c with
      | true => exact h
      | false => exact fine_part hn ((mirror_perm _ _ _ _).trans h) _ _
    · exact fine_part hn h _ _
theorem fine_place {p : Array Nat} (h : Pm n p) (k : Nat) : ∀ (f l r : Nat), FineT n (fun _ => True) (kas_place p k f l r)
  | 0, _, _ => trivial
  | f + 1, l, r => by
    show FineT n _ (if l ≥ r then _ else _)
    split
    · exact trivial
    · refine ⟨h.get hn _, h.get hn _, fun c => ?_⟩
      cases c with
      | true => exact fine_place h k f _ _
      | false => exact fine_place h k f _ _
theorem fine_bin : ∀ (f : Nat) {p : Array Nat} (k : Nat), Pm n p → FineT n (Pm n) (kas_bin f p k)
  | 0, _, _, h => h
  | f + 1, p, k, h => FineT.bind (fun l _ => fine_bin f (k + 1) ((bubble_perm _ _ _).trans h)) (fine_place hn h k _ _ _)
theorem fine_sort : FineT n (Pm n) (kas_sort n) := by
  refine FineT.bind (fun r hr => ?_) (fine_count hn (p := (List.range n).toArray) (Array.Perm.refl _) n)
  show FineT n _ (if r.1 < n then _ else _)
  split
  · exact fine_bin hn _ _ hr
  · exact hr
end
theorem ord_perm (c : Nat → Nat → Bool) (n : Nat) : (ordOf c n).Perm (List.range n) := by
  unfold ordOf
  split
  · exact List.Perm.refl _
  · rename_i h
    exact Array.perm_iff_toList_perm.mp (fine_sort (by omega)).ans
theorem ord_len (c : Nat → Nat → Bool) (n : Nat) : (ordOf c n).length = n := by rw [(ord_perm c n).length_eq, List.length_range]
theorem ord_lt {c : Nat → Nat → Bool} {n i : Nat} (h : i ∈ ordOf c n) : i < n := List.mem_range.mp ((ord_perm c n).mem_iff.mp h)
/-- l in the order that c finds -/
def sortBy {α : Type} (c : α → α → Bool) (d : α) (l : List α) : List α := (ordOf (fun i j => c (l.getD i d) (l.getD j d)) l.length).map fun i => l.getD i d
theorem getD_range {α : Type} (d : α) (l : List α) : (List.range l.length).map (fun i => l.getD i d) = l := by
  apply List.ext_getElem?
  intro i
  rw [List.getElem?_map]
  by_cases h : i < l.length
  · rw [List.getElem?_range h, List.getElem?_eq_getElem h]
    simp [h]
  · rw [List.getElem?_eq_none (by simpa using h), List.getElem?_eq_none (by simpa using h)]
    rfl
theorem sortBy_perm {α : Type} (c : α → α → Bool) (d : α) (l : List α) : (sortBy c d l).Perm l := by
  have q := (ord_perm (fun i j => c (l.getD i d) (l.getD j d)) l.length).map fun i => l.getD i d
  rw [getD_range] at q
  exact q
section
variable {prog : Program} {w : World} {A : Around} {E : Value → Shared → Prop} {s : Shared}
/-- one run of less than 64 -/
theorem runs_of {κ : SortKind} {c : Nat → Nat → Bool} {vs : List Value} (h2 : 2 ≤ vs.length) (h64 : vs.length < 64) (hc : ∀ i j (C : Bool → Shared → Prop), i < vs.length → j < vs.length → C (c i j) s → kas_ask prog w A κ vs i j C s) :
    wpAny (model prog w) A ((sortRuns').run (SortSt.mk' κ (vs.toArray.zip vs.toArray) #[] 7 none)) (fun r s2 => s2 = s ∧ failedOf r.2 = none ∧ (arrOf r.2).map (·.2) = ((ordOf c vs.length).map fun i => vs.getD i Value.none).toArray) E s := by
  refine kat_run (Q := fun st s2 => s2 = s ∧ failedOf st = none ∧ (arrOf st).map (·.2) = ((ordOf c vs.length).map fun i => vs.getD i Value.none).toArray) (G := fun p s2 => s2 = s ∧ p = ansT c (kas_sort vs.length)) rfl h2 h64 (fun p st s2 _ har hf hg => ?_) ?_
  · obtain ⟨rfl, rfl⟩ := hg
    refine ⟨rfl, hf, ?_⟩
    rw [kat_snds rfl har]
    unfold ordOf
    rw [if_neg (by omega)]
  · exact FineT.wp hc (fine_sort (by omega)) ⟨rfl, rfl⟩
end
end PyProof.Rows

namespace L2
open PySem PySem.Spec PyProof.Rows
/-! ### sorted -/
section
variable {prog : Program} {w : World} {A : Around} {E : Value → Shared → Prop} {s : Shared}
theorem lex_ints {fin : Bool} {Q : Bool → Shared → Prop} : ∀ (g k : List Int) (xs ys : List Value) (i : Nat), Vals (g.map V.int) xs → Vals (k.map V.int) ys → fin = decide (xs.length < ys.length) → Q (HT.lexLt g k) s → PySem.W.KatLex prog w A true fin Q (xs.zip ys) i s
  | [], [], _, _, _, .nil, .nil, hf, q => by subst hf; exact q
  | [], _ :: _, _, _, _, .nil, .cons _ _, hf, q => by subst hf; exact q
  | _ :: _, [], _, _, _, .cons _ _, .nil, hf, q => by subst hf; exact q
  | a :: g, b :: k, x :: xs, y :: ys, i, .cons ra rg, .cons rb rk, hf, q => by
    obtain ⟨t, rfl⟩ := ra
    obtain ⟨u, rfl⟩ := rb
    refine PySem.W.kat_cons (wpAny_eqBool_int ?_)
    rw [HT.lexLt_cons] at q
    refine PySem.W.kat_go (fun h => ?_) (fun h => ?_)
    · rw [if_pos (eq_of_beq h)] at q
      exact PySem.W.kat_yes (lex_ints g k xs ys (i + 1) rg rk (by rw [hf]; simp) q)
    · rw [if_neg (fun z => by rw [z, beq_self_eq_true] at h; cases h)] at q
      refine PySem.W.kat_no ?_
      cases i with
      | zero => exact oneLt_int q
      | succ j => exact PySem.W.kat_one _ _ (lt_int q)
theorem tups_of {P : Program} {H : Hp} {h : Heap} (ok : HOk P w H h) : ∀ {gs : List (List Int)} {vs : List V} {us : List Value}, DVs H (gs.map fun g => .tuple (g.map PyData.int)) vs → Vals vs us → (∀ g ∈ gs, g ≠ []) → ∃ fs, fs.length = gs.length ∧ (∀ f ∈ fs, ∃ i t, f = Value.int i t) ∧ PySem.W.KatTups h us fs
  | [], _, _, .nil, .nil, _ => ⟨[], rfl, (fun _ z => by cases z), trivial⟩
  | g :: gs, _, _, .cons hd ht, .cons r rr, hne => by
    obtain ⟨fs, hl, hi, hk⟩ := tups_of ok ht rr fun g hg => hne g (List.mem_cons_of_mem _ hg)
    obtain ⟨a, vs, rfl, ha, hv⟩ := hd.tup_inv
    cases hv.ints_inv
    cases r
    obtain ⟨_, its, rv, o, ho, hc, n, hdt⟩ := ok a _ ha
    cases g with
    | nil => exact absurd rfl (hne [] List.mem_cons_self)
    | cons x g =>
      cases rv with
      | @cons _ u _ us ru _ =>
        obtain ⟨t, rfl⟩ := ru
        refine ⟨.int x t :: fs, by simp [hl], fun f hf => ?_, PySem.W.KatTups.cons ho hc hdt (by simp) hk⟩
        rcases List.mem_cons.mp hf with rfl | z
        · exact ⟨x, t, rfl⟩
        · exact hi f z
theorem vals_pick {vs : List V} {us : List Value} (r : Vals vs us) : ∀ (p : List Nat), (∀ i ∈ p, i < vs.length) → Vals (p.map fun i => vs.getD i .non) (p.map fun i => us.getD i Value.none)
  | [], _ => .nil
  | i :: p, h => by
    refine .cons ?_ (vals_pick r p fun j hj => h j (List.mem_cons_of_mem _ hj))
    have hi := h i List.mem_cons_self
    obtain ⟨u, hu, ru⟩ := r.get (List.getElem?_eq_getElem hi)
    show RelV (vs.getD i .non) (us.getD i Value.none)
    rw [List.getD_eq_getElem?_getD, List.getD_eq_getElem?_getD, List.getElem?_eq_getElem hi, hu]
    exact ru
theorem dvs_pick {α : Type} {H : Hp} {f : α → PyData} {d : α} {l : List α} {vs : List V} (h : DVs H (l.map f) vs) : ∀ (p : List Nat), (∀ i ∈ p, i < l.length) → DVs H ((p.map fun i => l.getD i d).map f) (p.map fun i => vs.getD i .non)
  | [], _ => .nil
  | i :: p, hp => by
    refine .cons ?_ (dvs_pick h p fun j hj => hp j (List.mem_cons_of_mem _ hj))
    have hi := hp i List.mem_cons_self
    obtain ⟨v, hv, dv⟩ := h.get (i := i) (d := f l[i]) (by rw [List.getElem?_map, List.getElem?_eq_getElem hi]; rfl)
    show DV H (f (l.getD i d)) (vs.getD i .non)
    rw [List.getD_eq_getElem?_getD, List.getD_eq_getElem?_getD, List.getElem?_eq_getElem hi, hv]
    exact dv
end
section
variable {X : Cx}
/-- sorted(list of groups) -/
def srtT (gs : List (List Int)) : List (List Int) := sortBy HT.lexLt [] gs
theorem srtT_perm (gs : List (List Int)) : (srtT gs).Perm gs := sortBy_perm _ _ _
theorem call_sortedT : CallR X (.builtin "sorted") (fun xs H Q => ∃ (p : Addr) (gs : List (List Int)) (vs : List V), xs = [.ref p] ∧ H p = some (.lst vs) ∧ DVs H (gs.map fun g => .tuple (g.map PyData.int)) vs ∧ gs.length < 64 ∧ (∀ g ∈ gs, g ≠ []) ∧
    ∀ (l : Addr) (vs' : List V), H l = none → DVs H ((srtT gs).map fun g => .tuple (g.map PyData.int)) vs' → Q (.ref l) (upd H l (.lst vs'))) := by
  intro pins s σ H xs us Q I r h
  obtain ⟨p, gs, vs, rfl, hp, dv, h64, hne, q⟩ := h
  obtain ⟨u, rfl, ru⟩ := vals1 r
  cases ru
  obtain ⟨hz, its, n, rv, eo⟩ := I.hok p _ hp
  have ln : its.length = gs.length := by rw [← rv.length, ← dv.length, List.length_map]
  have lv : vs.length = gs.length := by rw [← dv.length, List.length_map]
  let c : Nat → Nat → Bool := fun i j => HT.lexLt (gs.getD i []) (gs.getD j [])
  have hord : ∀ i ∈ ordOf c gs.length, i < gs.length := fun i hi => ord_lt hi
  have hfit : 64 ≤ sizeLine := by rw [sizeLine_eq]; omega
  refine sorted_of (T := "list") (out := (ordOf c gs.length).map fun i => its.getD i Value.none) (.inl rfl) eo rfl rfl (by omega) (by rw [List.length_map, ord_len, ln]) (fun h => ?_) (fun h2 h' kp => ?_) ?_
  · unfold ordOf
    rw [if_pos (by omega), ← ln, getD_range]
  · have ok' : HOk X.prog X.w H h' := I.hok.kept kp
    obtain ⟨fs, hfl, hfi, hk⟩ := tups_of ok' dv rv hne
    refine PySem.W.kat_kind (T := .type "int") hk (by omega) (fun v hv => ?_) rfl ⟨rfl, ?_⟩
    · obtain ⟨i, t, rfl⟩ := hfi v hv
      exact PySem.W.Looks.of_pure rfl
    · have R := runs_of (prog := X.prog) (w := X.w) (A := X.A.in1.in1) (E := X.xe) (s := { s with heap := h' }) (κ := tuples' ((Value.type "int") != Value.type "tuple")) (c := c) (vs := its) h2 (by omega) (fun i j C hi hj hC => ?_)
      · rw [ln] at R; exact R
      · have gi : gs[i]? = some (gs.getD i []) := by simp [show i < gs.length by omega]
        have gj : gs[j]? = some (gs.getD j []) := by simp [show j < gs.length by omega]
        obtain ⟨vi, e1, d1⟩ := dv.get (i := i) (by rw [List.getElem?_map, gi]; rfl)
        obtain ⟨vj, e2, d2⟩ := dv.get (i := j) (by rw [List.getElem?_map, gj]; rfl)
        obtain ⟨a1, w1, rfl, t1, v1⟩ := d1.tup_inv
        obtain ⟨a2, w2, rfl, t2, v2⟩ := d2.tup_inv
        cases v1.ints_inv; cases v2.ints_inv
        obtain ⟨u1, f1, r1⟩ := rv.get e1
        obtain ⟨u2, f2, r2⟩ := rv.get e2
        cases r1; cases r2
        obtain ⟨_, z1, rz1, o1, g1, _, n1, dd1⟩ := ok' a1 _ t1
        obtain ⟨_, z2, rz2, o2, g2, _, n2, dd2⟩ := ok' a2 _ t2
        show wpAny _ _ (keyLt' _ (its.getD i Value.none) (its.getD j Value.none)) C _ _
        rw [List.getD_eq_getElem?_getD, List.getD_eq_getElem?_getD, f1, f2]
        refine PySem.W.kat_lt g1 dd1 g2 dd2 ?_
        rw [List.toList_toArray, List.toList_toArray]
        exact lex_ints _ _ _ _ 0 rz1 rz2 rfl hC
  · obtain ⟨e, he⟩ := sortedAll_at s.heap its ((ordOf c gs.length).map fun i => its.getD i Value.none).toArray
    refine ⟨.ref (s.heap.objs.size + 1), _, I.laid (t' := s.toks) (o := .lst ((ordOf c gs.length).map fun i => vs.getD i .non)) (fun b o hb => sortedAll_old hb) (Nat.le_succ _) ⟨by rw [List.length_map, ord_len]; omega, _, e, vals_pick rv _ (fun i hi => by rw [lv]; exact hord i hi), he⟩, rfl, q _ _ (I.hok.fresh (Nat.le_succ _)) (dvs_pick dv _ hord)⟩
/-- sorted(tuple of ints) -/
theorem call_sortedI : CallR X (.builtin "sorted") (fun xs H Q => ∃ (p : Addr) (ns : List Int), xs = [.ref p] ∧ SqT X.K H p (ns.map V.int) ∧ ns.length < 64 ∧ ∀ (l : Addr) (ns' : List Int), H l = none → ns'.Perm ns → ns'.Pairwise (· ≤ ·) → Q (.ref l) (upd H l (.lst (ns'.map V.int)))) := by
  intro pins s σ H xs us Q I r h
  obtain ⟨p, ns, rfl, hp, h64, q⟩ := h
  obtain ⟨u, rfl, ru⟩ := vals1 r
  cases ru
  obtain ⟨its, rv, ⟨o, ho, hc, n, hd⟩, hz⟩ := I.tuple hp
  have ln : its.length = ns.length := by rw [← rv.length, List.length_map]
  have hI := intsAre_of rv
  have hfit : 64 ≤ sizeLine := by rw [sizeLine_eq]; omega
  refine sorted_open (T := "tuple") (.inr rfl) ho hc hd (by omega) fun h1 e1 at1 old => ?_
  subst e1
  refine list_sort_tree (s := { s with heap := _ }) at1 hI (by omega) fun out ns' i1 i2 i3 => ⟨rfl, ?_⟩
  obtain ⟨e, he⟩ := sortedAll_at s.heap its out
  have l1 : ns'.length = ns.length := i2.length_eq
  refine ⟨.ref (s.heap.objs.size + 1), _, I.laid (t' := s.toks) (o := .lst (ns'.map V.int)) (fun b o hb => sortedAll_old hb) (Nat.le_succ _) ⟨by rw [List.length_map]; omega, out.toList, e, vals_ints i1, ?_⟩, rfl, q _ _ (I.hok.fresh (Nat.le_succ _)) i2 i3⟩
  rw [Array.toArray_toList]; exact he
end
end L2

namespace L2
open PySem PySem.Spec PyProof.Rows
section
variable {X : Cx}
/-! ### all, any of a list of bools; max of a list of ints -/
theorem bl_at {bs : List Bool} {its : List Value} (rv : Vals (bs.map V.bl) its) {i : Nat} {v : Value} (h : its.toArray[i]? = some v) : v = .bool (bs.getD i false) := by
  have hi : i < its.length := by
    have := (Array.getElem?_eq_some_iff.mp h).1
    simpa using this
  have ln : its.length = bs.length := by rw [← rv.length, List.length_map]
  have hb : bs[i]? = some (bs.getD i false) := by simp [show i < bs.length by omega]
  obtain ⟨u, hu, ru⟩ := rv.get (i := i) (x := .bl (bs.getD i false)) (by rw [List.getElem?_map, hb]; rfl)
  have e : its[i]? = some v := by simpa using h
  rw [e] at hu; cases hu
  exact ru
theorem range_all (bs : List Bool) : (List.range bs.length).all (fun i => bs.getD i false) = bs.all id := by
  have q := List.all_map (f := fun i => bs.getD i false) (p := id) (l := List.range bs.length)
  rw [getD_range] at q
  exact q.symm
theorem range_any (bs : List Bool) : (List.range bs.length).any (fun i => bs.getD i false) = bs.any id := by
  have q := List.any_map (f := fun i => bs.getD i false) (p := id) (l := List.range bs.length)
  rw [getD_range] at q
  exact q.symm
theorem truth_bl {prog : Program} {w : World} {A : Around} {bs : List Bool} {its : List Value} (rv : Vals (bs.map V.bl) its) : TruthOf prog w A (fun i v => its.toArray[i]? = some v) (fun i => bs.getD i false) := fun i v s Q E hv q => by
  rw [bl_at rv hv]
  exact wpAny_truthy_bool q
theorem walk_list {prog : Program} {w : World} {A : Around} {E : Value → Shared → Prop} {s : Shared} {l : Addr} {its : Array Value} {Q : Value → Shared → Prop} (hl : s.heap.IsList l its)
    (h : ∀ s₂ : Shared, s₂ = { s with heap := s.heap.push { cls := .type "list_iterator", data := .fields #[.ref l, .int 0 0] } } → (s₂.heap.IsListIter s.heap.objs.size l 0 ∧ s₂.heap.IsList l its) → l ≠ s.heap.objs.size →
      (∀ h' : Heap, (∀ b o, b ∉ [s.heap.objs.size] → s₂.heap.get? b = some o → h'.get? b = some o) → ∀ b o, s.heap.get? b = some o → h'.get? b = some o) → Q (.ref s.heap.objs.size) s₂) : wpAny (model prog w) A (pyIter (.ref l)) Q E s := by
  have lt : l < s.heap.objs.size := by obtain ⟨_, e, _⟩ := hl; exact Heap.lt_size e
  refine wpAny_pyIter_list hl (h _ rfl ⟨⟨_, Heap.get?_push_size _ rfl, rfl, rfl⟩, hl.push _⟩ (Nat.ne_of_lt lt) fun h' hk b o e => hk b o (fun hm => ?_) (Heap.get?_push_of_some _ e))
  exact absurd (Heap.lt_size e) (by rw [List.mem_singleton.mp hm]; exact Nat.lt_irrefl _)
theorem call_all (hc : X.calm = true) : CallR X (.builtin "all") (fun xs H Q => ∃ (p : Addr) (bs : List Bool), xs = [.ref p] ∧ SqL X.K H p (bs.map V.bl) ∧ Q (.bl (bs.all id)) H) := by
  intro pins s σ H xs us Q I r h
  obtain ⟨p, bs, rfl, hp, q⟩ := h
  obtain ⟨u, rfl, ru⟩ := vals1 r
  cases ru
  obtain ⟨its, rv, pl, _⟩ := I.list hp
  have ln : its.toArray.size = bs.length := by rw [List.size_toArray, ← rv.length, List.length_map]
  refine call_all_walk (walk_list pl.isList fun s₂ e st hne old => ?_)
  subst e
  refine ⟨_, _, _, _, _, _, _, rfl, Walks.list (A := X.A.in1) (I.ok.hd hc) _ p hne its.toArray, st, truth_bl rv, fun h' tk hk => ?_⟩
  rw [ln, range_all]
  exact ⟨.bl _, H, I.kept (t' := tk) (old h' hk), rfl, q⟩
theorem call_any (hc : X.calm = true) : CallR X (.builtin "any") (fun xs H Q => ∃ (p : Addr) (bs : List Bool), xs = [.ref p] ∧ SqL X.K H p (bs.map V.bl) ∧ Q (.bl (bs.any id)) H) := by
  intro pins s σ H xs us Q I r h
  obtain ⟨p, bs, rfl, hp, q⟩ := h
  obtain ⟨u, rfl, ru⟩ := vals1 r
  cases ru
  obtain ⟨its, rv, pl, _⟩ := I.list hp
  have ln : its.toArray.size = bs.length := by rw [List.size_toArray, ← rv.length, List.length_map]
  refine call_any_walk (walk_list pl.isList fun s₂ e st hne old => ?_)
  subst e
  refine ⟨_, _, _, _, _, _, _, rfl, Walks.list (A := X.A.in1) (I.ok.hd hc) _ p hne its.toArray, st, truth_bl rv, fun h' tk hk => ?_⟩
  rw [ln, range_any]
  exact ⟨.bl _, H, I.kept (t' := tk) (old h' hk), rfl, q⟩
/-- the first of the greatest -/
def maxL (ns : List Int) : Int := ns.getD (argBest (fun i j => decide (ns.getD i 0 > ns.getD j 0)) (ns.length - 1)) 0
theorem int_toks : ∀ {ns : List Int} {its : List Value}, Vals (ns.map V.int) its → ∃ ps : List (Int × Tok), its = ps.map (fun p => Value.int p.1 p.2) ∧ ps.map (·.1) = ns
  | [], _, .nil => ⟨[], rfl, rfl⟩
  | n :: ns, _, .cons r rr => by
    obtain ⟨t, rfl⟩ := r
    obtain ⟨ps, e1, e2⟩ := int_toks rr
    exact ⟨(n, t) :: ps, by rw [e1]; rfl, by rw [← e2]; rfl⟩
theorem call_max (hc : X.calm = true) : CallR X (.builtin "max") (fun xs H Q => ∃ (p : Addr) (ns : List Int), xs = [.ref p] ∧ SqL X.K H p (ns.map V.int) ∧ ns ≠ [] ∧ Q (.int (maxL ns)) H) := by
  intro pins s σ H xs us Q I r h
  obtain ⟨p, ns, rfl, hp, hne, q⟩ := h
  obtain ⟨u, rfl, ru⟩ := vals1 r
  cases ru
  obtain ⟨its, rv, pl, _⟩ := I.list hp
  obtain ⟨ps, rfl, e2⟩ := int_toks rv
  have ia : (ps.map fun p => Value.int p.1 p.2).toArray = intItems ps.toArray := by unfold intItems; simp
  have hl : (intItems ps.toArray).size = ns.length := by rw [← e2]; simp [intItems]
  have hl2 : ps.toArray.size = ns.length := by rw [← e2]; simp
  have na : numAt ps.toArray = fun i => ns.getD i 0 := by
    funext i
    rw [← e2]
    unfold numAt
    rw [List.getD_eq_getElem?_getD, List.getElem?_map]
    simp
  refine max_intList (I.ok.hd hc) (xs := ps.toArray) (by rw [← ia]; exact pl.isList) (by rw [hl2]; exact List.length_pos_iff.mpr hne) fun v h' tk hv hk => ?_
  obtain ⟨t, rfl⟩ := intItems_at hv
  rw [na, hl2]
  exact ⟨.int (maxL ns), H, I.kept (t' := tk) hk, ⟨t, rfl⟩, q⟩
/-! ### t + u, whatever is empty -/
def rCat0 (K : PySem.W.Frag) : R2 := fun x y H Q => ∃ a b xs ys, x = .ref a ∧ y = .ref b ∧ SqT K H a xs ∧ SqT K H b ys ∧ xs.length + ys.length ≤ sizeLine ∧
  (xs = [] → Q (.ref b) H) ∧ (xs ≠ [] → ys = [] → Q (.ref a) H) ∧ (xs ≠ [] → ys ≠ [] → ∀ p, H p = none → Q (.ref p) (upd H p (.tup (xs ++ ys))))
theorem op_cat0 : OpR X (binaryOp .Add) (rCat0 X.K) := by
  intro pins s σ H x y v u Q I rx ry h
  obtain ⟨a, b, xs, ys, rfl, rfl, ha, hb, hz, q0, q1, q2⟩ := h
  cases rx; cases ry
  obtain ⟨its, r1, p1, _⟩ := I.tuple ha
  obtain ⟨its2, r2, p2, _⟩ := I.tuple hb
  have n1 : ∀ z : its ≠ [], xs ≠ [] := fun z w' => z (r1.nil_iff.mpr w')
  have n2 : ∀ z : its2 ≠ [], ys ≠ [] := fun z w' => z (r2.nil_iff.mpr w')
  by_cases h0 : its = []
  · obtain ⟨⟨c1, d1, da1, sl1⟩, g1, k1, m1, e1⟩ := id p1
    obtain ⟨⟨c2, d2, da2, sl2⟩, g2, k2, m2, e2⟩ := id p2
    simp only at k1 e1 k2 e2
    subst k1 e1 k2 e2
    exact concat_meets ⟨_, g1, rfl⟩ ⟨_, g2, rfl⟩ noFill_tuple_add seq_tuple_add PySem.F.slot_tuple_add PySem.F.entry_tuple_add (PySem.F.args_tuple_add_2 _ _) (tuple_addW0 a b its.toArray its2.toArray m1 m2 d1 d2 sl1 sl2 (by simp [h0])) ⟨g1, g2, .ref b, H, I, rfl, q0 (r1.nil_iff.mp h0)⟩
  refine HT.cat_tup p1 p2 h0 (fun z' => ⟨.ref a, H, I, rfl, q1 (n1 h0) (r2.nil_iff.mp z')⟩) (fun z' => ?_) (by rw [← r1.length, ← r2.length]; exact hz)
  exact ⟨.ref s.heap.objs.size, _, I.laid (t' := s.toks) (o := .tup (xs ++ ys)) (fun b ob q => Heap.get?_push_of_some _ q) (Nat.le_refl _) ⟨by rw [List.length_append]; exact hz, _, r1.append r2, IsTup.new _ _⟩, rfl, q2 (n1 h0) (n2 z') _ (I.hok.fresh (Nat.le_refl _))⟩
end
end L2

/-! ### zip of two tuples -/
namespace PySem
open Sem (wp)
open PyProof.Rows
section
variable {prog : Program} {w : World} {A : Around} {E : Value → Shared → Prop} {s : Shared}
theorem nextT_item {it t : Addr} {i : Nat} {its : Array Value} {x : Value} {Q : Value → Shared → Prop} (hi : s.heap.IsTupleIter it t i) (ht : s.heap.IsTuple t its) (hx : its[i]? = some x) (hQ : ∀ h', h'.IsTupleIter it t (i + 1) → Heap.SameBut it s.heap h' → Q x { s with heap := h' }) :
    wpAny (model prog w) A (Builtin.SmallTypes.nextOf (.ref it)) Q E s := by
  obtain ⟨o, ho, hc, hd⟩ := id hi
  obtain ⟨ol, hol, _, nl, hdl⟩ := ht
  unfold Builtin.SmallTypes.nextOf
  refine wpAny_bind (wpAny_callSpecial?_slot (name := Str.ofString "__next__") hi.typeIs F.slot_tuple_iterator_next (wpAny_call_entry F.slot_tuple_iterator_next hi.typeIs F.entry_tuple_iterator_next ?b (F.args_tuple_iterator_next_1 _)))
  case b =>
    show wpAny _ _ (field (.ref it) 0 >>= _) _ _ _; refine wpAny_bind (wpAny_field ho hd (x := .ref t) rfl ?_)
    show wpAny _ _ (if (Value.ref t == Value.none) = true then _ else _) _ _ _; rw [if_neg (show ¬ ((Value.ref t == Value.none) = true) from Bool.false_ne_true)]
    show wpAny _ _ (field (.ref it) 1 >>= _) _ _ _; refine wpAny_bind (wpAny_field ho hd (x := .int i 0) rfl ?_)
    show wpAny _ _ (seqItems? (.ref t) >>= _) _ _ _; refine wpAny_bind (wpAny_seqItems hol hdl ?_)
    simp only [Int.toNat_natCast, hx]
    exact wpAny_bind (wpAny_setField ho hd (by simp) (wpAny_pure ⟨x, rfl, wpAny_pure (hQ _ ⟨_, Heap.get?_update_self _ ho (Obj.isFreed_of_fields (Obj.data_mapFields hd _)), (Obj.cls_mapFields ..).trans hc, by rw [Obj.data_mapFields hd]; simp [rawInt]⟩ (Heap.SameBut.update ..))⟩))
theorem nextT_end {it t : Addr} {i : Nat} {its : Array Value} {Q : Value → Shared → Prop} (hh : A.handled = none) (hi : s.heap.IsTupleIter it t i) (ht : s.heap.IsTuple t its) (hx : its[i]? = none)
    (hE : ∀ h' e, Heap.ExtBut it s.heap h' → (∃ o, h'.get? e = some o ∧ o.cls = .type "StopIteration") → E (.ref e) { s with heap := h' }) : wpAny (model prog w) A (Builtin.SmallTypes.nextOf (.ref it)) Q E s := by
  obtain ⟨o, ho, hc, hd⟩ := id hi
  obtain ⟨ol, hol, _, nl, hdl⟩ := ht
  unfold Builtin.SmallTypes.nextOf
  refine wpAny_bind (wpAny_callSpecial?_slot (name := Str.ofString "__next__") hi.typeIs F.slot_tuple_iterator_next (wpAny_call_entry F.slot_tuple_iterator_next hi.typeIs F.entry_tuple_iterator_next ?b (F.args_tuple_iterator_next_1 _)))
  case b =>
    show wpAny _ _ (field (.ref it) 0 >>= _) _ _ _; refine wpAny_bind (wpAny_field ho hd (x := .ref t) rfl ?_)
    show wpAny _ _ (if (Value.ref t == Value.none) = true then _ else _) _ _ _; rw [if_neg (show ¬ ((Value.ref t == Value.none) = true) from Bool.false_ne_true)]
    show wpAny _ _ (field (.ref it) 1 >>= _) _ _ _; refine wpAny_bind (wpAny_field ho hd (x := .int i 0) rfl ?_)
    show wpAny _ _ (seqItems? (.ref t) >>= _) _ _ _; refine wpAny_bind (wpAny_seqItems hol hdl ?_)
    simp only [Int.toNat_natCast, hx]
    refine wpAny_bind (wpAny_rule (wpAny_bind (wpAny_setField ho hd (by simp) ?_)))
    show wpAny _ _ (newExc (.type "StopIteration") [] >>= _) _ _ _; refine wpAny_bind ?_; simp only [newExc, newTuple]
    refine wpAny_bind (wpAny_newObj_type (wpAny_bind (m := firstArgMember _ _) (wpAny_of_eq (a := Value.none) (by first | rfl | (simp only [firstArgMember]; rfl)) (wpAny_newObj_type ?_ (by size_fits)))) (by size_fits))
    simp only [raiseNew]
    refine wpAny_bind (wpAny_handled ?_)
    first | rw [show A.in1.handled = none from hh] | rw [hh]
    exact wpAny_bind (wpAny_pure (wpAny_throw (hE _ _ (((Heap.SameBut.update ..).extBut.push _).push _) ⟨_, Heap.get?_push_size _ rfl, rfl⟩)))
/-- a zip over two tuples as it stands at turn k -/
structure ZipT (h : Heap) (z TI TO i1 i2 l1 l2 : Addr) (f0 : Value) (k : Nat) (xs ys : Array Value) : Prop where
  z : IsZip h z TI TO f0
  i : IsPair h TI (.ref i1) (.ref i2)
  o : ∃ a b, IsPair h TO a b
  a : h.IsTupleIter i1 l1 k
  b : h.IsTupleIter i2 l2 k
  xs : h.IsTuple l1 xs
  ys : h.IsTuple l2 ys
theorem zipT_item {z TI TO i1 i2 l1 l2 : Addr} {k : Nat} {xs ys : Array Value} {x y : Value} {Q : Option Value → Shared → Prop} (D : ZipApart z TI TO i1 i2 l1 l2) (Z : ZipT s.heap z TI TO i1 i2 l1 l2 .none k xs ys) (hx : xs[k]? = some x) (hy : ys[k]? = some y)
    (hQ : ∀ h', IsZip h' z TI TO (rawInt s.heap.objs.size) → IsPair h' TO x y → h'.IsTupleIter i1 l1 (k + 1) → h'.IsTupleIter i2 l2 (k + 1) → IsPair h' s.heap.objs.size x y → h'.objs.size = s.heap.objs.size + 1 →
      (∀ c o, c ≠ z → c ≠ TO → c ≠ i1 → c ≠ i2 → s.heap.get? c = some o → h'.get? c = some o) → Q (some (.ref s.heap.objs.size)) { s with heap := h' }) : wpAny (model prog w) A (pyNext (.ref z)) Q E s := by
  obtain ⟨hz, hTI, ⟨a, b, hTO⟩, h1, h2, hl1, hl2⟩ := Z
  have hT : s.TypeIs (.ref z) "zip" := ⟨_, hz, rfl⟩
  unfold pyNext
  refine wpAny_bind (wpAny_attempt (wpAny_callSpecial?_slot (name := Str.ofString "__next__") hT F.slot_zip_next (wpAny_call_entry F.slot_zip_next hT F.entry_zip_next ?b (F.args_zip_next_1 _))))
  case b =>
    show wpAny _ _ (field (.ref z) 2 >>= _) _ _ _; refine wpAny_bind (wpAny_field hz rfl (x := .bool false) rfl ?_)
    show wpAny _ _ (field (.ref z) 3 >>= _) _ _ _; refine wpAny_bind (wpAny_field hz rfl (x := .ref TI) rfl (wpAny_bind (wpAny_seqItems hTI rfl ?_)))
    show wpAny _ _ (Builtin.SmallTypes.ownedTupleIsFree (.ref z) >>= _) _ _ _; refine wpAny_bind ?_; unfold Builtin.SmallTypes.ownedTupleIsFree
    refine wpAny_bind (wpAny_field hz rfl (x := .none) rfl (wpAny_pure ?_)); simp only [if_true]
    refine wpAny_bind (wpAny_rule (wpAny_bind (wpAny_field hz rfl (x := .ref TO) rfl (wpAny_bind (wpAny_setField_rec hz (by simp) fun g1 hz1 s1 => ?_)))))
    replace hz1 : IsZip g1 z TI TO .ellipsis := hz1
    refine wpAny_bind ?_; simp only [List.zipIdx_cons, List.zipIdx_nil, List.forIn_cons, List.forIn_nil]
    refine wpAny_bind (wpAny_bind (wpAny_onRaise (show wpAny _ _ (Builtin.SmallTypes.nextOf (.ref i1) >>= _) _ _ _ from wpAny_bind (nextT_item (h1.extBut s1.extBut D.i1z) (hl1.extBut s1.extBut D.l1z) hx fun g2 j1 s2 => wpAny_pure ?_))))
    have o2 : IsPair g2 TO a b := s2.extBut _ _ D.TOi1 (s1.extBut _ _ D.TOz hTO)
    refine wpAny_bind (wpAny_seqItems o2 rfl (wpAny_bind (wpAny_updateSeq_pair o2 fun g3 o3 s3 => wpAny_bind (wpAny_letGo (wpAny_pure ?_)))))
    replace o3 : IsPair g3 TO x b := o3
    refine wpAny_bind (wpAny_bind (wpAny_onRaise (show wpAny _ _ (Builtin.SmallTypes.nextOf (.ref i2) >>= _) _ _ _ from wpAny_bind (nextT_item (((h2.extBut s1.extBut D.i2z).extBut s2.extBut D.i12.symm).extBut s3.extBut D.TOi2.symm) (((hl2.extBut s1.extBut D.l2z).extBut s2.extBut D.l2i1).extBut s3.extBut D.l2TO) hy fun g4 j2 s4 => wpAny_pure ?_))))
    have o4 : IsPair g4 TO x b := s4.extBut _ _ D.TOi2 o3
    refine wpAny_bind (wpAny_seqItems o4 rfl (wpAny_bind (wpAny_updateSeq_pair o4 fun g5 o5 s5 => wpAny_bind (wpAny_letGo (wpAny_pure (wpAny_pure ?_))))))
    replace o5 : IsPair g5 TO x y := o5
    refine wpAny_bind (wpAny_seqItems o5 rfl (wpAny_bind (wpAny_newTuple ?_)))
    have sz : g5.objs.size = s.heap.objs.size := by rw [s5.1, s4.1, s3.1, s2.1, s1.1]
    have z5 : IsZip g5 z TI TO .ellipsis := s5.extBut _ _ D.TOz.symm (s4.extBut _ _ D.i2z.symm (s3.extBut _ _ D.TOz.symm (s2.extBut _ _ D.i1z.symm hz1)))
    have k5 : ∀ c o, c ≠ z → c ≠ TO → c ≠ i1 → c ≠ i2 → s.heap.get? c = some o → g5.get? c = some o := fun c o c1 c2 c3 c4 e => s5.extBut _ _ c2 (s4.extBut _ _ c4 (s3.extBut _ _ c2 (s2.extBut _ _ c3 (s1.extBut _ _ c1 e))))
    have a5 : g5.IsTupleIter i1 l1 (k + 1) := ((j1.extBut s3.extBut D.TOi1.symm).extBut s4.extBut D.i12).extBut s5.extBut D.TOi1.symm
    have b5 : g5.IsTupleIter i2 l2 (k + 1) := j2.extBut s5.extBut D.TOi2.symm
    have zlt : z < g5.objs.size := Heap.lt_size z5
    show wpAny _ _ (Builtin.SmallTypes.ownedTupleHandOut (.ref z) (.ref g5.objs.size) >>= _) _ _ _; refine wpAny_bind ?_; unfold Builtin.SmallTypes.ownedTupleHandOut
    refine wpAny_bind (wpAny_setField_rec (show IsZip (g5.push { cls := .type "tuple", data := .seq #[x, y] }) z TI TO .ellipsis from Heap.get?_push_of_some _ z5) (by simp) fun g7 z7 s7 => ?_)
    replace z7 : IsZip g7 z TI TO (rawInt g5.objs.size) := z7
    refine wpAny_setField_rec z7 (by simp) fun g8 z8 s8 => ?_
    replace z8 : IsZip g8 z TI TO (rawInt g5.objs.size) := z8
    have up : ∀ c o, c ≠ z → g5.get? c = some o → g8.get? c = some o := fun c o c1 e => s8.extBut _ _ c1 (s7.extBut _ _ c1 (Heap.get?_push_of_some _ e))
    have t8 : IsPair g8 g5.objs.size x y := s8.extBut _ _ (Nat.ne_of_gt zlt) (s7.extBut _ _ (Nat.ne_of_gt zlt) (Heap.get?_push_size _ rfl))
    have n8 : g8.objs.size = g5.objs.size + 1 := by rw [s8.1, s7.1, Heap.size_push]
    refine wpAny_pure ⟨_, rfl, wpAny_pure ?_⟩
    rw [sz] at z8 t8 n8
    have fin := hQ g8 z8 (up _ _ D.TOz o5) (a5.at fun o e => up _ o D.i1z e) (b5.at fun o e => up _ o D.i2z e) t8 n8 fun c o c1 c2 c3 c4 e => up c o c1 (k5 c o c1 c2 c3 c4 e)
    rw [← sz] at fin
    exact fin
theorem zipT_end {z TI TO i1 i2 l1 l2 : Addr} {k : Nat} {xs ys : Array Value} {Q : Option Value → Shared → Prop} (hh : A.handled = none) (D : ZipApart z TI TO i1 i2 l1 l2) (Z : ZipT s.heap z TI TO i1 i2 l1 l2 .none k xs ys) (hend : xs[k]? = none ∨ ys[k]? = none)
    (hQ : ∀ h', (∀ c o, c ≠ z → c ≠ TO → c ≠ i1 → c ≠ i2 → s.heap.get? c = some o → h'.get? c = some o) → Q none { s with heap := h' }) : wpAny (model prog w) A (pyNext (.ref z)) Q E s := by
  obtain ⟨hz, hTI, ⟨a, b, hTO⟩, h1, h2, hl1, hl2⟩ := Z
  have hT : s.TypeIs (.ref z) "zip" := ⟨_, hz, rfl⟩
  have last : ∀ (h' : Heap) (e : Addr), (∀ c o, c ≠ z → c ≠ TO → c ≠ i1 → c ≠ i2 → s.heap.get? c = some o → h'.get? c = some o) → (∃ o, h'.get? e = some o ∧ o.cls = .type "StopIteration") →
      wpAny (model prog w) A (do if ← isInstance (.ref e) (.type "StopIteration") then pure none else throw (.ref e)) Q E { s with heap := h' } := fun h' e hk ⟨o, ho, hc⟩ =>
    wpAny_bind (wpAny_isInstance (T := "StopIteration") (b := true) ⟨o, ho, hc⟩ isSubtype_stop (wpAny_pure (hQ _ hk)))
  unfold pyNext
  refine wpAny_bind (wpAny_attempt (wpAny_callSpecial?_slot (name := Str.ofString "__next__") hT F.slot_zip_next (wpAny_call_entry F.slot_zip_next hT F.entry_zip_next ?b (F.args_zip_next_1 _))))
  case b =>
    show wpAny _ _ (field (.ref z) 2 >>= _) _ _ _; refine wpAny_bind (wpAny_field hz rfl (x := .bool false) rfl ?_)
    show wpAny _ _ (field (.ref z) 3 >>= _) _ _ _; refine wpAny_bind (wpAny_field hz rfl (x := .ref TI) rfl (wpAny_bind (wpAny_seqItems hTI rfl ?_)))
    show wpAny _ _ (Builtin.SmallTypes.ownedTupleIsFree (.ref z) >>= _) _ _ _; refine wpAny_bind ?_; unfold Builtin.SmallTypes.ownedTupleIsFree
    refine wpAny_bind (wpAny_field hz rfl (x := .none) rfl (wpAny_pure ?_)); simp only [if_true]
    refine wpAny_bind (wpAny_rule (wpAny_bind (wpAny_field hz rfl (x := .ref TO) rfl (wpAny_bind (wpAny_setField_rec hz (by simp) fun g1 hz1 s1 => ?_)))))
    replace hz1 : IsZip g1 z TI TO .ellipsis := hz1
    refine wpAny_bind ?_; simp only [List.zipIdx_cons, List.zipIdx_nil, List.forIn_cons, List.forIn_nil]
    refine wpAny_bind (wpAny_bind (wpAny_onRaise (show wpAny _ _ (Builtin.SmallTypes.nextOf (.ref i1) >>= _) _ _ _ from wpAny_bind ?_)))
    cases ex : xs[k]? with
    | none =>
      refine nextT_end hh (h1.extBut s1.extBut D.i1z) (hl1.extBut s1.extBut D.l1z) ex fun g2 e s2 he => ?_
      obtain ⟨oe, hoe, hce⟩ := he
      have z2 : IsZip g2 z TI TO .ellipsis := s2 _ _ D.i1z.symm hz1
      have ez : e ≠ z := fun q => by subst q; rw [z2] at hoe; cases hoe; simp at hce
      exact wpAny_setField_rec z2 (by simp) fun g3 _ s3 => last g3 e (fun c o c1 _ c3 _ q => s3.extBut _ _ c1 (s2 _ _ c3 (s1.extBut _ _ c1 q))) ⟨oe, s3.extBut _ _ ez hoe, hce⟩
    | some x =>
      have ey : ys[k]? = none := by rcases hend with h | h; rw [ex] at h; cases h; exact h
      refine nextT_item (h1.extBut s1.extBut D.i1z) (hl1.extBut s1.extBut D.l1z) ex fun g2 j1 s2 => wpAny_pure ?_
      have o2 : IsPair g2 TO a b := s2.extBut _ _ D.TOi1 (s1.extBut _ _ D.TOz hTO)
      refine wpAny_bind (wpAny_seqItems o2 rfl (wpAny_bind (wpAny_updateSeq_pair o2 fun g3 o3 s3 => wpAny_bind (wpAny_letGo (wpAny_pure ?_)))))
      refine wpAny_bind (wpAny_bind (wpAny_onRaise (show wpAny _ _ (Builtin.SmallTypes.nextOf (.ref i2) >>= _) _ _ _ from wpAny_bind ?_)))
      refine nextT_end hh (((h2.extBut s1.extBut D.i2z).extBut s2.extBut D.i12.symm).extBut s3.extBut D.TOi2.symm) (((hl2.extBut s1.extBut D.l2z).extBut s2.extBut D.l2i1).extBut s3.extBut D.l2TO) ey fun g4 e s4 he => ?_
      obtain ⟨oe, hoe, hce⟩ := he
      have z4 : IsZip g4 z TI TO .ellipsis := s4 _ _ D.i2z.symm (s3.extBut _ _ D.TOz.symm (s2.extBut _ _ D.i1z.symm hz1))
      have ez : e ≠ z := fun q => by subst q; rw [z4] at hoe; cases hoe; simp at hce
      exact wpAny_setField_rec z4 (by simp) fun g5 _ s5 => last g5 e (fun c o c1 c2 c3 c4 q => s5.extBut _ _ c1 (s4 _ _ c4 (s3.extBut _ _ c2 (s2.extBut _ _ c3 (s1.extBut _ _ c1 q))))) ⟨oe, s5.extBut _ _ ez hoe, hce⟩
end
abbrev zT1 (h : Heap) (l1 : Addr) : Heap := h.push { cls := .type "tuple_iterator", data := .fields #[.ref l1, .int 0 0] }
abbrev zT2 (h : Heap) (l1 l2 : Addr) : Heap := (zT1 h l1).push { cls := .type "tuple_iterator", data := .fields #[.ref l2, .int 0 0] }
abbrev zT3 (h : Heap) (l1 l2 : Addr) : Heap := (zT2 h l1 l2).push { cls := .type "tuple", data := .seq #[.ref h.objs.size, .ref (zT1 h l1).objs.size] }
abbrev zT4 (h : Heap) (l1 l2 : Addr) : Heap := (zT3 h l1 l2).push { cls := .type "tuple", data := .seq #[.none, .none] }
abbrev zT5 (h : Heap) (l1 l2 : Addr) : Heap := (zT4 h l1 l2).push { cls := .type "zip", data := .fields #[.none, .bool false, .bool false, .ref (zT2 h l1 l2).objs.size, .ref (zT3 h l1 l2).objs.size] }
theorem meets_zipT (l1 l2 : Addr) (xs ys : Array Value) : Meets (Builtin.«zip.__new__» ⟨[.type "zip", .ref l1, .ref l2], []⟩) (fun _ R s => s.heap.IsTuple l1 xs ∧ s.heap.IsTuple l2 ys ∧ R (.ok (.ret (.ref (zT4 s.heap l1 l2).objs.size))) { s with heap := zT5 s.heap l1 l2 }) :=
  .of_wp fun prog w A R s hs => by
    obtain ⟨hp, g, d, tk, os⟩ := s; obtain ⟨t1, t2, hR⟩ := hs
    have hsub := sub_zip
    have T1 : Heap.IsTuple (Shared.heap ⟨hp, g, d, tk, os⟩) l1 xs := t1
    have T2 : Heap.IsTuple (Shared.heap ⟨hp.push { cls := .type "tuple_iterator", data := .fields #[.ref l1, .int 0 0] }, g, d, tk, os⟩) l2 ys := by
      obtain ⟨o, ho, r⟩ := t2; exact ⟨o, Heap.get?_push_of_some _ ho, r⟩
    wp_walk using wpAny_pyIter_tuple T1, wpAny_pyIter_tuple T2
    exact ⟨_, rfl, hR⟩
section
variable {prog : Program} {w : World} {A : Around} {E : Value → Shared → Prop} {s : Shared}
theorem call_zipT {l1 l2 : Addr} {xs ys : Array Value} {Q : Value → Shared → Prop} (t1 : s.heap.IsTuple l1 xs) (t2 : s.heap.IsTuple l2 ys)
    (h : ∀ h', ZipT h' (s.heap.objs.size + 4) (s.heap.objs.size + 2) (s.heap.objs.size + 3) s.heap.objs.size (s.heap.objs.size + 1) l1 l2 .none 0 xs ys → (∀ c o, s.heap.get? c = some o → h'.get? c = some o) → Q (.ref (s.heap.objs.size + 4)) { s with heap := h' }) :
    wpAny (model prog w) A (call (.type "zip") [.ref l1, .ref l2]) Q E s := by
  have y1 : (zT1 s.heap l1).objs.size = s.heap.objs.size + 1 := Heap.size_push ..
  have y2 : (zT2 s.heap l1 l2).objs.size = s.heap.objs.size + 2 := by rw [Heap.size_push, y1]
  have y3 : (zT3 s.heap l1 l2).objs.size = s.heap.objs.size + 3 := by rw [Heap.size_push, y2]
  have y4 : (zT4 s.heap l1 l2).objs.size = s.heap.objs.size + 4 := by rw [Heap.size_push, y3]
  have up : ∀ c o, s.heap.get? c = some o → (zT5 s.heap l1 l2).get? c = some o := fun c o x => Heap.get?_push_of_some _ (Heap.get?_push_of_some _ (Heap.get?_push_of_some _ (Heap.get?_push_of_some _ (Heap.get?_push_of_some _ x))))
  have p5 : (zT5 s.heap l1 l2).get? (zT4 s.heap l1 l2).objs.size = some _ := Heap.get?_push_size _ rfl
  have p4 : (zT5 s.heap l1 l2).get? (zT3 s.heap l1 l2).objs.size = some _ := Heap.get?_push_of_some _ (Heap.get?_push_size _ rfl)
  have p3 : (zT5 s.heap l1 l2).get? (zT2 s.heap l1 l2).objs.size = some _ := Heap.get?_push_of_some _ (Heap.get?_push_of_some _ (Heap.get?_push_size _ rfl))
  have p2 : (zT5 s.heap l1 l2).get? (zT1 s.heap l1).objs.size = some _ := Heap.get?_push_of_some _ (Heap.get?_push_of_some _ (Heap.get?_push_of_some _ (Heap.get?_push_size _ rfl)))
  have p1 : (zT5 s.heap l1 l2).get? s.heap.objs.size = some _ := Heap.get?_push_of_some _ (Heap.get?_push_of_some _ (Heap.get?_push_of_some _ (Heap.get?_push_of_some _ (Heap.get?_push_size _ rfl))))
  rw [y4, y2, y3] at p5; rw [y3] at p4; rw [y2, y1] at p3; rw [y1] at p2
  refine callType_new F.called_zip (by decide) (F.typeCall_zip_2 _ _) (F.newCall_zip_2 _ _) (fun obj => F.args_object_init_3 obj _ _) F.entry_zip_new (meets_zipT l1 l2 xs ys) ⟨t1, t2, ?_⟩
  rw [y4]
  refine ⟨⟨_, p5, rfl⟩, h _ ⟨p5, p3, ⟨_, _, p4⟩, ⟨_, p1, rfl, rfl⟩, ⟨_, p2, rfl, rfl⟩, ?_, ?_⟩ up⟩
  · obtain ⟨o, ho, r⟩ := t1; exact ⟨o, up _ _ ho, r⟩
  · obtain ⟨o, ho, r⟩ := t2; exact ⟨o, up _ _ ho, r⟩
end
end PySem

namespace L2
open PySem PySem.Spec PyProof.Rows
section
variable {X : Cx} {pins : List (Addr × Obj)} {σ : St} {H : Hp} {s : Shared}
/-- iterators have turned, a new object is tracked -/
theorem Inv.drawn {h' : Heap} {ch : List Addr} {p : Addr} {o : HO} {t' : Nat} (I : Inv X pins σ H s) (hch : ∀ b ∈ ch, FpOk X pins H b) (k : ∀ b u, b ∉ ch → s.heap.get? b = some u → h'.get? b = some u) (hp : s.heap.objs.size ≤ p)
    (new : ObjOk X.prog X.w (upd H p o) h' p o) : Inv X pins σ (upd H p o) { s with heap := h', toks := t' } := by
  have hn : H p = none := I.hok.fresh hp
  have nch : ∀ b u, H b = some u → b ∉ ch := fun b u e hb => by rw [(hch b hb).1] at e; cases e
  refine I.step (g' := s.gens) (d' := s.drawn) (ch := ch) (fun b hb => ⟨(hch b hb).2.2.2.1, (hch b hb).2.1, (hch b hb).2.2.2.2.1, (hch b hb).2.2.2.2.2⟩) (fun b u _ _ hc e _ => k b u hc e) (fun b u _ _ hc e _ => ⟨u.slots, k b u hc e⟩) (fun b u hc e n => ?_) (fun b u hc e => ⟨u, k b u hc e⟩)
    (fun b xs e => by rw [upd_ne (ne_of_none e hn)]; exact e) (fun b _ _ e => by rw [upd_ne (ne_of_none e hn)]; exact e) (fun b ps e => ⟨#[], by rw [upd_ne (ne_of_none e hn), e]; simp⟩) (fun m hm => ?_) (fun b u e => ?_) I.bare
  · rw [upd_ne (Nat.ne_of_lt (Nat.lt_of_lt_of_le (Heap.lt_size e) hp))]; exact n
  · obtain ⟨ob, es, ep, hob, r⟩ := hm
    exact ⟨ob, es, ep, k _ ob (fun z => (hch _ z).2.1 rfl) hob, r⟩
  · by_cases hb : b = p
    · subst hb; rw [upd_same] at e; cases e; exact new
    · rw [upd_ne hb] at e
      refine (I.hok b u e).stay (fun c v hc q => k c v ?_ q) (fun c q => by rw [upd_ne (ne_of_none q hn)]; exact q) fun c xs q => by rw [upd_ne (ne_of_none q hn)]; exact q
      rcases hc with z | z
      · rw [z]; exact nch b u e
      · exact nch c _ z
end
/-- zip(a, b) of two tuples: a new pair at each turn -/
def Itz (a b : Addr) : It :=
  ⟨fun i H => ∃ xs ys x y, H a = some (.tup xs) ∧ H b = some (.tup ys) ∧ xs[i]? = some x ∧ ys[i]? = some y,
   fun i H v H' => ∃ p x y, v = .ref p ∧ H p = none ∧ H' = upd H p (.tup [x, y]) ∧ ∀ xs ys, H a = some (.tup xs) → H b = some (.tup ys) → xs[i]? = some x ∧ ys[i]? = some y,
   fun i H => ∃ xs ys, H a = some (.tup xs) ∧ H b = some (.tup ys) ∧ (xs.length ≤ i ∨ ys.length ≤ i)⟩
structure Five (z TI TO i1 i2 : Addr) : Prop where
  a1 : TI ≠ z
  a2 : TO ≠ z
  a3 : i1 ≠ z
  a4 : i2 ≠ z
  b2 : TI ≠ TO
  b3 : TI ≠ i1
  b4 : TI ≠ i2
  c3 : TO ≠ i1
  c4 : TO ≠ i2
  d4 : i1 ≠ i2
def tnZ (z TI TO i1 i2 a b : Addr) (f0 : Value) (i : Nat) (h : Heap) : Prop := IsZip h z TI TO f0 ∧ IsPair h TI (.ref i1) (.ref i2) ∧ (∃ x y, IsPair h TO x y) ∧ h.IsTupleIter i1 a i ∧ h.IsTupleIter i2 b i
theorem turn_zip {P : Program} {w : World} {K : PySem.W.Frag} {elts : List Expr} {kk : Nat} {tpos : Pos} {a b z TI TO i1 i2 : Addr} (N : Five z TI TO i1 i2) : Turn P w K (.Tuple elts kk tpos) (Itz a b) [z, TI, TO, i1, i2] z (tnZ z TI TO i1 i2 a b .none) where
  mem := by simp
  obj := fun i h st c hc => by
    obtain ⟨h1, h2, ⟨x, y, h3⟩, ⟨o4, e4, _, d4⟩, ⟨o5, e5, _, d5⟩⟩ := st
    simp only [List.mem_cons, List.not_mem_nil, or_false] at hc
    rcases hc with rfl | rfl | rfl | rfl | rfl
    · exact ⟨_, h1, fun v q => by cases q⟩
    · exact ⟨_, h2, fun v q => by cases q⟩
    · exact ⟨_, h3, fun v q => by cases q⟩
    · exact ⟨_, e4, fun v q => by rw [d4] at q; cases q⟩
    · exact ⟨_, e5, fun v q => by rw [d5] at q; cases q⟩
  keep := fun i h h' st k => by
    obtain ⟨h1, h2, ⟨x, y, h3⟩, ⟨o4, e4, r4⟩, ⟨o5, e5, r5⟩⟩ := st
    exact ⟨k z (by simp) _ h1, k TI (by simp) _ h2, ⟨x, y, k TO (by simp) _ h3⟩, ⟨o4, k i1 (by simp) _ e4, r4⟩, ⟨o5, k i2 (by simp) _ e5, r5⟩⟩
  item := by
    intro X hP hw hK hc i pins s σ H E I hf st hg
    subst hP hw hK
    obtain ⟨xs, ys, x, y, ha, hb, hx, hy⟩ := hg
    obtain ⟨_, us, ru, o1, e1, c1, n1, d1⟩ := I.hok a _ ha
    obtain ⟨_, vs, rv, o2, e2, c2, n2, d2⟩ := I.hok b _ hb
    obtain ⟨ux, fx, rx⟩ := ru.get hx
    obtain ⟨uy, fy, ry⟩ := rv.get hy
    have na : ∀ c ∈ [z, TI, TO, i1, i2], a ≠ c := fun c hc q => by have := (hf c hc).1; rw [← q, ha] at this; cases this
    have nb : ∀ c ∈ [z, TI, TO, i1, i2], b ≠ c := fun c hc q => by have := (hf c hc).1; rw [← q, hb] at this; cases this
    have D : ZipApart z TI TO i1 i2 a b := ⟨N.a1, N.a2, N.a3, N.a4, N.b2, N.b3, N.b4, N.c3, N.c4, N.d4, na z (by simp), na TO (by simp), na i1 (by simp), na i2 (by simp), nb z (by simp), nb TO (by simp), nb i1 (by simp), nb i2 (by simp)⟩
    obtain ⟨s1, s2, s3, s4, s5⟩ := st
    have Z : ZipT s.heap z TI TO i1 i2 a b .none i us.toArray vs.toArray := ⟨s1, s2, s3, s4, s5, ⟨o1, e1, c1, n1, d1⟩, ⟨o2, e2, c2, n2, d2⟩⟩
    refine zipT_item D Z (x := ux) (y := uy) (by simpa using fx) (by simpa using fy) fun h' z1 z2 z3 z4 z5 z6 kp => ?_
    refine ⟨_, rfl, wpAny_letOwnedTupleGo_zip (s := { s with heap := h' }) z1 fun h2 y1 sb => ?_⟩
    have lt : ∀ c ∈ [z, TI, TO, i1, i2], c < s.heap.objs.size := fun c hc => by
      simp only [List.mem_cons, List.not_mem_nil, or_false] at hc
      obtain ⟨x', y', h3⟩ := s3
      obtain ⟨o4, e4, _⟩ := s4
      obtain ⟨o5, e5, _⟩ := s5
      rcases hc with rfl | rfl | rfl | rfl | rfl
      · exact Heap.lt_size s1
      · exact Heap.lt_size s2
      · exact Heap.lt_size h3
      · exact Heap.lt_size e4
      · exact Heap.lt_size e5
    have pz : s.heap.objs.size ≠ z := Nat.ne_of_gt (lt z (by simp))
    have kp2 : ∀ c o, c ∉ [z, TI, TO, i1, i2] → s.heap.get? c = some o → h2.get? c = some o := fun c o hc e => by
      simp only [List.mem_cons, List.not_mem_nil, or_false, not_or] at hc
      exact sb.extBut _ _ hc.1 (kp c o hc.1 hc.2.2.1 hc.2.2.2.1 hc.2.2.2.2 e)
    have tp : h2.get? s.heap.objs.size = some { cls := .type "tuple", data := .seq #[ux, uy] } := sb.extBut _ _ pz z5
    have I2 : Inv X pins σ (upd H s.heap.objs.size (.tup [x, y])) { s with heap := h2, toks := s.toks } := I.drawn (t' := s.toks) hf kp2 (Nat.le_refl _) ⟨by show 2 ≤ sizeLine; decide, [ux, uy], .cons rx (.cons ry .nil), ⟨_, tp, rfl, 0, by rfl⟩⟩
    refine ⟨.ref s.heap.objs.size, _, I2, rfl, ⟨_, x, y, rfl, I.hok.fresh (Nat.le_refl _), rfl, fun xs' ys' ha' hb' => ?_⟩, ⟨y1, ?_, ⟨ux, uy, sb.extBut _ _ N.a2 z2⟩, ?_, ?_⟩, fun c hc => ?_⟩
    · rw [ha] at ha'; rw [hb] at hb'
      cases ha'; cases hb'
      exact ⟨hx, hy⟩
    · exact sb.extBut _ _ N.a1 (kp TI _ N.a1 N.b2 N.b3 N.b4 s2)
    · exact z3.extBut sb.extBut N.a3
    · exact z4.extBut sb.extBut N.a4
    · rw [upd_ne (Nat.ne_of_lt (lt c hc))]; exact (hf c hc).1
  done := by
    intro X hP hw hK hc i pins s σ H E I hf st hg
    subst hP hw hK
    obtain ⟨xs, ys, ha, hb, hend⟩ := hg
    obtain ⟨_, us, ru, o1, e1, c1, n1, d1⟩ := I.hok a _ ha
    obtain ⟨_, vs, rv, o2, e2, c2, n2, d2⟩ := I.hok b _ hb
    have na : ∀ c ∈ [z, TI, TO, i1, i2], a ≠ c := fun c hc q => by have := (hf c hc).1; rw [← q, ha] at this; cases this
    have nb : ∀ c ∈ [z, TI, TO, i1, i2], b ≠ c := fun c hc q => by have := (hf c hc).1; rw [← q, hb] at this; cases this
    have D : ZipApart z TI TO i1 i2 a b := ⟨N.a1, N.a2, N.a3, N.a4, N.b2, N.b3, N.b4, N.c3, N.c4, N.d4, na z (by simp), na TO (by simp), na i1 (by simp), na i2 (by simp), nb z (by simp), nb TO (by simp), nb i1 (by simp), nb i2 (by simp)⟩
    obtain ⟨s1, s2, s3, s4, s5⟩ := st
    have Z : ZipT s.heap z TI TO i1 i2 a b .none i us.toArray vs.toArray := ⟨s1, s2, s3, s4, s5, ⟨o1, e1, c1, n1, d1⟩, ⟨o2, e2, c2, n2, d2⟩⟩
    refine zipT_end (I.ok.hd hc) D Z (hend.imp (fun z => ?_) (fun z => ?_)) fun h' kp => ⟨rfl, ?_⟩
    · rw [ru.length] at z; simp [z]
    · rw [rv.length] at z; simp [z]
    · have hch : ∀ c ∈ [z, TO, i1, i2], FpOk X pins H c := fun c hc => hf c (by simp only [List.mem_cons, List.not_mem_nil, or_false] at hc ⊢; rcases hc with q | q | q | q <;> simp [q])
      have k' : ∀ c o, c ∉ [z, TO, i1, i2] → s.heap.get? c = some o → h'.get? c = some o := fun c o hc e => by
        simp only [List.mem_cons, List.not_mem_nil, or_false, not_or] at hc
        exact kp c o hc.1 hc.2.1 hc.2.2.1 hc.2.2.2 e
      have nch : ∀ c u, H c = some u → c ∉ [z, TO, i1, i2] := fun c u e hb => by rw [(hch c hb).1] at e; cases e
      refine I.step (g' := s.gens) (d' := s.drawn) (t' := s.toks) (ch := [z, TO, i1, i2]) (fun b hb => ⟨(hch b hb).2.2.2.1, (hch b hb).2.1, (hch b hb).2.2.2.2.1, (hch b hb).2.2.2.2.2⟩) (fun b u _ _ hc e _ => k' b u hc e) (fun b u _ _ hc e _ => ⟨u.slots, k' b u hc e⟩) (fun _ _ _ _ n => n) (fun b u hc e => ⟨u, k' b u hc e⟩)
        (fun _ _ e => e) (fun _ _ _ e => e) (fun b ps e => ⟨#[], by rw [e]; simp⟩) (fun m hm => ?_) (fun b u e => ?_) I.bare
      · obtain ⟨ob, es, ep, hob, r⟩ := hm
        exact ⟨ob, es, ep, k' _ ob (fun q => (hch _ q).2.1 rfl) hob, r⟩
      · refine (I.hok b u e).stay (fun c v hc q => k' c v ?_ q) (fun _ q => q) fun _ _ q => q
        rcases hc with q' | q'
        · rw [q']; exact nch b u e
        · exact nch c _ q'
  self := fun _ _ _ _ _ st h => wpAny_pyIter_zip st.1 h
section
variable {X : Cx}
def iZip (ta : TA) : TI := fun σ H R => ta σ H fun vs H1 => ∃ a b xs ys, vs = [.ref a, .ref b] ∧ H1 a = some (.tup xs) ∧ H1 b = some (.tup ys) ∧ R (Itz a b) H1
theorem pi_zip {elts : List Expr} {kk : Nat} {tpos : Pos} {e1 e2 : Expr} {ta : TA} {p pos : Pos} (hg : Gl X "zip") (hm : X.mg "zip" = none) (hv : bootBuiltins "zip" = some (.type "zip")) (ha : PA X [e1, e2] ta)
    (hs : starEach [e1, e2] X.env = [(false, eval e1 X.env), (false, eval e2 X.env)] := by rfl) (hs2 : starEach [e2] X.env = [(false, eval e2 X.env)] := by rfl) : PI X (.Tuple elts kk tpos) (.Call (.Name "zip" p) [e1, e2] [] pos) (iZip ta) := by
  intro pins s σ H R I h
  refine Call_ (ld_blt I hg hm hv (PyProof.Rows.callWith_type1 (thn (ha pos pins s σ H _ I h) fun us s1 ⟨vs, H1, I1, r1, q1⟩ => ?_) (by rw [hs, hs2]) (by rw [hs2]; rfl)))
  obtain ⟨a, b, xs, ys, rfl, ha', hb', q⟩ := q1
  obtain ⟨u1, u2, rfl, ra, rb⟩ := vals2 r1
  cases ra; cases rb
  obtain ⟨_, its, ru, o1, f1, c1, n1, d1⟩ := I1.hok a _ ha'
  obtain ⟨_, its2, rv, o2, f2, c2, n2, d2⟩ := I1.hok b _ hb'
  refine call_zipT (xs := its.toArray) (ys := its2.toArray) ⟨o1, f1, c1, n1, d1⟩ ⟨o2, f2, c2, n2, d2⟩ fun h' Z kp => ?_
  refine wpAny_pyIter_zip Z.z ?_
  have lt : ∀ i j : Nat, i ≠ j → s1.heap.objs.size + i ≠ s1.heap.objs.size + j := fun i j hij z => hij (Nat.add_left_cancel z)
  have F5 : Five (s1.heap.objs.size + 4) (s1.heap.objs.size + 2) (s1.heap.objs.size + 3) s1.heap.objs.size (s1.heap.objs.size + 1) := ⟨lt 2 4 (by decide), lt 3 4 (by decide), lt 0 4 (by decide), lt 1 4 (by decide), lt 2 3 (by decide), lt 2 0 (by decide), lt 2 1 (by decide), lt 3 0 (by decide), lt 3 1 (by decide), lt 0 1 (by decide)⟩
  refine ⟨s1.heap.objs.size + 4, [s1.heap.objs.size + 4, s1.heap.objs.size + 2, s1.heap.objs.size + 3, s1.heap.objs.size, s1.heap.objs.size + 1], _, _, H1, rfl, I1.kept (t' := s1.toks) kp, turn_zip F5, ⟨Z.z, Z.i, Z.o, Z.a, Z.b⟩, fun c hc => ?_, q⟩
  have hge : s1.heap.objs.size ≤ c := by
    simp only [List.mem_cons, List.not_mem_nil, or_false] at hc
    rcases hc with rfl | rfl | rfl | rfl | rfl
    · exact Nat.le_add_right _ 4
    · exact Nat.le_add_right _ 2
    · exact Nat.le_add_right _ 3
    · exact Nat.le_refl _
    · exact Nat.le_add_right _ 1
  exact I1.fpOk hge (I1.hok.fresh hge)
end
/-- a comprehension over zip(a, b) -/
theorem comp_zip {cap : List (Option Nat)} {σ : St} {H : Hp} {g : TG} {tc : TT} {te : TE} {Q : VK} {D a b : Addr} {as bs : List V} {n : Nat} (Pv : Nat → List V → Hp → Prop) (h0 : Pv 0 [] (upd H D (.lst []))) (hn : n = min as.length bs.length)
    (hD : ∀ i xs H, i ≤ n → Pv i xs H → H D = some (.lst xs) ∧ H a = some (.tup as) ∧ H b = some (.tup bs))
    (hs : ∀ i x y xs H p, as[i]? = some x → bs[i]? = some y → H p = none → Pv i xs H → g (.ref p) (capσ cap σ) (upd H p (.tup [x, y])) fun σ2 H4 => Keep (capσ cap σ) σ2 ∧
      tc σ2 H4 fun b H5 => if b = true then te σ2 H5 fun y H6 => H6 D = some (.lst xs) ∧ xs.length < sizeLine ∧ Pv (i + 1) (xs ++ [y]) (upd H6 D (.lst (xs ++ [y]))) else Pv (i + 1) xs H5)
    (hd : ∀ xs H, Pv n xs H → Q (.ref D) H) : CompOk (Itz a b) D cap σ H g tc te Q := by
  refine ⟨n, Pv, h0, fun i xs H2 hi p => ⟨(hD i xs H2 hi p).1, ?_⟩⟩
  obtain ⟨q0, q1, q2⟩ := hD i xs H2 hi p
  by_cases hlt : i < n
  · have l1 : i < as.length := by omega
    have l2 : i < bs.length := by omega
    refine .inr ⟨hlt, ⟨as, bs, as[i], bs[i], q1, q2, List.getElem?_eq_getElem l1, List.getElem?_eq_getElem l2⟩, fun v H3 y => ?_⟩
    obtain ⟨pp, x, y, rfl, hp, rfl, hxy⟩ := y
    obtain ⟨e1, e2⟩ := hxy as bs q1 q2
    exact hs i x y xs H2 pp e1 e2 hp p
  · have e : i = n := by omega
    subst e
    refine .inl ⟨rfl, ⟨as, bs, q1, q2, ?_⟩, hd xs H2 p⟩
    omega
end L2

/-! ### t[lo:hi], the whole of it: t itself -/
namespace HT
open PySem PySem.Spec PyProof.Rows
section
variable {prog : Program} {w : World} {A : Around} {E : Value → Shared → Prop} {s : Shared}
theorem getItem_tuple_all {t sl : Addr} {items : Array Value} {vl vu : Value} {lo hi : Option Int} {Q : Value → Shared → Prop} (ht : IsTup s.heap t items) (hs : s.heap.IsSliceOf sl vl vu .none) (pl : IsPart vl lo) (pu : IsPart vu hi)
    (hw : sIx items.size 0 lo = 0 ∧ sIx items.size items.size hi = items.size) (h : Q (.ref t) s) : wpAny (model prog w) A (getItem (.ref t) (.ref sl)) Q E s := by
  obtain ⟨os, hos, hcs, hds⟩ := id hs
  have TS : s.TypeIs (.ref sl) "slice" := ⟨os, hos, hcs⟩
  have yes : ((((sIx items.size 0 lo : Nat) : Int) == 0 && (1 : Int) == 1 && (sIx items.size items.size hi - sIx items.size 0 lo) == items.size) = true) := by rw [hw.1, hw.2]; simp
  unfold getItem
  try with_reducible refine wpAny_holding ?_
  first | refine wpAny_bind (wpAny_pure ?_) | skip
  refine wpAny_bind (wpAny_sequenceKey ht.typeIs (by decide) (wpAny_bind (wpAny_callSpecial?_slot (name := Str.ofString "__getitem__") ht.typeIs PyProof.Rows.slot_tuple_getitem (wpAny_call_entry PyProof.Rows.slot_tuple_getitem ht.typeIs entry_tuple_getitem ?b (args_tuple_getitem _ _)))))
  case b =>
    show wpAny _ _ (Builtin.Tuple.tupleItemsOf (.ref t) >>= _) _ _ _; refine wpAny_bind (tupleItemsOf_ ht (wpAny_bind (wpAny_typeOf TS ?_))); rw [if_pos (by decide)]
    refine wpAny_bind (sliceApplied_gen hs pl pu ?_)
    show wpAny _ _ (if (((sIx items.size 0 lo : Nat) : Int) == 0 && (1 : Int) == 1 && (sIx items.size items.size hi - sIx items.size 0 lo) == items.size) = true then _ else _) _ _ s
    rw [if_pos yes]
    obtain ⟨ot, hot, hct, _⟩ := id ht
    have TT : s.TypeIs (.ref t) "tuple" := ⟨ot, hot, hct⟩
    unfold Builtin.Tuple.tupleIsExact
    refine wpAny_bind (wpAny_bind (wpAny_typeOf TT (wpAny_pure ?_)))
    rw [if_pos (by decide)]
    exact wpAny_bind (wpAny_rule (wpAny_pure ⟨_, rfl, wpAny_pure h⟩))
end
end HT
namespace L2
open PySem PySem.Spec PyProof.Rows
section
variable {X : Cx}
def rSlA (K : PySem.W.Frag) : V → Option Int → Option Int → Hp → VK → Prop := fun x lo hi H Q => ∃ a xs, x = .ref a ∧ SqT K H a xs ∧ (HT.sIx xs.length 0 lo = 0 ∧ HT.sIx xs.length xs.length hi = xs.length) ∧ Q (.ref a) H
theorem sl_tupA : SlR X (rSlA X.K) := by
  intro pins s σ H x v vl vu lo hi sl Q I rx hs pl pu h
  obtain ⟨a, xs, rfl, hx, hw, q⟩ := h
  cases rx
  obtain ⟨its, r, ht, hz⟩ := I.tuple hx
  have ln : its.toArray.size = xs.length := by rw [List.size_toArray]; exact r.length.symm
  exact ⟨"tuple", _, PyProof.Rows.slot_tuple_getitem.lookup, ht.typeIs, HT.getItem_tuple_all ht hs pl pu (by rw [ln]; exact hw) ⟨.ref a, H, I, rfl, q⟩⟩
theorem sl_tupB : SlR X (fun x lo hi H Q => rSlT X.K x lo hi H Q ∨ rSlA X.K x lo hi H Q) := SlR.or sl_tup sl_tupA
end
end L2


set_option Elab.async false
set_option linter.all false
set_option maxRecDepth 100000
set_option maxHeartbeats 4000000
/-! EXCEPTIONS over the layer, part 2: try, except C as e, isinstance of what was caught -/
namespace PySem.W
open PySem PySem.Spec PySem.Calls PyProof.Rows
open Builtin Builtin.ObjectAttr Builtin.Getset_descriptor
/-- what is to be looked up of an own exception class -/
structure ExcK (K : Frag) (D : Addr) : Prop where
  ga : findIn K (.ref D) "__getattribute__" = some (some (.builtin "BaseException.__getattribute__"))
  hk : findIn K (.ref D) "__getattr__" = some none
  ca : findIn K (.ref D) "__class__" = some (some (.builtin "object.__class__"))
  gt : specialIn K (.builtin "object.__class__") "__get__" = some (some (.builtin "getset_descriptor.__get__"))
  tk : takesIn K (.builtin "object.__class__") = some true
  mo : mroIn K D (.type "object") = some true
  mb : mroIn K D (.type "BaseException") = some true
  cl : (clsIn K D).isSome = true
theorem ExcK.cls {K : Frag} {D : Addr} (c : ExcK K D) : ∃ c' d' cd sl', K.lookup D = some ⟨c', d', .cls cd, sl'⟩ := by
  have z := c.cl
  unfold clsIn at z
  split at z
  · rename_i ho; exact ⟨_, _, _, _, ho⟩
  · cases z
theorem bga_kind : builtinKind "BaseException.__getattribute__" = some .slot := by decide +kernel
theorem bga_split : splitId "BaseException.__getattribute__" = some ("BaseException", "__getattribute__") := by decide +kernel
section
variable {prog : Program} {w : World} {A : Around} {E : Value → Shared → Prop} {h : Heap} {g : Array GenState} {d : Drawn} {t : Nat} {os : OsState} {K : Frag} {x D : Addr} {ox : Obj}
theorem exc_find {M : Model} (X : K.In h) (c : ExcK K D) : Looks M h (find (.ref x) (.ref D) "__class__") (.bind (.builtin "getset_descriptor.__get__") (.builtin "object.__class__")) :=
  (looks_findIn X c.ca).andThen ((looks_specialIn X c.gt).andThen ((show Looks M h (dataDescriptor? (some (.builtin "object.__class__")) (some (.builtin "getset_descriptor.__get__"))) (some (.builtin "getset_descriptor.__get__", .builtin "object.__class__")) from (looks_takesIn X c.tk).andThen .now).andThen (Looks.tag .now)))
theorem exc_cget {R : Result → Shared → Prop} {tp : Value} (X : K.In h) (hx : h.get? x = some ox) (hc : ox.cls = .ref D) (c : ExcK K D) (hR : R (.ok (.ret (.ref D))) ⟨h, g, d, t, os⟩) :
    codeAny (model prog w) A (.call (.builtin "getset_descriptor.__get__") ⟨[.builtin "object.__class__", .ref x, tp], []⟩) R ⟨h, g, d, t, os⟩ := by
  have TY : Looks (model prog w) h (typeOf (.ref x)) (.ref D) := hc ▸ (Looks.ld hx).andThen .now
  have SB := looks_mroIn (M := model prog w) X c.mo
  refine codeAny_call_builtin KF.slot_gs.plain KF.entry_gs (KF.slot_gs.check _ _ _ _ _ _ _ _ KF.type_class (KF.args_gs _ _ _) ?body)
  case body =>
    unfold Builtin.«getset_descriptor.__get__» descrGet
    rw [dga_obj]
    refine wpAny_bind (wpAny_pure ?_)
    unfold descrGetter descrCheckInstance descrNameAndClass isInstance; simp only [KF.owner_class]
    repeat lk
    refine ⟨Code.quiet_builtin _ (by decide +kernel), codeAny_builtin KF.entry_class ?own⟩
    case own =>
      unfold Builtin.«object.__class__» shownTypeOf; repeat lk
      exact hR
theorem exc_class {Q : Option Value → Shared → Prop} (X : K.In h) (hx : h.get? x = some ox) (hc : ox.cls = .ref D) (c : ExcK K D) (hQ : Q (some (.ref D)) ⟨h, g, d, t + 1, os⟩) :
    wpAny (model prog w) A (getAttr? (.ref x) "__class__") Q E ⟨h, g, d, t, os⟩ := by
  have TY : Looks (model prog w) h (typeOf (.ref x)) (.ref D) := hc ▸ (Looks.ld hx).andThen .now
  have GA := looks_findIn (M := model prog w) X c.ga
  have HK := looks_findIn (M := model prog w) X c.hk
  have SB := looks_mroIn (M := model prog w) X c.mb
  have IN : Looks (model prog w) h (isInstance (.ref x) (.type "BaseException")) true := TY.andThen SB
  have FD := exc_find (M := model prog w) (x := x) X c
  unfold getAttr? getAttrBy? getAttrBy
  refine wpAny_bind (wpAny_mkText (wpAny_bind (wpAny_attempt (wpAny_holding (wpAny_bind (TY.at (wpAny_bind (GA.at ?_))))))))
  show wpAny _ _ (getAttrByItsOwn _ _ _ _ _ _) _ _ _
  unfold getAttrByItsOwn
  refine wpAny_bind ?_
  show wpAny _ _ (typeLookup (.ref D) "__getattr__") _ _ _
  refine HK.at ?_
  refine wpAny_bind (wpAny_attempt (wpAny_holding ?_))
  show wpAny _ _ (boundAndCalled _ _ _) _ _ _
  unfold boundAndCalled
  rw [F.excAttr_ValueError.ga.bind]
  refine wpAny_bind (wpAny_pure ?_)
  refine wpAny_call (codeAny_call_builtin F.excAttr_ValueError.ga.plain F.entry_bexc_ga ?_)
  have ck : ∀ {Q' : Unit → Shared → Prop} {A' : Around} {E' : Value → Shared → Prop} {t' : Nat} {tk : Tok}, Q' () ⟨h, g, d, t', os⟩ → wpAny (model prog w) A' (checkBuiltinCall "BaseException.__getattribute__" ⟨[.ref x, .str "__class__" tk], []⟩) Q' E' ⟨h, g, d, t', os⟩ := by
    intro Q' A' E' t' tk q
    have ha := F.args_bexc_ga (.ref x) (.str "__class__" tk)
    simp only [checkBuiltinCall, bga_kind, bga_split]
    refine wpAny_bind (IN.at ?_)
    simp only [Bool.not_true, Bool.false_eq_true, if_false]
    unfold argsOk at ha
    generalize hs : Manifest.signature? "BaseException.__getattribute__" = sg at ha ⊢
    cases sg with
    | none => exact wpAny_pure q
    | some sig =>
      have h2 : Bind.checkArgs "BaseException.__getattribute__" sig ⟨[.ref x, .str "__class__" tk], []⟩ = pure () := ha
      show wpAny (model prog w) A' (Bind.checkArgs "BaseException.__getattribute__" sig ⟨[.ref x, .str "__class__" tk], []⟩) Q' E' _
      rw [h2]; exact wpAny_pure q
  refine ck ?_
  refine wpAny_bind (m := slotArgs _ _ _) (wpAny_pure (wpAny_bind (m := attrName _) (wpAny_pure (wpAny_bind (TY.at (wpAny_bind (FD.at ?_)))))))
  show wpAny _ _ (holding [.builtin "object.__class__"] (call (.builtin "getset_descriptor.__get__") [.builtin "object.__class__", .ref x, .ref D]) >>= ret) _ _ _
  refine wpAny_bind (wpAny_holding (wpAny_call (exc_cget X hx hc c (wpAny_pure ?_))))
  exact handed_on rfl (wpAny_pure hQ)
/-- isinstance of an exception of an own class -/
theorem kitx_exc {x D : Addr} {ox : Obj} (c : ExcK K D) (hc : ox.cls = .ref D) : KitX K (.ref x) (.ref D) (fun h => h.get? x = some ox) where
  ty := fun M h _ p => hc ▸ (Looks.ld p).andThen .now
  it := fun _ _ X _ => by
    obtain ⟨c', d', cd, sl', ho⟩ := c.cls
    intro A' Q' E' s' k q
    unfold isType loadHead
    exact wpAny_bind (wpAny_loadPart (k _ _ (X _ _ ho)) (wpAny_pure q))
  ne := fun h tp dd its n sl X htp => by
    obtain ⟨c', d', cd, sl', ho⟩ := c.cls
    refine Bool.eq_false_iff.mpr fun q => ?_
    have e : D = tp := Value.ref.inj (beq_iff_eq.mp q)
    subst e
    have z := (X _ _ ho).symm.trans htp
    cases z
  ca := fun {_ _ _ _ _ s} X p k => by
    obtain ⟨h, g, d, t, os⟩ := s
    exact exc_class X p hc c k
end
end PySem.W

namespace L2
open PySem PySem.Spec PyProof.Rows
theorem boot_ValueError : bootBuiltins "ValueError" = some (.type "ValueError") := by decide +kernel
/-! ### what may raise, and where it is caught -/
abbrev TX := St → Hp → VK → XK → Prop
/-- an exception came out of a call that was made here, the names as they were -/
def XP (X : Cx) (pins : List (Addr × Obj)) (σ : St) (E : XK) (e : Value) (s' : Shared) : Prop := ∃ H1 s1, Inv X pins σ H1 s1 ∧ CXF X.prog X.w X.stack H1 s1 E e s'
def PX (X : Cx) (e : Expr) (t : TX) : Prop :=
  ∀ (pins : List (Addr × Obj)) (s : Shared) (σ : St) (H : Hp) (Q : VK) (E : XK), Inv X pins σ H s → t σ H Q E → wpAny (model X.prog X.w) X.A (eval e X.env) (EP X pins σ Q) (XP X pins σ E) s
section
variable {X : Cx} {k : Nat} {f C : Addr} {fd : FuncData} {ps : List Str} {sp : Sp} {dvs : List V} {ds : List Value} {x y : Str} {p pos : Pos} {e : Expr} {es : List Expr} {t : TA}
def xCall (sp : Sp) (dvs : List V) (t : TA) : TX := fun σ H Q E => t σ H fun vs H1 => sp (vs ++ dvs) H1 Q E
def xMake (C : Addr) (sp : Sp) (dvs : List V) (t : TA) : TX := fun σ H Q E => t σ H fun vs H1 => ∀ x dx, H1 x = none → H1 dx = none → dx ≠ x →
  sp (.ref x :: (vs ++ dvs)) (upd (upd H1 dx (.own x)) x (.ins C dx [])) (fun v H2 => v = .non ∧ Q (.ref x) H2) E
theorem px_call (F : FnOk X.prog X.w X.K X.mg X.base (CXF X.prog X.w) k f fd ps sp) (hr : Room k X.A) (hg : Gl X x) (hm : X.mg x = some (.ref f)) (hk : PySem.W.keepIn X.K (.ref f) = true) (hb : Binds X.K fd ps ds) (hd : Vals dvs ds)
    (ha : PA X.nox (e :: es) t) (hdb : (x == ("__debug__" : Str)) = false := by decide) (he : starEach (e :: es) X.env = (false, eval e X.env) :: starEach es X.env := by rfl) (hpl : (backTo pos (starEach es X.env)).any (·.1) = false := by rfl) :
    PX X (.Call (.Name x p) (e :: es) [] pos) (xCall sp dvs t) := by
  intro pins s σ H Q E I h
  refine wpAny_Call_Name_kw (ld_glob I hg hm ?_ hdb)
  refine PySem.W.callWith_K (h₀ := X.base) I.ok.mod.kin hk (wpAny_mono (ha pos pins s σ H _ (I.wish _) h) (fun us s1 z => ?_) fun _ _ z => z.elim) he hpl
  obtain ⟨vs, H1, I1', r, q⟩ := z
  have I1 : Inv X pins σ H1 s1 := I1'.unwish
  have r2 : Vals (vs ++ dvs) (us ++ ds) := r.append hd
  have hl : (us ++ ds).length = ps.length := by rw [← r2.length]; exact F.len _ _ _ _ q
  refine ⟨I1.kIn, wpAny_call (codeAny_mono (F.run X.A X.stack s1 H1 ⟨us, []⟩ (us ++ ds) (vs ++ dvs) Q E hr I1.env0 (hb s1 us I1.kIn hl) r2 q) fun r s' hq => ?_)⟩
  cases r with
  | error e => exact ⟨H1, s1, I1, hq⟩
  | ok fl =>
    cases fl with
    | ret u => exact I1.after hq
    | next => exact False.elim hq
    | brk => exact False.elim hq
    | cont => exact False.elim hq
theorem px_make (M : Mk X.K C f) (F : FnOk X.prog X.w X.K X.mg X.base (CXF X.prog X.w) k f fd ps sp) (hr : Room (k + 1) X.A) (hg : Gl X x) (hm : X.mg x = some (.ref C)) (hb : Binds X.K fd ps ds) (hd : Vals dvs ds)
    (ha : PA X.nox (e :: es) t) (hdb : (x == ("__debug__" : Str)) = false := by decide) (he : starEach (e :: es) X.env = (false, eval e X.env) :: starEach es X.env := by rfl) (hpl : (backTo pos (starEach es X.env)).any (·.1) = false := by rfl) :
    PX X (.Call (.Name x p) (e :: es) [] pos) (xMake C sp dvs t) := by
  intro pins s σ H Q E I h
  refine wpAny_Call_Name_kw (ld_glob I hg hm ?_ hdb)
  refine PySem.W.callWith_K (h₀ := X.base) I.ok.mod.kin M.kp (wpAny_mono (ha pos pins s σ H _ (I.wish _) h) (fun us s1 z => ?_) fun _ _ z => z.elim) he hpl
  obtain ⟨vs, H1, I1', r, q⟩ := z
  have I1 : Inv X pins σ H1 s1 := I1'.unwish
  have hq := q (s1.heap.objs.size + 1) s1.heap.objs.size (I1.hok.fresh (Nat.le_succ _)) (I1.hok.fresh (Nat.le_refl _)) (Nat.ne_of_lt (Nat.lt_succ_self _))
  have I2 := Inv.made (C := C) I1
  have r2 : Vals (V.ref (s1.heap.objs.size + 1) :: (vs ++ dvs)) (Value.ref (s1.heap.objs.size + 1) :: (us ++ ds)) := .cons rfl (r.append hd)
  have hl : (Value.ref (s1.heap.objs.size + 1) :: us ++ ds).length = ps.length := by
    have e := r2.length; rw [F.len _ _ _ _ hq] at e; exact e.symm
  refine ⟨I1.kIn, wpAny_call (make_map (f := f) I1.kIn M.makes M.init (beq_iff_eq.mp M.fn) (codeAny_mono (F.run _ X.stack _ _ ⟨Value.ref (s1.heap.objs.size + 1) :: us, []⟩ (Value.ref (s1.heap.objs.size + 1) :: (us ++ ds)) _ _ E (hr.make C us [])
    (I2.env0.make C us []) (hb _ (Value.ref (s1.heap.objs.size + 1) :: us) I2.kIn hl) r2 hq) fun r s' hq' => ?_))⟩
  cases r with
  | error e => exact ⟨_, _, I2, hq'⟩
  | ok fl =>
    cases fl with
    | ret u =>
      obtain ⟨v, H', I3, rv, ev, q3⟩ := I2.after hq'
      subst ev
      exact ⟨rv, ⟨V.ref (s1.heap.objs.size + 1), H', I3, rfl, q3⟩⟩
    | next => exact False.elim hq'
    | brk => exact False.elim hq'
    | cont => exact False.elim hq'
/-! the body of a try -/
abbrev TXS := Ends → XK → St → Hp → Prop
def PXs (X : Cx) (body : List Stmt) (t : TXS) : Prop :=
  ∀ (pins : List (Addr × Obj)) (s : Shared) (σ : St) (H : Hp) (D : Ends) (E : XK), Inv X pins σ H s → t D E σ H → wpAny (model X.prog X.w) X.A (execs body X.env) (SP X pins D) (XP X pins σ E) s
variable {tx : TX} {i : Nat} {rest : List Stmt} {u : TS} {spos pos' : Pos}
def xSet (tx : TX) (i : Nat) (u : TS) : TXS := fun D E σ H => tx σ H (fun v H1 => u D (σ.set i (some v)) H1) E
def xExpr (tx : TX) (u : TS) : TXS := fun D E σ H => tx σ H (fun _ H1 => u D σ H1) E
theorem pxs_expr (he : PX X e tx) (hrest : PSs X.nox rest u) (hs : swapsWith e none spos.line X.env = pure false := by rfl) : PXs X (.Expr e spos :: rest) (xExpr tx u) := by
  intro pins s σ H D E I h
  refine wpAny_execs_cons (wpAny_Expr_any (thn (he pins s σ H _ E I h) fun v s1 ⟨z, H1, I1, r1, q1⟩ => ?_) I.quiet hs)
  exact wpAny_mono (hrest pins s1 _ H1 D (I1.wish _) q1) (fun _ _ q => q.unwish) fun _ _ z => z.elim
end

/-! ### the suite of an except clause -/
/-- within the suite, the caught exception at a with the object oe -/
abbrev Cx.caught (X : Cx) (a : Addr) (oe : Obj) : Cx := { X with A := X.A.mark (some (.ref a)), calm := false, pn := (a, oe) :: X.pn, xe := fun _ _ => False }
abbrev Cx.marked (X : Cx) (a : Addr) : Cx := { X with A := X.A.mark (some (.ref a)), calm := false, xe := fun _ _ => False }
section
variable {X : Cx} {pins : List (Addr × Obj)} {σ : St} {H H' : Hp} {s s' : Shared} {a C : Addr} {oe : Obj}
theorem Cx.Ok.marked (ok : X.Ok) : (X.marked a).Ok :=
  ⟨ok.mod, ok.kind, ok.glob, ok.blt, ok.above, ok.inj, ok.has, ok.cab, (fun z => by cases z), ok.frames, ok.stk, ok.exf, ok.bs, ok.bsz, ok.noex, ok.exfs, ok.funs, ok.frf⟩
theorem Inv.marked (I : Inv X pins σ H s) : Inv (X.marked a) pins σ H s := ⟨I.ok.marked, I.os, I.bare, I.base, I.loc, I.cell, I.free, I.freeC, I.pin, I.hok, I.len⟩
theorem Cx.Ok.caught (ok : X.Ok) : (X.caught a oe).Ok :=
  ⟨ok.mod, ok.kind, ok.glob, ok.blt, ok.above, ok.inj, ok.has, ok.cab, (fun z => by cases z), ok.frames, ok.stk, ok.exf, ok.bs, ok.bsz, ok.noex, ok.exfs, ok.funs, ok.frf⟩
theorem Inv.caught (I : Inv X pins σ H s) (h1 : s.heap.get? a = some oe) (h2 : H a = none) (h3 : a ≠ X.env.locals) (h4 : a ∉ X.fs) (h5 : ∀ v, oe.data ≠ .cell v) : Inv (X.caught a oe) pins σ H s :=
  ⟨I.ok.caught, I.os, I.bare, I.base, I.loc, I.cell, I.free, I.freeC, fun p hp => by
    rcases List.mem_cons.mp (show p ∈ (a, oe) :: (X.pn ++ pins) from hp) with rfl | z
    · exact ⟨h1, h2, h3, h4, h5⟩
    · exact I.pin p z, I.hok, I.len⟩
/-- what a state of the suite is outside -/
theorem Inv.uncaught (ok : X.Ok) (I : Inv (X.caught a oe) pins σ H s) : Inv X pins σ H s := ⟨ok, I.os, I.bare, I.base, I.loc, I.cell, I.free, I.freeC, fun p hp => I.pin p (List.mem_cons_of_mem _ hp), I.hok, I.len⟩
/-- behind an exception that came out of a call: the frame again -/
theorem inv_back {h' : Heap} {a0 : Value} {B : Heap} (I : Inv X pins σ H s) (hos : s'.os = s.os) (bare : AllBare s'.gens) (un : Un (frs X.stack) [] H H' s.heap s'.heap) (hok : HOk X.prog X.w H' s'.heap)
    (fl : Heap.FlyingW B X.stack a (.ref C) a0 h') (up : s'.heap.UpToSlots h') (inB : ∀ b o, s.heap.get? b = some o → H b = none → b ∉ frs X.stack → B.get? b = some o) (thB : ∀ b o, s.heap.get? b = some o → b ∉ frs X.stack → ∃ o', B.get? b = some o')
    (tr : ∀ b u, H' b = some u → ∃ ob, s'.heap.get? b = some ob ∧ B.get? b = some ob) : Inv X pins σ H' { s' with heap := h' } := by
  have ne : ∀ b : Addr, b ∉ ([] : List Addr) := fun b hb => by cases hb
  have gF : ∀ b o, s.heap.get? b = some o → b ∈ frs X.stack → ∃ sl, h'.get? b = some { o with slots := sl } := fun b o e hb => by
    obtain ⟨_, o', e', hd⟩ := I.stack.mem hb
    rw [e] at e'; cases e'
    obtain ⟨sl, q⟩ := un.slot b o e (I.stkFree b hb) hb (ne b)
    obtain ⟨sl', q'⟩ := up b _ q hd
    exact ⟨sl', q'⟩
  have un2 : Un (frs X.stack) [] H H' s.heap h' := by
    refine ⟨fun b o e n hb _ => fl.1 b o (inB b o e n hb), fun b o e _ hb _ => gF b o e hb, un.free, fun b o e _ => ?_, un.tups, un.frzs, un.tbls⟩
    by_cases hb : b ∈ frs X.stack
    · obtain ⟨sl, q⟩ := gF b o e hb
      exact ⟨_, q⟩
    · obtain ⟨o', q⟩ := thB b o e hb
      exact ⟨o', fl.1 b o' q⟩
  refine I.call' (s' := { s' with heap := h' }) (ch := []) hos un2 (fun b u e => ?_) bare fun b hb => by cases hb
  refine (hok b u e).stay (fun c v hc q => ?_) (fun _ q => q) fun _ _ q => q
  have hH : ∃ u', H' c = some u' := by
    rcases hc with z | z
    · exact ⟨u, by rw [z]; exact e⟩
    · exact ⟨_, z⟩
  obtain ⟨u', hu'⟩ := hH
  obtain ⟨ob, q1, q2⟩ := tr c u' hu'
  rw [q] at q1; cases q1
  exact fl.1 c v q2
end

/-- try: body / except CC as n: suite -/
def tTry (K : PySem.W.Frag) (CC : Addr) (j : Nat) (tb : TXS) (ts : Addr → Addr → TS) : TS := fun D σ H =>
  tb D (fun Cv _ H1 => ∃ C, Cv = .ref C ∧ PySem.W.exmOne K (.ref C) (.ref CC) = some true ∧ ∀ a, H1 a = none →
    ts a C { nx := fun σ' H' => D.nx (σ'.set j none) H', bk := fun σ' H' => D.bk (σ'.set j none) H', ct := fun σ' H' => D.ct (σ'.set j none) H', rt := D.rt } (σ.set j (some (.ref a))) H1) σ H
section
variable {X : Cx} {CC : Addr} {j : Nat} {x n : Str} {tb : TXS} {ts : Addr → Addr → TS} {body suite : List Stmt} {b₀ : Stmt} {np hpos pos : Pos} {rest : List ExceptHandler}
/-- behind the suite: the name goes -/
theorem name_goes {pins : List (Addr × Obj)} {σ : St} {H : Hp} {s : Shared} {E : Value → Shared → Prop} {Q : Unit → Shared → Prop} (I : Inv X pins σ H s) (hN : X.N.Nodup) (hj : X.N[j]? = some n) (hn : X.env.scope.names.lookup n = some .local)
    (h : ∀ s', Inv X pins (σ.set j none) H s' → Q () s') : wpAny (model X.prog X.w) X.A (do bindName X.env n .none; unbindBehindTheSuite X.env n hpos) Q E s := by
  obtain ⟨m, hm, hl⟩ := I.loc
  have hk : X.env.kindOf n = some .local := hn
  refine wpAny_nameGoes_keeps hk hm (by rw [I.ok.kind]; rfl) fun h' v hns sb => h _ ?_
  have hL : X.env.locals < s.heap.objs.size := I.lt
  have kp : ∀ b o, b ≠ X.env.locals → s.heap.get? b = some o → h'.get? b = some o := fun b o hb e => (sb.2 b hb).trans e
  have keepC : ∀ c v, s.heap.IsCell c v → c ≠ X.env.locals → h'.IsCell c v := fun c v ⟨o, ho, hd⟩ hc => ⟨o, kp c o hc ho, hd⟩
  have atL : ∃ o', h'.get? X.env.locals = some o' := by obtain ⟨o, _, _, e, _⟩ := hns; exact ⟨o, e⟩
  refine ⟨I.ok, I.os, I.bare, ?_, ⟨_, hns, fun i y v' h1 h2 h3 => ?_⟩, fun y c e => ?_, I.free, I.freeC, fun p hp => ?_, ?_, by rw [List.length_set]; exact I.len⟩
  · refine ⟨fun b o e n hb hx => ?_, fun b o e n hb hx => ?_, I.base.free, fun b o e hx => ?_, I.base.tups, I.base.frzs, I.base.tbls⟩
    · refine kp b o (fun z => ?_) (I.base.keep b o e n hb hx)
      exact absurd (Nat.lt_of_lt_of_le (Heap.lt_size e) I.ok.above) (by rw [z]; exact Nat.lt_irrefl _)
    · obtain ⟨sl, q⟩ := I.base.slot b o e n hb hx
      exact ⟨sl, kp b _ (fun z => absurd (Nat.lt_of_lt_of_le (Heap.lt_size e) I.ok.above) (by rw [z]; exact Nat.lt_irrefl _)) q⟩
    · obtain ⟨o', q⟩ := I.base.there b o e hx
      exact ⟨o', kp b _ (fun z => absurd (Nat.lt_of_lt_of_le (Heap.lt_size e) I.ok.above) (by rw [z]; exact Nat.lt_irrefl _)) q⟩
  · have hij : j ≠ i := fun z => by
      subst z
      have : j < σ.length := by rw [I.len]; exact (List.getElem?_eq_some_iff.mp hj).1
      rw [List.getElem?_set_self this] at h2; cases h2
    rw [List.getElem?_set_ne hij] at h2
    have hyn : y ≠ n := fun z => hij (nodup_ix hN hj (by rw [← z]; exact h1))
    obtain ⟨u, r, l⟩ := hl i y v' h1 h2 h3
    refine ⟨u, r, ?_⟩
    rcases l with ⟨k1, k2⟩ | ⟨k1, c, k2, k3⟩
    · exact .inl ⟨k1, by show (if y = n then v else m y) = some u; rw [if_neg hyn]; exact k2⟩
    · exact .inr ⟨k1, c, k2, keepC c _ k3 (I.cne y c k2)⟩
  · obtain ⟨v', q⟩ := I.cell y c e
    exact ⟨v', keepC c v' q (I.cne y c e)⟩
  · obtain ⟨q1, q2, q3, q4, q5⟩ := I.pin p hp
    exact ⟨kp _ _ q3 q1, q2, q3, q4, q5⟩
  · refine fun b u e => (I.hok b u e).stay (fun c v' hc q => kp c v' (fun z => ?_) q) (fun _ q => q) fun _ _ q => q
    have hH : ∃ u', H c = some u' := by
      rcases hc with z' | z'
      · exact ⟨u, by rw [z']; exact e⟩
      · exact ⟨_, z'⟩
    obtain ⟨u', hu'⟩ := hH
    rw [z, I.free] at hu'; cases hu'

theorem ps_try (hst : X.stack = X.env :: X.outer) (hfr : X.env.frame = some X.env.locals) (hN : X.N.Nodup) (hj : X.N[j]? = some n) (hn : X.env.scope.names.lookup n = some .local) (hg : Gl X x) (hm : X.mg x = some (.ref CC))
    (hb : PXs X body tb) (hs : ∀ a oe C, oe.cls = .ref C → PSs (X.caught a oe) (b₀ :: suite) (ts a C)) (hd : (x == ("__debug__" : Str)) = false := by decide) :
    PS X (.Try body (.ExceptHandler (some (.Name x np)) (some n) (b₀ :: suite) hpos :: rest) [] [] pos) (tTry X.K CC j tb ts) := by
  intro pins s σ H D I h
  refine wpAny_Try_except (wpAny_mono (hb pins s σ H D _ I h) (fun f s1 q => ?_) fun e s1 q => ?_)
  · cases f with
    | next => exact wpAny_execs_nil q
    | ret v => exact q
    | brk => exact q
    | cont => exact q
  · obtain ⟨H1, s0, I0, a, C, a0, B, H', rfl, os, bare, un, hok, fl, inB, thB, tr, C1, hC, hex, ht⟩ := q
    have eC : C1 = C := (Value.ref.inj hC).symm
    subst eC
    have fr0 : X.A.frames = some (X.env :: X.outer) := by rw [← hst]; exact I.ok.frames
    rw [hst] at fl
    refine wpAny_looks_onW fr0 hfr fl fun h4 held up4 => ?_
    refine wpAny_landsW held fun h5 fl5 up5 => ?_
    have up45 := up4.trans up5
    have I5 : Inv X pins σ H' { s1 with heap := h5 } := inv_back (s' := s1) I0 os bare un hok (by rw [hst]; exact fl5) up45 inB thB tr
    obtain ⟨ob, hob, hobc⟩ := fl5.there
    refine wpAny_handleBy_cons (codeAny_handlers_test (ld_glob (X := X.marked a) I5.marked hg hm ?_ hd)) (by intro z; cases z)
    have LT : PySem.W.Looks (model X.prog X.w) h5 (typeOf (.ref a)) (.ref C1) := hobc ▸ (PySem.W.Looks.ld hob).andThen .now
    refine (PySem.W.exm_one (K := X.K) I5.kIn LT hex).here ?_
    refine codeAny_handlers_suite_as ?_
    refine lands_againW fl5 fun h6 fl6 up6 => ?_
    have I6 : Inv X pins σ H' { s1 with heap := h6 } := inv_back (s' := s1) I0 os bare un hok (by rw [hst]; exact fl6) (up45.trans up6) inB thB tr
    obtain ⟨oe, vs, he, hec, hed, _⟩ := fl6.first
    have hea : H' a = none := by
      cases hq : H' a with
      | none => rfl
      | some u =>
        obtain ⟨ob', _, q2⟩ := tr a u hq
        rw [fl6.2.1] at q2; cases q2
    have hec2 : ∀ v, oe.data ≠ .cell v := fun v z => by rw [hed] at z; cases z
    have nst : a ∉ frs X.stack := fun hm' => by
      rw [hst] at hm'
      obtain ⟨_, o', e', hnf⟩ := fl6.2.2.1.mem hm'
      rw [he] at e'; cases e'
      exact hnf vs hed
    have aL : a ≠ X.env.locals := fun z => nst (by rw [hst]; unfold frs; rw [List.filterMap_cons, hfr, z]; exact List.mem_cons_self)
    have aF : a ∉ X.fs := fun z => nst (by rw [hst]; unfold frs; rw [List.filterMap_cons, hfr]; exact List.mem_cons_of_mem _ z)
    have I7 : Inv (X.caught a oe) pins σ H' { s1 with heap := h6 } := I6.caught he hea aL aF hec2
    refine store_ok (X := X.caught a oe) (v := .ref a) I7 hN hj (.inl hn) rfl (fun s8 I8 => ?_) (.inr hn)
    refine wpAny_mono (hs a oe C1 hec pins s8 _ H' _ I8 (ht a hea)) (fun f s9 q => ?_) fun _ _ z => z.elim
    cases f with
    | next => obtain ⟨σ9, H9, I9, q9⟩ := q; exact name_goes (I9.uncaught I.ok) hN hj hn fun s10 I10 => ⟨_, H9, I10, q9⟩
    | brk => obtain ⟨σ9, H9, I9, q9⟩ := q; exact name_goes (I9.uncaught I.ok) hN hj hn fun s10 I10 => ⟨_, H9, I10, q9⟩
    | cont => obtain ⟨σ9, H9, I9, q9⟩ := q; exact name_goes (I9.uncaught I.ok) hN hj hn fun s10 I10 => ⟨_, H9, I10, q9⟩
    | ret v => obtain ⟨v', σ9, H9, I9, r9, q9⟩ := q; exact name_goes (I9.uncaught I.ok) hN hj hn fun s10 I10 => ⟨v', _, H9, I10, r9, q9⟩

/-- isinstance(e, D) in the suite -/
def rIsE (K : PySem.W.Frag) (a C : Addr) : List V → Hp → VK → Prop := fun xs H Q => PySem.W.ExcK K C ∧ ((∃ D b, xs = [.ref a, .ref D] ∧ PySem.W.kitOne K (.ref C) (.ref D) = some b ∧ Q (.bl b) H) ∨ ∃ T b, xs = [.ref a, .ty T] ∧ PySem.W.kitOne K (.ref C) (.type T) = some b ∧ Q (.bl b) H)
end
end L2


set_option Elab.async false
set_option linter.all false
/-! the rules that speak of the fragment, with the fragment named: for a comprehension's block -/
namespace L2
open PySem PySem.Spec PyProof.Rows
section
variable {X : Cx} {K : PySem.W.Frag} (h : X.K = K)
include h
theorem notInK : OpR X (compareOp .NotIn) (rIn K true) := by subst h; exact op_notIn_seq
theorem cat0K : OpR X (binaryOp .Add) (rCat0 K) := by subst h; exact op_cat0
theorem ixLK : IxR X (rIxL K) := by subst h; exact ix_list
theorem ixTK : IxR X (rIxT K) := by subst h; exact ix_tup
theorem tupK {es : List Expr} {k n : Nat} {pos : Pos} {t : TGs} (hc : X.calm = true) (ht : PGs X es t) (hn : (assignEach es X.env).length = n := by rfl) (hst : (assignEach es X.env).findIdx? (·.1) = none := by rfl) : PG X (.Tuple es k pos) (gTup K n t) := by subst h; exact pg_tup hc ht hn hst
end
end L2


set_option Elab.async false
set_option linter.all false
set_option maxRecDepth 100000
set_option maxHeartbeats 4000000
/-! tuple(reversed(t)) -/
namespace PySem
open Sem (wp)
open AutoSeq1 (wpAny_loadPart')
open PyProof.Rows
namespace F
theorem slot_rv_next : Slot "reversed" "__next__" "reversed.__next__" :=
  .of (owner := "reversed") (n := "__next__") (by rw [typeLookup_type, builtinLookup_eq_fast]; kernel_rfl) (by decide +kernel) (by decide +kernel) (by decide +kernel) (by first | exact .inl (by decide +kernel) | exact .inr (by decide +kernel)) (by rw [isSubtype_type]; kernel_rfl)
theorem slot_rv_iter : Slot "reversed" "__iter__" "reversed.__iter__" :=
  .of (owner := "reversed") (n := "__iter__") (by rw [typeLookup_type, builtinLookup_eq_fast]; kernel_rfl) (by decide +kernel) (by decide +kernel) (by decide +kernel) (by first | exact .inl (by decide +kernel) | exact .inr (by decide +kernel)) (by rw [isSubtype_type]; kernel_rfl)
theorem slot_rv_hint : Slot "reversed" "__length_hint__" "reversed.__length_hint__" :=
  .of (owner := "reversed") (n := "__length_hint__") (by rw [typeLookup_type, builtinLookup_eq_fast]; kernel_rfl) (by decide +kernel) (by decide +kernel) (by decide +kernel) (by first | exact .inl (by decide +kernel) | exact .inr (by decide +kernel)) (by rw [isSubtype_type]; kernel_rfl)
theorem slot_rv_init : Slot "reversed" "__init__" "object.__init__" :=
  .of (owner := "object") (n := "__init__") (by rw [typeLookup_type, builtinLookup_eq_fast]; kernel_rfl) (by decide +kernel) (by decide +kernel) (by decide +kernel) (by first | exact .inl (by decide +kernel) | exact .inr (by decide +kernel)) (by rw [isSubtype_type]; kernel_rfl)
theorem entry_rv_next : entryFor table "reversed.__next__" = some Builtin.«reversed.__next__» := entryFor_of_tree (by kernel_rfl)
theorem entry_rv_iter : entryFor table "reversed.__iter__" = some Builtin.«dict_keyiterator.__iter__» :=
  entryFor_alias (id' := "dict_keyiterator.__iter__") (by kernel_rfl) (by first | rfl | decide +kernel | (unfold String.splitOn; simp +decide [String.splitOnAux])) (by decide +kernel) (by kernel_rfl)
theorem entry_rv_hint : entryFor table "reversed.__length_hint__" = some Builtin.«reversed.__length_hint__» := entryFor_of_tree (by kernel_rfl)
theorem args_rv_next (a : Value) : argsOk "reversed.__next__" ⟨[a], []⟩ := by unfold argsOk; kernel_rfl
theorem args_rv_iter (a : Value) : argsOk "reversed.__iter__" ⟨[a], []⟩ := by unfold argsOk; kernel_rfl
theorem args_rv_hint (a : Value) : argsOk "reversed.__length_hint__" ⟨[a], []⟩ := by unfold argsOk; kernel_rfl
theorem called_rv : TypeCalled "reversed" "reversed.__new__" "object.__init__" :=
  ⟨by decide +kernel, by decide +kernel, ⟨_, _, mro_reversed⟩, made_reversed, by decide +kernel, by rw [isSubtype_type]; kernel_rfl, slot_rv_init⟩
theorem lk_tuple_rv : typeLookup (.type "tuple") "__reversed__" = pure none := by rw [typeLookup_type, builtinLookup_eq_fast]; kernel_rfl
theorem lk_rv_len : typeLookup (.type "reversed") "__len__" = pure none := by rw [typeLookup_type, builtinLookup_eq_fast]; kernel_rfl
end F
def IsRv (h : Heap) (a t : Addr) (i : Int) : Prop := ∃ o, h.get? a = some o ∧ o.cls = .type "reversed" ∧ o.data = .fields #[.ref t, rawInt i]
theorem IsRv.typeIs {s : Shared} {a t : Addr} {i : Int} (x : IsRv s.heap a t i) : s.TypeIs (.ref a) "reversed" := let ⟨o, ho, hc, _⟩ := x; ⟨o, ho, hc⟩
section
variable {prog : Program} {w : World} {A : Around} {E : Value → Shared → Prop} {s : Shared}
theorem rv_new {t : Addr} {its : Array Value} {Q : Value → Shared → Prop} (ht : IsTup s.heap t its) (hz : (its.size : Int) < 2 ^ 63)
    (h : ∀ tk, Q (.ref s.heap.objs.size) { s with heap := s.heap.push { cls := .type "reversed", data := .fields #[.ref t, rawInt ((its.size : Int) - 1)] }, toks := tk }) : wpAny (model prog w) A (call (.type "reversed") [.ref t]) Q E s := by
  refine callType_new (S := fun _ R s => IsTup s.heap t its ∧ ∀ tk, R (.ok (.ret (.ref s.heap.objs.size))) { s with heap := s.heap.push { cls := .type "reversed", data := .fields #[.ref t, rawInt ((its.size : Int) - 1)] }, toks := tk })
    F.called_rv (by decide) (F.typeCall_reversed_1 _) (F.newCall_reversed_1 _) (fun obj => F.args_object_init_2 obj _) F.entry_reversed_new (.of_wp fun prog w A R s hs => ?_) ⟨ht, fun tk => ⟨⟨_, Heap.get?_push_size _ rfl, rfl⟩, h tk⟩⟩
  obtain ⟨ht, hR⟩ := hs
  unfold Builtin.«reversed.__new__»
  refine wpAny_bind (wpAny_of_eq (newClass_reversed _) ?_); (try dsimp only)
  refine wpAny_bind (wpAny_of_eq (a := ()) (by first | rfl | kernel_rfl) (wpAny_bind (wpAny_of_eq (a := ()) (by first | rfl | kernel_rfl) ?_))); (try dsimp only)
  refine wpAny_bind (wpAny_specialOf ht.typeIs F.lk_tuple_rv ?_)
  show wpAny _ _ ((do if ← isInstance (.ref t) (.type "dict") then return false
                      match ← specialOf (.ref t) "__getitem__" with
                      | none => return false
                      | some (.builtin id) =>
                        if ["tuple.__getitem__", "str.__getitem__", "bytes.__getitem__", "bytearray.__getitem__", "memoryview.__getitem__", "numpy.ndarray.__getitem__", "sqlite3.Row.__getitem__"].contains id then return true
                        if id == "sqlite3.Blob.__getitem__" then return false
                        unsupported "reversed.__new__:is-it-a-sequence"
                      | some _ => return true : Sem Bool) >>= _) _ _ _
  refine wpAny_bind (wpAny_bind (wpAny_isInstance ht.typeIs F.sub_tuple_dict (wpAny_bind (wpAny_specialOf ht.typeIs PyProof.Rows.slot_tuple_getitem.lookup ?_))))
  dsimp only
  rw [if_pos (by decide)]
  refine wpAny_pure ?_
  simp only [Bool.not_true, Bool.false_eq_true, if_false]
  refine wpAny_bind (len_tuple ht hz ?_)
  refine wpAny_bind (m := asInt? _) (wpAny_pure ?_)
  show wpAny _ _ (newObj (.type "reversed") (.fields [Value.ref t, rawInt ((its.size : Int) - 1)].toArray) >>= fun v => ret v) _ _ _
  exact wpAny_bind (wpAny_newObj_type (wpAny_pure ⟨_, rfl, hR _⟩))
theorem rv_iter {a t : Addr} {i : Int} {Q : Value → Shared → Prop} (x : IsRv s.heap a t i) (h : Q (.ref a) s) : wpAny (model prog w) A (pyIter (.ref a)) Q E s := by
  refine wpAny_pyIter_slot x.typeIs F.slot_rv_iter (wpAny_call_entry F.slot_rv_iter x.typeIs F.entry_rv_iter ?b (F.args_rv_iter _))
  case b => exact show wpAny _ _ (ret (.ref a)) _ _ s from wpAny_pure ⟨_, rfl, "reversed", _, x.typeIs, F.slot_rv_next.lookup, h⟩
theorem rv_item {a t : Addr} {i : Nat} {its : Array Value} {v : Value} {Q : Option Value → Shared → Prop} (x : IsRv s.heap a t (i : Int)) (ht : IsTup s.heap t its) (hv : its[i]? = some v) (hi : (i : Int) < 2 ^ 63)
    (hQ : ∀ h' tk, IsRv h' a t ((i : Int) - 1) → Heap.SameBut a s.heap h' → Q (some v) { s with heap := h', toks := tk }) : wpAny (model prog w) A (pyNext (.ref a)) Q E s := by
  obtain ⟨o, ho, hc, hd⟩ := id x
  have hlt : i < its.size := (Array.getElem?_eq_some_iff.mp hv).1
  unfold pyNext
  refine wpAny_bind (wpAny_attempt (wpAny_callSpecial?_slot (name := Str.ofString "__next__") x.typeIs F.slot_rv_next (wpAny_call_entry F.slot_rv_next x.typeIs F.entry_rv_next ?b (F.args_rv_next _))))
  case b =>
    unfold Builtin.«reversed.__next__»
    refine wpAny_bind (wpAny_of_eq (a := (Value.ref a, [])) rfl ?_); (try dsimp only)
    refine wpAny_bind (wpAny_field ho hd (x := .ref t) rfl (wpAny_bind (wpAny_field ho hd (x := rawInt (i : Int)) rfl ?_)))
    show wpAny _ _ (if (i : Int) < 0 then _ else _) _ _ _; rw [if_neg (by omega)]
    refine wpAny_bind (wpAny_specialOf ht.typeIs PyProof.Rows.slot_tuple_getitem.lookup ?_)
    simp only [Option.isNone_some, Bool.false_eq_true, if_false]
    refine wpAny_bind (wpAny_mkInt ?_)
    refine wpAny_bind (wpAny_attempt (PyProof.Rows.getItem_tuple ht (j := i) (x := v) (by omega) hi (L2.ixN_seq (n := its.size) (i := (i : Int)) (j := i) (by unfold L2.ixN; rw [if_pos (by omega), if_pos (by omega)]; simp)).1 hv ?_))
    refine wpAny_bind (wpAny_field ho hd (x := rawInt (i : Int)) rfl ?_)
    exact wpAny_bind (wpAny_setField ho hd (by simp) (wpAny_pure ⟨v, rfl, wpAny_pure (hQ _ _ ⟨_, Heap.get?_update_self _ ho (Obj.isFreed_of_fields (Obj.data_mapFields hd _)), (Obj.cls_mapFields ..).trans hc, by rw [Obj.data_mapFields hd]; simp⟩ (Heap.SameBut.update ..))⟩))
theorem rv_end {a t : Addr} {Q : Option Value → Shared → Prop} (hh : A.handled = none) (x : IsRv s.heap a t (-1)) (hQ : ∀ h', Heap.ExtBut a s.heap h' → Q none { s with heap := h' }) : wpAny (model prog w) A (pyNext (.ref a)) Q E s := by
  obtain ⟨o, ho, hc, hd⟩ := id x
  unfold pyNext
  refine wpAny_bind (wpAny_attempt (wpAny_callSpecial?_slot (name := Str.ofString "__next__") x.typeIs F.slot_rv_next (wpAny_call_entry F.slot_rv_next x.typeIs F.entry_rv_next ?b (F.args_rv_next _))))
  case b =>
    unfold Builtin.«reversed.__next__»
    refine wpAny_bind (wpAny_of_eq (a := (Value.ref a, [])) rfl ?_); (try dsimp only)
    refine wpAny_bind (wpAny_field ho hd (x := .ref t) rfl (wpAny_bind (wpAny_field ho hd (x := rawInt (-1)) rfl ?_)))
    show wpAny _ _ (if (-1 : Int) < 0 then _ else _) _ _ _; rw [if_pos (by decide)]
    refine wpAny_bind (wpAny_rule ?_)
    show wpAny _ _ ((do setField (.ref a) 1 (rawInt (-1)); setField (.ref a) 0 .none : Sem Unit) >>= _) _ _ _
    have hd1 := Obj.data_mapFields hd (·.setIfInBounds 1 (rawInt (-1)))
    have ho1 := Heap.get?_update_self (Obj.mapFields (·.setIfInBounds 1 (rawInt (-1)))) ho (Obj.isFreed_of_fields hd1)
    refine wpAny_bind (wpAny_bind (wpAny_setField ho hd (by simp) (wpAny_setField ho1 hd1 (by simp) ?_)))
    refine wpAny_bind (show wpAny _ _ (newExc (.type "StopIteration") [] >>= _) _ _ _ from wpAny_bind ?_); simp only [newExc, newTuple]
    refine wpAny_bind (wpAny_newObj_type (wpAny_bind (m := firstArgMember _ _) (wpAny_of_eq (a := Value.none) (by first | rfl | (simp only [firstArgMember]; rfl)) (wpAny_newObj_type ?_ (by size_fits)))) (by size_fits))
    simp only [raiseNew]
    refine wpAny_bind (wpAny_handled ?_)
    first | rw [show A.in1.handled = none from hh] | rw [hh]
    refine wpAny_bind (wpAny_pure (wpAny_throw ?_))
    exact wpAny_bind (wpAny_isInstance (T := "StopIteration") (b := true) ⟨_, Heap.get?_push_size _ rfl, rfl⟩ isSubtype_stop (wpAny_pure (hQ _ ((((Heap.SameBut.update ..).trans (Heap.SameBut.update ..)).extBut.push _).push _))))
theorem rv_hint {a t : Addr} {its : Array Value} {Q : Bool → Shared → Prop} (x : IsRv s.heap a t ((its.size : Int) - 1)) (ht : IsTup s.heap t its) (hz : its.size ≤ 1000) (h : ∀ tk b, Q b { s with toks := tk }) :
    wpAny (model prog w) A (Builtin.List.listLengthHint (.ref a)) Q E s := by
  obtain ⟨o, ho, hc, hd⟩ := id x
  have TY := x.typeIs
  unfold Builtin.List.listLengthHint
  refine wpAny_bind (wpAny_specialOf TY F.lk_rv_len ?_)
  refine wpAny_ite_split (fun hab => absurd hab (by decide +kernel)) (fun _ => ?_)
  refine wpAny_ite_split (fun hab => absurd hab (by decide)) (fun _ => ?_)
  refine wpAny_bind (wpAny_specialOf TY F.slot_rv_hint.lookup ?_)
  generalize hid : ("reversed.__length_hint__" : String) = id0
  wp_delta
  rw [show splitId id0 = some ("reversed", "__length_hint__") from by subst hid; decide +kernel]
  subst hid
  refine wpAny_bind (wpAny_isInstance (T := "reversed") (b := true) TY (by rw [isSubtype_type]; kernel_rfl) ?_)
  refine wpAny_ite_split (fun hab => absurd hab (by decide)) (fun _ => ?_)
  refine wpAny_ite_split (fun hab => absurd hab (by decide +kernel)) (fun _ => ?_)
  refine wpAny_bind (wpAny_rule ?_)
  rw [F.slot_rv_hint.bind]
  refine wpAny_bind (wpAny_pure ?_)
  dsimp only
  refine wpAny_bind (wpAny_attempt (wpAny_call_entry F.slot_rv_hint TY F.entry_rv_hint ?b (F.args_rv_hint _)))
  case b =>
    unfold Builtin.«reversed.__length_hint__»
    refine wpAny_bind (wpAny_of_eq (a := Value.ref a) (by first | rfl | kernel_rfl) (wpAny_bind (wpAny_field ho hd (x := .ref t) rfl ?_)))
    show wpAny _ _ (if (Value.ref t == Value.none) = true then _ else _) _ _ _
    rw [if_neg (show ¬ ((Value.ref t == Value.none) = true) from Bool.false_ne_true)]
    refine wpAny_bind (len_tuple ht (by omega) (wpAny_bind (m := asInt? _) (wpAny_pure (wpAny_bind (wpAny_field ho hd (x := rawInt ((its.size : Int) - 1)) rfl ?_)))))
    show wpAny _ _ (if (its.size : Int) < (its.size : Int) - 1 + 1 then _ else _) _ _ _
    rw [if_neg (by omega)]
    refine wpAny_bind (wpAny_mkInt (wpAny_pure ⟨_, rfl, ?_⟩))
    rw [show (its.size : Int) - 1 + 1 = ((its.size : Nat) : Int) by omega]
    have fit : Builtin.List.listFitsIndex ((its.size : Nat) : Int) = true := by unfold Builtin.List.listFitsIndex; simp only [Bool.and_eq_true, decide_eq_true_eq]; omega
    have tl : Builtin.List.listTooLong ((its.size : Int).toNat) = false := by simp [Builtin.List.listTooLong, sizeLine]; omega
    dsimp only
    have ai : ∀ tk, asInt? (Value.int ((its.size : Nat) : Int) tk) = pure (some ((its.size : Nat) : Int)) := fun _ => rfl
    rw [ai, pure_bind]
    dsimp only
    rw [if_neg (by rw [fit]; decide), if_neg (by omega), if_neg (by rw [tl]; decide)]
    exact wpAny_pure (h _ _)
theorem Walks.rv (hh : A.handled = none) (I t : Addr) (hne : t ≠ I) (its : Array Value) (hz : its.size ≤ 1000) :
    Walks prog w A I [I, t] [I] its.size (fun i v => its[its.size - 1 - i]? = some v) (fun i h => i ≤ its.size ∧ IsRv h I t ((its.size : Int) - 1 - (i : Int)) ∧ IsTup h t its) where
  sub := fun b hb => by simp at hb; simp [hb]
  frame := fun _ _ _ x hk => ⟨x.1, (let ⟨o, ho, r⟩ := x.2.1; ⟨o, hk I (by simp) o ho, r⟩), (let ⟨o, ho, r⟩ := x.2.2; ⟨o, hk t (by simp) o ho, r⟩)⟩
  item := fun i s Q E hi x hQ => by
    have e : (its.size : Int) - 1 - (i : Int) = ((its.size - 1 - i : Nat) : Int) := by omega
    have hit := x.2.1
    rw [e] at hit
    have hx : its[its.size - 1 - i]? = some (its[its.size - 1 - i]'(by omega)) := Array.getElem?_eq_getElem (by omega)
    refine rv_item hit x.2.2 hx (by omega) fun h' tk hit' hs' => ?_
    have e2 : ((its.size - 1 - i : Nat) : Int) - 1 = (its.size : Int) - 1 - ((i + 1 : Nat) : Int) := by omega
    rw [e2] at hit'
    exact hQ _ h' tk hx ⟨hi, hit', x.2.2.extBut hs'.extBut hne⟩ fun b o hb eo => hs'.extBut b o (fun h => hb (by simp [h])) eo
  done := fun s Q E x hQ => by
    have e : (its.size : Int) - 1 - (its.size : Int) = -1 := by omega
    have hit := x.2.1
    rw [e] at hit
    exact rv_end hh hit fun h' he' => hQ h' s.toks fun b o hb eo => he' b o (fun h => hb (by simp [h])) eo
  self := fun _ _ _ _ x hQ => rv_iter x.2.1 hQ
/-- the items of reversed(t) are drawn -/
theorem collect_rv {a t : Addr} {its : Array Value} {Q : List Value → Shared → Prop} (hh : A.handled = none) (x : IsRv s.heap a t ((its.size : Int) - 1)) (ht : IsTup s.heap t its) (hne : t ≠ a) (hz : its.size ≤ 1000)
    (hQ : ∀ h' tk (acc : Array Value), (∀ b o, b ≠ a → s.heap.get? b = some o → h'.get? b = some o) → ItemsOf (fun i v => its[its.size - 1 - i]? = some v) acc its.size → Q acc.toList { s with heap := h', toks := tk }) :
    wpAny (model prog w) A (collect (.ref a)) Q E s := by
  have alt : a < s.heap.objs.size := by obtain ⟨o, ho, _⟩ := x; exact Heap.lt_size ho
  have tlt : t < s.heap.objs.size := by obtain ⟨o, ho, _⟩ := ht; exact Heap.lt_size ho
  have hS : (s.heap.push { cls := .type "list", data := .seq ([] : List Value).toArray }).get? s.heap.objs.size = some { cls := .type "list", data := .seq #[] 0 } := Heap.get?_push_size _ rfl
  have x1 : IsRv (s.heap.push { cls := .type "list", data := .seq ([] : List Value).toArray }) a t ((its.size : Int) - 1) := let ⟨o, ho, r⟩ := x; ⟨o, Heap.get?_push_of_some _ ho, r⟩
  have t1 : IsTup (s.heap.push { cls := .type "list", data := .seq ([] : List Value).toArray }) t its := let ⟨o, ho, r⟩ := ht; ⟨o, Heap.get?_push_of_some _ ho, r⟩
  unfold collect
  refine wpAny_bind (wpAny_runValue (codeAny_builtin F.entry_proto_collect ?c))
  case c =>
    rw [Around.under_plainId F.plain_proto_collect _]
    refine show wpAny _ A.in1 (newList [] >>= fun l => again (.builtin "list.__iadd__" ⟨[l, .ref a], []⟩)) _ _ s from wpAny_bind (wpAny_newObj_type (wpAny_pure ⟨plainId_quiet F.plain_list_iadd _, codeAny_builtin F.entry_list_iadd ?d⟩))
    case d =>
      rw [Around.under_plainId F.plain_list_iadd _]
      show wpAny _ A.in1 (Builtin.List.listExtendWith (.ref s.heap.objs.size) (.ref a) (.ref s.heap.objs.size)) _ _ _
      unfold Builtin.List.listExtendWith
      refine wpAny_bind (wpAny_typeOf (T := "reversed") (IsRv.typeIs (s := { s with heap := s.heap.push { cls := .type "list", data := .seq ([] : List Value).toArray } }) x1) ?_)
      have n1 : Builtin.List.listSameRef (.ref s.heap.objs.size) (.ref a) = false := by simp [Builtin.List.listSameRef]; exact Nat.ne_of_gt alt
      have n2 : (Value.type "reversed" == Value.type "list") = false := by decide
      have n3 : (Value.type "reversed" == Value.type "tuple") = false := by decide
      simp only [n1, n2, n3, Bool.or_false, Bool.false_eq_true, if_false]
      refine wpAny_bind (rv_iter x1 (wpAny_bind (wpAny_holding (rv_hint x1 t1 hz fun tk b => ?_))))
      have W := (Walks.rv (prog := prog) (w := w) (A := A.in1) hh a t hne its hz).toS
      have sne : s.heap.objs.size ∉ [a, t] := fun hm => by
        rcases List.mem_cons.mp hm with z | z
        · exact absurd alt (by rw [← z]; exact Nat.lt_irrefl _)
        · exact absurd tlt (by rw [← List.mem_singleton.mp z]; exact Nat.lt_irrefl _)
      have key : ∀ (h : Heap) (c₁ tk : Nat), (∀ b o, b ≠ s.heap.objs.size → (s.heap.push { cls := .type "list", data := .seq ([] : List Value).toArray }).get? b = some o → h.get? b = some o) → h.get? s.heap.objs.size = some { cls := .type "list", data := .seq #[] c₁ } →
          codeAny (model prog w) A (.builtin "list.extend.loop" ⟨[.ref s.heap.objs.size, .ref a, .ref s.heap.objs.size], []⟩) (fun r s' => match r with
            | .ok (.ret v) => wpAny (model prog w) A (match v with
              | .ref a => do match (← load a).data with
                             | .seq xs _ => pure xs.toList
                             | _ => unsupported "internal:collect"
              | _ => unsupported "internal:collect") Q E s'
            | .ok _ => False
            | .error e => E e s') { s with heap := h, toks := tk } := by
        intro h c₁ tk hk hS₁
        have x2 : IsRv h a t ((its.size : Int) - 1 - ((0 : Nat) : Int)) := by
          obtain ⟨o, ho, r1, r2⟩ := x1
          exact ⟨o, hk _ _ (Nat.ne_of_lt alt) ho, r1, by simpa using r2⟩
        have t2 : IsTup h t its := let ⟨o, ho, r⟩ := t1; ⟨o, hk _ _ (Nat.ne_of_lt tlt) ho, r⟩
        refine codeAny_extend_loopS W (by rw [sizeLine_eq]; omega) s.heap.objs.size sne _ its.size 0 _ #[] c₁ rfl (Nat.zero_le _) ⟨Nat.zero_le _, x2, t2⟩ hS₁ (ItemsOf.nil _) fun s' acc' c' hm hS' hacc => ?_
        refine wpAny_bind (wpAny_load hS' (wpAny_pure ?_))
        rw [Moved.eq_with hm]
        refine hQ s'.heap s'.toks acc' (fun b o hb e => ?_) hacc
        have bs : b ≠ s.heap.objs.size := Nat.ne_of_lt (Heap.lt_size e)
        exact hm.heap b o (fun hmem => (List.mem_cons.mp hmem).elim bs fun z => hb (List.mem_singleton.mp z)) (hk b o bs (Heap.get?_push_of_some _ e))
      refine wpAny_ite_split (fun _ => ?_) (fun _ => wpAny_pure ⟨plainId_quiet F.plain_extend_loop _, ?_⟩)
      · refine wpAny_bind (wpAny_rule (wpAny_bind ?_))
        show wpAny _ _ (updateSeq s.heap.objs.size (·.push .none) >>= fun _ => updateSeq s.heap.objs.size (·.pop)) _ _ _
        refine wpAny_bind (wpAny_updateSeq hS rfl ?_)
        have hS₂ := Heap.get?_update_self (Obj.mapSeq (·.push Value.none)) hS rfl
        refine wpAny_updateSeq (hz := by seq_fits) hS₂ rfl ?_
        have hS₃ := Heap.get?_update_self (Obj.mapSeq (·.pop)) hS₂ rfl
        refine wpAny_pure ⟨plainId_quiet F.plain_extend_loop _, key _ _ _ (fun b o hb e => ?_) hS₃⟩
        exact (Heap.get?_update_other _ _ (Ne.symm hb)).trans ((Heap.get?_update_other _ _ (Ne.symm hb)).trans e)
      · exact key _ _ _ (fun b o hb e => e) hS
theorem tuple_rv {a t : Addr} {its : Array Value} {Q : Value → Shared → Prop} (hh : A.handled = none) (x : IsRv s.heap a t ((its.size : Int) - 1)) (ht : IsTup s.heap t its) (hne : t ≠ a) (hz : its.size ≤ 1000)
    (hQ : ∀ (h' : Heap) tk (acc : Array Value), (∀ b o, b ≠ a → s.heap.get? b = some o → h'.get? b = some o) → ItemsOf (fun i v => its[its.size - 1 - i]? = some v) acc its.size → Q (.ref h'.objs.size) { s with heap := h'.push { cls := .type "tuple", data := .seq acc }, toks := tk }) :
    wpAny (model prog w) A (call (.type "tuple") [.ref a]) Q E s := by
  refine callType_new (S := fun A R s => A.handled = none ∧ IsRv s.heap a t ((its.size : Int) - 1) ∧ IsTup s.heap t its ∧ ∀ (h' : Heap) tk (acc : Array Value), (∀ b o, b ≠ a → s.heap.get? b = some o → h'.get? b = some o) → ItemsOf (fun i v => its[its.size - 1 - i]? = some v) acc its.size → R (.ok (.ret (.ref h'.objs.size))) { s with heap := h'.push { cls := .type "tuple", data := .seq acc }, toks := tk })
    F.called_tuple (by decide) (F.typeCall_tuple_1 _) (F.newCall_tuple_1 _) (fun obj => F.args_object_init_2 obj _) F.entry_tuple_new (.of_wp fun prog w A R s hs => ?_)
    ⟨hh, x, ht, fun h' tk acc kp it => ⟨⟨_, Heap.get?_push_size _ rfl, rfl⟩, hQ h' tk acc kp it⟩⟩
  obtain ⟨hh, x, ht, hR⟩ := hs
  obtain ⟨o, ho, hc, hd⟩ := id x
  have TY := x.typeIs
  have hsub := sub_tuple_self
  have hinit := init_tuple_lookup
  have hmh := madeHere_tuple
  have hh1 : A.in1.handled = none := hh
  wp_walk using wpAny_loadPart' ho, wpAny_typeOf TY, collect_rv hh1 x ht hne hz
  intro h' tk acc kp it
  show wpAny _ _ (Builtin.Tuple.tupleExact acc.toList.toArray >>= fun v => ret v) _ _ _
  unfold Builtin.Tuple.tupleExact
  refine wpAny_bind (wpAny_newObj_type (wpAny_pure ⟨_, rfl, ?_⟩) (show acc.toList.toArray.size ≤ sizeLine by simp only [Array.toArray_toList]; rw [it.1, sizeLine_eq]; omega))
  rw [show acc.toList.toArray = acc by simp]
  exact hR h' tk acc kp it
end
end PySem
namespace L2
open PySem PySem.Spec PyProof.Rows
theorem boot_reversed : bootBuiltins "reversed" = some (.type "reversed") := by decide +kernel
/-- tuple(reversed(e)) -/
def tRev (K : PySem.W.Frag) (te : TE) : TE := fun σ H Q => te σ H fun x H1 => ∃ (a : Addr) (xs : List V), x = .ref a ∧ SqT K H1 a xs ∧ xs.length ≤ 1000 ∧ ∀ l, H1 l = none → Q (.ref l) (upd H1 l (.tup xs.reverse))
theorem pe_tuprev {X : Cx} {e : Expr} {te : TE} {p1 p2 p3 p4 : Pos} (hc : X.calm = true) (hgT : Gl X "tuple") (hmT : X.mg "tuple" = none) (hgR : Gl X "reversed") (hmR : X.mg "reversed" = none) (he : PE X e te)
    (hs : starEach [e] X.env = [(false, eval e X.env)] := by rfl) (hs2 : starEach [Expr.Call (.Name "reversed" p2) [e] [] p3] X.env = [(false, eval (.Call (.Name "reversed" p2) [e] [] p3) X.env)] := by rfl) :
    PE X (.Call (.Name "tuple" p1) [.Call (.Name "reversed" p2) [e] [] p3] [] p4) (tRev X.K te) := by
  intro pins s σ H Q I h
  refine Call_ (ld_blt I hgT hmT boot_tuple (PyProof.Rows.callWith_type1 ?_ hs2 rfl))
  rw [hs2]
  refine Calls.spliced_cons ?_
  refine Call_ (ld_blt I hgR hmR boot_reversed (PyProof.Rows.callWith_type1 ?_ hs rfl))
  rw [hs]
  refine Calls.spliced_cons (thn (he pins s σ H _ I h) fun u s1 ⟨x, H1, I1, r1, a, xs, ex, ha, hz, q⟩ => ?_)
  subst ex
  cases r1
  obtain ⟨its, rv, pt, _⟩ := I1.tuple ha
  have ln : its.toArray.size = xs.length := by rw [List.size_toArray, ← rv.length]
  have alt : a < s1.heap.objs.size := by obtain ⟨o, ho, _⟩ := pt; exact Heap.lt_size ho
  refine Calls.spliced_nil (rv_new pt (by rw [ln]; omega) fun tk => Calls.spliced_nil ?_)
  have nw : IsRv (s1.heap.push { cls := .type "reversed", data := .fields #[.ref a, rawInt ((its.toArray.size : Int) - 1)] }) s1.heap.objs.size a ((its.toArray.size : Int) - 1) := ⟨_, Heap.get?_push_size _ rfl, rfl, rfl⟩
  have pt1 : IsTup (s1.heap.push { cls := .type "reversed", data := .fields #[.ref a, rawInt ((its.toArray.size : Int) - 1)] }) a its.toArray := let ⟨o, ho, r⟩ := pt; ⟨o, Heap.get?_push_of_some _ ho, r⟩
  refine tuple_rv (s := { s1 with heap := s1.heap.push { cls := .type "reversed", data := .fields #[.ref a, rawInt ((its.toArray.size : Int) - 1)] }, toks := tk }) (I1.ok.hd hc) nw pt1 (Nat.ne_of_lt alt) (by rw [ln]; exact hz) fun h' tk' acc kp it => ?_
  have I2 : Inv X pins σ H1 { s1 with heap := h', toks := tk' } := I1.kept (t' := tk') fun b o e => kp b o (Nat.ne_of_lt (Heap.lt_size e)) (Heap.get?_push_of_some _ e)
  have hv : Vals xs.reverse acc.toList := by
    refine vals_by (by have z : acc.toList.length = its.toArray.size := (Array.length_toList).trans it.1
                       rw [List.length_reverse, z, ln]) fun i x u h1 h2 => ?_
    have hi : i < xs.length := by simpa using (List.getElem?_eq_some_iff.mp h1).1
    rw [List.getElem?_reverse hi] at h1
    obtain ⟨u', hu', ru⟩ := rv.get h1
    have hq := it.2 i u (by simpa using h2)
    rw [ln] at hq
    have e2 : its[xs.length - 1 - i]? = some u := by simpa using hq
    rw [e2] at hu'; cases hu'
    exact ru
  exact ⟨.ref h'.objs.size, _, I2.laid (t' := tk') (o := .tup xs.reverse) (fun b o e => Heap.get?_push_of_some _ e) (Nat.le_refl _) ⟨by rw [List.length_reverse, sizeLine_eq]; omega, acc.toList, hv, ⟨_, Heap.get?_push_size _ rfl, rfl, 0, by simp⟩⟩, rfl, q _ (I2.hok.fresh (Nat.le_refl _))⟩
end L2


set_option Elab.async false
set_option linter.all false
set_option maxRecDepth 100000
set_option maxHeartbeats 4000000
namespace L2
open PySem PySem.Spec PyProof.Rows
section
variable {X : Cx} {pins : List (Addr × Obj)} {σ : List (Option V)} {H H' : Hp} {s : Shared} {h' : Heap}
end
section
variable {X : Cx} {e : Expr} {te : TE} {p p2 pos kpos : Pos}
def rSortLen (X : Cx) : List V → Hp → VK → Prop := fun xs H Q => ∃ (p : Addr) (ys : List V), xs = [.ref p] ∧ SqL X.K H p ys ∧ ys.length < 64 ∧ (∀ y ∈ ys, ∃ (q : Addr) (zs : List V), y = .ref q ∧ SqT X.K H q zs) ∧ ∀ (l : Addr) (ys' : List V), H l = none → ys'.Perm ys → Q (.ref l) (upd H l (.lst ys'))
end
end L2


set_option Elab.async false
set_option linter.all false
set_option maxRecDepth 100000
set_option maxHeartbeats 4000000
/-! A COMPREHENSION whose own names a comprehension within captures (and which captures nothing) -/
namespace L2
open PySem PySem.Spec PyProof.Rows
theorem wpAny_compEnv_cells {M : Model} {A : Around} {E : Value → Shared → Prop} {s : Shared} {scope : Scope} {globals : Addr} {qual : Str} {env : Env} {Q : Env → Shared → Prop}
    (hQ : Q { scope := scope, locals := s.heap.objs.size, globals := globals, cells := cellsFrom (s.heap.objs.size + 1) scope.names [], qual := qual, func := none, code := env.code, frame := env.frame, builtins := env.builtins }
      { s with heap := pushCells (s.heap.push { cls := .type "dict", data := .dict #[] }) scope.names }) :
    wpAny M A (newFunctionEnv scope globals [] [] qual none .none (some env)) Q E s := by
  simp only [newFunctionEnv, Option.isSome_some, if_true]
  refine wpAny_bind (wpAny_alloc ?_)
  refine wpAny_bind (wpAny_layCells _ (fun name kind cells => by cases hkc : kind == NameKind.cell <;> simp [hkc]) _ _ _ _ ?_)
  rw [show ({ s with heap := s.heap.push { cls := .type "dict", data := .dict #[] } } : Shared).heap.objs.size = s.heap.objs.size + 1 from Heap.size_push ..]
  rw [List.forIn_nil]
  exact wpAny_bind (wpAny_pure (wpAny_pure hQ))
def compOkC (names : List (Str × NameKind)) : Bool := names.all (fun y => y.2 != .free) && names.all (fun y => y.2 != .local || names.lookup y.1 == some .local)
structure CompScopeC (N' : List Str) (scope : Scope) : Prop where
  kind : scope.kind = .function
  ok : compOkC scope.names = true
theorem CompScopeC.nofree {N' : List Str} {scope : Scope} (S : CompScopeC N' scope) : ∀ y ∈ scope.names, y.2 ≠ .free := by
  have h := S.ok
  simp only [compOkC, Bool.and_eq_true, List.all_eq_true] at h
  intro y hy
  simpa using h.1 y hy
theorem CompScopeC.names {N' : List Str} {scope : Scope} (S : CompScopeC N' scope) : ∀ y ∈ scope.names, y.2 = .local → scope.names.lookup y.1 = some .local := by
  have h := S.ok
  simp only [compOkC, Bool.and_eq_true, List.all_eq_true] at h
  intro y hy hl
  have q := h.2 y hy
  rw [hl] at q
  simpa using q
theorem CompScopeC.cellOf {N' : List Str} {scope : Scope} {cl : List (Str × Addr)} {C : Addr} {env : Env} {x : Str} (S : CompScopeC N' scope) (h : (compEnvC scope cl C env).kindOf x = some .cell ∨ (compEnvC scope cl C env).kindOf x = some .free) : scope.names.lookup x = some .cell := by
  rw [kindOf_comp] at h
  cases e : scope.names.lookup x with
  | none => rw [e] at h; rcases h with h | h <;> cases h
  | some k =>
    rw [e] at h
    have hm := S.nofree _ (PySem.mem_of_lookup e)
    cases k with
    | free => exact absurd rfl hm
    | cell => rfl
    | _ => rcases h with h | h <;> cases h
abbrev Cx.compC (X : Cx) (N' : List Str) (scope : Scope) (p : CP) : Cx := { X.comp N' scope p with fn := fun _ => true }
def ownσ (N' : List Str) : St := List.replicate N'.length none
def CompOkC (J : It) (D : Addr) (N' : List Str) (H1 : Hp) (g : TG) (tc : TT) (te : TE) (Q : VK) : Prop := ∃ (n : Nat) (Pv : Nat → List V → Hp → Prop),
  Pv 0 [] (upd H1 D (.lst [])) ∧ ∀ i xs H2, i ≤ n → Pv i xs H2 → H2 D = some (.lst xs) ∧ ((i = n ∧ J.stop i H2 ∧ Q (.ref D) H2) ∨ (i < n ∧ J.go i H2 ∧ ∀ x H3, J.yld i H2 x H3 → g x (ownσ N') H3 fun σ2 H4 => Keep (ownσ N') σ2 ∧
    tc σ2 H4 fun b H5 => if b = true then te σ2 H5 fun y H6 => H6 D = some (.lst xs) ∧ xs.length < sizeLine ∧ Pv (i + 1) (xs ++ [y]) (upd H6 D (.lst (xs ++ [y]))) else Pv (i + 1) xs H5))
def tCompC (N' : List Str) (wi : TI) (g : TG) (tc : TT) (te : TE) : TE := fun σ H Q => wi σ H fun J H1 => ∀ D, H1 D = none → CompOkC J D N' H1 g tc te Q
section
variable {X : Cx} {pins : List (Addr × Obj)} {σ : St} {H : Hp} {s : Shared} {N' : List Str} {scope : Scope} {elt iter tg : Expr} {ifs : List Expr} {pos : Pos} {wi : TI} {g : TG} {tc : TT} {te : TE}
theorem compC_core {pos' : Pos} {use : Option (Value → Sem Unit)} {Q : VK} {Qf : Value → Shared → Prop} (hca : X.calm = true) (S : CompScopeC N' scope) (hi : PI X tg iter wi) (hg : ∀ p, PG (X.compC N' scope p) tg g) (hc : ∀ p, PIfs (X.compC N' scope p) ifs tc) (he : ∀ p, PE (X.compC N' scope p) elt te)
    (hs : ∀ x, foldedSetIterable iter X.env x = pure x) (I : Inv X pins σ H s) (h : tCompC N' wi g tc te σ H Q)
    (fin : ∀ D C H' s', Inv X pins σ H' s' → Q (.ref D) H' → (∃ m, s'.heap.Ns C m) → H' C = none → C ≠ X.env.locals → X.s₀.heap.objs.size ≤ C → (∀ x c, X.env.cells.lookup x = some c → c ≠ C) → (∀ p ∈ X.pn ++ pins, p.1 ≠ C) →
      compPost (model X.prog X.w) X.A X.xe use Qf (.ref D) C (.ok .next) s') :
    wpAny (model X.prog X.w) X.A (comprehension (.ListComp elt [⟨tg, iter, ifs, 0⟩] scope pos) scope X.env pos' (newList []) false (eval iter X.env) use) Qf X.xe s := by
  have hcl : closureFor scope X.env = pure [] := closureFor_none S.nofree
  refine wpAny_comprehension_free (g := ⟨tg, iter, ifs, 0⟩) (gs := []) rfl hs hcl S.kind S.names ?_
  refine thn (hi pins s σ H _ I h) fun xv s1 h1 => thn h1 fun itv s2 h2 => ?_
  obtain ⟨it, fp, tn, J, H2, e, I2, T, st2, f2, h2⟩ := h2
  subst e
  refine wpAny_newObj_type ?_ (by size_fits)
  have hD : H2 s2.heap.objs.size = none := I2.hok.fresh (Nat.le_refl _)
  obtain ⟨cnt, Pv, w0, turn⟩ := h2 s2.heap.objs.size hD
  refine wpAny_compEnv_cells ?_
  dsimp only
  generalize hA2 : s2.heap.push { cls := .type "list", dict := none, data := .seq ([] : List Value).toArray } = A2 at ⊢
  have hC : A2.objs.size = s2.heap.objs.size + 1 := by rw [← hA2, Heap.size_push]
  have okc : CellsOk (pushCells (A2.push { cls := .type "dict", data := .dict #[] }) scope.names) (A2.objs.size + 1) (cellsFrom (A2.objs.size + 1) scope.names []) := by
    have h := cellsFrom_ok scope.names (A2.push { cls := .type "dict", data := .dict #[] }) (A2.objs.size + 1) [] ⟨fun _ _ hm => (nomatch hm), List.Pairwise.nil⟩ (by rw [Heap.size_push]; exact Nat.le_refl _)
    rw [Heap.size_push] at h
    exact h
  have hns₁ : (pushCells (A2.push { cls := .type "dict", data := .dict #[] }) scope.names).Ns A2.objs.size fun _ => none := (Heap.Ns.new A2 (.type "dict")).keeps (pushCells_keeps _ _)
  have old1 : ∀ b o, A2.get? b = some o → (pushCells (A2.push { cls := .type "dict", data := .dict #[] }) scope.names).get? b = some o := fun b o e => pushCells_keeps _ _ b o (Heap.get?_push_of_some _ e)
  generalize pushCells (A2.push { cls := .type "dict", data := .dict #[] }) scope.names = h₁ at okc hns₁ old1 ⊢
  have old : ∀ b o, s2.heap.get? b = some o → h₁.get? b = some o := fun b o e => old1 b o (hA2 ▸ Heap.get?_push_of_some _ e)
  have accO : h₁.get? s2.heap.objs.size = some { cls := .type "list", dict := none, data := .seq ([] : List Value).toArray } := old1 _ _ (hA2 ▸ Heap.get?_push_size _ rfl)
  let cl := cellsFrom (A2.objs.size + 1) scope.names []
  have clGe : ∀ x c, cl.lookup x = some c → @LE.le Nat instLENat (s2.heap.objs.size + 2) c := fun x c e => by
    have := (okc.empty x c (PySem.mem_of_lookup e)).2
    omega
  -- the block's context
  have cellLt : ∀ x c, X.env.cells.lookup x = some c → @LT.lt Nat instLTNat c s2.heap.objs.size := fun x c e => by obtain ⟨v, q⟩ := I2.cell x c e; exact q.lt
  have pinLt : ∀ p ∈ X.pn ++ pins, @LT.lt Nat instLTNat p.1 s2.heap.objs.size := fun p hp => Heap.lt_size (I2.pin p hp).1
  have fpNe : ∀ b ∈ fp, @LT.lt Nat instLTNat b s2.heap.objs.size := fun b hb => by obtain ⟨o, e, _⟩ := T.obj 0 _ st2 b hb; exact Heap.lt_size e
  let p : CP := ⟨cl, A2.objs.size, s2, H2, fp, X.pn ++ pins⟩
  have ok : (X.compC N' scope p).Ok := {
    mod := I2.ok.mod
    kind := S.kind
    glob := I2.ok.glob
    blt := I2.ok.blt
    above := by show s2.heap.objs.size ≤ A2.objs.size; omega
    inj := fun x y c h1 h2 => name_of_addr okc.apart (PySem.mem_of_lookup h1) (PySem.mem_of_lookup h2)
    has := fun x hx => cell_has (S.cellOf hx)
    cab := fun x c _ e => by have := clGe x c e; show s2.heap.objs.size ≤ c; omega
    hd := I2.ok.hd
    frames := I2.ok.frames
    stk := .inl rfl
    exf := fun b hb => ⟨Nat.ne_of_lt (show @LT.lt Nat instLTNat b A2.objs.size by have := fpNe b hb; omega), fun x c e => Nat.ne_of_gt (show @LT.lt Nat instLTNat b c by have := clGe x c e; have := fpNe b hb; omega)⟩
    bs := I2.bs
    bsz := Nat.le_trans I2.ok.bsz I2.sz
    noex := fun b o e hb => by
      rcases (f2 b hb).2.2.2.1 with z | z
      · exact I2.ok.noex b o e z
      · exact absurd (Nat.lt_of_lt_of_le (Nat.lt_of_lt_of_le (Heap.lt_size e) I2.ok.bsz) z) (Nat.lt_irrefl _)
    exfs := fun b hb hf => by
      rcases List.mem_cons.mp (I2.stkSub b hf) with z | z
      · exact (f2 b hb).2.1 z
      · exact (f2 b hb).2.2.1 z
    funs := I2.stack
    frf := I2.stkFree }
  have hlay : Un (frs X.stack) fp H2 (upd H2 s2.heap.objs.size (.lst [])) s2.heap h₁ := Un.laid old (Nat.le_refl _) hD
  have I0 : ∀ tk, Inv (X.compC N' scope p) [] (ownσ N') (upd H2 s2.heap.objs.size (.lst [])) { s2 with heap := h₁, toks := tk } := fun tk => {
    ok := ok
    os := rfl
    bare := I2.bare
    base := hlay
    loc := by
      refine ⟨_, hns₁, fun i x v h1 h2 h3 => ?_⟩
      unfold ownσ at h2
      rw [List.getElem?_replicate] at h2
      split at h2 <;> cases h2
    cell := fun x c e => ⟨_, (okc.empty x c (PySem.mem_of_lookup e)).1⟩
    free := by
      show upd H2 s2.heap.objs.size (.lst []) A2.objs.size = none
      rw [upd_ne (Nat.ne_of_gt (by omega))]
      exact I2.hok.fresh (by omega)
    freeC := fun x c e => by
      have := clGe x c e
      show upd H2 s2.heap.objs.size (.lst []) c = none
      rw [upd_ne (Nat.ne_of_gt (by omega))]
      exact I2.hok.fresh (by omega)
    pin := fun q hq => by
      have hq' : q ∈ X.pn ++ pins := by
        have z : q ∈ (X.pn ++ pins) ++ ([] : List (Addr × Obj)) := hq
        simpa using z
      have lt := pinLt q hq'
      obtain ⟨e, n, ne, nf, d⟩ := I2.pin q hq'
      refine ⟨old _ _ e, by rw [upd_ne (Nat.ne_of_lt lt)]; exact n, Nat.ne_of_lt (show @LT.lt Nat instLTNat q.1 A2.objs.size by omega), fun hf => ?_, d⟩
      rcases List.mem_cons.mp (I2.stkSub _ hf) with z | z
      · exact ne z
      · exact nf z
    hok := I2.hok.laid old (Nat.le_refl _) ⟨Nat.zero_le _, [], _, .nil, accO⟩
    len := by show (ownσ N').length = N'.length; unfold ownσ; rw [List.length_replicate] }
  have fpok : ∀ {H' : Hp}, (∀ b ∈ fp, H' b = none) → ∀ b ∈ fp, FpOk (X.compC N' scope p) [] H' b := fun hn b hb =>
    ⟨hn b hb, (ok.exf b hb).1, ok.exfs b hb, .inl hb, (ok.exf b hb).2, fun q hq => (f2 b hb).2.2.2.2.2 q (by
      have z : q ∈ (X.pn ++ pins) ++ ([] : List (Addr × Obj)) := hq
      simpa using z)⟩
  have hn0 : ∀ b ∈ fp, (upd H2 s2.heap.objs.size (.lst [])) b = none := fun b hb => by
    rw [upd_ne (Nat.ne_of_lt (fpNe b hb))]
    exact (f2 b hb).1
  have loop : ∀ s3 : Shared, (∃ tk, s3 = { s2 with heap := h₁, toks := tk }) → codeAny (model X.prog X.w) X.A (.compLoop (.ListComp elt [⟨tg, iter, ifs, 0⟩] scope pos) 0 (.ref it) (.ref s2.heap.objs.size) (compEnvC scope cl A2.objs.size X.env))
      (compPost (model X.prog X.w) X.A X.xe use Qf (.ref s2.heap.objs.size) A2.objs.size) s3 := by
    rintro s3 ⟨tk, rfl⟩
    refine compLoop_gen (fun n s' => ∃ i xs H', Inv (X.compC N' scope p) [] (ownσ N') H' s' ∧ tn i s'.heap ∧ (∀ b ∈ fp, H' b = none) ∧ n = cnt - i ∧ i ≤ cnt ∧ Pv i xs H') ?_ cnt
      ⟨0, [], _, I0 tk, T.keep 0 _ _ st2 (fun b _ o e => old b o e), hn0, rfl, Nat.zero_le _, w0⟩
    rintro n s4 ⟨i, xs, H4, I4, st4, fr4, en, hin, w4⟩
    obtain ⟨acc4, w4⟩ := turn i xs H4 hin w4
    rcases w4 with ⟨_, stop, qn⟩ | ⟨hlt, go, step⟩
    · refine thn (T.done (X.compC N' scope p) rfl rfl rfl hca i [] s4 _ H4 _ I4 (fpok fr4) st4 stop) fun r s5 ⟨hr, I5⟩ => ?_
      subst hr
      -- back in the frame around
      have I6 : Inv X pins σ H4 s5 := I2.call' I5.os I5.base I5.hok I5.bare fun b hb => ⟨(f2 b hb).2.2.2.1, (f2 b hb).2.1, (f2 b hb).2.2.2.2.1, (f2 b hb).2.2.2.2.2⟩
      obtain ⟨m, hm, _⟩ := I5.loc
      refine fin _ _ H4 s5 I6 qn ⟨m, hm⟩ I5.free ?_ ?_ (fun x c e => ?_) fun q hq => ?_
      · exact Nat.ne_of_gt (by have : @LT.lt Nat instLTNat X.env.locals s2.heap.objs.size := I2.lt; omega)
      · have := I2.sz; omega
      · exact Nat.ne_of_lt (by have := cellLt x c e; omega)
      · exact Nat.ne_of_lt (by have := pinLt q hq; omega)
    · refine thn (T.item (X.compC N' scope p) rfl rfl rfl hca i [] s4 _ H4 _ I4 (fpok fr4) st4 go) fun r s5 ⟨u, hr, h5⟩ => ?_
      subst hr
      refine thn h5 fun _ s6 ⟨x, H6, I6, r6, y6, st6, fr6⟩ => ?_
      have I6' := I6.pinned (fpok fr6) (T.obj _ _ st6)
      refine thn (hg p _ s6 _ H6 x u _ I6' r6 (step x H6 y6)) fun _ s7 ⟨σ7, H7, I7, kp7, q7⟩ => ?_
      refine thn (hc p _ s7 σ7 H7 _ I7 q7) fun b s8 ⟨H8, I8, q8⟩ => ?_
      have again : ∀ {H9 : Hp} {s9 : Shared} {zs : List V}, Inv (X.compC N' scope p) ([] ++ pinsAt fp s6.heap) σ7 H9 s9 → Pv (i + 1) zs H9 →
          ∃ m, m < n ∧ ∃ i xs H', Inv (X.compC N' scope p) [] (ownσ N') H' s9 ∧ tn i s9.heap ∧ (∀ b ∈ fp, H' b = none) ∧ m = cnt - i ∧ i ≤ cnt ∧ Pv i xs H' := fun {H9 s9 zs} I9 w9 => by
        refine ⟨cnt - (i + 1), by omega, i + 1, zs, H9, I9.unpinned.weak kp7.1.symm (fun i v e => kp7.2 i v e), T.keep _ _ _ st6 fun b hb o e => (I9.pin (b, o) (List.mem_append_right _ (List.mem_append_right _ (mem_pinsAt hb e)))).1, fun b hb => ?_, rfl, hlt, w9⟩
        obtain ⟨o, e, d⟩ := T.obj _ _ st6 b hb
        exact (I9.pin (b, o) (List.mem_append_right _ (List.mem_append_right _ (mem_pinsAt hb e)))).2.1
      cases b with
      | false =>
        exact again I8 q8
      | true =>
        refine thn (he p _ s8 σ7 H8 _ I8 q8) fun yv s9 ⟨y, H9, I9, ry, acc9, hz, w9⟩ => ?_
        refine thn (mt_append (X := X.compC N' scope p) _ s9 σ7 H9 (.ref s2.heap.objs.size) [y] (.ref s2.heap.objs.size) [yv] (fun v H' => v = .non ∧ H' = upd H9 s2.heap.objs.size (.lst (xs ++ [y]))) I9 rfl (.cons ry .nil) ⟨_, xs, y, rfl, rfl, acc9, hz, rfl, rfl⟩) fun _ s10 ⟨_, H10, I10, _, _, e10⟩ => ?_
        subst e10
        exact again I10 w9
  refine codeAny_compStart_list (loop _ ⟨_, rfl⟩) (T.self _ 0 _ _ _ (T.keep 0 _ _ st2 fun b _ o e => old b o e) (loop _ ⟨_, rfl⟩))

/-- x = [..] where the stores are exchanged -/
theorem ps_setCC {j : Nat} {y : Str} {py spos : Pos} (hca : X.calm = true) (S : CompScopeC N' scope) (hi : PI X tg iter wi) (hg : ∀ p, PG (X.compC N' scope p) tg g) (hc : ∀ p, PIfs (X.compC N' scope p) ifs tc) (he : ∀ p, PE (X.compC N' scope p) elt te)
    (hN : X.N.Nodup) (hj : X.N[j]? = some y) (hy : X.env.scope.names.lookup y = some .local)
    (hsw : swapsWith (.ListComp elt [⟨tg, iter, ifs, 0⟩] scope pos) (some (.Name y py)) spos.line X.env = pure true)
    (hs : ∀ x, foldedSetIterable iter X.env x = pure x := by intro _; rfl) : PS X (.Assign [.Name y py] (.ListComp elt [⟨tg, iter, ifs, 0⟩] scope pos) spos) (tAsg (tCompC N' wi g tc te) (gName j)) := by
  intro pins s σ H D I h
  rw [exec_Assign_Name_used _ _ _ _ hsw]
  refine wpAny_bind (wpAny_standAt (wpAny_bind ?_))
  show wpAny _ X.A (do let _ ← comprehension (.ListComp elt [⟨tg, iter, ifs, 0⟩] scope pos) scope X.env _ (newList []) false (eval iter X.env) (some (assign (.Name y py) X.env))) _ _ s
  refine wpAny_bind (wpAny_mono (compC_core (use := some (assign (.Name y py) X.env)) (Qf := fun _ s' => SP X pins D .next s') hca S hi hg hc he hs I h ?_) (fun _ s' hq => wpAny_pure (wpAny_pure hq)) fun _ _ e => e)
  intro D' C H' s' I' q ns hC hL h1 h2 h3
  obtain ⟨m, hm⟩ := ns
  show wpAny _ X.A (assign (.Name y py) X.env (.ref D')) _ _ _
  refine wpAny_assign_Name (store_ok2 I' hN hj (.inl hy) (v := .ref D') rfl (fun s'' I'' ⟨a, sb, ha⟩ => ?_) (.inr hy))
  have ne : C ≠ a := fun z => by
    rcases ha with e | e
    · exact hL (z.trans e)
    · exact h2 y a e z.symm
  exact ⟨m, hm.sameBut sb ne, fun h'' sb' => ⟨_, H', I''.turned (t' := s''.toks) (fun b o hb e => (sb'.2 b hb).trans e) hC hL (.inr h1) h2 h3, q⟩⟩
end
section
variable {K : PySem.W.Frag} {N' : List Str} {H : Hp} {g : TG} {tc : TT} {te : TE} {Q : VK} {D : Addr}
theorem compC_range {lo : Int} {n : Nat} (Pv : Nat → List V → Hp → Prop) (h0 : Pv 0 [] (upd H D (.lst []))) (hD : ∀ i xs H, i ≤ n → Pv i xs H → H D = some (.lst xs))
    (hs : ∀ i xs H, i < n → Pv i xs H → g (.int (lo + i)) (ownσ N') H fun σ2 H4 => Keep (ownσ N') σ2 ∧
      tc σ2 H4 fun b H5 => if b = true then te σ2 H5 fun y H6 => H6 D = some (.lst xs) ∧ xs.length < sizeLine ∧ Pv (i + 1) (xs ++ [y]) (upd H6 D (.lst (xs ++ [y]))) else Pv (i + 1) xs H5)
    (hd : ∀ xs H, Pv n xs H → Q (.ref D) H) : CompOkC (Itr lo n) D N' H g tc te Q := by
  refine ⟨n, Pv, h0, fun i xs H2 hi p => ⟨hD i xs H2 hi p, ?_⟩⟩
  by_cases hlt : i < n
  · refine .inr ⟨hlt, hlt, fun x H' y => ?_⟩
    obtain ⟨e, y⟩ := y
    subst e y
    exact hs i xs _ hlt p
  · have e : i = n := by omega
    subst e
    exact .inl ⟨rfl, Nat.le_refl _, hd xs H2 p⟩
end
end L2


set_option Elab.async false
set_option linter.all false
set_option maxRecDepth 100000
set_option maxHeartbeats 4000000
/-! A DEF THAT IS CALLED WITHIN AN EXCEPT SUITE, with the caught exception handed to it -/
namespace L2
open PySem PySem.Spec PyProof.Rows
structure RoomC (k : Nat) (A : Around) : Prop where
  dp : A.depth + 3 * k + 5 < recursionLimit
  un : A.units + 16 * k + 200 < cLine
theorem Room.roomC {k : Nat} {A : Around} {v : Option Value} (r : Room k A) : RoomC k (A.mark v) := ⟨r.dp, r.un⟩
/-- the context of such a def's body: the exception at a is pinned -/
abbrev cxC (P : Program) (w : World) (K : PySem.W.Frag) (mg : Str → Option Value) (base : Heap) (N : List Str) (qual : Str) (scope : Scope) (f : Addr) (cd : Value) (A : Around) (outer : List Env) (s : Shared) (H : Hp) (a : Addr) (oe : Obj) : Cx :=
  { (cxOf CX0 P w K mg base N qual scope f cd A outer s H E0).nox with calm := false, pn := [(a, oe)] }
structure FnOkC (P : Program) (w : World) (K : PySem.W.Frag) (mg : Str → Option Value) (base : Heap) (k : Nat) (f : Addr) (fd : FuncData) (ps : List Str) (sp : Addr → Addr → Sp) : Prop where
  len : ∀ a C vs H Q E, sp a C vs H Q E → vs.length = ps.length
  run : ∀ (A : Around) (outer : List Env) (s : Shared) (H : Hp) (args : Args) (us : List Value) (vs : List V) (Q : VK) (a C : Addr) (oe : Obj), RoomC k A → Env0 P w K mg base A outer s H → BindsTo s fd args (ps.zip us) → Vals vs us →
    s.heap.get? a = some oe → H a = none → a ∉ frs outer → (∀ v, oe.data ≠ .cell v) → oe.cls = .ref C → sp a C vs H Q E0 → codeAny (model P w) A (.call (.ref f) args) (CR CX0 outer P w H s Q E0) s
theorem fn_ofC {P : Program} {w : World} {K : PySem.W.Frag} {mg : Str → Option Value} {base : Heap} {k : Nat} {f : Addr} {name qual : Str} {params : Arguments} {body : List Stmt} {scope : Scope} {dV kV doc pm cdv ct oc : Value} {an od : Option Addr}
    {osl : Array (Option Value)} {N ps : List Str} {sp : Addr → Addr → Sp} (lk : K.lookup f = some ⟨oc, od, .func (PySem.W.fnOf name qual params body scope dV kV doc pm an cdv ct), osl⟩) (hcd : PySem.W.codeIn K cdv qual = true) (S : FnScope N ps scope)
    (len : ∀ a C vs H Q E, sp a C vs H Q E → vs.length = ps.length)
    (hbody : ∀ (A : Around) (outer : List Env) (s : Shared) (H : Hp) (vs : List V) (Q : VK) (a C : Addr) (oe : Obj), oe.cls = .ref C → sp a C vs H Q E0 →
      ∃ t, PSs (cxC P w K mg base N qual scope f cdv A outer s H a oe) body t ∧ t { nx := fun _ H' => Q .non H', rt := Q } (start N vs) H) :
    FnOkC P w K mg base k f (PySem.W.fnOf name qual params body scope dV kV doc pm an cdv ct) ps sp := by
  refine ⟨len, fun A outer s H args us vs Q a C oe hr e0 hb r ha hHa hfa hda hca hsp => ?_⟩
  have hl := len _ _ _ _ _ _ hsp
  have KX : K.In s.heap := e0.mod.kin.keeps fun b o e => (e0.bs b o e).1
  have lim : s.heap.NoLimit := e0.mod.nolimit.keeps fun b o e => (e0.bs b o e).1
  have hkind : ∀ y ∈ ps.zip us, scope.names.lookup y.1 = some .local ∨ (scope.names.lookup y.1 = some .cell ∧ ((cellsFrom (s.heap.objs.size + 1) scope.names []).lookup y.1).isSome = true) := fun ⟨n, v⟩ hy => by
    rcases S.par n (List.of_mem_zip hy).1 with q | q
    · exact .inl q
    · exact .inr ⟨q, PySem.W.cellsFrom_some _ _ _ (.inl q)⟩
  refine codeAny_call_function (by have := hr.dp; omega) (KX _ _ lk) rfl S.co S.gen rfl (PySem.W.codeRec_of KX hcd) (hb _ _ _ _ ?_)
  refine wpAny_newFunctionEnv_cells S.kind hkind fun env he s1 x => ?_
  subst he
  refine ⟨lim.keeps x.toInCall.keep, codeAny_func ?_⟩
  obtain ⟨t, ht, hq⟩ := hbody A outer s H vs Q a C oe hca hsp
  have e1 : Env0 P w K mg base { A with handled := none } outer s H := ⟨e0.frames, e0.mod, e0.bs, e0.bsz, e0.funs, e0.frf, e0.hok, e0.bare⟩
  have I' : Inv (cxOf CX0 P w K mg base N qual scope f cdv { A with handled := none } outer s H E0) [] (start N vs) H s1 := inv_start S rfl e1 hl r x
  have I : Inv (cxC P w K mg base N qual scope f cdv A outer s H a oe) [] (start N vs) H s1 := by
    obtain ⟨h1, tk, e, hk⟩ := x.done
    refine ⟨⟨I'.ok.mod, I'.ok.kind, I'.ok.glob, I'.ok.blt, I'.ok.above, I'.ok.inj, I'.ok.has, I'.ok.cab, (fun z => by cases z), Around.frames_deeper e0.frames, I'.ok.stk, I'.ok.exf, I'.ok.bs, I'.ok.bsz, I'.ok.noex, I'.ok.exfs, I'.ok.funs, I'.ok.frf⟩,
      I'.os, I'.bare, I'.base, I'.loc, I'.cell, I'.free, I'.freeC, fun p hp => ?_, I'.hok, I'.len⟩
    have hp' : p ∈ [(a, oe)] := by simpa using hp
    rw [List.mem_singleton.mp hp']
    refine ⟨?_, hHa, Nat.ne_of_lt (Heap.lt_size ha), hfa, hda⟩
    rw [e]
    exact hk a oe ha
  refine wpAny_mono (ht [] s1 (start N vs) H _ I hq) (fun fl s' hs => ?_) fun e s' hs => hs.elim
  have fin : ∀ {σ' : St} {H' : Hp} {v : V} {u : Value}, Inv (cxC P w K mg base N qual scope f cdv A outer s H a oe) [] σ' H' s' → RelV v u → Q v H' → CE outer P w H s Q u s' :=
    fun {σ' H' v u} J rv q => ⟨v, H', J.os, J.bare, J.base, J.hok, rv, q⟩
  cases fl with
  | ret u =>
    obtain ⟨v, σ', H', J, rv, q⟩ := hs
    exact fin J rv q
  | next =>
    obtain ⟨σ', H', J, q⟩ := hs
    exact fin (v := V.non) (u := Value.none) J rfl q
  | brk =>
    obtain ⟨_, _, _, q⟩ := hs
    exact False.elim q
  | cont =>
    obtain ⟨_, _, _, q⟩ := hs
    exact False.elim q
section
variable {P : Program} {w : World} {K : PySem.W.Frag} {mg : Str → Option Value} {base : Heap}
theorem Fun.okC {x qual : Str} {st : Stmt} {f : Addr} {fd : FuncData} {N ps : List Str} {k : Nat} {sp : Addr → Addr → Sp} (F : Fun K x qual st f fd) (S : FnScope N ps (defScope st)) (len : ∀ a C vs H Q E, sp a C vs H Q E → vs.length = ps.length)
    (hbody : ∀ (cdv : Value) (A : Around) (outer : List Env) (s : Shared) (H : Hp) (vs : List V) (Q : VK) (a C : Addr) (oe : Obj), oe.cls = .ref C → sp a C vs H Q E0 →
      ∃ t, PSs (cxC P w K mg base N qual (defScope st) f cdv A outer s H a oe) (defBody st) t ∧ t { nx := fun _ H' => Q .non H', rt := Q } (start N vs) H) : FnOkC P w K mg base k f fd ps sp := by
  obtain ⟨oc, od, kV, doc, pm, an, cdv, ct, osl, rfl, lk, hcd⟩ := F.ex
  exact fn_ofC lk hcd S len fun A outer s H vs Q a C oe hc hsp => hbody cdv A outer s H vs Q a C oe hc hsp
end
section
variable {X : Cx} {a C : Addr} {oe : Obj}
theorem call_isEC (hp : (a, oe) ∈ X.pn) (hc : oe.cls = .ref C) : CallR X (.builtin "isinstance") (rIsE X.K a C) := by
  intro pins s σ H xs us Q I r h
  have at0 : s.heap.get? a = some oe := (I.pin (a, oe) (List.mem_append_left _ hp)).1
  obtain ⟨c, h⟩ := h
  rcases h with ⟨D, b, rfl, e, q⟩ | ⟨T, b, rfl, e, q⟩
  · obtain ⟨u, w', rfl, r1, r2⟩ := vals2 r
    cases r1; cases r2
    exact PySem.W.kia_one (PySem.W.kitx_exc c hc) I.kIn at0 e (fun z => nomatch z) fun tk => ⟨.bl b, H, I.tok tk, rfl, q⟩
  · obtain ⟨u, w', rfl, r1, r2⟩ := vals2 r
    cases r1; cases r2
    exact PySem.W.kia_one (PySem.W.kitx_exc c hc) I.kIn at0 e (fun z => nomatch z) fun tk => ⟨.bl b, H, I.tok tk, rfl, q⟩
variable {k : Nat} {f : Addr} {fd : FuncData} {ps : List Str} {sp : Addr → Addr → Sp} {x : Str} {p pos : Pos} {e : Expr} {es : List Expr} {t : TA}
/-- f(e, ..) within the suite -/
theorem pe_callC (hc : oe.cls = .ref C) (F : FnOkC X.prog X.w X.K X.mg X.base k f fd ps sp) (hr : Room k X.A) (hg : Gl X x) (hm : X.mg x = some (.ref f)) (hk : PySem.W.keepIn X.K (.ref f) = true) (hb : Binds X.K fd ps [])
    (ha : PA (X.caught a oe) (e :: es) t) (hdb : (x == ("__debug__" : Str)) = false := by decide) (he : starEach (e :: es) X.env = (false, eval e X.env) :: starEach es X.env := by rfl) (hpl : (backTo pos (starEach es X.env)).any (·.1) = false := by rfl) :
    PE (X.caught a oe) (.Call (.Name x p) (e :: es) [] pos) (tCall (sp a C) [] E0 t) := by
  intro pins s σ H Q I h
  refine wpAny_Call_Name_kw (ld_glob I hg hm ?_ hdb)
  refine PySem.W.callWith_K (h₀ := X.base) I.ok.mod.kin hk (thn (ha pos pins s σ H _ I h) fun us s1 ⟨vs, H1, I1, r, q⟩ => ⟨I1.kIn, ?_⟩) he hpl
  have q' : sp a C vs H1 Q E0 := by
    have z : vs ++ ([] : List V) = vs := List.append_nil _
    rw [← z]; exact q
  have hl : us.length = ps.length := by rw [← r.length]; exact F.len _ _ _ _ _ _ q'
  obtain ⟨p1, p2, p3, p4, p5⟩ := I1.pin (a, oe) List.mem_cons_self
  have nst : a ∉ frs (X.caught a oe).stack := fun z => by
    rcases List.mem_cons.mp (I1.stkSub a z) with z | z
    · exact p3 z
    · exact p4 z
  have hb' := hb s1 us I1.kIn (by rw [List.append_nil]; exact hl)
  rw [List.append_nil] at hb'
  refine wpAny_call (codeAny_mono (F.run (X.caught a oe).A (X.caught a oe).stack s1 H1 ⟨us, []⟩ us vs Q a C oe hr.roomC I1.env0 hb' r p1 p2 nst p5 hc q') fun rr s' hq => ?_)
  cases rr with
  | error e => exact hq.elim
  | ok fl =>
    cases fl with
    | ret u => exact I1.after hq
    | next => exact False.elim hq
    | brk => exact False.elim hq
    | cont => exact False.elim hq
end
end L2


set_option Elab.async false
set_option linter.all false
set_option maxRecDepth 100000
set_option maxHeartbeats 4000000
/-! The data of nights, and what every law's proof leans on: no text of a program here -/
namespace FN
open PySem L2

/-! ### small things -/
theorem at0 {α : Type} {x : α} {r : List α} : atI (x :: r) 0 = some x := atI_nat (j := 0) (xs := x :: r) rfl
theorem at1 {α : Type} {x y : α} {r : List α} : atI (x :: y :: r) 1 = some y := atI_nat (j := 1) (xs := x :: y :: r) rfl
theorem at2 {α : Type} {x y z : α} {r : List α} : atI (x :: y :: z :: r) 2 = some z := atI_nat (j := 2) (xs := x :: y :: z :: r) rfl
theorem atI_in {α : Type} {xs : List α} {i : Int} (h0 : 0 ≤ i) (h1 : i < xs.length) : ∃ v, v ∈ xs ∧ atI xs i = some v := by
  have hj : i.toNat < xs.length := by omega
  have e : xs[i.toNat]? = some xs[i.toNat] := List.getElem?_eq_getElem hj
  refine ⟨xs[i.toNat], List.getElem_mem hj, ?_⟩
  have q := atI_nat e
  rwa [show ((i.toNat : Nat) : Int) = i by omega] at q
theorem iteE {c : Bool} {A B : Prop} (h1 : c = true → A) (h2 : c = false → B) : if c = true then A else B := by
  cases c with
  | true => exact h1 rfl
  | false => exact h2 rfl
theorem le_line {n : Nat} (h : n ≤ 1000000) : n ≤ sizeLine := by rw [sizeLine_eq]; omega
theorem lt_line {n : Nat} (h : n ≤ 1000000) : n < sizeLine := by rw [sizeLine_eq]; omega

/-! ### no list inside -/
mutual
def noLst : PyData → Bool
  | .list _ => false
  | .tuple ds => noLsts ds
  | .dict _ => false
  | _ => true
def noLsts : List PyData → Bool
  | [] => true
  | d :: ds => noLst d && noLsts ds
end
theorem noLsts_map {α : Type} {f : α → PyData} (hf : ∀ x, noLst (f x) = true) : ∀ l : List α, noLsts (l.map f) = true
  | [] => rfl
  | x :: r => by
    simp only [List.map_cons, noLsts, Bool.and_eq_true]
    exact ⟨hf x, noLsts_map hf r⟩
section
variable {H : Hp} {D : Addr} {o : HO} {ys : List V}
mutual
theorem dv_upd (hD : H D = some (.lst ys)) : ∀ {d : PyData} {v : V}, DV H d v → noLst d = true → DV (upd H D o) d v
  | _, _, .non, _ => .non
  | _, _, .bl b, _ => .bl b
  | _, _, .int i, _ => .int i
  | _, _, .str x, _ => .str x
  | _, _, .lst _ _, n => by simp [noLst] at n
  | _, _, .tup h t, n => .tup (by rw [upd_ne (ne_of h hD (by intro z; cases z))]; exact h) (dvs_upd hD t (by simpa [noLst] using n))
theorem dvs_upd (hD : H D = some (.lst ys)) : ∀ {ds : List PyData} {vs : List V}, DVs H ds vs → noLsts ds = true → DVs (upd H D o) ds vs
  | _, _, .nil, _ => .nil
  | _, _, .cons h t, n => by
    simp only [noLsts, Bool.and_eq_true] at n
    exact .cons (dv_upd hD h n.1) (dvs_upd hD t n.2)
end
end
section
variable {H H' : Hp}
mutual
/-- all tuples stay -/
theorem dv_but (e : ∀ b vs, H b = some (.tup vs) → H' b = some (.tup vs)) : ∀ {d : PyData} {v : V}, DV H d v → noLst d = true → DV H' d v
  | _, _, .non, _ => .non
  | _, _, .bl b, _ => .bl b
  | _, _, .int i, _ => .int i
  | _, _, .str x, _ => .str x
  | _, _, .lst _ _, n => by simp [noLst] at n
  | _, _, .tup h t, n => .tup (e _ _ h) (dvs_but e t (by simpa [noLst] using n))
theorem dvs_but (e : ∀ b vs, H b = some (.tup vs) → H' b = some (.tup vs)) : ∀ {ds : List PyData} {vs : List V}, DVs H ds vs → noLsts ds = true → DVs H' ds vs
  | _, _, .nil, _ => .nil
  | _, _, .cons h t, n => by
    simp only [noLsts, Bool.and_eq_true] at n
    exact .cons (dv_but e h n.1) (dvs_but e t n.2)
end
end
theorem same_upd {H0 H : Hp} {D : Addr} {o : HO} (e : Same H0 H) (h : H0 D = none) : Same H0 (upd H D o) := fun b u q => by
  rw [upd_ne (ne_of_none q h)]
  exact e b u q
theorem same_new {H : Hp} {D : Addr} {o : HO} (h : H D = none) : Same H (upd H D o) := same_upd (Same.refl H) h

/-! ### laying -/
theorem canAll_map {α : Type} {f : α → PyData} (hf : ∀ x, (f x).canLay0 = true) : ∀ l : List α, PyData.canLayAll0 (l.map f) = true
  | [] => by simp [PyData.canLayAll0]
  | x :: r => by simp only [List.map_cons, PyData.canLayAll0, hf x, canAll_map hf r, Bool.and_self]
theorem can_int (i : Int) : (PyData.int i).canLay0 = true := by simp [PyData.canLay0]
theorem can_ints (g : List Int) : PyData.canLayAll0 (g.map PyData.int) = true := canAll_map can_int g
theorem depthAll_map {α : Type} {f : α → PyData} {n : Nat} (hf : ∀ x, (f x).depth ≤ n) : ∀ l : List α, PyData.depthAll (l.map f) ≤ n
  | [] => by simp [PyData.depthAll]
  | x :: r => by
    simp only [List.map_cons, PyData.depthAll]
    exact Nat.max_le.mpr ⟨hf x, depthAll_map hf r⟩

/-! ### nights -/
abbrev Th := Int × Bool
abbrev Qu := Int × Int × Int
def thD (t : Th) : PyData := .tuple [.int t.1, .bool t.2]
def quD (q : Qu) : PyData := .tuple [.int q.1, .int q.2.1, .int q.2.2]
theorem th_no (t : Th) : noLst (thD t) = true := rfl
theorem qu_no (q : Qu) : noLst (quD q) = true := rfl
section
variable {H : Hp}
theorem th_dv {t : Th} {b : Addr} (h : H b = some (.tup [.int t.1, .bl t.2])) : DV H (thD t) (.ref b) := .tup h (.cons (.int _) (.cons (.bl _) .nil))
theorem qu_dv {q : Qu} {b : Addr} (h : H b = some (.tup [.int q.1, .int q.2.1, .int q.2.2])) : DV H (quD q) (.ref b) := .tup h (.cons (.int _) (.cons (.int _) (.cons (.int _) .nil)))
theorem th_inv {t : Th} {v : V} (h : DV H (thD t) v) : ∃ b, v = .ref b ∧ H b = some (.tup [.int t.1, .bl t.2]) := by
  obtain ⟨a, vs, rfl, e, q⟩ := h.tup_inv
  obtain ⟨v, w, rfl, h1, h2⟩ := q.two_inv
  cases h1.int_inv
  cases h2.bl_inv
  exact ⟨a, rfl, e⟩
theorem qu_inv {q : Qu} {v : V} (h : DV H (quD q) v) : ∃ b, v = .ref b ∧ H b = some (.tup [.int q.1, .int q.2.1, .int q.2.2]) := by
  obtain ⟨a, vs, rfl, e, q⟩ := h.tup_inv
  obtain ⟨v, w, u, rfl, h1, h2, h3⟩ := q.three_inv
  cases h1.int_inv
  cases h2.int_inv
  cases h3.int_inv
  exact ⟨a, rfl, e⟩
theorem dvs_get {α : Type} {f : α → PyData} {l : List α} {vs : List V} {i : Nat} {v : V} (h : DVs H (l.map f) vs) (e : vs[i]? = some v) : ∃ x, l[i]? = some x ∧ DV H (f x) v := by
  obtain ⟨d, h1, h2⟩ := h.get' e
  rw [List.getElem?_map] at h1
  cases q : l[i]? with
  | none => rw [q] at h1; cases h1
  | some x =>
    rw [q] at h1
    cases h1
    exact ⟨x, rfl, h2⟩
theorem dvs_len {α : Type} {f : α → PyData} {l : List α} {vs : List V} (h : DVs H (l.map f) vs) : vs.length = l.length := by
  have := h.length
  rw [List.length_map] at this
  exact this.symm
end
/-- what is known of a quarrel in a night of n things -/
structure OkQ (n : Int) (q : Qu) : Prop where
  a0 : 0 ≤ q.1
  a1 : q.1 < n
  b0 : 0 ≤ q.2.1
  b1 : q.2.1 < n
  ab : q.1 ≠ q.2.1
  k : q.2.2 = -1 ∨ (0 ≤ q.2.2 ∧ q.2.2 < n ∧ q.2.2 ≠ q.1 ∧ q.2.2 ≠ q.2.1)
structure OkT (ts : List Th) : Prop where
  l1 : 1 ≤ ts.length
  l6 : ts.length ≤ 6
  p : ∀ t ∈ ts, 1 ≤ t.1 ∧ t.1 ≤ 1000000000
/-- the list at a holds ts (as thD, quD tell) -/
def LstAt {α : Type} (f : α → PyData) (H : Hp) (a : Addr) (l : List α) : Prop := ∃ vs, H a = some (.lst vs) ∧ DVs H (l.map f) vs
def TupAt {α : Type} (f : α → PyData) (H : Hp) (a : Addr) (l : List α) : Prop := ∃ vs, H a = some (.tup vs) ∧ DVs H (l.map f) vs
section
variable {α : Type} {f : α → PyData} {H H' : Hp} {a : Addr} {l : List α}
theorem LstAt.mono (h : LstAt f H a l) (e : Same H H') : LstAt f H' a l := let ⟨vs, h1, h2⟩ := h; ⟨vs, e _ _ h1, h2.mono e⟩
theorem TupAt.mono (h : TupAt f H a l) (e : Same H H') : TupAt f H' a l := let ⟨vs, h1, h2⟩ := h; ⟨vs, e _ _ h1, h2.mono e⟩
end

/-! ### peace -/
def bad (g : List Int) (q : Qu) : Bool := g.contains q.1 && g.contains q.2.1 && !g.contains q.2.2
def peace (qs : List Qu) (g : List Int) : Bool := !(qs.any (bad g))
theorem inV_ints (i : Int) (g : List Int) : inV (.int i) (g.map V.int) = g.contains i := by
  unfold inV
  rw [List.any_map, List.contains_eq_any_beq]
  congr 1
  funext y
  show (y == i) = (i == y)
  rw [Bool.beq_comm]
theorem flat_ints (g : List Int) : (g.map V.int).all flatV = true := by
  rw [List.all_map]
  exact List.all_eq_true.mpr fun _ _ => rfl

/-! ### a group by its number -/
def bitsFrom : Nat → Int → Int → List Int
  | 0, _, _ => []
  | k + 1, t, num => (if num % 2 = 1 then [t] else []) ++ bitsFrom k (t + 1) (num / 2)
def bits (n : Nat) (num : Int) : List Int := bitsFrom n 0 num
def groups (n : Nat) : List (List Int) := (till (2 ^ n)).map (bits n)
def grD (g : List Int) : PyData := .tuple (g.map PyData.int)
theorem gr_no (g : List Int) : noLst (grD g) = true := by
  show noLsts (g.map PyData.int) = true
  exact noLsts_map (fun _ => rfl) g
theorem gr_inv {H : Hp} {g : List Int} {v : V} (h : DV H (grD g) v) : ∃ b, v = .ref b ∧ H b = some (.tup (g.map V.int)) := by
  obtain ⟨a, vs, rfl, e, q⟩ := h.tup_inv
  cases q.ints_inv
  exact ⟨a, rfl, e⟩
theorem gr_dv {H : Hp} {g : List Int} {b : Addr} (h : H b = some (.tup (g.map V.int))) : DV H (grD g) (.ref b) := .tup h (DVs.ints g)

/-! ### a quarrel drawn -/
theorem drawn_ok (cell : Int) (n : Nat) (h2 : 2 ≤ n) (h6 : n ≤ 6) : 0 ≤ cell % (n : Int) ∧ cell % (n : Int) < n ∧ 0 ≤ (cell % (n : Int) + 1 + cell / (n : Int) % ((n : Int) - 1)) % (n : Int) ∧
    (cell % (n : Int) + 1 + cell / (n : Int) % ((n : Int) - 1)) % (n : Int) < n ∧ cell % (n : Int) ≠ (cell % (n : Int) + 1 + cell / (n : Int) % ((n : Int) - 1)) % (n : Int) := by
  have c : n = 2 ∨ n = 3 ∨ n = 4 ∨ n = 5 ∨ n = 6 := by omega
  rcases c with rfl | rfl | rfl | rfl | rfl <;> omega
theorem prod_ok (n : Nat) (h2 : 2 ≤ n) (h6 : n ≤ 6) : (0 : Int) < (n : Int) * ((n : Int) - 1) ∧ (n : Int) * ((n : Int) - 1) < 1073741824 := by
  have c : n = 2 ∨ n = 3 ∨ n = 4 ∨ n = 5 ∨ n = 6 := by omega
  rcases c with rfl | rfl | rfl | rfl | rfl <;> decide

/-! ### the context of a def's body, what is wanted of it -/
abbrev bX (P : Program) (w : World) (K : PySem.W.Frag) (mg : Str → Option Value) (base : Heap) (N : List Str) (qual : Str) (st : Stmt) (f : Addr) (cdv : Value) (A : Around) (outer : List Env) (s : Shared) (H : Hp) (E : XK) : Cx :=
  (cxOf CX0 P w K mg base N qual (defScope st) f cdv A outer s H E).nox
abbrev bD (Q : VK) : Ends := { nx := fun _ H' => Q .non H', rt := Q }

/-! ### a def of the text by its name in the module -/
structure Fn (K : PySem.W.Frag) (mg : Str → Option Value) (x : Str) (st : Stmt) (f : Addr) (fd : FuncData) (ps : List Str) : Prop where
  fn : Fun K x x st f fd
  b : Binds K fd ps []
  g : mg x = some (.ref f)
/-- a method -/
structure Mt (K : PySem.W.Frag) (x qual : Str) (st : Stmt) (f : Addr) (fd : FuncData) (ps : List Str) : Prop where
  fn : Fun K x qual st f fd
  b : Binds K fd ps []
end FN


set_option Elab.async false
set_option linter.all false
set_option maxRecDepth 100000
set_option maxHeartbeats 4000000
/-! Crossings, without any text of a program: what they come to -/
namespace FN
open PySem L2 PyProof.Rows

/-! ### rising lists -/
theorem sorted_ext : ∀ {l1 l2 : List Int}, l1.Pairwise (· < ·) → l2.Pairwise (· < ·) → (∀ x, x ∈ l1 ↔ x ∈ l2) → l1 = l2
  | [], [], _, _, _ => rfl
  | [], b :: r, _, _, h => absurd ((h b).mpr List.mem_cons_self) (by simp)
  | a :: l, [], _, _, h => absurd ((h a).mp List.mem_cons_self) (by simp)
  | a :: l, b :: r, h1, h2, h => by
    obtain ⟨ha, hl⟩ := List.pairwise_cons.mp h1
    obtain ⟨hb, hr⟩ := List.pairwise_cons.mp h2
    have e : a = b := by
      rcases List.mem_cons.mp ((h a).mp List.mem_cons_self) with e | e
      · exact e
      · rcases List.mem_cons.mp ((h b).mpr List.mem_cons_self) with e' | e'
        · exact e'.symm
        · have z1 := hb a e
          have z2 := ha b e'
          omega
    subst e
    have t : l = r := by
      refine sorted_ext hl hr fun x => ⟨fun hx => ?_, fun hx => ?_⟩
      · rcases List.mem_cons.mp ((h x).mp (List.mem_cons_of_mem _ hx)) with e | e
        · have := ha x hx; omega
        · exact e
      · rcases List.mem_cons.mp ((h x).mpr (List.mem_cons_of_mem _ hx)) with e | e
        · have := hb x hx; omega
        · exact e
    rw [t]
def rises (g : List Int) : Bool := ((g.zip (g.drop 1)).map fun p => decide (p.1 < p.2)).all id
theorem rises_cons (a b : Int) (r : List Int) : rises (a :: b :: r) = (decide (a < b) && rises (b :: r)) := rfl
theorem rises_pw : ∀ {g : List Int}, rises g = true → g.Pairwise (· < ·)
  | [], _ => .nil
  | [a], _ => by simp
  | a :: b :: r, h => by
    rw [rises_cons, Bool.and_eq_true] at h
    have hab : a < b := of_decide_eq_true h.1
    have ih := rises_pw h.2
    refine List.pairwise_cons.mpr ⟨fun x hx => ?_, ih⟩
    rcases List.mem_cons.mp hx with e | e
    · rw [e]; exact hab
    · exact Int.lt_trans hab ((List.pairwise_cons.mp ih).1 x e)
theorem pw_rises : ∀ {g : List Int}, g.Pairwise (· < ·) → rises g = true
  | [], _ => rfl
  | [a], _ => rfl
  | a :: b :: r, h => by
    obtain ⟨ha, hr⟩ := List.pairwise_cons.mp h
    rw [rises_cons, pw_rises hr, decide_eq_true (ha b List.mem_cons_self)]
    rfl
theorem till_pw : ∀ n, (till n).Pairwise (· < ·)
  | 0 => .nil
  | n + 1 => by
    rw [till_succ]
    refine List.pairwise_append.mpr ⟨till_pw n, by simp, fun a ha b hb => ?_⟩
    rw [List.mem_singleton.mp hb]
    exact (mem_till.mp ha).2
theorem filter_pw {l : List Int} (p : Int → Bool) (h : l.Pairwise (· < ·)) : (l.filter p).Pairwise (· < ·) := List.Pairwise.sublist List.filter_sublist h
theorem contains_iff {g : List Int} {t : Int} : g.contains t = true ↔ t ∈ g := List.contains_iff_mem

/-! ### groups, by doubling -/
theorem snoc_ind {M : List Int → Prop} (nil : M []) (snoc : ∀ l t, M l → M (l ++ [t])) (l : List Int) : M l := by
  have go : ∀ r : List Int, M r.reverse := fun r => by
    induction r with
    | nil => exact nil
    | cons a r ih => rw [List.reverse_cons]; exact snoc _ _ ih
  have := go l.reverse
  rwa [List.reverse_reverse] at this
def gOf (bank : List Int) : List (List Int) := bank.foldl (fun gs t => gs ++ gs.map (· ++ [t])) [[]]
theorem gOf_snoc (l : List Int) (t : Int) : gOf (l ++ [t]) = gOf l ++ (gOf l).map (· ++ [t]) := by
  unfold gOf
  rw [List.foldl_append]
  rfl
theorem nil_gOf (l : List Int) : [] ∈ gOf l := by
  induction l using snoc_ind with
  | nil => exact List.mem_singleton.mpr rfl
  | snoc l t ih => rw [gOf_snoc]; exact List.mem_append_left _ ih
theorem gOf_len (l : List Int) : (gOf l).length = 2 ^ l.length := by
  induction l using snoc_ind with
  | nil => rfl
  | snoc l t ih => rw [gOf_snoc, List.length_append, List.length_map, ih, List.length_append, List.length_singleton, Nat.pow_succ]; omega
theorem gOf_sub {l c : List Int} (h : c ∈ gOf l) : c.Sublist l := by
  induction l using snoc_ind generalizing c with
  | nil => rw [List.mem_singleton.mp h]; exact .slnil
  | snoc l t ih =>
    rw [gOf_snoc] at h
    rcases List.mem_append.mp h with z | z
    · exact (ih z).trans (List.sublist_append_left _ _)
    · obtain ⟨c', h1, rfl⟩ := List.mem_map.mp z
      exact (ih h1).append (List.Sublist.refl _)
/-! ### standings -/
abbrev St2 := List Int × Int
def inN (n : Nat) (t : Int) : Bool := decide (0 ≤ t ∧ t < (n : Int))
def isSt (n : Nat) (st : St2) : Bool := (decide (st.2 = 0) || decide (st.2 = 1)) && (rises st.1 && st.1.all (inN n))
def stD (st : St2) : PyData := .tuple [grD st.1, .int st.2]
def restOf (n : Nat) (g : List Int) : List Int := (till n).filter fun t => !g.contains t
def isGood (qs : List Qu) (n : Nat) (g : List Int) : Bool := peace qs g && peace qs (restOf n g)
def bankOf (n : Nat) (st : St2) : List Int := if st.2 = 0 then st.1 else restOf n st.1
def rowsAt (ts : List Th) (t : Int) : Bool := (ts.getD t.toNat (0, false)).2
def paceAt (ts : List Th) (t : Int) : Int := (ts.getD t.toNat (0, false)).1
def manned (ts : List Th) (r : Int) (c : List Int) : Bool := decide (1 ≤ (c.length : Int) ∧ (c.length : Int) ≤ r) && c.any (rowsAt ts)
def behind (n : Nat) (st : St2) (c : List Int) : St2 := if st.2 = 0 then (st.1.filter fun t => !c.contains t, 1) else ((till n).filter fun t => st.1.contains t || c.contains t, 0)
def preCrews (ts : List Th) (r : Int) (qs : List Qu) (st : St2) : List (List Int) := ((gOf (bankOf ts.length st)).filter (manned ts r)).filter fun c => isGood qs ts.length (behind ts.length st c).1
def crewsOf (ts : List Th) (r : Int) (qs : List Qu) (st : St2) : List (List Int) := srtT (preCrews ts r qs st)
def minutesOf (ts : List Th) (c : List Int) : Int := maxL (c.map (paceAt ts))
theorem isSt_grp {n : Nat} {st : St2} (h : isSt n st = true) : st.1.Pairwise (· < ·) ∧ (∀ t ∈ st.1, 0 ≤ t ∧ t < (n : Int)) ∧ (st.2 = 0 ∨ st.2 = 1) := by
  unfold isSt at h
  rw [Bool.and_eq_true, Bool.and_eq_true, Bool.or_eq_true] at h
  refine ⟨rises_pw h.2.1, fun t ht => of_decide_eq_true (List.all_eq_true.mp h.2.2 t ht), h.1.imp of_decide_eq_true of_decide_eq_true⟩
theorem isSt_of {n : Nat} {st : St2} (h1 : st.1.Pairwise (· < ·)) (h2 : ∀ t ∈ st.1, 0 ≤ t ∧ t < (n : Int)) (h3 : st.2 = 0 ∨ st.2 = 1) : isSt n st = true := by
  unfold isSt
  have e : st.1.all (inN n) = true := List.all_eq_true.mpr fun t ht => decide_eq_true (h2 t ht)
  rw [pw_rises h1, e]
  rcases h3 with e | e <;> simp [e]
/-- a rising group of the night is what the whole has in common with it -/
theorem grp_filter {n : Nat} {g : List Int} (h1 : g.Pairwise (· < ·)) (h2 : ∀ t ∈ g, 0 ≤ t ∧ t < (n : Int)) : (till n).filter (fun t => g.contains t) = g := by
  refine sorted_ext (filter_pw _ (till_pw n)) h1 fun x => ?_
  rw [List.mem_filter, contains_iff, mem_till]
  exact ⟨fun h => h.2, fun h => ⟨h2 x h, h⟩⟩
theorem bank_filter {n : Nat} {st : St2} (h : isSt n st = true) : (till n).filter (fun t => (bankOf n st).contains t) = bankOf n st := by
  obtain ⟨h1, h2, _⟩ := isSt_grp h
  unfold bankOf
  split
  · exact grp_filter h1 h2
  · exact grp_filter (filter_pw _ (till_pw n)) fun t ht => mem_till.mp (List.mem_filter.mp ht).1
theorem bank_sub {n : Nat} {st : St2} (h : isSt n st = true) {t : Int} (ht : t ∈ bankOf n st) : 0 ≤ t ∧ t < (n : Int) := by
  rw [← bank_filter h] at ht
  exact mem_till.mp (List.mem_filter.mp ht).1
theorem bank_len {n : Nat} {st : St2} (h : isSt n st = true) : (bankOf n st).length ≤ n := by
  rw [← bank_filter h]
  exact Nat.le_trans (List.length_filter_le _ _) (by rw [till_length]; exact Nat.le_refl _)
/-- the crews that are let, as a law looks for them among all groups -/
def lawP (ts : List Th) (r : Int) (qs : List Qu) (st : St2) (c : List Int) : Bool :=
  (decide (1 ≤ (c.length : Int) ∧ (c.length : Int) ≤ r) && decide ((c.filter fun t => !(bankOf ts.length st).contains t) = [])) && (decide ((c.filter (rowsAt ts)) ≠ []) && isGood qs ts.length (behind ts.length st c).1)
def lawPre (ts : List Th) (r : Int) (qs : List Qu) (st : St2) : List (List Int) := (groups ts.length).filter (lawP ts r qs st)
theorem preCrews_len {ts : List Th} {r : Int} {qs : List Qu} {st : St2} (h : isSt ts.length st = true) (h6 : ts.length ≤ 6) : ((gOf (bankOf ts.length st)).filter (manned ts r)).length < 64 := by
  have hb := bank_len h
  have h64 : (gOf (bankOf ts.length st)).length ≤ 64 := by
    rw [gOf_len]
    exact Nat.le_trans (Nat.pow_le_pow_right (by decide) (Nat.le_trans hb h6)) (by decide)
  have hlt : ((gOf (bankOf ts.length st)).filter (manned ts r)).length < (gOf (bankOf ts.length st)).length :=
    List.length_filter_lt_length_iff_exists.mpr ⟨[], nil_gOf _, by simp [manned]⟩
  omega
theorem manned_ne {ts : List Th} {r : Int} {c : List Int} (h : manned ts r c = true) : c ≠ [] := by
  intro e
  rw [e] at h
  simp [manned] at h
end FN


set_option Elab.async false
set_option linter.all false
set_option maxRecDepth 100000
set_option maxHeartbeats 4000000
namespace FN
open PySem L2 PyProof.Rows
/-! ### the text by places -/
def top (i : Nat) : Stmt := PySem.Challenge.pw_ferrynight_k10_refusals.main.body.getD i (.Pass ⟨0, 0, 0, 0⟩)
abbrev s_check_things : Stmt := top 15
abbrev s_check_room : Stmt := top 16
abbrev s_is_thing : Stmt := top 17
abbrev s_is_pair : Stmt := top 18
abbrev s_is_keeper : Stmt := top 19
abbrev s_check_quarrels : Stmt := top 20
abbrev s_Night___init__ : Stmt := inClass (top 21) 0
abbrev s_Night_things : Stmt := inClass (top 21) 1
abbrev s_Night_room : Stmt := inClass (top 21) 2
abbrev s_Night_quarrels : Stmt := inClass (top 21) 3
abbrev s_Night_begins : Stmt := inClass (top 21) 4
abbrev s_Night_ends : Stmt := inClass (top 21) 5
abbrev s_Night_peace : Stmt := inClass (top 21) 6
abbrev s_rises : Stmt := top 24
abbrev s_is_standing : Stmt := top 25
abbrev s_other_bank : Stmt := top 26
abbrev s_is_good : Stmt := top 27
abbrev s_check_standing : Stmt := top 28
abbrev s_check_start : Stmt := top 29
abbrev s_good : Stmt := top 30
abbrev s_groups_of : Stmt := top 31
abbrev s_bank_of_boat : Stmt := top 32
abbrev s_is_manned : Stmt := top 33
abbrev s_crossed : Stmt := top 34
abbrev s_crews : Stmt := top 35
abbrev s_after : Stmt := top 36
abbrev s_minutes : Stmt := top 37
abbrev s_takes : Stmt := top 39
abbrev s_by_side : Stmt := top 40
abbrev s_good_standings : Stmt := top 41
abbrev s_all_crossings : Stmt := top 42
abbrev s_begun_by : Stmt := top 43
abbrev s_with_one_more : Stmt := top 44
abbrev s_fewest_minutes : Stmt := top 45
abbrev s_plan_from : Stmt := top 46
abbrev s_come_to : Stmt := top 47
abbrev s_shortest : Stmt := top 48
abbrev s__law_cell_at : Stmt := top 50
abbrev s__law_quarrel : Stmt := top 51
abbrev s__law_quarrels : Stmt := top 52
abbrev s__law_things : Stmt := top 53
abbrev s__law_night : Stmt := top 54
abbrev s__law_peace : Stmt := top 55
abbrev s__law_bits : Stmt := top 56
abbrev s__law_groups : Stmt := top 57
abbrev s__law_rest : Stmt := top 58
abbrev s__law_good : Stmt := top 59
abbrev s__law_asked : Stmt := top 60
abbrev s__law_flags : Stmt := top 61
abbrev s__law_refusal : Stmt := top 62
abbrev s__law_making : Stmt := top 63
abbrev s__law_ill_things : Stmt := top 64
abbrev s__law_ill_quarrel : Stmt := top 65
abbrev s__law_ill_standing : Stmt := top 66
abbrev s_law : Stmt := top 67
/-! ### what the top has written -/
/-- the addresses and marks that the top has laid -/
structure Ad where
  k1 : Tok
  k2 : Tok
  k3 : Tok
  k4 : Tok
  k5 : Tok
  SIDES : Addr
  FerryError : Addr
  BadThing : Addr
  BadRoom : Addr
  BadQuarrel : Addr
  NoStanding : Addr
  BadStart : Addr
  NoCrew : Addr
  BadNote : Addr
abbrev bmV : List Value := [.type "ValueError", .type "Exception", .type "BaseException", .type "object"]
/-- what is asked of a refusal's class -/
structure Ref (K : PySem.W.Frag) (mg : Str → Option Value) (Z : Ad) (x : Str) (D : Addr) : Prop where
  g : mg x = some (.ref D)
  x : PySem.W.excIn K D bmV "ValueError.__new__" = true
  k : PySem.W.ExcK K D
  m : PySem.W.exmOne K (.ref D) (.ref Z.FerryError) = some true
  v : PySem.W.kitOne K (.ref D) (.type "ValueError") = some true
structure Txt (K : PySem.W.Frag) (mg : Str → Option Value) (C : Addr) (Z : Ad) : Prop where
  n_len : mg "len" = none
  n_list : mg "list" = none
  n_tuple : mg "tuple" = none
  n_range : mg "range" = none
  n_isinstance : mg "isinstance" = none
  n_int : mg "int" = none
  n_bool : mg "bool" = none
  n_zip : mg "zip" = none
  n_all : mg "all" = none
  n_any : mg "any" = none
  n_max : mg "max" = none
  n_sorted : mg "sorted" = none
  n_ValueError : mg "ValueError" = none
  n_reversed : mg "reversed" = none
  c_MOST_THINGS : mg "MOST_THINGS" = some (.int 6 Z.k1)
  c_MOST_MINUTES : mg "MOST_MINUTES" = some (.int 1000000000 Z.k2)
  c_MOST_ROOM : mg "MOST_ROOM" = some (.int 3 Z.k3)
  c_MOST_QUARRELS : mg "MOST_QUARRELS" = some (.int 30 Z.k4)
  c_NO_KEEPER : mg "NO_KEEPER" = some (.int (-1) Z.k5)
  g_Night : mg "Night" = some (.ref C)
  cl_Night : Cls K C
  a_things : NoAttr K C "kept_things"
  a_room : NoAttr K C "kept_room"
  a_quarrels : NoAttr K C "kept_quarrels"
  c_SIDES : mg "SIDES" = some (.ref Z.SIDES)
  s_SIDES : ∀ H, SqT K H Z.SIDES [.int 0, .int 1]
  g_FerryError : mg "FerryError" = some (.ref Z.FerryError)
  g_BadThing : mg "BadThing" = some (.ref Z.BadThing)
  g_BadRoom : mg "BadRoom" = some (.ref Z.BadRoom)
  g_BadQuarrel : mg "BadQuarrel" = some (.ref Z.BadQuarrel)
  g_BadNote : mg "BadNote" = some (.ref Z.BadNote)
  r_NoStanding : Ref K mg Z "NoStanding" Z.NoStanding
  r_BadStart : Ref K mg Z "BadStart" Z.BadStart
  r_NoCrew : Ref K mg Z "NoCrew" Z.NoCrew
  r_BadThing : Ref K mg Z "BadThing" Z.BadThing
  r_BadRoom : Ref K mg Z "BadRoom" Z.BadRoom
  r_BadQuarrel : Ref K mg Z "BadQuarrel" Z.BadQuarrel
section
variable {K : PySem.W.Frag} {mg : Str → Option Value} {C : Addr} {Z : Ad}
theorem Txt.g_NoStanding (T : Txt K mg C Z) : mg "NoStanding" = some (.ref Z.NoStanding) := T.r_NoStanding.g
theorem Txt.g_BadStart (T : Txt K mg C Z) : mg "BadStart" = some (.ref Z.BadStart) := T.r_BadStart.g
theorem Txt.g_NoCrew (T : Txt K mg C Z) : mg "NoCrew" = some (.ref Z.NoCrew) := T.r_NoCrew.g
theorem Txt.x_NoStanding (T : Txt K mg C Z) : PySem.W.excIn K Z.NoStanding bmV "ValueError.__new__" = true := T.r_NoStanding.x
theorem Txt.x_BadStart (T : Txt K mg C Z) : PySem.W.excIn K Z.BadStart bmV "ValueError.__new__" = true := T.r_BadStart.x
theorem Txt.x_NoCrew (T : Txt K mg C Z) : PySem.W.excIn K Z.NoCrew bmV "ValueError.__new__" = true := T.r_NoCrew.x
theorem Txt.x_BadThing (T : Txt K mg C Z) : PySem.W.excIn K Z.BadThing bmV "ValueError.__new__" = true := T.r_BadThing.x
theorem Txt.x_BadRoom (T : Txt K mg C Z) : PySem.W.excIn K Z.BadRoom bmV "ValueError.__new__" = true := T.r_BadRoom.x
theorem Txt.x_BadQuarrel (T : Txt K mg C Z) : PySem.W.excIn K Z.BadQuarrel bmV "ValueError.__new__" = true := T.r_BadQuarrel.x
end

/-! ### a night's object -/
def flds (t : Addr) (r : Int) (q : Addr) : List (Str × V) := putF "kept_quarrels" (.ref q) (putF "kept_room" (.int r) (putF "kept_things" (.ref t) []))
theorem n_rt : ¬ (("kept_room" : Str) = "kept_things") := by decide +kernel
theorem n_qt : ¬ (("kept_quarrels" : Str) = "kept_things") := by decide +kernel
theorem n_qr : ¬ (("kept_quarrels" : Str) = "kept_room") := by decide +kernel
theorem flds_t (t : Addr) (r : Int) (q : Addr) : (flds t r q).lookup ("kept_things" : Str) = some (.ref t) := by
  unfold flds
  rw [lookup_putF, if_neg (Ne.symm n_qt), lookup_putF, if_neg (Ne.symm n_rt), lookup_putF, if_pos rfl]
theorem flds_r (t : Addr) (r : Int) (q : Addr) : (flds t r q).lookup ("kept_room" : Str) = some (.int r) := by
  unfold flds
  rw [lookup_putF, if_neg (Ne.symm n_qr), lookup_putF, if_pos rfl]
theorem flds_q (t : Addr) (r : Int) (q : Addr) : (flds t r q).lookup ("kept_quarrels" : Str) = some (.ref q) := by
  unfold flds
  rw [lookup_putF, if_pos rfl]
theorem flds_no (t : Addr) (r : Int) (q : Addr) {m : Str} (h1 : ¬ m = "kept_quarrels") (h2 : ¬ m = "kept_room") (h3 : ¬ m = "kept_things") : (flds t r q).lookup m = none := by
  unfold flds
  rw [lookup_putF, if_neg h1, lookup_putF, if_neg h2, lookup_putF, if_neg h3]
  all_goals rfl
structure NightAt (C : Addr) (H : Hp) (p : Addr) (ts : List Th) (r : Int) (qs : List Qu) : Prop where
  ex : ∃ dx t q, H p = some (.ins C dx (flds t r q)) ∧ TupAt thD H t ts ∧ TupAt quD H q qs
theorem NightAt.mono {C : Addr} {H H' : Hp} {p : Addr} {ts : List Th} {r : Int} {qs : List Qu} (h : NightAt C H p ts r qs) (e : Same H H') : NightAt C H' p ts r qs :=
  let ⟨dx, t, q, h1, h2, h3⟩ := h.ex
  ⟨dx, t, q, e _ _ h1, h2.mono e, h3.mono e⟩
section
variable {P : Program} {w : World} {K : PySem.W.Frag} {mg : Str → Option Value} {base : Heap} {C : Addr} {Z : Ad}

/-! ### _law_cell_at -/
def sp_cell_at (K : PySem.W.Frag) : Sp := fun vs H Q _ => ∃ (a : Addr) (ns : List Int) (k : Nat), vs = [.ref a, .int k] ∧ SqL K H a (ns.map V.int) ∧ Q (.int (ns.getD k 0)) H
theorem sc__law_cell_at : FnScope ["script", "k"] ["script", "k"] (defScope s__law_cell_at) := ⟨rfl, rfl, rfl, by decide +kernel, rfl, by decide +kernel, by decide +kernel⟩
theorem ok_cell_at {f : Addr} {fd : FuncData} (F : Fn K mg "_law_cell_at" s__law_cell_at f fd ["script", "k"]) (T : Txt K mg C Z) : FnOk P w K mg base CX0 1 f fd ["script", "k"] (sp_cell_at K) := by
  refine F.fn.ok sc__law_cell_at (fun vs H Q E h => ?_) (fun cdv A outer s H vs Q E hr h => ?_)
  · obtain ⟨a, ns, k, rfl, _⟩ := h
    rfl
  · obtain ⟨a, ns, k, rfl, hS, q⟩ := h
    refine ⟨_, (pss_cons (ps_if (pt_cmpR op_lt (pv 1) (pe_callB call_len_seq (by rfl) T.n_len PySem.boot_len (pa_cons (pv 0) pa_nil)) (nomark _))
      (pss_one (ps_ret (pe_ix ix_list (pv 0) (pv 1) (fun _ _ => rfl))))
      pss_nil)
      (pss_one (ps_ret pe_int))), ?_⟩
    refine ⟨_, rfl, _, rfl, a, _, rfl, .inl hS, _, _, rfl, rfl, _, rfl, ?_⟩
    refine ite2 (fun h => ?_) (fun h => ?_)
    · have hk : k < ns.length := by
        have := of_decide_eq_true h
        rw [List.length_map] at this
        omega
      refine ⟨_, rfl, _, rfl, a, _, _, _, rfl, rfl, hS, atI_nat (v := V.int (ns.getD k 0)) ?_, q⟩
      rw [List.getElem?_map, List.getD_eq_getElem?_getD, List.getElem?_eq_getElem hk]
      rfl
    · have hk : ¬ k < ns.length := fun z => h (decide_eq_true (by rw [List.length_map]; omega))
      have e : ns.getD k 0 = 0 := by
        rw [List.getD_eq_getElem?_getD, List.getElem?_eq_none_iff.mpr (by omega)]
        rfl
      rw [e] at q
      exact q

/-! ### _law_whole -/
/-! ### _law_peace, Night.peace -/
def sp_peace (K : PySem.W.Frag) : Sp := fun vs H Q _ => ∃ (a b : Addr) (qs : List Qu) (g : List Int), vs = [.ref a, .ref b] ∧ LstAt quD H a qs ∧ H b = some (.tup (g.map V.int)) ∧ Q (.bl (peace qs g)) H
theorem peace_no {qs : List Qu} {g : List Int} {q : Qu} {i : Nat} (h : qs[i]? = some q) (hb : bad g q = true) : peace qs g = false := by
  unfold peace
  rw [List.any_eq_true.mpr ⟨q, List.mem_of_getElem? h, hb⟩]
  rfl
theorem peace_yes {qs : List Qu} {g : List Int} (h : ∀ (i : Nat) q, i < qs.length → qs[i]? = some q → bad g q = false) : peace qs g = true := by
  unfold peace
  have e : qs.any (bad g) = false := by
    rw [List.any_eq_false]
    intro q hq
    obtain ⟨i, hi⟩ := List.mem_iff_getElem?.mp hq
    rw [h i q (List.getElem?_eq_some_iff.mp hi).1 hi]
    exact Bool.false_ne_true
  rw [e]
  rfl
theorem sc__law_peace : FnScope ["quarrels", "group", "one", "other", "keeper"] ["quarrels", "group"] (defScope s__law_peace) := ⟨rfl, rfl, rfl, by decide +kernel, rfl, by decide +kernel, by decide +kernel⟩
theorem ok_peace {f : Addr} {fd : FuncData} (F : Fn K mg "_law_peace" s__law_peace f fd ["quarrels", "group"]) : FnOk P w K mg base CX0 1 f fd ["quarrels", "group"] (sp_peace K) := by
  refine F.fn.ok sc__law_peace (fun vs H Q E h => ?_) (fun cdv A outer s H vs Q E hr h => ?_)
  · obtain ⟨a, b, qs, g, rfl, _⟩ := h
    rfl
  · obtain ⟨a, b, qs, g, rfl, ⟨vq, ha, hq⟩, hb, k⟩ := h
    refine ⟨_, (pss_cons (ps_for PassesOwn.never rfl (pi_list (pv 0)) (pg_tup rfl (pgs_cons (pg_name (i := 2) sc__law_peace.nd (by rfl) (by first | exact Or.inl rfl | exact Or.inr rfl)) (pgs_cons (pg_name (i := 3) sc__law_peace.nd (by rfl) (by first | exact Or.inl rfl | exact Or.inr rfl)) (pgs_cons (pg_name (i := 4) sc__law_peace.nd (by rfl) (by first | exact Or.inl rfl | exact Or.inr rfl)) pgs_nil))))
      (pss_one (ps_if (PW.pt (pw_and (pt_cmpR op_in_seq (pv 2) (pv 1) (by with_unfolding_all rfl)) (pw_and (pt_cmpR op_in_seq (pv 3) (pv 1) (by with_unfolding_all rfl)) (pw_and1 (pt_cmpR op_notIn_seq (pv 4) (pv 1) (by with_unfolding_all rfl))))))
      (pss_one (ps_ret pe_bl))
      pss_nil)))
      (pss_one (ps_ret pe_bl))), ?_⟩
    have hl := dvs_len hq
    refine ⟨_, rfl, a, rfl, ⟨_, SqL.of ha⟩, for_list (K := K) (a := a) (xs := vq) (fun i σ H' => H' = H ∧ (∃ v1 v2 v3, σ = [some (.ref a), some (.ref b), v1, v2, v3]) ∧ ∀ (j : Nat) q, j < i → qs[j]? = some q → bad g q = false)
      ⟨rfl, ⟨_, _, _, rfl⟩, fun j q hj => absurd hj (Nat.not_lt_zero _)⟩ (fun i σ H' _ ⟨e, _⟩ => by rw [e]; exact SqL.of ha) ?_ ?_⟩
    · rintro i x σ H' hi ⟨rfl, ⟨v1, v2, v3, rfl⟩, hn⟩
      obtain ⟨q, hqi, dq⟩ := dvs_get hq hi
      obtain ⟨c, rfl, hc⟩ := qu_inv dq
      have next : bad g q = false → ∀ (j : Nat) q', j < i + 1 → qs[j]? = some q' → bad g q' = false := fun h0 j q' hj hj' => by
        by_cases e : j = i
        · subst e; rw [hqi] at hj'; cases hj'; exact h0
        · exact hn j q' (by omega) hj'
      refine ⟨c, _, rfl, SqT.of hc, rfl, _, _, rfl, _, _, rfl, _, _, rfl, rfl, ?_⟩
      refine ⟨_, rfl, _, rfl, b, _, rfl, .inr (SqT.of hb), rfl, flat_ints g, _, rfl, ?_⟩
      refine iteE (fun h1 => ?_) (fun h1 => ?_)
      · refine ⟨_, rfl, _, rfl, b, _, rfl, .inr (SqT.of hb), rfl, flat_ints g, _, rfl, ?_⟩
        refine iteE (fun h2 => ?_) (fun h2 => ?_)
        · refine ⟨_, rfl, _, rfl, b, _, rfl, .inr (SqT.of hb), rfl, flat_ints g, _, rfl, ?_⟩
          refine iteE (fun h3 => ?_) (fun h3 => ?_)
          · have e : bad g q = true := by
              have h1' : inV (.int q.1) (g.map V.int) = true := h1
              have h2' : inV (.int q.2.1) (g.map V.int) = true := h2
              have h3' : (!inV (.int q.2.2) (g.map V.int)) = true := h3
              rw [inV_ints] at h1' h2' h3'
              unfold bad
              rw [h1', h2', h3']
              rfl
            have k' := k
            rw [peace_no hqi e] at k'
            exact k'
          · have e : bad g q = false := by
              have h3' : (!inV (.int q.2.2) (g.map V.int)) = false := h3
              rw [inV_ints] at h3'
              unfold bad
              rw [h3', Bool.and_false]
            exact ⟨rfl, ⟨_, _, _, rfl⟩, next e⟩
        · have e : bad g q = false := by
            have h2' : inV (.int q.2.1) (g.map V.int) = false := h2
            rw [inV_ints] at h2'
            unfold bad
            rw [h2', Bool.and_false, Bool.false_and]
          exact iteF ⟨rfl, ⟨_, _, _, rfl⟩, next e⟩
      · have e : bad g q = false := by
          have h1' : inV (.int q.1) (g.map V.int) = false := h1
          rw [inV_ints] at h1'
          unfold bad
          rw [h1', Bool.false_and, Bool.false_and]
        exact iteF ⟨rfl, ⟨_, _, _, rfl⟩, next e⟩
    · rintro σ H' ⟨rfl, ⟨v1, v2, v3, rfl⟩, hn⟩
      have k' := k
      rw [peace_yes (qs := qs) (g := g) fun i q hi hq => hn i q (by omega) hq] at k'
      exact k'
def sp_npeace (C : Addr) : Sp := fun vs H Q _ => ∃ (p b : Addr) (ts : List Th) (r : Int) (qs : List Qu) (g : List Int), vs = [.ref p, .ref b] ∧ NightAt C H p ts r qs ∧ H b = some (.tup (g.map V.int)) ∧ Q (.bl (peace qs g)) H
theorem sc_Night_peace : FnScope ["self", "group", "one", "other", "keeper"] ["self", "group"] (defScope s_Night_peace) := ⟨rfl, rfl, rfl, by decide +kernel, rfl, by decide +kernel, by decide +kernel⟩
theorem ok_npeace {f : Addr} {fd : FuncData} (F : Mt K "peace" "Night.peace" s_Night_peace f fd ["self", "group"]) (T : Txt K mg C Z) : FnOk P w K mg base CX0 1 f fd ["self", "group"] (sp_npeace C) := by
  refine F.fn.ok sc_Night_peace (fun vs H Q E h => ?_) (fun cdv A outer s H vs Q E hr h => ?_)
  · obtain ⟨p, b, ts, r, qs, g, rfl, _⟩ := h
    rfl
  · obtain ⟨p, b, ts, r, qs, g, rfl, N, hb, k⟩ := h
    obtain ⟨dx, t, a, hp, _, ⟨vq, ha, hq⟩⟩ := N.ex
    refine ⟨_, (pss_cons (ps_for PassesOwn.never rfl (pi_tup (pe_fld (pv 0) rfl)) (pg_tup rfl (pgs_cons (pg_name (i := 2) sc_Night_peace.nd (by rfl) (by first | exact Or.inl rfl | exact Or.inr rfl)) (pgs_cons (pg_name (i := 3) sc_Night_peace.nd (by rfl) (by first | exact Or.inl rfl | exact Or.inr rfl)) (pgs_cons (pg_name (i := 4) sc_Night_peace.nd (by rfl) (by first | exact Or.inl rfl | exact Or.inr rfl)) pgs_nil))))
      (pss_one (ps_if (PW.pt (pw_and (pt_cmpR op_in_seq (pv 2) (pv 1) (by with_unfolding_all rfl)) (pw_and (pt_cmpR op_in_seq (pv 3) (pv 1) (by with_unfolding_all rfl)) (pw_and1 (pt_cmpR op_notIn_seq (pv 4) (pv 1) (by with_unfolding_all rfl))))))
      (pss_one (ps_ret pe_bl))
      pss_nil)))
      (pss_one (ps_ret pe_bl))), ?_⟩
    have hl := dvs_len hq
    refine ⟨_, rfl, p, C, dx, _, _, rfl, hp, T.cl_Night, T.a_quarrels, flds_q _ _ _, a, rfl, ⟨_, SqT.of ha⟩, for_tup (K := K) (a := a) (xs := vq) (fun i σ H' => H' = H ∧ (∃ v1 v2 v3, σ = [some (.ref p), some (.ref b), v1, v2, v3]) ∧ ∀ (j : Nat) q, j < i → qs[j]? = some q → bad g q = false)
      ⟨rfl, ⟨_, _, _, rfl⟩, fun j q hj => absurd hj (Nat.not_lt_zero _)⟩ (fun i σ H' _ ⟨e, _⟩ => by rw [e]; exact SqT.of ha) ?_ ?_⟩
    · rintro i x σ H' hi ⟨rfl, ⟨v1, v2, v3, rfl⟩, hn⟩
      obtain ⟨q, hqi, dq⟩ := dvs_get hq hi
      obtain ⟨c, rfl, hc⟩ := qu_inv dq
      have next : bad g q = false → ∀ (j : Nat) q', j < i + 1 → qs[j]? = some q' → bad g q' = false := fun h0 j q' hj hj' => by
        by_cases e : j = i
        · subst e; rw [hqi] at hj'; cases hj'; exact h0
        · exact hn j q' (by omega) hj'
      refine ⟨c, _, rfl, SqT.of hc, rfl, _, _, rfl, _, _, rfl, _, _, rfl, rfl, ?_⟩
      refine ⟨_, rfl, _, rfl, b, _, rfl, .inr (SqT.of hb), rfl, flat_ints g, _, rfl, ?_⟩
      refine iteE (fun h1 => ?_) (fun h1 => ?_)
      · refine ⟨_, rfl, _, rfl, b, _, rfl, .inr (SqT.of hb), rfl, flat_ints g, _, rfl, ?_⟩
        refine iteE (fun h2 => ?_) (fun h2 => ?_)
        · refine ⟨_, rfl, _, rfl, b, _, rfl, .inr (SqT.of hb), rfl, flat_ints g, _, rfl, ?_⟩
          refine iteE (fun h3 => ?_) (fun h3 => ?_)
          · have e : bad g q = true := by
              have h1' : inV (.int q.1) (g.map V.int) = true := h1
              have h2' : inV (.int q.2.1) (g.map V.int) = true := h2
              have h3' : (!inV (.int q.2.2) (g.map V.int)) = true := h3
              rw [inV_ints] at h1' h2' h3'
              unfold bad
              rw [h1', h2', h3']
              rfl
            have k' := k
            rw [peace_no hqi e] at k'
            exact k'
          · have e : bad g q = false := by
              have h3' : (!inV (.int q.2.2) (g.map V.int)) = false := h3
              rw [inV_ints] at h3'
              unfold bad
              rw [h3', Bool.and_false]
            exact ⟨rfl, ⟨_, _, _, rfl⟩, next e⟩
        · have e : bad g q = false := by
            have h2' : inV (.int q.2.1) (g.map V.int) = false := h2
            rw [inV_ints] at h2'
            unfold bad
            rw [h2', Bool.and_false, Bool.false_and]
          exact iteF ⟨rfl, ⟨_, _, _, rfl⟩, next e⟩
      · have e : bad g q = false := by
          have h1' : inV (.int q.1) (g.map V.int) = false := h1
          rw [inV_ints] at h1'
          unfold bad
          rw [h1', Bool.false_and, Bool.false_and]
        exact iteF ⟨rfl, ⟨_, _, _, rfl⟩, next e⟩
    · rintro σ H' ⟨rfl, ⟨v1, v2, v3, rfl⟩, hn⟩
      have k' := k
      rw [peace_yes (qs := qs) (g := g) fun i q hi hq => hn i q (by omega) hq] at k'
      exact k'
end
end FN


set_option Elab.async false
set_option linter.all false
set_option maxRecDepth 100000
set_option maxHeartbeats 4000000
namespace FN
open PySem L2 PyProof.Rows
section
variable {P : Program} {w : World} {K : PySem.W.Frag} {mg : Str → Option Value} {base : Heap} {C : Addr} {Z : Ad}

/-! ### _law_quarrel -/
def sp_quarrel : Sp := fun vs H Q _ => ∃ (cell : Int) (n : Nat), vs = [.int cell, .int n] ∧ 2 ≤ n ∧ n ≤ 6 ∧ ∀ (q : Qu) (p : Addr) (H' : Hp), OkQ n q → Same H H' → H' p = some (.tup [.int q.1, .int q.2.1, .int q.2.2]) → Q (.ref p) H'
theorem sc__law_quarrel : FnScope ["cell", "many", "one", "other", "left", "keeper"] ["cell", "many"] (defScope s__law_quarrel) := ⟨rfl, rfl, rfl, by decide +kernel, rfl, by decide +kernel, by decide +kernel⟩
theorem ok_quarrel {f : Addr} {fd : FuncData} (F : Fn K mg "_law_quarrel" s__law_quarrel f fd ["cell", "many"]) (T : Txt K mg C Z) : FnOk P w K mg base CX0 1 f fd ["cell", "many"] sp_quarrel := by
  refine F.fn.ok sc__law_quarrel (fun vs H Q E h => ?_) (fun cdv A outer s H vs Q E hr h => ?_)
  · obtain ⟨cell, n, rfl, _⟩ := h
    rfl
  · obtain ⟨cell, n, rfl, h2, h6, k⟩ := h
    refine ⟨_, (pss_cons (ps_set (i := 2) sc__law_quarrel.nd (by rfl) (by first | exact Or.inl rfl | exact Or.inr rfl) (pe_op op_mod (pv 0) (pv 1)))
      (pss_cons (ps_set (i := 3) sc__law_quarrel.nd (by rfl) (by first | exact Or.inl rfl | exact Or.inr rfl) (pe_op op_mod (pe_op op_add (pe_op op_add (pv 2) pe_int) (pe_op op_mod (pe_op op_fdiv (pv 0) (pv 1)) (pe_op op_sub (pv 1) pe_int))) (pv 1)))
      (pss_cons (ps_setC (j := 4) rfl (N' := ["thing", "one", "other"]) (cap := [none, some 2, some 3]) ⟨rfl, by with_unfolding_all rfl⟩ (pi_range1 (by rfl) T.n_range (pa_cons (pv 1) pa_nil)) (fun _ => (pg_name (i := 0) (show (["thing", "one", "other"] : List Str).Nodup by decide +kernel) (by rfl) (by first | exact Or.inl rfl | exact Or.inr rfl))) (fun _ => (pifs_one (PW.pt (pw_and (pt_cmpR op_ne (pv 0) (pv 1) (nomark _)) (pw_and1 (pt_cmpR op_ne (pv 0) (pv 2) (nomark _))))))) (fun _ => (pv 0)) sc__law_quarrel.nd (by rfl) (by rfl) (by with_unfolding_all rfl))
      (pss_cons (ps_set (i := 0) sc__law_quarrel.nd (by rfl) (by first | exact Or.inl rfl | exact Or.inr rfl) (pe_op op_fdiv (pv 0) (pe_op op_mul (pv 1) (pe_op op_sub (pv 1) pe_int))))
      (pss_cons (ps_set (i := 5) sc__law_quarrel.nd (by rfl) (by first | exact Or.inl rfl | exact Or.inr rfl) (pe_un un_neg pe_int))
      (pss_cons (ps_if (PW.pt (pw_and (pt_cmpR op_gt (pe_op op_mod (pv 0) pe_int) pe_int (nomark _)) (pw_and1 (pt_cmpR op_gt (pe_callB call_len_seq (by rfl) T.n_len PySem.boot_len (pa_cons (pv 4) pa_nil)) pe_int (nomark _)))))
      (pss_one (ps_set (i := 5) sc__law_quarrel.nd (by rfl) (by first | exact Or.inl rfl | exact Or.inr rfl) (pe_ix ix_list (pv 4) (pe_op op_mod (pe_op op_fdiv (pv 0) pe_int) (pe_callB call_len_seq (by rfl) T.n_len PySem.boot_len (pa_cons (pv 4) pa_nil))) (fun _ _ => rfl))))
      pss_nil)
      (pss_one (ps_ret (pe_tup (pa_cons (pv 2) (pa_cons (pv 3) (pa_cons (pv 5) pa_nil)))))))))))), ?_⟩
    have hn : (0 : Int) < n := by omega
    have hn1 : (0 : Int) < (n : Int) - 1 := by omega
    obtain ⟨p1, p2⟩ := prod_ok n h2 h6
    obtain ⟨o1, o2, o3, o4, o5⟩ := drawn_ok cell n h2 h6
    refine ⟨_, rfl, _, rfl, _, _, rfl, rfl, hn, ?_⟩
    refine ⟨_, rfl, _, _, rfl, rfl, _, rfl, _, rfl, _, _, rfl, rfl, ⟨hn, by omega⟩, _, rfl, _, _, rfl, rfl, _, _, rfl, rfl, hn1, _, _, rfl, rfl, _, rfl, _, _, rfl, rfl, hn, ?_⟩
    dsimp only
    generalize cell % (n : Int) = one at o1 o2 o3 o4 o5 ⊢
    generalize (one + 1 + cell / (n : Int) % ((n : Int) - 1)) % (n : Int) = other at o3 o4 o5 ⊢
    refine ⟨_, rfl, (n : Int), rfl, by omega, by omega, fun D hD => ?_⟩
    refine comp_range (fun i xs H' => ∃ L : List Int, xs = L.map V.int ∧ L.length ≤ i ∧ (∀ t ∈ L, 0 ≤ t ∧ t < n ∧ t ≠ one ∧ t ≠ other) ∧ Same H H' ∧ H' D = some (.lst xs))
      ⟨[], rfl, Nat.le_refl _, (fun t ht => by cases ht), same_new hD, upd_same⟩ (fun i xs H' _ ⟨L, _, _, _, _, h⟩ => h) ?_ ?_
    · rintro i xs H' hi ⟨L, rfl, hL, hm, sm, hD'⟩
      have go : ∀ {H5 : Hp}, H5 = H' → (((0 : Int) + i) ≠ one ∧ ((0 : Int) + i) ≠ other) → ∃ L' : List Int, (L.map V.int ++ [V.int ((0 : Int) + i)]) = L'.map V.int ∧ L'.length ≤ i + 1 ∧ (∀ t ∈ L', 0 ≤ t ∧ t < n ∧ t ≠ one ∧ t ≠ other) ∧ Same H (L2.upd H5 D (.lst (L.map V.int ++ [V.int ((0 : Int) + i)]))) ∧ (L2.upd H5 D (.lst (L.map V.int ++ [V.int ((0 : Int) + i)]))) D = some (.lst (L.map V.int ++ [V.int ((0 : Int) + i)])) := by
        rintro H5 rfl ⟨e1, e2⟩
        refine ⟨L ++ [(0 : Int) + i], by simp, by simp; omega, fun t ht => ?_, same_upd sm hD, upd_same⟩
        rcases List.mem_append.mp ht with z | z
        · exact hm t z
        · rw [List.mem_singleton.mp z]
          exact ⟨by omega, by omega, e1, e2⟩
      have stay : ∃ L' : List Int, L.map V.int = L'.map V.int ∧ L'.length ≤ i + 1 ∧ (∀ t ∈ L', 0 ≤ t ∧ t < n ∧ t ≠ one ∧ t ≠ other) ∧ Same H H' ∧ H' D = some (.lst (L.map V.int)) := ⟨L, rfl, by omega, hm, sm, hD'⟩
      refine ⟨Keep.set rfl, ?_⟩
      refine ⟨_, rfl, _, rfl, rfl, _, rfl, ?_⟩
      refine iteE (fun h1 => ?_) (fun h1 => ?_)
      · refine ⟨_, rfl, _, rfl, rfl, _, rfl, ?_⟩
        refine iteE (fun h2 => ?_) (fun h2 => ?_)
        · refine ⟨_, rfl, hD', ?_, go rfl ⟨fun z => ?_, fun z => ?_⟩⟩
          · rw [List.length_map]; exact lt_line (by omega)
          · rw [z] at h1; simp at h1
          · rw [z] at h2; simp at h2
        · exact stay
      · exact iteF stay
    · rintro xs H1 ⟨L, rfl, hL, hm, sm, hD1⟩
      refine ⟨_, rfl, _, rfl, _, rfl, _, _, rfl, rfl, _, _, rfl, rfl, .inl ⟨by omega, by omega⟩, _, _, rfl, rfl, ⟨p1, p2⟩, ?_⟩
      dsimp only
      generalize cell / ((n : Int) * ((n : Int) - 1)) = c2
      refine ⟨_, rfl, ?_⟩
      have fin : ∀ kp : Int, (kp = -1 ∨ (0 ≤ kp ∧ kp < n ∧ kp ≠ one ∧ kp ≠ other)) → ∀ p, H1 p = none → Q (.ref p) (L2.upd H1 p (.tup [.int one, .int other, .int kp])) := fun kp hk p hp =>
        k (one, other, kp) p _ ⟨o1, o2, o3, o4, o5, hk⟩ (same_upd sm (sm.free hp)) upd_same
      refine ⟨_, rfl, _, _, rfl, rfl, (by show (0 : Int) < 3; decide), _, _, rfl, rfl, _, rfl, ?_⟩
      refine iteE (fun h1 => ?_) (fun h1 => ?_)
      · refine ⟨_, rfl, D, _, rfl, .inl (SqL.of hD1), _, _, rfl, rfl, _, rfl, ?_⟩
        refine iteE (fun h2 => ?_) (fun h2 => ?_)
        · have hl : 0 < (L.map V.int).length := by
            have := of_decide_eq_true h2
            omega
          have hl' : (0 : Int) < ((L.map V.int).length : Int) := by omega
          obtain ⟨v, hv, hat⟩ := atI_in (xs := L.map V.int) (i := c2 / 3 % ((L.map V.int).length : Int)) (Int.emod_nonneg _ (by omega)) (Int.emod_lt_of_pos _ hl')
          obtain ⟨kp, hkp, rfl⟩ := List.mem_map.mp hv
          refine ⟨_, rfl, _, rfl, _, _, rfl, rfl, ⟨by decide, by decide⟩, _, rfl, D, _, rfl, .inl (SqL.of hD1), _, _, rfl, rfl, hl', D, _, _, _, rfl, rfl, SqL.of hD1, hat, ?_⟩
          refine ⟨_, rfl, _, rfl, _, rfl, le_line (by show 3 ≤ _; decide), fin kp (.inr (hm kp hkp))⟩
        · refine ⟨_, rfl, _, rfl, _, rfl, le_line (by show 3 ≤ _; decide), fin (-1) (.inl rfl)⟩
      · refine iteF ?_
        refine ⟨_, rfl, _, rfl, _, rfl, le_line (by show 3 ≤ _; decide), fin (-1) (.inl rfl)⟩

/-! ### _law_quarrels -/
def sp_quarrels (K : PySem.W.Frag) : Sp := fun vs H Q _ => ∃ (a : Addr) (ns : List Int) (st n : Nat), vs = [.ref a, .int st, .int n] ∧ SqL K H a (ns.map V.int) ∧ 1 ≤ n ∧ n ≤ 6 ∧
  ∀ (qs : List Qu) (p : Addr) (H' : Hp), qs.length ≤ 4 → (∀ q ∈ qs, OkQ n q) → Same H H' → LstAt quD H' p qs → Q (.ref p) H'
theorem sc__law_quarrels : FnScope ["script", "start", "many", "count"] ["script", "start", "many"] (defScope s__law_quarrels) := ⟨rfl, rfl, rfl, by decide +kernel, rfl, by decide +kernel, by decide +kernel⟩
theorem ok_quarrels {f f1 f2 : Addr} {fd fd1 fd2 : FuncData} (F : Fn K mg "_law_quarrels" s__law_quarrels f fd ["script", "start", "many"]) (T : Txt K mg C Z)
    (F__law_cell_at : Fn K mg "_law_cell_at" s__law_cell_at f1 fd1 ["script", "k"]) (F__law_quarrel : Fn K mg "_law_quarrel" s__law_quarrel f2 fd2 ["cell", "many"]) : FnOk P w K mg base CX0 2 f fd ["script", "start", "many"] (sp_quarrels K) := by
  have G__law_cell_at : FnOk P w K mg base CX0 1 f1 fd1 ["script", "k"] (sp_cell_at K) := ok_cell_at F__law_cell_at T
  have G__law_quarrel : FnOk P w K mg base CX0 1 f2 fd2 ["cell", "many"] sp_quarrel := ok_quarrel F__law_quarrel T
  refine F.fn.ok sc__law_quarrels (fun vs H Q E h => ?_) (fun cdv A outer s H vs Q E hr h => ?_)
  · obtain ⟨a, ns, st, n, rfl, _⟩ := h
    rfl
  · obtain ⟨a, ns, st, n, rfl, hS, h1, h6, k⟩ := h
    refine ⟨_, (pss_cons (ps_if (pt_cmpR op_eq (pv 2) pe_int (nomark _))
      (pss_one (ps_ret (pe_lst pa_nil)))
      pss_nil)
      (pss_cons (ps_set (i := 3) sc__law_quarrels.nd (by rfl) (by first | exact Or.inl rfl | exact Or.inr rfl) (pe_op op_mod (pe_call G__law_cell_at (hr.mono (by decide)) (by rfl) F__law_cell_at.g F__law_cell_at.fn.kp F__law_cell_at.b .nil pass0 (pa_cons (pv 0) (pa_cons (pv 1) pa_nil))) pe_int))
      (pss_one (ps_ret (pe_comp rfl (N' := ["k", "script", "start", "many"]) (cap := [none, some 0, some 1, some 2]) ⟨rfl, by with_unfolding_all rfl⟩ (pi_range1 (by rfl) T.n_range (pa_cons (pv 3) pa_nil)) (fun _ => (pg_name (i := 0) (show (["k", "script", "start", "many"] : List Str).Nodup by decide +kernel) (by rfl) (by first | exact Or.inl rfl | exact Or.inr rfl))) (fun _ => pifs_nil) (fun _ => (pe_call G__law_quarrel (hr.mono (by decide)) (by rfl) F__law_quarrel.g F__law_quarrel.fn.kp F__law_quarrel.b .nil pass0 (pa_cons (pe_op op_mod (pe_call G__law_cell_at (hr.mono (by decide)) (by rfl) F__law_cell_at.g F__law_cell_at.fn.kp F__law_cell_at.b .nil pass0 (pa_cons (pv 1) (pa_cons (pe_op op_add (pe_op op_add (pv 2) pe_int) (pv 0)) pa_nil))) (pe_op op_pow pe_int pe_int)) (pa_cons (pv 3) pa_nil))))))))), ?_⟩
    refine ⟨_, rfl, rfl, _, rfl, ?_⟩
    refine ite2 (fun h => ?_) (fun h => ?_)
    · exact ⟨Nat.zero_le _, fun l hl => k [] l _ (Nat.zero_le _) (fun q hq => by cases hq) (same_new hl) ⟨[], upd_same, .nil⟩⟩
    · have h2 : 2 ≤ n := by
        have z : ¬ V.int (n : Int) = V.int 1 := fun z => h (decide_eq_true z)
        have : n ≠ 1 := fun e => z (by rw [e]; rfl)
        omega
      refine ⟨_, rfl, _, rfl, a, ns, st, rfl, hS, _, _, rfl, rfl, (by show (0 : Int) < 5; decide), ?_⟩
      have c0 : 0 ≤ ns.getD st 0 % 5 := Int.emod_nonneg _ (by decide)
      have c5 : ns.getD st 0 % 5 < 5 := Int.emod_lt_of_pos _ (by decide)
      dsimp only
      generalize ns.getD st 0 % 5 = cnt at c0 c5 ⊢
      refine ⟨_, rfl, cnt, rfl, by omega, by omega, fun D hD => ?_⟩
      refine comp_range (fun i xs H' => ∃ qs : List Qu, qs.length = i ∧ (∀ q ∈ qs, OkQ n q) ∧ Same H H' ∧ H' D = some (.lst xs) ∧ DVs H' (qs.map quD) xs)
        ⟨[], rfl, (fun q hq => by cases hq), same_new hD, upd_same, .nil⟩ (fun i xs H' _ ⟨_, _, _, _, h, _⟩ => h) ?_ ?_
      · rintro i xs H' hi ⟨qs, hq, ok, sm, hD', dv⟩
        refine ⟨Keep.set rfl, ?_⟩
        have e1 : (st : Int) + 1 + (0 + (i : Int)) = ((st + 1 + i : Nat) : Int) := by omega
        refine ⟨_, rfl, _, rfl, _, _, rfl, rfl, _, rfl, _, _, rfl, rfl, a, ns, st + 1 + i, (by show [V.ref a, V.int ((st : Int) + 1 + (0 + (i : Int)))] = _; rw [e1]), sm.seq hS, ?_⟩
        refine ⟨_, _, rfl, rfl, ⟨by decide, by decide, by decide⟩, _, _, rfl, rfl, (by show (0 : Int) < (10 : Int) ^ (9 : Int).toNat; decide), _, rfl, _, n, rfl, h2, h6, fun q p H2 okq sm2 hp => ?_⟩
        have hD2 := sm2 _ _ hD'
        have dl : xs.length = qs.length := dvs_len dv
        refine ⟨hD2, lt_line (by omega), qs ++ [q], by simp [hq], fun q' hq' => ?_, same_upd (sm.trans sm2) hD, upd_same, ?_⟩
        · rcases List.mem_append.mp hq' with z | z
          · exact ok q' z
          · rw [List.mem_singleton.mp z]; exact okq
        · rw [List.map_append]
          exact (dvs_upd hD2 (dv.mono sm2) (noLsts_map qu_no qs)).snoc (dv_upd hD2 (qu_dv hp) (qu_no q))
      · rintro xs H1 ⟨qs, hq, ok, sm, hD1, dv⟩
        exact k qs D H1 (by omega) ok sm ⟨xs, hD1, dv⟩

/-! ### _law_things -/
def sp_things (K : PySem.W.Frag) : Sp := fun vs H Q _ => ∃ (a : Addr) (ns : List Int) (st n : Nat), vs = [.ref a, .int st, .int n] ∧ SqL K H a (ns.map V.int) ∧ n ≤ 6 ∧
  ∀ (ts : List Th) (p : Addr) (H' : Hp), ts.length = n → (∀ t ∈ ts, 1 ≤ t.1 ∧ t.1 ≤ 1000000000) → Same H H' → LstAt thD H' p ts → Q (.ref p) H'
theorem sc__law_things : FnScope ["script", "start", "many", "most", "things", "k", "cell"] ["script", "start", "many"] (defScope s__law_things) := ⟨rfl, rfl, rfl, by decide +kernel, rfl, by decide +kernel, by decide +kernel⟩
theorem ok_things {f f1 : Addr} {fd fd1 : FuncData} (F : Fn K mg "_law_things" s__law_things f fd ["script", "start", "many"]) (T : Txt K mg C Z)
    (F__law_cell_at : Fn K mg "_law_cell_at" s__law_cell_at f1 fd1 ["script", "k"]) : FnOk P w K mg base CX0 2 f fd ["script", "start", "many"] (sp_things K) := by
  have G__law_cell_at : FnOk P w K mg base CX0 1 f1 fd1 ["script", "k"] (sp_cell_at K) := ok_cell_at F__law_cell_at T
  refine F.fn.ok sc__law_things (fun vs H Q E h => ?_) (fun cdv A outer s H vs Q E hr h => ?_)
  · obtain ⟨a, ns, st, n, rfl, _⟩ := h
    rfl
  · obtain ⟨a, ns, st, n, rfl, hS, h6, k⟩ := h
    refine ⟨_, (pss_cons (ps_set (i := 3) sc__law_things.nd (by rfl) (by first | exact Or.inl rfl | exact Or.inr rfl) (pe_ix ix_list (pe_lst (pa_cons pe_int (pa_cons pe_int (pa_cons (pe_op op_pow pe_int pe_int) pa_nil)))) (pe_op op_mod (pe_call G__law_cell_at (hr.mono (by decide)) (by rfl) F__law_cell_at.g F__law_cell_at.fn.kp F__law_cell_at.b .nil pass0 (pa_cons (pv 0) (pa_cons (pv 1) pa_nil))) pe_int) (fun _ _ => rfl)))
      (pss_cons (ps_set (i := 4) sc__law_things.nd (by rfl) (by first | exact Or.inl rfl | exact Or.inr rfl) (pe_lst pa_nil))
      (pss_cons (ps_for PassesOwn.never rfl (pi_range1 (by rfl) T.n_range (pa_cons (pv 2) pa_nil)) (pg_name (i := 5) sc__law_things.nd (by rfl) (by first | exact Or.inl rfl | exact Or.inr rfl))
      (pss_cons (ps_set (i := 6) sc__law_things.nd (by rfl) (by first | exact Or.inl rfl | exact Or.inr rfl) (pe_call G__law_cell_at (hr.mono (by decide)) (by rfl) F__law_cell_at.g F__law_cell_at.fn.kp F__law_cell_at.b .nil pass0 (pa_cons (pv 0) (pa_cons (pe_op op_add (pe_op op_add (pv 1) pe_int) (pv 5)) pa_nil))))
      (pss_one (ps_expr (pe_bm PySem.F.plainAttrs_list PySem.F.slot_list_append PySem.F.type_list_append mt_append (pv 4) (pa_cons (pe_tup (pa_cons (pe_op op_add pe_int (pe_op op_mod (pe_op op_fdiv (pv 6) pe_int) (pv 3))) (pa_cons (pe_cmpR op_lt (pe_op op_mod (pv 6) pe_int) pe_int (nomark _)) pa_nil))) pa_nil))))))
      (pss_one (ps_ret (pv 4)))))), ?_⟩
    refine ⟨_, _, rfl, rfl, ⟨by decide, by decide, by decide⟩, le_line (by show 3 ≤ _; decide), fun l0 hl0 => ?_⟩
    have s0 : Same H (L2.upd H l0 (.lst [V.int 20, V.int 4, V.int ((10 : Int) ^ (9 : Int).toNat)])) := same_new hl0
    have c0 : 0 ≤ ns.getD st 0 % 3 := Int.emod_nonneg _ (by decide)
    have c3 : ns.getD st 0 % 3 < 3 := Int.emod_lt_of_pos _ (by decide)
    obtain ⟨v, hv, hat⟩ := atI_in (xs := [V.int 20, V.int 4, V.int ((10 : Int) ^ (9 : Int).toNat)]) c0 (by show _ < ((3 : Nat) : Int); omega)
    obtain ⟨most, rfl, m1, m2⟩ : ∃ most : Int, v = V.int most ∧ 1 ≤ most ∧ most ≤ 1000000000 := by
      rcases List.mem_cons.mp hv with rfl | hv
      · exact ⟨20, rfl, by decide, by decide⟩
      rcases List.mem_cons.mp hv with rfl | hv
      · exact ⟨4, rfl, by decide, by decide⟩
      rw [List.mem_singleton.mp hv]
      exact ⟨_, rfl, by decide, by decide⟩
    refine ⟨_, rfl, _, rfl, a, ns, st, rfl, s0.seq hS, _, _, rfl, rfl, (by show (0 : Int) < 3; decide), l0, _, _, _, rfl, rfl, SqL.of upd_same, hat, ?_⟩
    refine ⟨Nat.zero_le _, fun l hl => ?_⟩
    have hHl : H l = none := s0.free hl
    refine ⟨_, rfl, (n : Int), rfl, by omega, by omega, for_range (fun i σ H' => ∃ (ts : List Th) (vs : List V) (v5 v6 : Option V), σ = [some (.ref a), some (.int st), some (.int n), some (.int most), some (.ref l), v5, v6] ∧ ts.length = i ∧ (∀ t ∈ ts, 1 ≤ t.1 ∧ t.1 ≤ 1000000000) ∧ Same H H' ∧ H' l = some (.lst vs) ∧ DVs H' (ts.map thD) vs)
      ⟨[], [], _, _, rfl, rfl, (fun t ht => by cases ht), same_upd s0 hHl, upd_same, .nil⟩ ?_ ?_⟩
    · rintro i σ H' hi ⟨ts, vs, v5, v6, rfl, ht, ok, sm, hl', dv⟩
      have e1 : (st : Int) + 1 + (0 + (i : Int)) = ((st + 1 + i : Nat) : Int) := by omega
      refine ⟨_, rfl, _, rfl, _, _, rfl, rfl, _, rfl, _, _, rfl, rfl, a, ns, st + 1 + i, (by show [V.ref a, V.int ((st : Int) + 1 + (0 + (i : Int)))] = _; rw [e1]), sm.seq hS, ?_⟩
      generalize ns.getD (st + 1 + i) 0 = cell
      refine ⟨_, rfl, .inl ⟨rfl, _, SqL.of hl'⟩, _, rfl, _, _, rfl, rfl, ⟨by decide, by decide⟩, _, rfl, _, _, rfl, rfl, (by show (0 : Int) < most; omega), _, _, rfl, rfl, _, rfl, _, _, rfl, rfl, (by show (0 : Int) < 3; decide), _, _, rfl, rfl, le_line (by show 2 ≤ _; decide), fun p hp => ?_⟩
      have nlp : l ≠ p := ne_of_none hl' hp
      have hl2 : (L2.upd H' p (.tup [V.int (1 + cell / 3 % most), V.bl (decide (cell % 3 < 2))])) l = some (.lst vs) := by rw [upd_ne nlp]; exact hl'
      have dl : vs.length = ts.length := dvs_len dv
      refine ⟨l, vs, _, rfl, rfl, hl2, lt_line (by omega), ?_⟩
      refine ⟨ts ++ [(1 + cell / 3 % most, decide (cell % 3 < 2))], _, _, _, rfl, by simp [ht], fun t ht' => ?_, same_upd (same_upd sm (sm.free hp)) hHl, upd_same, ?_⟩
      · rcases List.mem_append.mp ht' with z | z
        · exact ok t z
        · rw [List.mem_singleton.mp z]
          have q0 : 0 ≤ cell / 3 % most := Int.emod_nonneg _ (by omega)
          have q1 : cell / 3 % most < most := Int.emod_lt_of_pos _ (by omega)
          exact ⟨by show 1 ≤ 1 + cell / 3 % most; omega, by show 1 + cell / 3 % most ≤ 1000000000; omega⟩
      · rw [List.map_append]
        exact (dvs_upd hl2 (dv.mono (same_new hp)) (noLsts_map th_no ts)).snoc (dv_upd hl2 (th_dv upd_same) (th_no _))
    · rintro σ H' ⟨ts, vs, v5, v6, rfl, ht, ok, sm, hl', dv⟩
      exact ⟨_, rfl, k ts l H' (by omega) ok sm ⟨vs, hl', dv⟩⟩

/-! ### _law_night -/
structure NightD (H : Hp) (p : Addr) (m : Nat) (ts : List Th) (r : Int) (qs : List Qu) : Prop where
  t : OkT ts
  m : ts.length ≤ m
  r1 : 1 ≤ r
  r3 : r ≤ 3
  q : ∀ q ∈ qs, OkQ ts.length q
  ex : ∃ a b, H p = some (.tup [.ref a, .int r, .ref b]) ∧ LstAt thD H a ts ∧ LstAt quD H b qs
theorem NightD.mono {H H' : Hp} {p : Addr} {m : Nat} {ts : List Th} {r : Int} {qs : List Qu} (h : NightD H p m ts r qs) (e : Same H H') : NightD H' p m ts r qs :=
  let ⟨a, b, h1, h2, h3⟩ := h.ex
  ⟨h.t, h.m, h.r1, h.r3, h.q, a, b, e _ _ h1, h2.mono e, h3.mono e⟩
def sp_night (K : PySem.W.Frag) : Sp := fun vs H Q _ => ∃ (a : Addr) (ns : List Int) (m : Nat), vs = [.ref a, .int m] ∧ SqL K H a (ns.map V.int) ∧ 1 ≤ m ∧ m ≤ 6 ∧
  ∀ (ts : List Th) (r : Int) (qs : List Qu) (p : Addr) (H' : Hp), NightD H' p m ts r qs → qs.length ≤ 4 → Same H H' → Q (.ref p) H'
theorem sc__law_night : FnScope ["script", "most", "many", "room"] ["script", "most"] (defScope s__law_night) := ⟨rfl, rfl, rfl, by decide +kernel, rfl, by decide +kernel, by decide +kernel⟩
theorem ok_night {f f1 f2 f3 f4 : Addr} {fd fd1 fd2 fd3 fd4 : FuncData} (F : Fn K mg "_law_night" s__law_night f fd ["script", "most"]) (T : Txt K mg C Z)
    (F__law_cell_at : Fn K mg "_law_cell_at" s__law_cell_at f1 fd1 ["script", "k"]) (F__law_quarrel : Fn K mg "_law_quarrel" s__law_quarrel f2 fd2 ["cell", "many"])
    (F__law_quarrels : Fn K mg "_law_quarrels" s__law_quarrels f3 fd3 ["script", "start", "many"]) (F__law_things : Fn K mg "_law_things" s__law_things f4 fd4 ["script", "start", "many"]) : FnOk P w K mg base CX0 3 f fd ["script", "most"] (sp_night K) := by
  have G__law_cell_at : FnOk P w K mg base CX0 1 f1 fd1 ["script", "k"] (sp_cell_at K) := ok_cell_at F__law_cell_at T
  have G__law_quarrels : FnOk P w K mg base CX0 2 f3 fd3 ["script", "start", "many"] (sp_quarrels K) := ok_quarrels F__law_quarrels T F__law_cell_at F__law_quarrel
  have G__law_things : FnOk P w K mg base CX0 2 f4 fd4 ["script", "start", "many"] (sp_things K) := ok_things F__law_things T F__law_cell_at
  refine F.fn.ok sc__law_night (fun vs H Q E h => ?_) (fun cdv A outer s H vs Q E hr h => ?_)
  · obtain ⟨a, ns, m, rfl, _⟩ := h
    rfl
  · obtain ⟨a, ns, m, rfl, hS, h1, h6, k⟩ := h
    have hm : (0 : Int) < m := by omega
    obtain ⟨tl, htl, rtl⟩ : ∃ t, PSs (bX P w K mg base ["script", "most", "many", "room"] "_law_night" s__law_night f cdv A outer s H E) ((defBody s__law_night).drop 2) t ∧ ∀ n : Nat, 1 ≤ n → n ≤ m → t (bD Q) [some (.ref a), some (.int m), some (.int n), none] H := by
      refine ⟨_, (pss_cons (ps_set (i := 3) sc__law_night.nd (by rfl) (by first | exact Or.inl rfl | exact Or.inr rfl) (pe_ix ix_list (pe_lst (pa_cons pe_int (pa_cons pe_int (pa_cons pe_int (pa_cons pe_int pa_nil))))) (pe_op op_mod (pe_call G__law_cell_at (hr.mono (by decide)) (by rfl) F__law_cell_at.g F__law_cell_at.fn.kp F__law_cell_at.b .nil pass0 (pa_cons (pv 0) (pa_cons pe_int pa_nil))) pe_int) (fun _ _ => rfl)))
      (pss_one (ps_ret (pe_tup (pa_cons (pe_call G__law_things (hr.mono (by decide)) (by rfl) F__law_things.g F__law_things.fn.kp F__law_things.b .nil pass0 (pa_cons (pv 0) (pa_cons pe_int (pa_cons (pv 2) pa_nil)))) (pa_cons (pv 3) (pa_cons (pe_call G__law_quarrels (hr.mono (by decide)) (by rfl) F__law_quarrels.g F__law_quarrels.fn.kp F__law_quarrels.b .nil pass0 (pa_cons (pv 0) (pa_cons pe_int (pa_cons (pv 2) pa_nil)))) pa_nil))))))), fun n n1 nm => ?_⟩
      have d0 : 0 ≤ ns.getD 1 0 % 4 := Int.emod_nonneg _ (by decide)
      have d4 : ns.getD 1 0 % 4 < 4 := Int.emod_lt_of_pos _ (by decide)
      obtain ⟨v, hv, hat⟩ := atI_in (xs := [V.int 2, V.int 3, V.int 2, V.int 1]) d0 (by show _ < ((4 : Nat) : Int); omega)
      obtain ⟨r, rfl, r1, r3⟩ : ∃ r : Int, v = V.int r ∧ 1 ≤ r ∧ r ≤ 3 := by
        rcases List.mem_cons.mp hv with rfl | hv
        · exact ⟨2, rfl, by decide, by decide⟩
        rcases List.mem_cons.mp hv with rfl | hv
        · exact ⟨3, rfl, by decide, by decide⟩
        rcases List.mem_cons.mp hv with rfl | hv
        · exact ⟨2, rfl, by decide, by decide⟩
        rw [List.mem_singleton.mp hv]
        exact ⟨1, rfl, by decide, by decide⟩
      refine ⟨le_line (by show 4 ≤ _; decide), fun l0 hl0 => ?_⟩
      have s0 : Same H (L2.upd H l0 (.lst [V.int 2, V.int 3, V.int 2, V.int 1])) := same_new hl0
      refine ⟨_, rfl, a, ns, 1, rfl, s0.seq hS, _, _, rfl, rfl, (by show (0 : Int) < 4; decide), l0, _, _, _, rfl, rfl, SqL.of upd_same, hat, ?_⟩
      refine ⟨_, rfl, _, rfl, a, ns, 2, n, rfl, s0.seq hS, by omega, fun ts pt H1 ht okt s1 lt => ?_⟩
      refine ⟨_, rfl, _, rfl, _, rfl, a, ns, 10, n, rfl, (s0.trans s1).seq hS, n1, by omega, fun qs pq H2 hq okq s2 lq => ?_⟩
      refine ⟨le_line (by show 3 ≤ _; decide), fun p hp => ?_⟩
      exact k ts r qs p _ ⟨⟨by omega, by omega, okt⟩, by omega, r1, r3, by rw [ht]; exact okq, pt, pq, upd_same, (lt.mono s2).mono (same_new hp), lq.mono (same_new hp)⟩ hq ((s0.trans s1).trans (s2.trans (same_new hp)))
    refine ⟨_, (pss_cons (ps_set (i := 2) sc__law_night.nd (by rfl) (by first | exact Or.inl rfl | exact Or.inr rfl) (pe_op op_add pe_int (pe_op op_mod (pe_call G__law_cell_at (hr.mono (by decide)) (by rfl) F__law_cell_at.g F__law_cell_at.fn.kp F__law_cell_at.b .nil pass0 (pa_cons (pv 0) (pa_cons pe_int pa_nil))) (pv 1))))
      (pss_cons (ps_if (pt_cmpR op_eq (pe_op op_mod (pe_op op_fdiv (pe_call G__law_cell_at (hr.mono (by decide)) (by rfl) F__law_cell_at.g F__law_cell_at.fn.kp F__law_cell_at.b .nil pass0 (pa_cons (pv 0) (pa_cons pe_int pa_nil))) pe_int) pe_int) pe_int (nomark _))
      (pss_one (ps_set (i := 2) sc__law_night.nd (by rfl) (by first | exact Or.inl rfl | exact Or.inr rfl) (pv 1)))
      pss_nil)
      htl)), ?_⟩
    refine ⟨_, rfl, a, ns, 0, rfl, hS, _, rfl, _, _, rfl, rfl, hm, _, _, rfl, rfl, ?_⟩
    have c0 : 0 ≤ ns.getD 0 0 % (m : Int) := Int.emod_nonneg _ (by omega)
    have c1 : ns.getD 0 0 % (m : Int) < m := Int.emod_lt_of_pos _ hm
    refine ⟨_, rfl, a, ns, 0, rfl, hS, _, _, rfl, rfl, ⟨by decide, by decide⟩, _, _, rfl, rfl, (by show (0 : Int) < 2; decide), rfl, _, rfl, ?_⟩
    refine ite2 (fun h => ?_) (fun h => ?_)
    · refine ⟨_, rfl, ?_⟩
      exact rtl m h1 (Nat.le_refl _)
    · have e : (1 : Int) + ns.getD 0 0 % (m : Int) = (((1 + ns.getD 0 0 % (m : Int)).toNat : Nat) : Int) := by omega
      have z := rtl (1 + ns.getD 0 0 % (m : Int)).toNat (by omega) (by omega)
      rw [← e] at z
      exact z

/-! ### _law_bits, _law_groups -/
def sp_bits : Sp := fun vs H Q _ => ∃ (num : Int) (n : Nat), vs = [.int num, .int n] ∧ n ≤ 1000 ∧ ∀ (p : Addr) (H' : Hp), Same H H' → H' p = some (.tup ((bits n num).map V.int)) → Q (.ref p) H'
theorem sc__law_bits : FnScope ["number", "many", "group", "thing"] ["number", "many"] (defScope s__law_bits) := ⟨rfl, rfl, rfl, by decide +kernel, rfl, by decide +kernel, by decide +kernel⟩
theorem ok_bits {f : Addr} {fd : FuncData} (F : Fn K mg "_law_bits" s__law_bits f fd ["number", "many"]) (T : Txt K mg C Z) : FnOk P w K mg base CX0 1 f fd ["number", "many"] sp_bits := by
  refine F.fn.ok sc__law_bits (fun vs H Q E h => ?_) (fun cdv A outer s H vs Q E hr h => ?_)
  · obtain ⟨num, n, rfl, _⟩ := h
    rfl
  · obtain ⟨num, n, rfl, hn, k⟩ := h
    refine ⟨_, (pss_cons (ps_set (i := 2) sc__law_bits.nd (by rfl) (by first | exact Or.inl rfl | exact Or.inr rfl) (pe_lst pa_nil))
      (pss_cons (ps_for PassesOwn.never rfl (pi_range1 (by rfl) T.n_range (pa_cons (pv 1) pa_nil)) (pg_name (i := 3) sc__law_bits.nd (by rfl) (by first | exact Or.inl rfl | exact Or.inr rfl))
      (pss_cons (ps_if (pt_cmpR op_eq (pe_op op_mod (pv 0) pe_int) pe_int (nomark _))
      (pss_one (ps_expr (pe_bm PySem.F.plainAttrs_list PySem.F.slot_list_append PySem.F.type_list_append mt_append (pv 2) (pa_cons (pv 3) pa_nil))))
      pss_nil)
      (pss_one (ps_set (i := 0) sc__law_bits.nd (by rfl) (by first | exact Or.inl rfl | exact Or.inr rfl) (pe_op op_fdiv (pv 0) pe_int)))))
      (pss_one (ps_ret (pe_callTy call_tuple_of (by rfl) T.n_tuple boot_tuple (pa_cons (pv 2) pa_nil)))))), ?_⟩
    refine ⟨Nat.zero_le _, fun l hl => ?_⟩
    refine ⟨_, rfl, (n : Int), rfl, by omega, by omega, for_range (fun i σ H' => ∃ (g : List Int) (m : Int) (v3 : Option V), σ = [some (.int m), some (.int n), some (.ref l), v3] ∧ g.length ≤ i ∧ i ≤ n ∧ g ++ bitsFrom (n - i) i m = bits n num ∧ Same H H' ∧ H' l = some (.lst (g.map V.int)))
      ⟨[], num, _, rfl, Nat.zero_le _, Nat.zero_le _, rfl, same_new hl, upd_same⟩ ?_ ?_⟩
    · rintro i σ H' hi ⟨g, m, v3, rfl, hg, hin, hb, sm, hl'⟩
      have e0 : n - i = (n - (i + 1)) + 1 := by omega
      rw [e0] at hb
      have e1 : ((0 : Int) + (i : Int)) = (i : Int) := by omega
      have e2 : ((i + 1 : Nat) : Int) = (i : Int) + 1 := by omega
      refine ⟨_, rfl, _, _, rfl, rfl, (by show (0 : Int) < 2; decide), rfl, _, rfl, ?_⟩
      refine ite2 (fun h => ?_) (fun h => ?_)
      · have hm : m % 2 = 1 := by
          have z : V.int (m % 2) = V.int 1 := of_decide_eq_true h
          injection z
        refine ⟨_, rfl, .inl ⟨rfl, _, SqL.of hl'⟩, _, rfl, l, _, _, rfl, rfl, hl', ?_, ?_⟩
        · rw [List.length_map]; exact lt_line (by omega)
        refine ⟨_, rfl, _, _, rfl, rfl, ⟨by decide, by decide⟩, ?_⟩
        refine ⟨g ++ [(i : Int)], m / 2, _, rfl, by simp; omega, by omega, ?_, same_upd sm hl, ?_⟩
        · rw [← hb, bitsFrom, if_pos hm, e2, List.append_assoc]
        · rw [upd_same, List.map_append, e1]
          rfl
      · have hm : ¬ m % 2 = 1 := fun z => h (decide_eq_true (by show V.int (m % 2) = V.int 1; rw [z]))
        refine ⟨_, rfl, _, _, rfl, rfl, ⟨by decide, by decide⟩, ?_⟩
        refine ⟨g, m / 2, _, rfl, by omega, by omega, ?_, sm, hl'⟩
        rw [← hb, bitsFrom, if_neg hm, e2]
        rfl
    · rintro σ H' ⟨g, m, v3, rfl, hg, hin, hb, sm, hl'⟩
      have e0 : n - ((n : Int)).toNat = 0 := by omega
      rw [e0] at hb
      have hb' : g = bits n num := by rw [← hb]; simp [bitsFrom]
      subst hb'
      exact ⟨_, rfl, l, _, rfl, .inl ⟨SqL.of hl', fun p hp => k p _ (same_upd sm (sm.free hp)) upd_same⟩⟩

def sp_groups : Sp := fun vs H Q _ => ∃ (n : Nat), vs = [.int n] ∧ n ≤ 6 ∧ ∀ (p : Addr) (H' : Hp), Same H H' → LstAt grD H' p (groups n) → Q (.ref p) H'
end
end FN


set_option Elab.async false
set_option linter.all false
set_option maxRecDepth 100000
set_option maxHeartbeats 4000000
namespace FN
open PySem L2 PyProof.Rows
section
variable {P : Program} {w : World} {K : PySem.W.Frag} {mg : Str → Option Value} {base : Heap} {C : Addr} {Z : Ad}

/-! ### the checks, where all is well -/
def sp_check_things : Sp := fun vs H Q _ => ∃ (a : Addr) (ts : List Th), vs = [.ref a] ∧ LstAt thD H a ts ∧ OkT ts ∧ Q .non H
theorem sc_check_things : FnScope ["things", "pace", "rows"] ["things"] (defScope s_check_things) := ⟨rfl, rfl, rfl, by decide +kernel, rfl, by decide +kernel, by decide +kernel⟩
theorem ok_check_things {f : Addr} {fd : FuncData} (F : Fn K mg "check_things" s_check_things f fd ["things"]) (T : Txt K mg C Z) : FnOk P w K mg base CX0 1 f fd ["things"] sp_check_things := by
  refine F.fn.ok sc_check_things (fun vs H Q E h => ?_) (fun cdv A outer s H vs Q E hr h => ?_)
  · obtain ⟨a, ts, rfl, _⟩ := h
    rfl
  · obtain ⟨a, ts, rfl, ⟨va, ha, dv⟩, ok, k⟩ := h
    refine ⟨_, (pss_cons (ps_if (pt_not (pt_chain op_le op_le pe_int (pe_callB call_len_seq (by rfl) T.n_len PySem.boot_len (pa_cons (pv 0) pa_nil)) (pe_glob (v := .int (6)) (by rfl) T.c_MOST_THINGS ⟨_, rfl⟩)))
      (pss_one ps_never)
      pss_nil)
      (pss_one (ps_for PassesOwn.never rfl (pi_list (pv 0)) (pg_tup rfl (pgs_cons (pg_name (i := 1) sc_check_things.nd (by rfl) (by first | exact Or.inl rfl | exact Or.inr rfl)) (pgs_cons (pg_name (i := 2) sc_check_things.nd (by rfl) (by first | exact Or.inl rfl | exact Or.inr rfl)) pgs_nil)))
      (pss_one (ps_if (pt_not (pt_chain op_le op_le pe_int (pv 1) (pe_glob (v := .int (1000000000)) (by rfl) T.c_MOST_MINUTES ⟨_, rfl⟩)))
      (pss_one ps_never)
      pss_nil))))), ?_⟩
    have hl := dvs_len dv
    have l1 := ok.l1
    have l6 := ok.l6
    refine ⟨_, rfl, a, _, rfl, .inl (SqL.of ha), _, _, rfl, rfl, _, rfl, ?_⟩
    rw [decide_eq_true (show (1 : Int) ≤ (va.length : Int) by omega)]
    refine iteT ⟨_, _, rfl, rfl, _, rfl, ?_⟩
    rw [decide_eq_true (show (va.length : Int) ≤ 6 by omega)]
    refine iteF ?_
    refine ⟨_, rfl, a, rfl, ⟨_, SqL.of ha⟩, for_list (K := K) (a := a) (xs := va) (fun i σ H' => H' = H ∧ ∃ v1 v2, σ = [some (.ref a), v1, v2]) ⟨rfl, _, _, rfl⟩ (fun i σ H' _ ⟨e, _⟩ => by rw [e]; exact SqL.of ha) ?_ ?_⟩
    · rintro i x σ H' hi ⟨rfl, v1, v2, rfl⟩
      obtain ⟨t, ht, dt⟩ := dvs_get dv hi
      obtain ⟨b, rfl, hb⟩ := th_inv dt
      obtain ⟨p1, p2⟩ := ok.p t (List.mem_of_getElem? ht)
      refine ⟨b, _, rfl, SqT.of hb, rfl, _, _, rfl, _, _, rfl, rfl, ?_⟩
      refine ⟨_, rfl, _, _, rfl, rfl, _, rfl, ?_⟩
      rw [decide_eq_true (show (1 : Int) ≤ t.1 from p1)]
      refine iteT ⟨_, _, rfl, rfl, _, rfl, ?_⟩
      rw [decide_eq_true (show t.1 ≤ (1000000000 : Int) from p2)]
      exact iteF ⟨rfl, _, _, rfl⟩
    · rintro σ H' ⟨rfl, v1, v2, rfl⟩
      exact k

def sp_check_room : Sp := fun vs H Q _ => ∃ (r : Int), vs = [.int r] ∧ 1 ≤ r ∧ r ≤ 3 ∧ Q .non H
theorem sc_check_room : FnScope ["room"] ["room"] (defScope s_check_room) := ⟨rfl, rfl, rfl, by decide +kernel, rfl, by decide +kernel, by decide +kernel⟩
theorem ok_check_room {f : Addr} {fd : FuncData} (F : Fn K mg "check_room" s_check_room f fd ["room"]) (T : Txt K mg C Z) : FnOk P w K mg base CX0 1 f fd ["room"] sp_check_room := by
  refine F.fn.ok sc_check_room (fun vs H Q E h => ?_) (fun cdv A outer s H vs Q E hr h => ?_)
  · obtain ⟨r, rfl, _⟩ := h
    rfl
  · obtain ⟨r, rfl, r1, r3, k⟩ := h
    refine ⟨_, (pss_one (ps_if (pt_not (pt_chain op_le op_le pe_int (pv 0) (pe_glob (v := .int (3)) (by rfl) T.c_MOST_ROOM ⟨_, rfl⟩)))
      (pss_one ps_never)
      pss_nil)), ?_⟩
    refine ⟨_, rfl, _, _, rfl, rfl, _, rfl, ?_⟩
    rw [decide_eq_true (show (1 : Int) ≤ r from r1)]
    refine iteT ⟨_, _, rfl, rfl, _, rfl, ?_⟩
    rw [decide_eq_true (show r ≤ (3 : Int) from r3)]
    exact iteF k

def sp_is_thing : Sp := fun vs H Q _ => ∃ (n c : Int), vs = [.int n, .int c] ∧ Q (.bl (decide (0 ≤ n ∧ n < c))) H
theorem sc_is_thing : FnScope ["number", "count"] ["number", "count"] (defScope s_is_thing) := ⟨rfl, rfl, rfl, by decide +kernel, rfl, by decide +kernel, by decide +kernel⟩
theorem ok_is_thing {f : Addr} {fd : FuncData} (F : Fn K mg "is_thing" s_is_thing f fd ["number", "count"]) : FnOk P w K mg base CX0 1 f fd ["number", "count"] sp_is_thing := by
  refine F.fn.ok sc_is_thing (fun vs H Q E h => ?_) (fun cdv A outer s H vs Q E hr h => ?_)
  · obtain ⟨n, c, rfl, _⟩ := h
    rfl
  · obtain ⟨n, c, rfl, k⟩ := h
    refine ⟨_, (pss_one (ps_ret (pe_chain op_le op_lt pe_int (pv 0) (pv 1)))), ?_⟩
    refine ⟨_, rfl, _, _, rfl, rfl, _, rfl, ?_⟩
    refine ite2 (fun h => ?_) (fun h => ?_)
    · have h0 : 0 ≤ n := of_decide_eq_true h
      refine ⟨_, rfl, _, _, rfl, rfl, ?_⟩
      have e : decide (n < c) = decide (0 ≤ n ∧ n < c) := by rw [Bool.eq_iff_iff]; simp [h0]
      show Q (V.bl (decide (n < c))) H
      rw [e]
      exact k
    · have h0 : ¬ 0 ≤ n := fun z => h (decide_eq_true z)
      have e : decide (0 ≤ n ∧ n < c) = false := decide_eq_false (fun z => h0 z.1)
      rw [e] at k
      exact k

def sp_is_pair : Sp := fun vs H Q _ => ∃ (a b c : Int), vs = [.int a, .int b, .int c] ∧ Q (.bl (decide (0 ≤ a ∧ a < c) && (decide (0 ≤ b ∧ b < c) && !decide (V.int a = V.int b)))) H
theorem sc_is_pair : FnScope ["one", "other", "count"] ["one", "other", "count"] (defScope s_is_pair) := ⟨rfl, rfl, rfl, by decide +kernel, rfl, by decide +kernel, by decide +kernel⟩
theorem ok_is_pair {f f1 : Addr} {fd fd1 : FuncData} (F : Fn K mg "is_pair" s_is_pair f fd ["one", "other", "count"]) (F_is_thing : Fn K mg "is_thing" s_is_thing f1 fd1 ["number", "count"]) : FnOk P w K mg base CX0 2 f fd ["one", "other", "count"] sp_is_pair := by
  have G_is_thing : FnOk P w K mg base CX0 1 f1 fd1 ["number", "count"] sp_is_thing := ok_is_thing F_is_thing
  refine F.fn.ok sc_is_pair (fun vs H Q E h => ?_) (fun cdv A outer s H vs Q E hr h => ?_)
  · obtain ⟨a, b, c, rfl, _⟩ := h
    rfl
  · obtain ⟨a, b, c, rfl, k⟩ := h
    refine ⟨_, (pss_one (ps_ret (pe_and (pe_call G_is_thing (hr.mono (by decide)) (by rfl) F_is_thing.g F_is_thing.fn.kp F_is_thing.b .nil pass0 (pa_cons (pv 0) (pa_cons (pv 2) pa_nil))) (pe_and (pe_call G_is_thing (hr.mono (by decide)) (by rfl) F_is_thing.g F_is_thing.fn.kp F_is_thing.b .nil pass0 (pa_cons (pv 1) (pa_cons (pv 2) pa_nil))) (pe_one (pe_cmpR op_ne (pv 0) (pv 1) (nomark _))))))), ?_⟩
    refine ⟨_, rfl, _, rfl, _, _, rfl, _, rfl, ?_⟩
    refine iteE (fun h1 => ?_) (fun h1 => ?_)
    · refine ⟨_, rfl, _, rfl, _, _, rfl, _, rfl, ?_⟩
      refine iteE (fun h2 => ?_) (fun h2 => ?_)
      · refine ⟨_, rfl, _, rfl, rfl, ?_⟩
        rw [h1, h2] at k
        exact k
      · rw [h1, h2] at k
        exact k
    · rw [h1] at k
      exact k

def sp_is_keeper : Sp := fun vs H Q _ => ∃ (kp a b c : Int), vs = [.int kp, .int a, .int b, .int c] ∧ Q (.bl (decide (V.int kp = V.int (-1)) || (decide (0 ≤ kp ∧ kp < c) && (!decide (V.int kp = V.int a) && !decide (V.int kp = V.int b))))) H
theorem sc_is_keeper : FnScope ["keeper", "one", "other", "count"] ["keeper", "one", "other", "count"] (defScope s_is_keeper) := ⟨rfl, rfl, rfl, by decide +kernel, rfl, by decide +kernel, by decide +kernel⟩
theorem ok_is_keeper {f f1 : Addr} {fd fd1 : FuncData} (F : Fn K mg "is_keeper" s_is_keeper f fd ["keeper", "one", "other", "count"]) (T : Txt K mg C Z) (F_is_thing : Fn K mg "is_thing" s_is_thing f1 fd1 ["number", "count"]) : FnOk P w K mg base CX0 2 f fd ["keeper", "one", "other", "count"] sp_is_keeper := by
  have G_is_thing : FnOk P w K mg base CX0 1 f1 fd1 ["number", "count"] sp_is_thing := ok_is_thing F_is_thing
  refine F.fn.ok sc_is_keeper (fun vs H Q E h => ?_) (fun cdv A outer s H vs Q E hr h => ?_)
  · obtain ⟨kp, a, b, c, rfl, _⟩ := h
    rfl
  · obtain ⟨kp, a, b, c, rfl, k⟩ := h
    refine ⟨_, (pss_cons (ps_if (pt_cmpR op_eq (pv 0) (pe_glob (v := .int (-1)) (by rfl) T.c_NO_KEEPER ⟨_, rfl⟩) (nomark _))
      (pss_one (ps_ret pe_bl))
      pss_nil)
      (pss_one (ps_ret (pe_and (pe_call G_is_thing (hr.mono (by decide)) (by rfl) F_is_thing.g F_is_thing.fn.kp F_is_thing.b .nil pass0 (pa_cons (pv 0) (pa_cons (pv 3) pa_nil))) (pe_and (pe_cmpR op_ne (pv 0) (pv 1) (nomark _)) (pe_one (pe_cmpR op_ne (pv 0) (pv 2) (nomark _)))))))), ?_⟩
    refine ⟨_, rfl, rfl, _, rfl, ?_⟩
    refine iteE (fun h0 => ?_) (fun h0 => ?_)
    · rw [h0] at k
      exact k
    · rw [h0] at k
      refine ⟨_, rfl, _, rfl, _, _, rfl, _, rfl, ?_⟩
      refine iteE (fun h1 => ?_) (fun h1 => ?_)
      · rw [h1] at k
        refine ⟨_, rfl, _, rfl, rfl, _, rfl, ?_⟩
        refine iteE (fun h2 => ?_) (fun h2 => ?_)
        · rw [h2] at k
          refine ⟨_, rfl, _, rfl, rfl, ?_⟩
          exact k
        · rw [h2] at k
          exact k
      · rw [h1] at k
        exact k

def sp_check_quarrels : Sp := fun vs H Q _ => ∃ (a : Addr) (n : Nat) (qs : List Qu), vs = [.ref a, .int n] ∧ LstAt quD H a qs ∧ qs.length ≤ 30 ∧ (∀ q ∈ qs, OkQ n q) ∧ Q .non H
theorem sc_check_quarrels : FnScope ["quarrels", "count", "one", "other", "keeper"] ["quarrels", "count"] (defScope s_check_quarrels) := ⟨rfl, rfl, rfl, by decide +kernel, rfl, by decide +kernel, by decide +kernel⟩
theorem ok_check_quarrels {f f1 f2 f3 : Addr} {fd fd1 fd2 fd3 : FuncData} (F : Fn K mg "check_quarrels" s_check_quarrels f fd ["quarrels", "count"]) (T : Txt K mg C Z) (F_is_thing : Fn K mg "is_thing" s_is_thing f1 fd1 ["number", "count"])
    (F_is_pair : Fn K mg "is_pair" s_is_pair f2 fd2 ["one", "other", "count"]) (F_is_keeper : Fn K mg "is_keeper" s_is_keeper f3 fd3 ["keeper", "one", "other", "count"]) : FnOk P w K mg base CX0 3 f fd ["quarrels", "count"] sp_check_quarrels := by
  have G_is_pair : FnOk P w K mg base CX0 2 f2 fd2 ["one", "other", "count"] sp_is_pair := ok_is_pair F_is_pair F_is_thing
  have G_is_keeper : FnOk P w K mg base CX0 2 f3 fd3 ["keeper", "one", "other", "count"] sp_is_keeper := ok_is_keeper F_is_keeper T F_is_thing
  refine F.fn.ok sc_check_quarrels (fun vs H Q E h => ?_) (fun cdv A outer s H vs Q E hr h => ?_)
  · obtain ⟨a, n, qs, rfl, _⟩ := h
    rfl
  · obtain ⟨a, n, qs, rfl, ⟨va, ha, dv⟩, hl30, ok, k⟩ := h
    refine ⟨_, (pss_cons (ps_if (pt_cmpR op_gt (pe_callB call_len_seq (by rfl) T.n_len PySem.boot_len (pa_cons (pv 0) pa_nil)) (pe_glob (v := .int (30)) (by rfl) T.c_MOST_QUARRELS ⟨_, rfl⟩) (nomark _))
      (pss_one ps_never)
      pss_nil)
      (pss_one (ps_for PassesOwn.never rfl (pi_list (pv 0)) (pg_tup rfl (pgs_cons (pg_name (i := 2) sc_check_quarrels.nd (by rfl) (by first | exact Or.inl rfl | exact Or.inr rfl)) (pgs_cons (pg_name (i := 3) sc_check_quarrels.nd (by rfl) (by first | exact Or.inl rfl | exact Or.inr rfl)) (pgs_cons (pg_name (i := 4) sc_check_quarrels.nd (by rfl) (by first | exact Or.inl rfl | exact Or.inr rfl)) pgs_nil))))
      (pss_cons (ps_if (pt_not (pt_val (pe_call G_is_pair (hr.mono (by decide)) (by rfl) F_is_pair.g F_is_pair.fn.kp F_is_pair.b .nil pass0 (pa_cons (pv 2) (pa_cons (pv 3) (pa_cons (pv 1) pa_nil))))))
      (pss_one ps_never)
      pss_nil)
      (pss_one (ps_if (pt_not (pt_val (pe_call G_is_keeper (hr.mono (by decide)) (by rfl) F_is_keeper.g F_is_keeper.fn.kp F_is_keeper.b .nil pass0 (pa_cons (pv 4) (pa_cons (pv 2) (pa_cons (pv 3) (pa_cons (pv 1) pa_nil)))))))
      (pss_one ps_never)
      pss_nil)))))), ?_⟩
    have hl := dvs_len dv
    refine ⟨_, rfl, a, _, rfl, .inl (SqL.of ha), _, _, rfl, rfl, _, rfl, ?_⟩
    rw [decide_eq_false (show ¬ (30 : Int) < (va.length : Int) by omega)]
    refine iteF ?_
    refine ⟨_, rfl, a, rfl, ⟨_, SqL.of ha⟩, for_list (K := K) (a := a) (xs := va) (fun i σ H' => H' = H ∧ ∃ v1 v2 v3, σ = [some (.ref a), some (.int n), v1, v2, v3]) ⟨rfl, _, _, _, rfl⟩ (fun i σ H' _ ⟨e, _⟩ => by rw [e]; exact SqL.of ha) ?_ ?_⟩
    · rintro i x σ H' hi ⟨rfl, v1, v2, v3, rfl⟩
      obtain ⟨q, hq, dq⟩ := dvs_get dv hi
      obtain ⟨b, rfl, hb⟩ := qu_inv dq
      have o := ok q (List.mem_of_getElem? hq)
      refine ⟨b, _, rfl, SqT.of hb, rfl, _, _, rfl, _, _, rfl, _, _, rfl, rfl, ?_⟩
      refine ⟨_, rfl, _, rfl, _, rfl, _, _, _, rfl, _, rfl, ?_⟩
      have e1 : decide (0 ≤ q.1 ∧ q.1 < (n : Int)) = true := decide_eq_true ⟨o.a0, o.a1⟩
      have e2 : decide (0 ≤ q.2.1 ∧ q.2.1 < (n : Int)) = true := decide_eq_true ⟨o.b0, o.b1⟩
      have e3 : decide (V.int q.1 = V.int q.2.1) = false := decide_eq_false fun z => o.ab (by injection z)
      rw [e1, e2, e3]
      refine iteF ?_
      refine ⟨_, rfl, _, rfl, _, rfl, _, rfl, _, _, _, _, rfl, _, rfl, ?_⟩
      have e4 : (decide (V.int q.2.2 = V.int (-1)) || (decide (0 ≤ q.2.2 ∧ q.2.2 < (n : Int)) && (!decide (V.int q.2.2 = V.int q.1) && !decide (V.int q.2.2 = V.int q.2.1)))) = true := by
        rcases o.k with z | ⟨z1, z2, z3, z4⟩
        · rw [decide_eq_true (show V.int q.2.2 = V.int (-1) by rw [z])]
          rfl
        · rw [decide_eq_true (show 0 ≤ q.2.2 ∧ q.2.2 < (n : Int) from ⟨z1, z2⟩), decide_eq_false (show ¬ V.int q.2.2 = V.int q.1 from fun z => z3 (by injection z)), decide_eq_false (show ¬ V.int q.2.2 = V.int q.2.1 from fun z => z4 (by injection z))]
          simp
      rw [e4]
      exact iteF ⟨rfl, _, _, _, rfl⟩
    · rintro σ H' ⟨rfl, v1, v2, v3, rfl⟩
      exact k

/-! ### Night -/
def sp_init (C : Addr) : Sp := fun vs H Q _ => ∃ (p dx a b : Addr) (ts : List Th) (r : Int) (qs : List Qu), vs = [.ref p, .ref a, .int r, .ref b] ∧ H p = some (.ins C dx []) ∧ LstAt thD H a ts ∧ OkT ts ∧ 1 ≤ r ∧ r ≤ 3 ∧ LstAt quD H b qs ∧ qs.length ≤ 30 ∧ (∀ q ∈ qs, OkQ ts.length q) ∧
  ∀ H', NightAt C H' p ts r qs → (∀ b o, H b = some o → b ≠ p → H' b = some o) → Q .non H'
theorem sc_Night___init__ : FnScope ["self", "things", "room", "quarrels"] ["self", "things", "room", "quarrels"] (defScope s_Night___init__) := ⟨rfl, rfl, rfl, by decide +kernel, rfl, by decide +kernel, by decide +kernel⟩
theorem ok_init {f f1 f2 f3 f4 f5 f6 : Addr} {fd fd1 fd2 fd3 fd4 fd5 fd6 : FuncData} (F : Mt K "__init__" "Night.__init__" s_Night___init__ f fd ["self", "things", "room", "quarrels"]) (T : Txt K mg C Z) (F_is_thing : Fn K mg "is_thing" s_is_thing f1 fd1 ["number", "count"])
    (F_is_pair : Fn K mg "is_pair" s_is_pair f2 fd2 ["one", "other", "count"]) (F_is_keeper : Fn K mg "is_keeper" s_is_keeper f3 fd3 ["keeper", "one", "other", "count"])
    (F_check_things : Fn K mg "check_things" s_check_things f4 fd4 ["things"]) (F_check_room : Fn K mg "check_room" s_check_room f5 fd5 ["room"]) (F_check_quarrels : Fn K mg "check_quarrels" s_check_quarrels f6 fd6 ["quarrels", "count"]) :
    FnOk P w K mg base CX0 4 f fd ["self", "things", "room", "quarrels"] (sp_init C) := by
  have G_check_things : FnOk P w K mg base CX0 1 f4 fd4 ["things"] sp_check_things := ok_check_things F_check_things T
  have G_check_room : FnOk P w K mg base CX0 1 f5 fd5 ["room"] sp_check_room := ok_check_room F_check_room T
  have G_check_quarrels : FnOk P w K mg base CX0 3 f6 fd6 ["quarrels", "count"] sp_check_quarrels := ok_check_quarrels F_check_quarrels T F_is_thing F_is_pair F_is_keeper
  refine F.fn.ok sc_Night___init__ (fun vs H Q E h => ?_) (fun cdv A outer s H vs Q E hr h => ?_)
  · obtain ⟨p, dx, a, b, ts, r, qs, rfl, _⟩ := h
    rfl
  · obtain ⟨p, dx, a, b, ts, r, qs, rfl, hp, lt, okt, r1, r3, lq, hq, okq, k⟩ := h
    refine ⟨_, (pss_cons (ps_expr (pe_call G_check_things (hr.mono (by decide)) (by rfl) F_check_things.g F_check_things.fn.kp F_check_things.b .nil pass0 (pa_cons (pv 1) pa_nil)))
      (pss_cons (ps_expr (pe_call G_check_room (hr.mono (by decide)) (by rfl) F_check_room.g F_check_room.fn.kp F_check_room.b .nil pass0 (pa_cons (pv 2) pa_nil)))
      (pss_cons (ps_expr (pe_call G_check_quarrels (hr.mono (by decide)) (by rfl) F_check_quarrels.g F_check_quarrels.fn.kp F_check_quarrels.b .nil pass0 (pa_cons (pv 3) (pa_cons (pe_callB call_len_seq (by rfl) T.n_len PySem.boot_len (pa_cons (pv 1) pa_nil)) pa_nil))))
      (pss_cons (ps_fld (pv 0) (pe_callTy call_tuple_of (by rfl) T.n_tuple boot_tuple (pa_cons (pv 1) pa_nil)) rfl)
      (pss_cons (ps_fld (pv 0) (pv 2) rfl)
      (pss_one (ps_fld (pv 0) (pe_callTy call_tuple_of (by rfl) T.n_tuple boot_tuple (pa_cons (pv 3) pa_nil)) rfl))))))), ?_⟩
    obtain ⟨va, ha, dva⟩ := id lt
    obtain ⟨vb, hb, dvb⟩ := id lq
    have hl := dvs_len dva
    refine ⟨_, rfl, a, ts, rfl, lt, okt, ?_⟩
    refine ⟨_, rfl, r, rfl, r1, r3, ?_⟩
    refine ⟨_, rfl, _, rfl, a, _, rfl, .inl (SqL.of ha), b, va.length, qs, rfl, lq, hq, by rw [hl]; exact okq, ?_⟩
    refine ⟨_, rfl, a, _, rfl, .inl ⟨SqL.of ha, fun t ht => ?_⟩⟩
    have npt : p ≠ t := ne_of_none hp ht
    have nbt : b ≠ t := ne_of_none hb ht
    refine ⟨_, rfl, p, C, dx, [], rfl, (by rw [upd_ne npt]; exact hp), T.cl_Night, T.a_things, (by show 0 < 1000; decide), ?_⟩
    refine ⟨_, rfl, _, rfl, p, C, dx, _, rfl, upd_same, T.cl_Night, T.a_room, (by show 1 < 1000; decide), ?_⟩
    have nbp : b ≠ p := ne_of hb hp (by intro z; cases z)
    have hb2 : ∀ o o', (L2.upd (L2.upd (L2.upd H t (.tup va)) p o) p o') b = some (.lst vb) := fun o o' => by rw [upd_ne nbp, upd_ne nbp, upd_ne nbt]; exact hb
    refine ⟨_, rfl, b, _, rfl, .inl ⟨SqL.of (hb2 _ _), fun q hq' => ?_⟩⟩
    have npq : p ≠ q := ne_of_none (H := L2.upd (L2.upd (L2.upd H t (.tup va)) p _) p _) upd_same hq'
    refine ⟨_, rfl, p, C, dx, _, rfl, (by rw [upd_ne npq]; exact upd_same), T.cl_Night, T.a_quarrels, (by show 2 < 1000; decide), ?_⟩
    have old : ∀ b o, H b = some o → b ≠ p → (L2.upd (L2.upd (L2.upd (L2.upd (L2.upd H t (.tup va)) p (.ins C dx (putF "kept_things" (.ref t) []))) p (.ins C dx (putF "kept_room" (.int r) (putF "kept_things" (.ref t) [])))) q (.tup vb)) p (.ins C dx (flds t r q))) b = some o := fun c o hc hcp => by
      have nct : c ≠ t := ne_of_none hc ht
      have h1 : (L2.upd (L2.upd (L2.upd H t (.tup va)) p (.ins C dx (putF "kept_things" (.ref t) []))) p (.ins C dx (putF "kept_room" (.int r) (putF "kept_things" (.ref t) [])))) c = some o := by rw [upd_ne hcp, upd_ne hcp, upd_ne nct]; exact hc
      have ncq : c ≠ q := ne_of_none h1 hq'
      rw [upd_ne hcp, upd_ne ncq]
      exact h1
    have ntp : t ≠ p := fun e => npt e.symm
    have ht1 : (L2.upd (L2.upd (L2.upd H t (.tup va)) p (.ins C dx (putF "kept_things" (.ref t) []))) p (.ins C dx (putF "kept_room" (.int r) (putF "kept_things" (.ref t) [])))) t = some (.tup va) := by rw [upd_ne ntp, upd_ne ntp]; exact upd_same
    have ntq : t ≠ q := ne_of_none ht1 hq'
    -- the inner tuples stand apart from p
    have sm : ∀ {α : Type} {f : α → PyData} {l : List α} {vs : List V}, (∀ x, noLst (f x) = true) → DVs H (l.map f) vs → DVs (L2.upd (L2.upd (L2.upd (L2.upd (L2.upd H t (.tup va)) p (.ins C dx (putF "kept_things" (.ref t) []))) p (.ins C dx (putF "kept_room" (.int r) (putF "kept_things" (.ref t) [])))) q (.tup vb)) p (.ins C dx (flds t r q))) (l.map f) vs := fun {α f l vs} hf h => dvs_but (fun b ws hb => old b _ hb (by
        intro z
        rw [z, hp] at hb
        cases hb)) h (noLsts_map hf l)
    refine k _ ⟨dx, t, q, upd_same, ⟨va, ?_, sm th_no dva⟩, ⟨vb, ?_, sm qu_no dvb⟩⟩ old
    · rw [upd_ne ntp, upd_ne ntq]; exact ht1
    · rw [upd_ne (fun e => npq e.symm)]; exact upd_same
def sp_nthings (C : Addr) : Sp := fun vs H Q _ => ∃ (p : Addr) (ts : List Th) (r : Int) (qs : List Qu), vs = [.ref p] ∧ NightAt C H p ts r qs ∧ ∀ l vs, H l = none → DVs H (ts.map thD) vs → Q (.ref l) (L2.upd H l (.lst vs))
theorem sc_Night_things : FnScope ["self"] ["self"] (defScope s_Night_things) := ⟨rfl, rfl, rfl, by decide +kernel, rfl, by decide +kernel, by decide +kernel⟩
theorem ok_nthings {f : Addr} {fd : FuncData} (F : Mt K "things" "Night.things" s_Night_things f fd ["self"]) (T : Txt K mg C Z) : FnOk P w K mg base CX0 1 f fd ["self"] (sp_nthings C) := by
  refine F.fn.ok sc_Night_things (fun vs H Q E h => ?_) (fun cdv A outer s H vs Q E hr h => ?_)
  · obtain ⟨p, ts, r, qs, rfl, _⟩ := h
    rfl
  · obtain ⟨p, ts, r, qs, rfl, N, k⟩ := h
    obtain ⟨dx, t, q, hp, ⟨vt, ht, dt⟩, _⟩ := N.ex
    refine ⟨_, (pss_one (ps_ret (pe_callTy call_list_of (by rfl) T.n_list boot_list (pa_cons (pe_fld (pv 0) rfl) pa_nil)))), ?_⟩
    exact ⟨_, rfl, p, C, dx, _, _, rfl, hp, T.cl_Night, T.a_things, flds_t _ _ _, t, _, rfl, .inr (SqT.of ht), fun l hl => k l vt hl dt⟩
def sp_nquarrels (C : Addr) : Sp := fun vs H Q _ => ∃ (p : Addr) (ts : List Th) (r : Int) (qs : List Qu), vs = [.ref p] ∧ NightAt C H p ts r qs ∧ ∀ l vs, H l = none → DVs H (qs.map quD) vs → Q (.ref l) (L2.upd H l (.lst vs))
def sp_nroom (C : Addr) : Sp := fun vs H Q _ => ∃ (p : Addr) (ts : List Th) (r : Int) (qs : List Qu), vs = [.ref p] ∧ NightAt C H p ts r qs ∧ Q (.int r) H
theorem sc_Night_room : FnScope ["self"] ["self"] (defScope s_Night_room) := ⟨rfl, rfl, rfl, by decide +kernel, rfl, by decide +kernel, by decide +kernel⟩
theorem ok_nroom {f : Addr} {fd : FuncData} (F : Mt K "room" "Night.room" s_Night_room f fd ["self"]) (T : Txt K mg C Z) : FnOk P w K mg base CX0 1 f fd ["self"] (sp_nroom C) := by
  refine F.fn.ok sc_Night_room (fun vs H Q E h => ?_) (fun cdv A outer s H vs Q E hr h => ?_)
  · obtain ⟨p, ts, r, qs, rfl, _⟩ := h
    rfl
  · obtain ⟨p, ts, r, qs, rfl, N, k⟩ := h
    obtain ⟨dx, t, q, hp, _, _⟩ := N.ex
    refine ⟨_, (pss_one (ps_ret (pe_fld (pv 0) rfl))), ?_⟩
    exact ⟨_, rfl, p, C, dx, _, _, rfl, hp, T.cl_Night, T.a_room, flds_r _ _ _, k⟩
/-- (things 0 .. n - 1, 0) -/
def beginD (n : Nat) : PyData := .tuple [grD (till n), .int 0]
def sp_nbegins (C : Addr) : Sp := fun vs H Q _ => ∃ (p : Addr) (ts : List Th) (r : Int) (qs : List Qu), vs = [.ref p] ∧ NightAt C H p ts r qs ∧ ts.length ≤ 6 ∧ ∀ l H', Same H H' → DV H' (beginD ts.length) (.ref l) → Q (.ref l) H'
def endD : PyData := .tuple [.tuple [], .int 1]
def sp_nends : Sp := fun vs H Q _ => ∃ (p : Addr), vs = [.ref p] ∧ ∀ l H', Same H H' → DV H' endD (.ref l) → Q (.ref l) H'
theorem sc_Night_ends : FnScope ["self"] ["self"] (defScope s_Night_ends) := ⟨rfl, rfl, rfl, by decide +kernel, rfl, by decide +kernel, by decide +kernel⟩
theorem ok_nends {f : Addr} {fd : FuncData} (F : Mt K "ends" "Night.ends" s_Night_ends f fd ["self"]) : FnOk P w K mg base CX0 1 f fd ["self"] sp_nends := by
  refine F.fn.ok sc_Night_ends (fun vs H Q E h => ?_) (fun cdv A outer s H vs Q E hr h => ?_)
  · obtain ⟨p, rfl, _⟩ := h
    rfl
  · obtain ⟨p, rfl, k⟩ := h
    refine ⟨_, (pss_one (ps_ret (pe_tup (pa_cons (pe_tup pa_nil) (pa_cons pe_int pa_nil))))), ?_⟩
    refine ⟨Nat.zero_le _, fun g hg => ⟨le_line (by show 2 ≤ _; decide), fun o ho => ?_⟩⟩
    have sg : Same H (L2.upd H g (.tup [])) := same_new hg
    refine k o _ (same_upd sg (sg.free ho)) (.tup upd_same (.cons (.tup ?_ .nil) (.cons (.int 1) .nil)))
    rw [upd_ne (ne_of_none (H := L2.upd H g (.tup [])) upd_same ho)]
    exact upd_same
end
end FN


set_option Elab.async false
set_option linter.all false
set_option maxRecDepth 100000
set_option maxHeartbeats 4000000
namespace FN
open PySem L2 PyProof.Rows
theorem m_things (t : Addr) (r : Int) (q : Addr) : (flds t r q).lookup ("things" : Str) = none := flds_no _ _ _ (by decide +kernel) (by decide +kernel) (by decide +kernel)
theorem m_room (t : Addr) (r : Int) (q : Addr) : (flds t r q).lookup ("room" : Str) = none := flds_no _ _ _ (by decide +kernel) (by decide +kernel) (by decide +kernel)
theorem m_peace (t : Addr) (r : Int) (q : Addr) : (flds t r q).lookup ("peace" : Str) = none := flds_no _ _ _ (by decide +kernel) (by decide +kernel) (by decide +kernel)
abbrev bF (P : Program) (w : World) (K : PySem.W.Frag) (mg : Str → Option Value) (base : Heap) (N : List Str) (qual : Str) (st : Stmt) (f : Addr) (cdv : Value) (A : Around) (outer : List Env) (s : Shared) (H : Hp) (E : XK) : Cx :=
  cxF P w K mg base N qual (defScope st) f cdv A outer s H E
/-- the standing st lies at a -/
def StAt (H : Hp) (a : Addr) (st : St2) : Prop := ∃ b, H a = some (.tup [.ref b, .int st.2]) ∧ H b = some (.tup (st.1.map V.int))
theorem StAt.mono {H H' : Hp} {a : Addr} {st : St2} (h : StAt H a st) (e : Same H H') : StAt H' a st := let ⟨b, h1, h2⟩ := h; ⟨b, e _ _ h1, e _ _ h2⟩
theorem StAt.dv {H : Hp} {a : Addr} {st : St2} (h : StAt H a st) : DV H (stD st) (.ref a) := let ⟨_, h1, h2⟩ := h; .tup h1 (.cons (gr_dv h2) (.cons (.int _) .nil))
section
variable {P : Program} {w : World} {K : PySem.W.Frag} {mg : Str → Option Value} {base : Heap} {C : Addr} {Z : Ad}

/-! ### rises -/
def sp_rises : Sp := fun vs H Q _ => ∃ (a : Addr) (g : List Int), vs = [.ref a] ∧ H a = some (.tup (g.map V.int)) ∧ g.length ≤ 1000 ∧ ∀ H', Same H H' → Q (.bl (rises g)) H'
theorem sc_rises : FnScope ["group"] ["group"] (defScope s_rises) := ⟨rfl, rfl, rfl, by decide +kernel, rfl, by decide +kernel, by decide +kernel⟩
theorem ok_rises {f : Addr} {fd : FuncData} (F : Fn K mg "rises" s_rises f fd ["group"]) (T : Txt K mg C Z) : FnOk P w K mg base CX0 1 f fd ["group"] sp_rises := by
  refine F.fn.ok sc_rises (fun vs H Q E h => ?_) (fun cdv A outer s H vs Q E hr h => ?_)
  · obtain ⟨a, g, rfl, _⟩ := h
    rfl
  · obtain ⟨a, g, rfl, ha, hl, k⟩ := h
    refine ⟨_, (pss_one (ps_ret (pe_callB (call_all rfl) (by rfl) T.n_all boot_all (pa_cons (pe_comp rfl (N' := ["one", "other"]) (cap := [none, none]) ⟨rfl, by with_unfolding_all rfl⟩ (pi_zip (by rfl) T.n_zip boot_zip (pa_cons (pv 0) (pa_cons (pe_slice sl_tupB (pv 0) (po_some pe_int) po_none) pa_nil))) (fun _ => (tupK (K := K) (n := 2) rfl rfl (pgs_cons (pg_name (i := 0) (show (["one", "other"] : List Str).Nodup by decide +kernel) (by rfl) (by first | exact Or.inl rfl | exact Or.inr rfl)) (pgs_cons (pg_name (i := 1) (show (["one", "other"] : List Str).Nodup by decide +kernel) (by rfl) (by first | exact Or.inl rfl | exact Or.inr rfl)) pgs_nil)))) (fun _ => pifs_nil) (fun _ => (pe_cmpR op_lt (pv 0) (pv 1) (nomark _)))) pa_nil)))), ?_⟩
    refine ⟨_, rfl, _, rfl, 1, rfl, ?_⟩
    by_cases hg : g = []
    · subst hg
      refine .inr ⟨a, _, rfl, SqT.of ha, ⟨rfl, rfl⟩, a, a, _, _, rfl, ha, ha, fun D hD => ?_⟩
      refine comp_zip (n := 0) (fun i xs H' => Same H H' ∧ H' D = some (.lst xs) ∧ xs = [] ∧ H' a = some (.tup [])) ⟨same_new hD, upd_same, rfl, (same_new hD) _ _ ha⟩ rfl (fun i xs H' _ ⟨_, h, _, h2⟩ => ⟨h, h2, h2⟩) ?_ ?_
      · rintro i x y xs H' p hx
        simp at hx
      · rintro xs H' ⟨sm, hD', rfl, _⟩
        exact ⟨D, [], rfl, SqL.of hD', k H' sm⟩
    · have h1 : 1 ≤ g.length := List.length_pos_iff.mpr hg
      have e1 : HT.sIx (g.map V.int).length 0 (some ((1 : Nat) : Int)) = 1 := by rw [HT.sIx_nat, List.length_map]; omega
      refine .inl ⟨a, _, rfl, SqT.of ha, (fun z => by have z1 := z.1; rw [show (1 : Int) = ((1 : Nat) : Int) from rfl, e1] at z1; cases z1), fun p hp => ?_⟩
      have ec : cutV (g.map V.int) (some 1) none = (g.drop 1).map V.int := by
        unfold cutV
        rw [show (1 : Int) = ((1 : Nat) : Int) from rfl, e1]
        show List.take ((g.map V.int).length - 1) _ = _
        rw [← List.map_drop, List.take_of_length_le (by simp)]
      rw [ec]
      have s1 : Same H (L2.upd H p (.tup ((g.drop 1).map V.int))) := same_new hp
      refine ⟨a, p, _, _, rfl, s1 _ _ ha, upd_same, fun D hD => ?_⟩
      have hDH := s1.free hD
      refine comp_zip (as := g.map V.int) (bs := (g.drop 1).map V.int) (n := g.length - 1) (fun i xs H' => Same (L2.upd H p (.tup ((g.drop 1).map V.int))) H' ∧ H' D = some (.lst xs) ∧ xs = ((g.zip (g.drop 1)).take i).map fun q => V.bl (decide (q.1 < q.2)))
        ⟨same_new hD, upd_same, by simp⟩ (by simp) (fun i xs H' _ ⟨sm, h, _⟩ => ⟨h, sm _ _ (s1 _ _ ha), sm _ _ upd_same⟩) ?_ ?_
      · rintro i x y xs H' q hx hy hq ⟨sm, hD', rfl⟩
        rw [List.getElem?_map, Option.map_eq_some_iff] at hx hy
        obtain ⟨x', hx', rfl⟩ := hx
        obtain ⟨y', hy', rfl⟩ := hy
        refine ⟨q, _, rfl, SqT.of upd_same, rfl, _, _, rfl, _, _, rfl, rfl, (Keep.set rfl).trans (Keep.set rfl), ?_⟩
        have sq : Same H' (L2.upd H' q (.tup [V.int x', V.int y'])) := same_new hq
        have hDq := sq _ _ hD'
        refine ⟨_, rfl, _, rfl, _, _, rfl, rfl, hDq, lt_line (by rw [List.length_map, List.length_take]; simp; omega), same_upd (sm.trans sq) hD, upd_same, ?_⟩
        have ez : (g.zip (g.drop 1))[i]? = some (x', y') := by rw [List.getElem?_zip_eq_some]; exact ⟨hx', hy'⟩
        rw [List.take_add_one, ez]
        simp
      · rintro xs H' ⟨sm, hD', rfl⟩
        refine ⟨D, (g.zip (g.drop 1)).map (fun q : Int × Int => decide (q.1 < q.2)), rfl, SqL.of ?_, k H' (s1.trans sm)⟩
        rw [hD', List.map_map, List.take_of_length_le (by simp)]
        rfl

/-! ### other_bank -/
def sp_other_bank (C : Addr) : Sp := fun vs H Q _ => ∃ (p b : Addr) (ts : List Th) (r : Int) (qs : List Qu) (g : List Int), vs = [.ref p, .ref b] ∧ NightAt C H p ts r qs ∧ ts.length ≤ 6 ∧ H b = some (.tup (g.map V.int)) ∧
  ∀ l H', Same H H' → H' l = some (.tup ((restOf ts.length g).map V.int)) → Q (.ref l) H'
theorem sc_other_bank : FnScope ["night", "group"] ["night", "group"] (defScope s_other_bank) := ⟨rfl, rfl, rfl, by decide +kernel, rfl, by decide +kernel, by decide +kernel⟩
theorem ok_other_bank {f f1 : Addr} {fd fd1 : FuncData} (F : Fn K mg "other_bank" s_other_bank f fd ["night", "group"]) (T : Txt K mg C Z) (M_Night_things : Meth K C "things" f1) (F_Night_things : Mt K "things" "Night.things" s_Night_things f1 fd1 ["self"]) :
    FnOk P w K mg base CX0 2 f fd ["night", "group"] (sp_other_bank C) := by
  have G_Night_things : FnOk P w K mg base CX0 1 f1 fd1 ["self"] (sp_nthings C) := ok_nthings F_Night_things T
  refine F.fn.ok sc_other_bank (fun vs H Q E h => ?_) (fun cdv A outer s H vs Q E hr h => ?_)
  · obtain ⟨p, b, ts, r, qs, g, rfl, _⟩ := h
    rfl
  · obtain ⟨p, b, ts, r, qs, g, rfl, N, h6, hb, k⟩ := h
    obtain ⟨dx, t, q, hp, _, _⟩ := id N.ex
    refine ⟨_, (pss_one (ps_ret (pe_callTy call_tuple_of (by rfl) T.n_tuple boot_tuple (pa_cons (pe_comp rfl (N' := ["thing", "group"]) (cap := [none, some 1]) ⟨rfl, by with_unfolding_all rfl⟩ (pi_range1 (by rfl) T.n_range (pa_cons (pe_callB call_len_seq (by rfl) T.n_len PySem.boot_len (pa_cons (pe_meth0 (pv 0) T.cl_Night M_Night_things G_Night_things (hr.mono (by decide)) F_Night_things.b .nil pass0) pa_nil)) pa_nil)) (fun _ => (pg_name (i := 0) (show (["thing", "group"] : List Str).Nodup by decide +kernel) (by rfl) (by first | exact Or.inl rfl | exact Or.inr rfl))) (fun _ => (pifs_one (pt_cmpR (notInK (K := K) rfl) (pv 0) (pv 1) (by with_unfolding_all rfl)))) (fun _ => (pv 0))) pa_nil)))), ?_⟩
    refine ⟨_, rfl, p, dx, _, rfl, hp, m_things _ _ _, p, ts, r, qs, rfl, N, fun l vs hl dv => ?_⟩
    have s1 : Same H (L2.upd H l (.lst vs)) := same_new hl
    have lv := dvs_len dv
    refine ⟨l, _, rfl, .inl (SqL.of upd_same), _, rfl, by omega, by omega, fun D hD => ?_⟩
    have hDH := s1.free hD
    rw [Int.toNat_natCast, lv]
    refine comp_range (n := ts.length) (fun i xs H' => Same (L2.upd H l (.lst vs)) H' ∧ H' D = some (.lst xs) ∧ xs = ((till i).filter fun t => !g.contains t).map V.int)
      ⟨same_new hD, upd_same, rfl⟩ (fun i xs H' _ ⟨_, h, _⟩ => h) ?_ ?_
    · rintro i xs H' hi ⟨sm, hD', rfl⟩
      have e1 : ((0 : Int) + (i : Int)) = (i : Int) := by omega
      refine ⟨Keep.set rfl, ?_⟩
      refine ⟨_, rfl, _, rfl, b, _, rfl, .inr (SqT.of (sm _ _ (s1 _ _ hb))), rfl, flat_ints g, _, rfl, ?_⟩
      rw [inV_ints, e1]
      have sl : ((till i).filter fun t => !g.contains t).length ≤ i := Nat.le_trans (List.length_filter_le _ _) (by rw [till_length]; exact Nat.le_refl _)
      refine iteE (fun h1 => ?_) (fun h1 => ?_)
      · refine ⟨_, rfl, hD', lt_line (by rw [List.length_map]; omega), same_upd sm hD, upd_same, ?_⟩
        rw [till_succ, List.filter_append, List.map_append]
        have h1' : (!g.contains (i : Int)) = true := h1
        have ef : [(i : Int)].filter (fun t => !g.contains t) = [(i : Int)] := by rw [List.filter_cons, if_pos h1']; rfl
        rw [ef]
        rfl
      · refine ⟨sm, hD', ?_⟩
        have h1' : (!g.contains (i : Int)) = false := h1
        have ef : [(i : Int)].filter (fun t => !g.contains t) = [] := by rw [List.filter_cons, if_neg (by rw [h1']; simp)]; rfl
        rw [till_succ, List.filter_append, List.map_append, ef]
        simp
    · rintro xs H' ⟨sm, hD', rfl⟩
      have sH := s1.trans sm
      exact ⟨D, _, rfl, .inl ⟨SqL.of hD', fun o ho => k o _ (same_upd sH (sH.free ho)) upd_same⟩⟩

/-! ### is_good -/
def sp_is_good (C : Addr) : Sp := fun vs H Q _ => ∃ (p a : Addr) (ts : List Th) (r : Int) (qs : List Qu) (st : St2), vs = [.ref p, .ref a] ∧ NightAt C H p ts r qs ∧ ts.length ≤ 6 ∧ StAt H a st ∧ ∀ H', Same H H' → Q (.bl (isGood qs ts.length st.1)) H'
theorem sc_is_good : FnScope ["night", "standing"] ["night", "standing"] (defScope s_is_good) := ⟨rfl, rfl, rfl, by decide +kernel, rfl, by decide +kernel, by decide +kernel⟩
theorem ok_is_good {f f1 f2 f3 : Addr} {fd fd1 fd2 fd3 : FuncData} (F : Fn K mg "is_good" s_is_good f fd ["night", "standing"]) (T : Txt K mg C Z) (M_Night_things : Meth K C "things" f1) (F_Night_things : Mt K "things" "Night.things" s_Night_things f1 fd1 ["self"])
    (M_Night_peace : Meth K C "peace" f2) (F_Night_peace : Mt K "peace" "Night.peace" s_Night_peace f2 fd2 ["self", "group"]) (F_other_bank : Fn K mg "other_bank" s_other_bank f3 fd3 ["night", "group"]) : FnOk P w K mg base CX0 3 f fd ["night", "standing"] (sp_is_good C) := by
  have G_Night_peace : FnOk P w K mg base CX0 1 f2 fd2 ["self", "group"] (sp_npeace C) := ok_npeace F_Night_peace T
  have G_other_bank : FnOk P w K mg base CX0 2 f3 fd3 ["night", "group"] (sp_other_bank C) := ok_other_bank F_other_bank T M_Night_things F_Night_things
  refine F.fn.ok sc_is_good (fun vs H Q E h => ?_) (fun cdv A outer s H vs Q E hr h => ?_)
  · obtain ⟨p, a, ts, r, qs, st, rfl, _⟩ := h
    rfl
  · obtain ⟨p, a, ts, r, qs, st, rfl, N, h6, ⟨b, ha, hb⟩, k⟩ := h
    obtain ⟨dx, t, q, hp, _, _⟩ := id N.ex
    refine ⟨_, (pss_one (ps_ret (pe_and (pe_meth (pv 0) T.cl_Night M_Night_peace G_Night_peace (hr.mono (by decide)) F_Night_peace.b .nil pass0 (pa_cons (pe_ix ix_tup (pv 1) pe_int (fun _ _ => rfl)) pa_nil)) (pe_one (pe_meth (pv 0) T.cl_Night M_Night_peace G_Night_peace (hr.mono (by decide)) F_Night_peace.b .nil pass0 (pa_cons (pe_call G_other_bank (hr.mono (by decide)) (by rfl) F_other_bank.g F_other_bank.fn.kp F_other_bank.b .nil pass0 (pa_cons (pv 0) (pa_cons (pe_ix ix_tup (pv 1) pe_int (fun _ _ => rfl)) pa_nil))) pa_nil)))))), ?_⟩
    refine ⟨_, rfl, p, dx, _, rfl, hp, m_peace _ _ _, _, rfl, a, _, _, _, rfl, rfl, SqT.of ha, at0, p, b, ts, r, qs, st.1, rfl, N, hb, _, rfl, ?_⟩
    refine iteE (fun h1 => ?_) (fun h1 => ?_)
    · refine ⟨_, rfl, p, dx, _, rfl, hp, m_peace _ _ _, _, rfl, _, rfl, a, _, _, _, rfl, rfl, SqT.of ha, at0, p, b, ts, r, qs, st.1, rfl, N, h6, hb, fun l H' sm hl => ?_⟩
      refine ⟨p, l, ts, r, qs, _, rfl, N.mono sm, hl, ?_⟩
      have k' := k H' sm
      unfold isGood at k'
      rw [h1, Bool.true_and] at k'
      exact k'
    · have k' := k H (Same.refl H)
      unfold isGood at k'
      rw [h1, Bool.false_and] at k'
      exact k'

/-! ### is_standing, check_standing, check_start, good -/
theorem in01 (i : Int) : inV (.int i) [V.int 0, V.int 1] = (decide (i = 0) || decide (i = 1)) := by
  show ((0 == i) || ((1 == i) || false)) = _
  rw [Bool.or_false, Bool.beq_eq_decide_eq, Bool.beq_eq_decide_eq]
  congr 1
  · exact decide_eq_decide.mpr ⟨fun h => h.symm, fun h => h.symm⟩
  · exact decide_eq_decide.mpr ⟨fun h => h.symm, fun h => h.symm⟩
def sp_is_standing (C : Addr) : Sp := fun vs H Q _ => ∃ (p a : Addr) (ts : List Th) (r : Int) (qs : List Qu) (st : St2), vs = [.ref p, .ref a] ∧ NightAt C H p ts r qs ∧ ts.length ≤ 6 ∧ StAt H a st ∧ st.1.length ≤ 1000 ∧ ∀ H', Same H H' → Q (.bl (isSt ts.length st)) H'
theorem sc_is_standing : FnScope ["night", "standing", "group", "count"] ["night", "standing"] (defScope s_is_standing) := ⟨rfl, rfl, rfl, by decide +kernel, rfl, by decide +kernel, by decide +kernel⟩
theorem ok_is_standing {f f1 f2 f3 : Addr} {fd fd1 fd2 fd3 : FuncData} (F : Fn K mg "is_standing" s_is_standing f fd ["night", "standing"]) (T : Txt K mg C Z) (M_Night_things : Meth K C "things" f1) (F_Night_things : Mt K "things" "Night.things" s_Night_things f1 fd1 ["self"])
    (F_rises : Fn K mg "rises" s_rises f2 fd2 ["group"]) (F_is_thing : Fn K mg "is_thing" s_is_thing f3 fd3 ["number", "count"]) : FnOk P w K mg base CX0 2 f fd ["night", "standing"] (sp_is_standing C) := by
  have G_Night_things : FnOk P w K mg base CX0 1 f1 fd1 ["self"] (sp_nthings C) := ok_nthings F_Night_things T
  have G_rises : FnOk P w K mg base CX0 1 f2 fd2 ["group"] sp_rises := ok_rises F_rises T
  have G_is_thing : FnOk P w K mg base CX0 1 f3 fd3 ["number", "count"] sp_is_thing := ok_is_thing F_is_thing
  refine F.fn.ok sc_is_standing (fun vs H Q E h => ?_) (fun cdv A outer s H vs Q E hr h => ?_)
  · obtain ⟨p, a, ts, r, qs, st, rfl, _⟩ := h
    rfl
  · obtain ⟨p, a, ts, r, qs, st, rfl, N, h6, ⟨b, ha, hb⟩, hl, k⟩ := h
    obtain ⟨dx, t, q, hp, _, _⟩ := id N.ex
    refine ⟨_, (pss_cons (ps_set (i := 2) sc_is_standing.nd (by rfl) (by first | exact Or.inl rfl | exact Or.inr rfl) (pe_ix ix_tup (pv 1) pe_int (fun _ _ => rfl)))
      (pss_cons (ps_set (i := 3) sc_is_standing.nd (by rfl) (by first | exact Or.inl rfl | exact Or.inr rfl) (pe_callB call_len_seq (by rfl) T.n_len PySem.boot_len (pa_cons (pe_meth0 (pv 0) T.cl_Night M_Night_things G_Night_things (hr.mono (by decide)) F_Night_things.b .nil pass0) pa_nil)))
      (pss_one (ps_ret (pe_and (pe_cmpR op_in_seq (pe_ix ix_tup (pv 1) pe_int (fun _ _ => rfl)) (pe_glob (v := .ref Z.SIDES) (by rfl) T.c_SIDES rfl) (by with_unfolding_all rfl)) (pe_and (pe_call G_rises (hr.mono (by decide)) (by rfl) F_rises.g F_rises.fn.kp F_rises.b .nil pass0 (pa_cons (pv 2) pa_nil)) (pe_one (pe_callB (call_all rfl) (by rfl) T.n_all boot_all (pa_cons (pe_comp rfl (N' := ["thing", "count"]) (cap := [none, some 3]) ⟨rfl, by with_unfolding_all rfl⟩ (pi_tup (pv 2)) (fun _ => (pg_name (i := 0) (show (["thing", "count"] : List Str).Nodup by decide +kernel) (by rfl) (by first | exact Or.inl rfl | exact Or.inr rfl))) (fun _ => pifs_nil) (fun _ => (pe_call G_is_thing (hr.mono (by decide)) (by rfl) F_is_thing.g F_is_thing.fn.kp F_is_thing.b .nil pass0 (pa_cons (pv 0) (pa_cons (pv 1) pa_nil))))) pa_nil))))))))), ?_⟩
    refine ⟨_, rfl, a, _, _, _, rfl, rfl, SqT.of ha, at0, ?_⟩
    refine ⟨_, rfl, p, dx, _, rfl, hp, m_things _ _ _, p, ts, r, qs, rfl, N, fun l vs hl' dv => ?_⟩
    have s1 : Same H (L2.upd H l (.lst vs)) := same_new hl'
    have lv := dvs_len dv
    refine ⟨l, _, rfl, .inl (SqL.of upd_same), ?_⟩
    rw [lv]
    refine ⟨_, rfl, a, _, _, _, rfl, rfl, SqT.of (s1 _ _ ha), at1, Z.SIDES, _, rfl, .inr (T.s_SIDES _), rfl, rfl, _, rfl, ?_⟩
    refine iteE (fun h1 => ?_) (fun h1 => ?_)
    · have h1' : (decide (st.2 = 0) || decide (st.2 = 1)) = true := by rw [← in01]; exact h1
      refine ⟨_, rfl, b, st.1, rfl, s1 _ _ hb, hl, fun H2 s2 => ⟨_, rfl, ?_⟩⟩
      refine iteE (fun h2 => ?_) (fun h2 => ?_)
      · refine ⟨_, rfl, b, rfl, ⟨_, SqT.of (s2 _ _ (s1 _ _ hb))⟩, fun D hD => ?_⟩
        refine comp_tup (K := K) (a := b) (ys := st.1.map V.int) (fun i xs H' => Same H2 H' ∧ H' D = some (.lst xs) ∧ xs = (st.1.take i).map fun t => V.bl (inN ts.length t))
          ⟨same_new hD, upd_same, rfl⟩ (fun i xs H' _ ⟨sm, h, _⟩ => ⟨h, SqT.of (sm _ _ (s2 _ _ (s1 _ _ hb)))⟩) ?_ ?_
        · rintro i x xs H' hi ⟨sm, hD', rfl⟩
          rw [List.getElem?_map, Option.map_eq_some_iff] at hi
          obtain ⟨x', hx', rfl⟩ := hi
          refine ⟨Keep.set rfl, ?_⟩
          refine ⟨_, rfl, _, rfl, _, _, rfl, hD', lt_line (by rw [List.length_map, List.length_take]; omega), same_upd sm hD, upd_same, ?_⟩
          rw [List.take_add_one, hx']
          simp [inN]
        · rintro xs H' ⟨sm, hD', rfl⟩
          refine ⟨D, st.1.map (inN ts.length), rfl, SqL.of ?_, ?_⟩
          · rw [hD', List.length_map, List.take_length, List.map_map]
            rfl
          · have k' := k H' (s1.trans (s2.trans sm))
            unfold isSt at k'
            rw [h1', h2, Bool.true_and, Bool.true_and] at k'
            rw [List.all_map]
            exact k'
      · have k' := k H2 (s1.trans s2)
        unfold isSt at k'
        rw [h2, Bool.false_and, Bool.and_false] at k'
        exact k'
    · have h1' : (decide (st.2 = 0) || decide (st.2 = 1)) = false := by rw [← in01]; exact h1
      have k' := k _ s1
      unfold isSt at k'
      rw [h1', Bool.false_and] at k'
      exact k'
def sp_check_standing (C : Addr) (Z : Ad) : Sp := fun vs H Q E => ∃ (p a : Addr) (ts : List Th) (r : Int) (qs : List Qu) (st : St2), vs = [.ref p, .ref a] ∧ NightAt C H p ts r qs ∧ ts.length ≤ 6 ∧ StAt H a st ∧ st.1.length ≤ 1000 ∧
  (isSt ts.length st = true → ∀ H', Same H H' → Q .non H') ∧ (isSt ts.length st = false → ∀ H', Same H H' → E (.ref Z.NoStanding) none H')
/-- the defs that a standing's look goes through -/
structure Lk (K : PySem.W.Frag) (mg : Str → Option Value) (C : Addr) (fs : Nat → Addr) (ds : Nat → FuncData) : Prop where
  m_things : Meth K C "things" (fs 1)
  things : Mt K "things" "Night.things" s_Night_things (fs 1) (ds 1) ["self"]
  m_room : Meth K C "room" (fs 2)
  room : Mt K "room" "Night.room" s_Night_room (fs 2) (ds 2) ["self"]
  m_peace : Meth K C "peace" (fs 3)
  peace : Mt K "peace" "Night.peace" s_Night_peace (fs 3) (ds 3) ["self", "group"]
  is_thing : Fn K mg "is_thing" s_is_thing (fs 4) (ds 4) ["number", "count"]
  rises : Fn K mg "rises" s_rises (fs 5) (ds 5) ["group"]
  is_standing : Fn K mg "is_standing" s_is_standing (fs 6) (ds 6) ["night", "standing"]
  other_bank : Fn K mg "other_bank" s_other_bank (fs 7) (ds 7) ["night", "group"]
  is_good : Fn K mg "is_good" s_is_good (fs 8) (ds 8) ["night", "standing"]
  check_standing : Fn K mg "check_standing" s_check_standing (fs 9) (ds 9) ["night", "standing"]
  check_start : Fn K mg "check_start" s_check_start (fs 10) (ds 10) ["night", "standing"]
  groups_of : Fn K mg "groups_of" s_groups_of (fs 11) (ds 11) ["bank"]
  bank_of_boat : Fn K mg "bank_of_boat" s_bank_of_boat (fs 12) (ds 12) ["night", "standing"]
  is_manned : Fn K mg "is_manned" s_is_manned (fs 13) (ds 13) ["night", "crew"]
  crossed : Fn K mg "crossed" s_crossed (fs 14) (ds 14) ["standing", "crew"]
  crews : Fn K mg "crews" s_crews (fs 15) (ds 15) ["night", "standing"]
variable {fs : Nat → Addr} {ds : Nat → FuncData}
theorem sc_check_standing : FnScope ["night", "standing"] ["night", "standing"] (defScope s_check_standing) := ⟨rfl, rfl, rfl, by decide +kernel, rfl, by decide +kernel, by decide +kernel⟩
theorem ok_check_standing (L : Lk K mg C fs ds) (T : Txt K mg C Z) : FnOk P w K mg base (CXF P w) 3 (fs 9) (ds 9) ["night", "standing"] (sp_check_standing C Z) := by
  have F_is_standing := L.is_standing
  have G_is_standing : FnOk P w K mg base CX0 2 (fs 6) (ds 6) ["night", "standing"] (sp_is_standing C) := ok_is_standing L.is_standing T L.m_things L.things L.rises L.is_thing
  refine L.check_standing.fn.okX sc_check_standing (fun vs H Q E h => ?_) (fun cdv A outer s H vs Q E hr h => ?_)
  · obtain ⟨p, a, ts, r, qs, st, rfl, _⟩ := h
    rfl
  · obtain ⟨p, a, ts, r, qs, st, rfl, N, h6, hst, hl, k1, k2⟩ := h
    refine ⟨_, (pss_one (ps_if (pt_not (pt_val (pe_call G_is_standing (hr.mono (by decide)) (by rfl) F_is_standing.g F_is_standing.fn.kp F_is_standing.b .nil pass0 (pa_cons (pv 0) (pa_cons (pv 1) pa_nil)))))
      (pss_one (ps_raise outs_def rfl (by rfl) T.g_NoStanding T.x_NoStanding PySem.F.excBase_ValueError (pa_cons pe_str pa_nil)))
      pss_nil)), ?_⟩
    refine ⟨_, rfl, _, rfl, p, a, ts, r, qs, st, rfl, N, h6, hst, hl, fun H' sm => ⟨_, rfl, ?_⟩⟩
    refine iteE (fun h1 => ?_) (fun h1 => ?_)
    · exact ⟨le_line (by show 1 ≤ _; decide), k2 (by simpa using h1) H' sm⟩
    · exact k1 (by simpa using h1) H' sm
def sp_check_start (C : Addr) (Z : Ad) : Sp := fun vs H Q E => ∃ (p a : Addr) (ts : List Th) (r : Int) (qs : List Qu) (st : St2), vs = [.ref p, .ref a] ∧ NightAt C H p ts r qs ∧ ts.length ≤ 6 ∧ StAt H a st ∧ st.1.length ≤ 1000 ∧
  (isSt ts.length st = true → isGood qs ts.length st.1 = true → ∀ H', Same H H' → Q .non H') ∧ (isSt ts.length st = false → ∀ H', Same H H' → E (.ref Z.NoStanding) none H') ∧
  (isSt ts.length st = true → isGood qs ts.length st.1 = false → ∀ H', Same H H' → E (.ref Z.BadStart) none H')
theorem sc_check_start : FnScope ["night", "standing"] ["night", "standing"] (defScope s_check_start) := ⟨rfl, rfl, rfl, by decide +kernel, rfl, by decide +kernel, by decide +kernel⟩
theorem ok_check_start (L : Lk K mg C fs ds) (T : Txt K mg C Z) : FnOk P w K mg base (CXF P w) 4 (fs 10) (ds 10) ["night", "standing"] (sp_check_start C Z) := by
  have F_check_standing := L.check_standing
  have F_is_good := L.is_good
  have G_check_standing : FnOk P w K mg base (CXF P w) 3 (fs 9) (ds 9) ["night", "standing"] (sp_check_standing C Z) := ok_check_standing L T
  have G_is_good : FnOk P w K mg base CX0 3 (fs 8) (ds 8) ["night", "standing"] (sp_is_good C) := ok_is_good L.is_good T L.m_things L.things L.m_peace L.peace L.other_bank
  refine L.check_start.fn.okX sc_check_start (fun vs H Q E h => ?_) (fun cdv A outer s H vs Q E hr h => ?_)
  · obtain ⟨p, a, ts, r, qs, st, rfl, _⟩ := h
    rfl
  · obtain ⟨p, a, ts, r, qs, st, rfl, N, h6, hst, hl, k1, k2, k3⟩ := h
    refine ⟨_, (pss_cons (ps_expr (pe_call G_check_standing (hr.mono (by decide)) (by rfl) F_check_standing.g F_check_standing.fn.kp F_check_standing.b .nil passes_def (pa_cons (pv 0) (pa_cons (pv 1) pa_nil))))
      (pss_one (ps_if (pt_not (pt_val (pe_call G_is_good (hr.mono (by decide)) (by rfl) F_is_good.g F_is_good.fn.kp F_is_good.b .nil pass0 (pa_cons (pv 0) (pa_cons (pv 1) pa_nil)))))
      (pss_one (ps_raise outs_def rfl (by rfl) T.g_BadStart T.x_BadStart PySem.F.excBase_ValueError (pa_cons pe_str pa_nil)))
      pss_nil))), ?_⟩
    refine ⟨_, rfl, _, rfl, p, a, ts, r, qs, st, rfl, N, h6, hst, hl, fun hS H1 s1 => ?_, k2⟩
    refine ⟨_, rfl, _, rfl, p, a, ts, r, qs, st, rfl, N.mono s1, h6, hst.mono s1, fun H2 s2 => ⟨_, rfl, ?_⟩⟩
    refine iteE (fun h1 => ?_) (fun h1 => ?_)
    · exact ⟨le_line (by show 1 ≤ _; decide), k3 hS (by simpa using h1) H2 (s1.trans s2)⟩
    · exact k1 hS (by simpa using h1) H2 (s1.trans s2)
def sp_good (C : Addr) (Z : Ad) : Sp := fun vs H Q E => ∃ (p a : Addr) (ts : List Th) (r : Int) (qs : List Qu) (st : St2), vs = [.ref p, .ref a] ∧ NightAt C H p ts r qs ∧ ts.length ≤ 6 ∧ StAt H a st ∧ st.1.length ≤ 1000 ∧
  (isSt ts.length st = true → ∀ H', Same H H' → Q (.bl (isGood qs ts.length st.1)) H') ∧ (isSt ts.length st = false → ∀ H', Same H H' → E (.ref Z.NoStanding) none H')
theorem sc_good : FnScope ["night", "standing"] ["night", "standing"] (defScope s_good) := ⟨rfl, rfl, rfl, by decide +kernel, rfl, by decide +kernel, by decide +kernel⟩
theorem ok_good {f : Addr} {fd : FuncData} (F : Fn K mg "good" s_good f fd ["night", "standing"]) (L : Lk K mg C fs ds) (T : Txt K mg C Z) : FnOk P w K mg base (CXF P w) 4 f fd ["night", "standing"] (sp_good C Z) := by
  have F_check_standing := L.check_standing
  have F_is_good := L.is_good
  have G_check_standing : FnOk P w K mg base (CXF P w) 3 (fs 9) (ds 9) ["night", "standing"] (sp_check_standing C Z) := ok_check_standing L T
  have G_is_good : FnOk P w K mg base CX0 3 (fs 8) (ds 8) ["night", "standing"] (sp_is_good C) := ok_is_good L.is_good T L.m_things L.things L.m_peace L.peace L.other_bank
  refine F.fn.okX sc_good (fun vs H Q E h => ?_) (fun cdv A outer s H vs Q E hr h => ?_)
  · obtain ⟨p, a, ts, r, qs, st, rfl, _⟩ := h
    rfl
  · obtain ⟨p, a, ts, r, qs, st, rfl, N, h6, hst, hl, k1, k2⟩ := h
    refine ⟨_, (pss_cons (ps_expr (pe_call G_check_standing (hr.mono (by decide)) (by rfl) F_check_standing.g F_check_standing.fn.kp F_check_standing.b .nil passes_def (pa_cons (pv 0) (pa_cons (pv 1) pa_nil))))
      (pss_one (ps_ret (pe_call G_is_good (hr.mono (by decide)) (by rfl) F_is_good.g F_is_good.fn.kp F_is_good.b .nil pass0 (pa_cons (pv 0) (pa_cons (pv 1) pa_nil)))))), ?_⟩
    refine ⟨_, rfl, _, rfl, p, a, ts, r, qs, st, rfl, N, h6, hst, hl, fun hS H1 s1 => ?_, k2⟩
    exact ⟨_, rfl, _, rfl, p, a, ts, r, qs, st, rfl, N.mono s1, h6, hst.mono s1, fun H2 s2 => k1 hS H2 (s1.trans s2)⟩

/-! ### groups_of -/
def sp_groups_of : Sp := fun vs H Q _ => ∃ (b : Addr) (bank : List Int), vs = [.ref b] ∧ H b = some (.tup (bank.map V.int)) ∧ bank.length ≤ 6 ∧ ∀ l H', Same H H' → LstAt grD H' l (gOf bank) → Q (.ref l) H'
theorem sc_groups_of : FnScope ["bank", "groups", "thing"] ["bank"] (defScope s_groups_of) := ⟨rfl, rfl, rfl, by decide +kernel, rfl, by decide +kernel, by decide +kernel⟩
theorem ok_groups_of {f : Addr} {fd : FuncData} (F : Fn K mg "groups_of" s_groups_of f fd ["bank"]) : FnOk P w K mg base CX0 1 f fd ["bank"] sp_groups_of := by
  refine F.fn.ok sc_groups_of (fun vs H Q E h => ?_) (fun cdv A outer s H vs Q E hr h => ?_)
  · obtain ⟨b, bank, rfl, _⟩ := h
    rfl
  · obtain ⟨b, bank, rfl, hb, h6, k⟩ := h
    refine ⟨_, (pss_cons (ps_set (i := 1) sc_groups_of.nd (by rfl) (by first | exact Or.inl rfl | exact Or.inr rfl) (pe_lst (pa_cons (pe_tup pa_nil) pa_nil)))
      (pss_cons (ps_for PassesOwn.never rfl (pi_tup (pv 0)) (pg_name (i := 2) sc_groups_of.nd (by rfl) (by first | exact Or.inl rfl | exact Or.inr rfl))
      (pss_one (ps_set (i := 1) sc_groups_of.nd (by rfl) (by first | exact Or.inl rfl | exact Or.inr rfl) (pe_op op_cat (pv 1) (pe_comp rfl (N' := ["group", "thing"]) (cap := [none, some 2]) ⟨rfl, by with_unfolding_all rfl⟩ (pi_list (pv 1)) (fun _ => (pg_name (i := 0) (show (["group", "thing"] : List Str).Nodup by decide +kernel) (by rfl) (by first | exact Or.inl rfl | exact Or.inr rfl))) (fun _ => pifs_nil) (fun _ => (pe_op (cat0K (K := K) rfl) (pv 0) (pe_tup (pa_cons (pv 1) pa_nil)))))))))
      (pss_one (ps_ret (pv 1))))), ?_⟩
    refine ⟨le_line (by show 0 ≤ _; decide), fun e he => ?_⟩
    have s1 : Same H (L2.upd H e (.tup [])) := same_new he
    refine ⟨le_line (by show 1 ≤ _; decide), fun l0 hl0 => ?_⟩
    have s2 : Same (L2.upd H e (.tup [])) (L2.upd (L2.upd H e (.tup [])) l0 (.lst [.ref e])) := same_new hl0
    refine ⟨_, rfl, b, rfl, ⟨_, SqT.of (s2 _ _ (s1 _ _ hb))⟩, for_tup (K := K) (a := b) (xs := bank.map V.int) (fun i σ H' => Same H H' ∧ ∃ l v, σ = [some (.ref b), some (.ref l), v] ∧ LstAt grD H' l (gOf (bank.take i)))
      ⟨s1.trans s2, l0, _, rfl, [.ref e], upd_same, .cons (.tup (s2 _ _ upd_same) .nil) .nil⟩ (fun i σ H' _ ⟨sm, _⟩ => SqT.of (sm _ _ hb)) ?_ ?_⟩
    · rintro i x σ H1 hi ⟨sm, l, v, rfl, vs, hl, dv⟩
      rw [List.getElem?_map, Option.map_eq_some_iff] at hi
      obtain ⟨t, ht, rfl⟩ := hi
      have ib : i < bank.length := (List.getElem?_eq_some_iff.mp ht).1
      have lg : (gOf (bank.take i)).length ≤ 64 := by
        rw [gOf_len, List.length_take]
        exact Nat.le_trans (Nat.pow_le_pow_right (by decide) (show min i bank.length ≤ 6 by omega)) (by decide)
      have lv := dvs_len dv
      refine ⟨_, rfl, _, rfl, l, rfl, ⟨_, SqL.of hl⟩, fun D hD => ?_⟩
      refine comp_list (K := K) (a := l) (ys := vs) (fun j xs H' => Same H1 H' ∧ H' D = some (.lst xs) ∧ xs.length = j ∧ DVs H' (((gOf (bank.take i)).take j).map (fun g => grD (g ++ [t]))) xs)
        ⟨same_new hD, upd_same, rfl, .nil⟩ (fun j xs H' _ ⟨s3, h, _⟩ => ⟨h, SqL.of (s3 _ _ hl)⟩) ?_ ?_
      · rintro j y xs H2 hj ⟨s3, hD2, lx, dx⟩
        obtain ⟨g, hg, dg⟩ := dvs_get dv hj
        obtain ⟨c, rfl, hc⟩ := gr_inv dg
        have hc2 := s3 _ _ hc
        have hj' := (List.getElem?_eq_some_iff.mp hj).1
        have gl : g.length ≤ 6 := by
          have := (gOf_sub (List.mem_of_getElem? hg)).length_le
          rw [List.length_take] at this
          omega
        refine ⟨Keep.set rfl, ?_⟩
        refine ⟨_, rfl, _, rfl, le_line (by show 1 ≤ _; decide), fun o ho => ?_⟩
        have s4 : Same H2 (L2.upd H2 o (.tup [.int t])) := same_new ho
        have fin : ∀ (H3 : Hp) (y : V), Same H2 H3 → DV H3 (grD (g ++ [t])) y → H3 D = some (.lst xs) ∧ xs.length < sizeLine ∧ (Same H1 (L2.upd H3 D (.lst (xs ++ [y]))) ∧ (L2.upd H3 D (.lst (xs ++ [y]))) D = some (.lst (xs ++ [y])) ∧ (xs ++ [y]).length = j + 1 ∧
            DVs (L2.upd H3 D (.lst (xs ++ [y]))) (((gOf (bank.take i)).take (j + 1)).map (fun g => grD (g ++ [t]))) (xs ++ [y])) := by
          intro H3 y s5 dy
          have hD3 := s5 _ _ hD2
          refine ⟨hD3, lt_line (by omega), same_upd (s3.trans s5) hD, upd_same, by simp [lx], ?_⟩
          rw [List.take_add_one, hg, List.map_append]
          exact (dvs_upd hD3 (dx.mono s5) (noLsts_map (fun g => gr_no _) _)).snoc (dv_upd hD3 dy (gr_no _))
        refine ⟨c, o, _, _, rfl, rfl, SqT.of (s4 _ _ hc2), SqT.of upd_same, le_line (by simp; omega), fun z => ?_, (fun _ z => by cases z), fun z _ o2 ho2 => ?_⟩
        · have gz : g = [] := by simpa using z
          refine fin _ _ s4 (gr_dv ?_)
          rw [gz]; exact upd_same
        · refine fin _ _ (s4.trans (same_new ho2)) (gr_dv ?_)
          rw [List.map_append]; exact upd_same
      · rintro xs H2 ⟨s3, hD2, lx, dx⟩
        rw [List.take_of_length_le (by omega)] at dx
        refine ⟨l, D, vs, xs, rfl, rfl, s3 _ _ hl, hD2, le_line (by omega), fun l2 hl2 => ?_⟩
        have s4 : Same H2 (L2.upd H2 l2 (.lst (vs ++ xs))) := same_new hl2
        refine ⟨sm.trans (s3.trans s4), l2, _, rfl, vs ++ xs, upd_same, ?_⟩
        have eb : bank.take (i + 1) = bank.take i ++ [t] := by rw [List.take_add_one, ht]; rfl
        rw [eb, gOf_snoc, List.map_append, List.map_map]
        exact (dv.mono (s3.trans s4)).append (dx.mono s4)
    · rintro σ H1 ⟨sm, l, v, rfl, hL⟩
      rw [List.length_map, List.take_length] at hL
      exact ⟨_, rfl, k l H1 sm hL⟩

/-! ### bank_of_boat, is_manned -/
def sp_bank (C : Addr) : Sp := fun vs H Q _ => ∃ (p a : Addr) (ts : List Th) (r : Int) (qs : List Qu) (st : St2), vs = [.ref p, .ref a] ∧ NightAt C H p ts r qs ∧ ts.length ≤ 6 ∧ StAt H a st ∧ ∀ l H', Same H H' → H' l = some (.tup ((bankOf ts.length st).map V.int)) → Q (.ref l) H'
theorem sc_bank_of_boat : FnScope ["night", "standing"] ["night", "standing"] (defScope s_bank_of_boat) := ⟨rfl, rfl, rfl, by decide +kernel, rfl, by decide +kernel, by decide +kernel⟩
theorem ok_bank (L : Lk K mg C fs ds) (T : Txt K mg C Z) : FnOk P w K mg base CX0 3 (fs 12) (ds 12) ["night", "standing"] (sp_bank C) := by
  have F_other_bank := L.other_bank
  have G_other_bank : FnOk P w K mg base CX0 2 (fs 7) (ds 7) ["night", "group"] (sp_other_bank C) := ok_other_bank L.other_bank T L.m_things L.things
  refine L.bank_of_boat.fn.ok sc_bank_of_boat (fun vs H Q E h => ?_) (fun cdv A outer s H vs Q E hr h => ?_)
  · obtain ⟨p, a, ts, r, qs, st, rfl, _⟩ := h
    rfl
  · obtain ⟨p, a, ts, r, qs, st, rfl, N, h6, ⟨b, ha, hb⟩, k⟩ := h
    refine ⟨_, (pss_cons (ps_if (pt_cmpR op_eq (pe_ix ix_tup (pv 1) pe_int (fun _ _ => rfl)) pe_int (nomark _))
      (pss_one (ps_ret (pe_ix ix_tup (pv 1) pe_int (fun _ _ => rfl))))
      pss_nil)
      (pss_one (ps_ret (pe_call G_other_bank (hr.mono (by decide)) (by rfl) F_other_bank.g F_other_bank.fn.kp F_other_bank.b .nil pass0 (pa_cons (pv 0) (pa_cons (pe_ix ix_tup (pv 1) pe_int (fun _ _ => rfl)) pa_nil)))))), ?_⟩
    refine ⟨_, rfl, a, _, _, _, rfl, rfl, SqT.of ha, at1, rfl, _, rfl, ?_⟩
    refine iteE (fun h1 => ?_) (fun h1 => ?_)
    · have e : st.2 = 0 := by have := of_decide_eq_true h1; injection this
      refine ⟨_, rfl, a, _, _, _, rfl, rfl, SqT.of ha, at0, k b H (Same.refl H) ?_⟩
      unfold bankOf
      rw [if_pos e]; exact hb
    · have e : ¬ st.2 = 0 := fun z => by rw [z] at h1; exact absurd h1 (by simp)
      refine ⟨_, rfl, _, rfl, a, _, _, _, rfl, rfl, SqT.of ha, at0, p, b, ts, r, qs, st.1, rfl, N, h6, hb, fun l H' sm hl => k l H' sm ?_⟩
      unfold bankOf
      rw [if_neg e]; exact hl
def sp_manned (C : Addr) : Sp := fun vs H Q _ => ∃ (p b : Addr) (ts : List Th) (r : Int) (qs : List Qu) (c : List Int), vs = [.ref p, .ref b] ∧ NightAt C H p ts r qs ∧ ts.length ≤ 6 ∧ H b = some (.tup (c.map V.int)) ∧ c.length ≤ 1000 ∧ (∀ t ∈ c, 0 ≤ t ∧ t < (ts.length : Int)) ∧
  ∀ H', Same H H' → Q (.bl (manned ts r c)) H'
theorem th_at {H : Hp} {ts : List Th} {vs : List V} {t : Int} (dv : DVs H (ts.map thD) vs) (h0 : 0 ≤ t) (h1 : t < (ts.length : Int)) : ∃ b, atI vs t = some (.ref b) ∧ H b = some (.tup [.int (paceAt ts t), .bl (rowsAt ts t)]) := by
  have hj : t.toNat < ts.length := by omega
  have e : ts[t.toNat]? = some (ts.getD t.toNat (0, false)) := by simp [hj]
  obtain ⟨v, hv, d⟩ := dv.get (i := t.toNat) (d := thD (ts.getD t.toNat (0, false))) (by rw [List.getElem?_map, e]; rfl)
  obtain ⟨b, rfl, hb⟩ := th_inv d
  refine ⟨b, ?_, hb⟩
  have q := atI_nat hv
  rwa [show ((t.toNat : Nat) : Int) = t by omega] at q
theorem sc_is_manned : FnScope ["night", "crew", "things"] ["night", "crew"] (defScope s_is_manned) := ⟨rfl, rfl, rfl, by decide +kernel, rfl, by decide +kernel, by decide +kernel⟩
theorem ok_manned (L : Lk K mg C fs ds) (T : Txt K mg C Z) : FnOk P w K mg base CX0 2 (fs 13) (ds 13) ["night", "crew"] (sp_manned C) := by
  have F_Night_things := L.things
  have F_Night_room := L.room
  have M_Night_things := L.m_things
  have M_Night_room := L.m_room
  have G_Night_things : FnOk P w K mg base CX0 1 (fs 1) (ds 1) ["self"] (sp_nthings C) := ok_nthings L.things T
  have G_Night_room : FnOk P w K mg base CX0 1 (fs 2) (ds 2) ["self"] (sp_nroom C) := ok_nroom L.room T
  refine L.is_manned.fn.ok sc_is_manned (fun vs H Q E h => ?_) (fun cdv A outer s H vs Q E hr h => ?_)
  · obtain ⟨p, b, ts, r, qs, c, rfl, _⟩ := h
    rfl
  · obtain ⟨p, b, ts, r, qs, c, rfl, N, h6, hb, hc, hin, k⟩ := h
    obtain ⟨dx, t, q, hp, _, _⟩ := id N.ex
    refine ⟨_, (pss_cons (ps_set (i := 2) sc_is_manned.nd (by rfl) (by first | exact Or.inl rfl | exact Or.inr rfl) (pe_meth0 (pv 0) T.cl_Night M_Night_things G_Night_things (hr.mono (by decide)) F_Night_things.b .nil pass0))
      (pss_one (ps_ret (pe_and (pe_chain op_le op_le pe_int (pe_callB call_len_seq (by rfl) T.n_len PySem.boot_len (pa_cons (pv 1) pa_nil)) (pe_meth0 (pv 0) T.cl_Night M_Night_room G_Night_room (hr.mono (by decide)) F_Night_room.b .nil pass0)) (pe_one (pe_callB (call_any rfl) (by rfl) T.n_any boot_any (pa_cons (pe_comp rfl (N' := ["thing", "things"]) (cap := [none, some 2]) ⟨rfl, by with_unfolding_all rfl⟩ (pi_tup (pv 1)) (fun _ => (pg_name (i := 0) (show (["thing", "things"] : List Str).Nodup by decide +kernel) (by rfl) (by first | exact Or.inl rfl | exact Or.inr rfl))) (fun _ => pifs_nil) (fun _ => (pe_ix (ixTK (K := K) rfl) (pe_ix (ixLK (K := K) rfl) (pv 1) (pv 0) (fun _ _ => rfl)) pe_int (fun _ _ => rfl)))) pa_nil))))))), ?_⟩
    refine ⟨_, rfl, p, dx, _, rfl, hp, m_things _ _ _, p, ts, r, qs, rfl, N, fun l vs hl dv => ?_⟩
    have s1 : Same H (L2.upd H l (.lst vs)) := same_new hl
    have dv1 := dv.mono s1
    have N1 := N.mono s1
    have hb1 := s1 _ _ hb
    have hl1 : (L2.upd H l (.lst vs)) l = some (.lst vs) := upd_same
    have hp1 := s1 _ _ hp
    generalize L2.upd H l (.lst vs) = H1 at s1 dv1 N1 hb1 hl1 hp1 ⊢
    refine ⟨_, rfl, b, _, rfl, .inr (SqT.of hb1), _, _, rfl, rfl, _, rfl, ?_⟩
    rw [List.length_map]
    refine iteE (fun h1 => ?_) (fun h1 => ?_)
    · refine ⟨_, rfl, p, dx, _, rfl, hp1, m_room _ _ _, p, ts, r, qs, rfl, N1, _, _, rfl, rfl, _, rfl, ?_⟩
      refine iteE (fun h2 => ?_) (fun h2 => ?_)
      · have hm : decide (1 ≤ (c.length : Int) ∧ (c.length : Int) ≤ r) = true := decide_eq_true ⟨of_decide_eq_true h1, of_decide_eq_true h2⟩
        refine ⟨_, rfl, b, rfl, ⟨_, SqT.of hb1⟩, fun D hD => ?_⟩
        refine comp_tup (K := K) (a := b) (ys := c.map V.int) (fun i xs H' => Same H1 H' ∧ H' D = some (.lst xs) ∧ xs = (c.take i).map fun t => V.bl (rowsAt ts t))
          ⟨same_new hD, upd_same, rfl⟩ (fun i xs H' _ ⟨sm, h, _⟩ => ⟨h, SqT.of (sm _ _ hb1)⟩) ?_ ?_
        · rintro i x xs H' hi ⟨sm, hD', rfl⟩
          rw [List.getElem?_map, Option.map_eq_some_iff] at hi
          obtain ⟨x', hx', rfl⟩ := hi
          obtain ⟨x0, x1⟩ := hin x' (List.mem_of_getElem? hx')
          obtain ⟨o, ho1, ho2⟩ := th_at dv1 x0 x1
          refine ⟨Keep.set rfl, ?_⟩
          refine ⟨_, rfl, _, rfl, l, _, _, _, rfl, rfl, SqL.of (sm _ _ hl1), ho1, o, _, _, _, rfl, rfl, SqT.of (sm _ _ ho2), at1, hD', lt_line (by rw [List.length_map, List.length_take]; omega), same_upd sm hD, upd_same, ?_⟩
          rw [List.take_add_one, hx']
          simp
        · rintro xs H' ⟨sm, hD', rfl⟩
          refine ⟨D, c.map (rowsAt ts), rfl, SqL.of ?_, ?_⟩
          · rw [hD', List.length_map, List.take_length, List.map_map]
            rfl
          · have k' := k H' (s1.trans sm)
            unfold manned at k'
            rw [hm, Bool.true_and] at k'
            rw [List.any_map]
            exact k'
      · have hm : decide (1 ≤ (c.length : Int) ∧ (c.length : Int) ≤ r) = false := decide_eq_false fun z => by rw [decide_eq_true z.2] at h2; cases h2
        have k' := k _ s1
        unfold manned at k'
        rw [hm, Bool.false_and] at k'
        exact k'
    · have hm : decide (1 ≤ (c.length : Int) ∧ (c.length : Int) ≤ r) = false := decide_eq_false fun z => by rw [decide_eq_true z.1] at h1; cases h1
      have k' := k _ s1
      unfold manned at k'
      rw [hm, Bool.false_and] at k'
      exact ⟨_, rfl, iteF k'⟩
end
end FN


set_option Elab.async false
set_option linter.all false
set_option maxRecDepth 100000
set_option maxHeartbeats 4000000
namespace FN
open PySem L2 PyProof.Rows
/-! ### crossed -/
theorem merged {n : Nat} {g c ns : List Int} (hg : g.Pairwise (· < ·)) (hgn : ∀ t ∈ g, 0 ≤ t ∧ t < (n : Int)) (hc : c.Pairwise (· < ·)) (hcn : ∀ t ∈ c, (0 ≤ t ∧ t < (n : Int)) ∧ t ∉ g) (hp : ns.Perm (g ++ c)) (hs : ns.Pairwise (· ≤ ·)) :
    ns = (till n).filter fun t => g.contains t || c.contains t := by
  have nd : (g ++ c).Nodup := by
    rw [List.nodup_append]
    refine ⟨hg.imp (fun h => Int.ne_of_lt h), hc.imp (fun h => Int.ne_of_lt h), fun a ha b hb e => ?_⟩
    exact (hcn b hb).2 (by rw [← e]; exact ha)
  have nd2 : ns.Nodup := hp.nodup_iff.mpr nd
  have pw : ns.Pairwise (· < ·) := by
    have := hs.and nd2
    exact this.imp fun h => by have h1 := h.1; have h2 := h.2; omega
  refine sorted_ext pw (filter_pw _ (till_pw n)) fun x => ?_
  rw [hp.mem_iff, List.mem_append, List.mem_filter, Bool.or_eq_true, contains_iff, contains_iff, mem_till]
  constructor
  · rintro (h | h)
    · exact ⟨hgn x h, .inl h⟩
    · exact ⟨(hcn x h).1, .inr h⟩
  · rintro ⟨_, h⟩
    exact h
section
variable {P : Program} {w : World} {K : PySem.W.Frag} {mg : Str → Option Value} {base : Heap} {C : Addr} {Z : Ad} {fs : Nat → Addr} {ds : Nat → FuncData}
def sp_crossed : Sp := fun vs H Q _ => ∃ (a b : Addr) (st : St2) (c : List Int) (n : Nat), vs = [.ref a, .ref b] ∧ StAt H a st ∧ H b = some (.tup (c.map V.int)) ∧ isSt n st = true ∧ n ≤ 6 ∧ c.Sublist (bankOf n st) ∧
  ∀ l H', Same H H' → StAt H' l (behind n st c) → Q (.ref l) H'
theorem sc_crossed : FnScope ["standing", "crew"] ["standing", "crew"] (defScope s_crossed) := ⟨rfl, rfl, rfl, by decide +kernel, rfl, by decide +kernel, by decide +kernel⟩
theorem ok_crossed {f : Addr} {fd : FuncData} (F : Fn K mg "crossed" s_crossed f fd ["standing", "crew"]) (T : Txt K mg C Z) : FnOk P w K mg base CX0 1 f fd ["standing", "crew"] sp_crossed := by
  refine F.fn.ok sc_crossed (fun vs H Q E h => ?_) (fun cdv A outer s H vs Q E hr h => ?_)
  · obtain ⟨a, b, st, c, n, rfl, _⟩ := h
    rfl
  · obtain ⟨a, b, st, c, n, rfl, ⟨g0, ha, hg0⟩, hb, hS, h6, hsub, k⟩ := h
    obtain ⟨hpw, hin, h01⟩ := isSt_grp hS
    have lg : st.1.length ≤ 6 := by
      have e := grp_filter hpw hin
      have : ((till n).filter fun t => st.1.contains t).length ≤ n := Nat.le_trans (List.length_filter_le _ _) (by rw [till_length]; exact Nat.le_refl _)
      rw [e] at this
      omega
    have lc : c.length ≤ 6 := Nat.le_trans hsub.length_le (Nat.le_trans (bank_len hS) h6)
    refine ⟨_, (pss_cons (ps_if (pt_cmpR op_eq (pe_ix ix_tup (pv 0) pe_int (fun _ _ => rfl)) pe_int (nomark _))
      (pss_one (ps_ret (pe_tup (pa_cons (pe_callTy call_tuple_of (by rfl) T.n_tuple boot_tuple (pa_cons (pe_comp rfl (N' := ["thing", "crew"]) (cap := [none, some 1]) ⟨rfl, by with_unfolding_all rfl⟩ (pi_tup (pe_ix ix_tup (pv 0) pe_int (fun _ _ => rfl))) (fun _ => (pg_name (i := 0) (show (["thing", "crew"] : List Str).Nodup by decide +kernel) (by rfl) (by first | exact Or.inl rfl | exact Or.inr rfl))) (fun _ => (pifs_one (pt_cmpR (notInK (K := K) rfl) (pv 0) (pv 1) (by with_unfolding_all rfl)))) (fun _ => (pv 0))) pa_nil)) (pa_cons pe_int pa_nil)))))
      pss_nil)
      (pss_one (ps_ret (pe_tup (pa_cons (pe_callTy call_tuple_of (by rfl) T.n_tuple boot_tuple (pa_cons (pe_callB call_sortedI (by rfl) T.n_sorted boot_sorted (pa_cons (pe_op op_cat0 (pe_ix ix_tup (pv 0) pe_int (fun _ _ => rfl)) (pv 1)) pa_nil)) pa_nil)) (pa_cons pe_int pa_nil)))))), ?_⟩
    refine ⟨_, rfl, a, _, _, _, rfl, rfl, SqT.of ha, at1, rfl, _, rfl, ?_⟩
    refine iteE (fun h1 => ?_) (fun h1 => ?_)
    · have e : st.2 = 0 := by have := of_decide_eq_true h1; injection this
      refine ⟨_, rfl, a, _, _, _, rfl, rfl, SqT.of ha, at0, g0, rfl, ⟨_, SqT.of hg0⟩, fun D hD => ?_⟩
      refine comp_tup (K := K) (a := g0) (ys := st.1.map V.int) (fun i xs H' => Same H H' ∧ H' D = some (.lst xs) ∧ xs = ((st.1.take i).filter fun t => !c.contains t).map V.int)
        ⟨same_new hD, upd_same, rfl⟩ (fun i xs H' _ ⟨sm, h, _⟩ => ⟨h, SqT.of (sm _ _ hg0)⟩) ?_ ?_
      · rintro i x xs H' hi ⟨sm, hD', rfl⟩
        rw [List.getElem?_map, Option.map_eq_some_iff] at hi
        obtain ⟨t, ht, rfl⟩ := hi
        have sl : ((st.1.take i).filter fun t => !c.contains t).length ≤ 6 := Nat.le_trans (List.length_filter_le _ _) (by rw [List.length_take]; omega)
        refine ⟨Keep.set rfl, ?_⟩
        refine ⟨_, rfl, _, rfl, b, _, rfl, .inr (SqT.of (sm _ _ hb)), rfl, flat_ints c, _, rfl, ?_⟩
        rw [inV_ints]
        have et : st.1.take (i + 1) = st.1.take i ++ [t] := by rw [List.take_add_one, ht]; rfl
        refine iteE (fun h2 => ?_) (fun h2 => ?_)
        · have h2' : (!c.contains t) = true := h2
          refine ⟨_, rfl, hD', lt_line (by rw [List.length_map]; omega), same_upd sm hD, upd_same, ?_⟩
          have ef : [t].filter (fun t => !c.contains t) = [t] := by rw [List.filter_cons, if_pos h2']; rfl
          rw [et, List.filter_append, List.map_append, ef]
          rfl
        · have h2' : (!c.contains t) = false := h2
          refine ⟨sm, hD', ?_⟩
          have ef : [t].filter (fun t => !c.contains t) = [] := by rw [List.filter_cons, if_neg (by rw [h2']; simp)]; rfl
          rw [et, List.filter_append, List.map_append, ef]
          simp
      · rintro xs H' ⟨sm, hD', rfl⟩
        rw [List.length_map, List.take_length] at hD'
        refine ⟨D, _, rfl, .inl ⟨SqL.of hD', fun o ho => ?_⟩⟩
        have s2 : Same H' (L2.upd H' o (.tup ((st.1.filter fun t => !c.contains t).map V.int))) := same_new ho
        refine ⟨le_line (by show 2 ≤ _; decide), fun o2 ho2 => ?_⟩
        have s3 := same_new (o := .tup [.ref o, .int 1]) ho2
        refine k o2 _ (sm.trans (s2.trans s3)) ?_
        unfold behind
        rw [if_pos e]
        exact ⟨o, upd_same, s3 _ _ upd_same⟩
    · have e : ¬ st.2 = 0 := fun z => by rw [z] at h1; exact absurd h1 (by simp)
      have hbk : bankOf n st = restOf n st.1 := by unfold bankOf; rw [if_neg e]
      rw [hbk] at hsub
      have hcn : ∀ t ∈ c, (0 ≤ t ∧ t < (n : Int)) ∧ t ∉ st.1 := fun t ht => by
        obtain ⟨z1, z2⟩ := List.mem_filter.mp (hsub.subset ht)
        refine ⟨mem_till.mp z1, fun z => ?_⟩
        rw [contains_iff.mpr z] at z2
        cases z2
      have hcp : c.Pairwise (· < ·) := List.Pairwise.sublist hsub (filter_pw _ (till_pw n))
      have tail : ∀ (x : Addr) (H1 : Hp), Same H H1 → H1 x = some (.tup ((st.1 ++ c).map V.int)) → ∃ (p : Addr) (ns : List Int), [V.ref x] = [V.ref p] ∧ SqT K H1 p (ns.map V.int) ∧ ns.length < 64 ∧ ∀ (l : Addr) (ns' : List Int), H1 l = none → ns'.Perm ns → ns'.Pairwise (· ≤ ·) →
          ∃ (p' : Addr) (ys : List V), [V.ref l] = [V.ref p'] ∧ ((SqL K (L2.upd H1 l (.lst (ns'.map V.int))) p' ys ∧ ∀ l2 : Addr, (L2.upd H1 l (.lst (ns'.map V.int))) l2 = none → [V.ref l2, V.int 0].length ≤ sizeLine ∧ ∀ o : Addr, (L2.upd (L2.upd H1 l (.lst (ns'.map V.int))) l2 (.tup ys)) o = none →
            Q (.ref o) (L2.upd (L2.upd (L2.upd H1 l (.lst (ns'.map V.int))) l2 (.tup ys)) o (.tup [.ref l2, .int 0]))) ∨ (SqT K (L2.upd H1 l (.lst (ns'.map V.int))) p' ys ∧ [V.ref p', V.int 0].length ≤ sizeLine ∧ ∀ o : Addr, (L2.upd H1 l (.lst (ns'.map V.int))) o = none →
            Q (.ref o) (L2.upd (L2.upd H1 l (.lst (ns'.map V.int))) o (.tup [.ref p', .int 0])))) := by
        intro x H1 s1 hx
        refine ⟨x, st.1 ++ c, rfl, SqT.of hx, by rw [List.length_append]; omega, fun l ns' hl hp hs => ⟨l, _, rfl, .inl ⟨SqL.of upd_same, fun l2 hl2 => ⟨le_line (by show 2 ≤ _; decide), fun o ho => ?_⟩⟩⟩⟩
        have s2 : Same H1 (L2.upd H1 l (.lst (ns'.map V.int))) := same_new hl
        have s3 := same_new (o := .tup (ns'.map V.int)) hl2
        have s4 := same_new (o := .tup [.ref l2, .int 0]) ho
        refine k o _ (s1.trans (s2.trans (s3.trans s4))) ?_
        unfold behind
        rw [if_neg e, ← merged hpw hin hcp hcn hp hs]
        exact ⟨l2, upd_same, s4 _ _ upd_same⟩
      refine ⟨_, rfl, a, _, _, _, rfl, rfl, SqT.of ha, at0, _, rfl, g0, b, _, _, rfl, rfl, SqT.of hg0, SqT.of hb, le_line (by simp; omega), fun z => ?_, fun z z2 => ?_, fun z z2 o ho => ?_⟩
      · have gz : st.1 = [] := by simpa using z
        exact tail b H (Same.refl H) (by rw [gz]; exact hb)
      · have cz : c = [] := by simpa using z2
        exact tail g0 H (Same.refl H) (by rw [cz, List.append_nil]; exact hg0)
      · exact tail o _ (same_new ho) (by rw [List.map_append]; exact upd_same)

/-! ### crews -/
theorem dvs_filter_snoc {H : Hp} {gs : List (List Int)} {xs : List V} {i : Nat} {g : List Int} {q : List Int → Bool} (hg : gs[i]? = some g) (hq : q g = false) (dx : DVs H (((gs.take i).filter q).map grD) xs) : DVs H (((gs.take (i + 1)).filter q).map grD) xs := by
  have e : gs.take (i + 1) = gs.take i ++ [g] := by rw [List.take_add_one, hg]; rfl
  have ef : [g].filter q = [] := by rw [List.filter_cons, if_neg (by rw [hq]; simp)]; rfl
  rw [e, List.filter_append, ef, List.append_nil]
  exact dx
theorem filter_snoc {gs : List (List Int)} {i : Nat} {g : List Int} {q : List Int → Bool} (hg : gs[i]? = some g) (hq : q g = true) : (gs.take (i + 1)).filter q = (gs.take i).filter q ++ [g] := by
  have e : gs.take (i + 1) = gs.take i ++ [g] := by rw [List.take_add_one, hg]; rfl
  have ef : [g].filter q = [g] := by rw [List.filter_cons, if_pos hq]; rfl
  rw [e, List.filter_append, ef]
def sp_crews (C : Addr) (Z : Ad) : Sp := fun vs H Q E => ∃ (p a : Addr) (ts : List Th) (r : Int) (qs : List Qu) (st : St2), vs = [.ref p, .ref a] ∧ NightAt C H p ts r qs ∧ ts.length ≤ 6 ∧ StAt H a st ∧ st.1.length ≤ 1000 ∧
  (isSt ts.length st = true → isGood qs ts.length st.1 = true → ∀ l H', H l = none → Same H H' → LstAt grD H' l (crewsOf ts r qs st) → Q (.ref l) H') ∧ (isSt ts.length st = false → ∀ H', Same H H' → E (.ref Z.NoStanding) none H') ∧
  (isSt ts.length st = true → isGood qs ts.length st.1 = false → ∀ H', Same H H' → E (.ref Z.BadStart) none H')
theorem sc_crews : FnScope ["night", "standing", "manned"] ["night", "standing"] (defScope s_crews) := ⟨rfl, rfl, rfl, by decide +kernel, rfl, by decide +kernel, by decide +kernel⟩
theorem ok_crews (L : Lk K mg C fs ds) (T : Txt K mg C Z) : FnOk P w K mg base (CXF P w) 5 (fs 15) (ds 15) ["night", "standing"] (sp_crews C Z) := by
  have F_check_start := L.check_start
  have F_is_good := L.is_good
  have F_groups_of := L.groups_of
  have F_bank_of_boat := L.bank_of_boat
  have F_is_manned := L.is_manned
  have F_crossed := L.crossed
  have G_check_start : FnOk P w K mg base (CXF P w) 4 (fs 10) (ds 10) ["night", "standing"] (sp_check_start C Z) := ok_check_start L T
  have G_is_good : FnOk P w K mg base CX0 3 (fs 8) (ds 8) ["night", "standing"] (sp_is_good C) := ok_is_good L.is_good T L.m_things L.things L.m_peace L.peace L.other_bank
  have G_groups_of : FnOk P w K mg base CX0 1 (fs 11) (ds 11) ["bank"] sp_groups_of := ok_groups_of L.groups_of
  have G_bank_of_boat : FnOk P w K mg base CX0 3 (fs 12) (ds 12) ["night", "standing"] (sp_bank C) := ok_bank L T
  have G_is_manned : FnOk P w K mg base CX0 2 (fs 13) (ds 13) ["night", "crew"] (sp_manned C) := ok_manned L T
  have G_crossed : FnOk P w K mg base CX0 1 (fs 14) (ds 14) ["standing", "crew"] sp_crossed := ok_crossed L.crossed T
  refine L.crews.fn.okX sc_crews (fun vs H Q E h => ?_) (fun cdv A outer s H vs Q E hr h => ?_)
  · obtain ⟨p, a, ts, r, qs, st, rfl, _⟩ := h
    rfl
  · obtain ⟨p, a, ts, r, qs, st, rfl, N, h6, hst, hl, k1, k2, k3⟩ := h
    refine ⟨_, (pss_cons (ps_expr (pe_call G_check_start (hr.mono (by decide)) (by rfl) F_check_start.g F_check_start.fn.kp F_check_start.b .nil passes_def (pa_cons (pv 0) (pa_cons (pv 1) pa_nil))))
      (pss_cons (ps_setC (j := 2) rfl (N' := ["crew", "night"]) (cap := [none, some 0]) ⟨rfl, by with_unfolding_all rfl⟩ (pi_list (pe_call G_groups_of (hr.mono (by decide)) (by rfl) F_groups_of.g F_groups_of.fn.kp F_groups_of.b .nil pass0 (pa_cons (pe_call G_bank_of_boat (hr.mono (by decide)) (by rfl) F_bank_of_boat.g F_bank_of_boat.fn.kp F_bank_of_boat.b .nil pass0 (pa_cons (pv 0) (pa_cons (pv 1) pa_nil))) pa_nil))) (fun _ => (pg_name (i := 0) (show (["crew", "night"] : List Str).Nodup by decide +kernel) (by rfl) (by first | exact Or.inl rfl | exact Or.inr rfl))) (fun _ => (pifs_one (pt_val (pe_call G_is_manned (hr.mono (by decide)) (by rfl) F_is_manned.g F_is_manned.fn.kp F_is_manned.b .nil pass0 (pa_cons (pv 1) (pa_cons (pv 0) pa_nil)))))) (fun _ => (pv 0)) sc_crews.nd (by rfl) (by rfl) (by with_unfolding_all rfl))
      (pss_one (ps_ret (pe_callB call_sortedT (by rfl) T.n_sorted boot_sorted (pa_cons (pe_comp rfl (N' := ["crew", "night", "standing"]) (cap := [none, some 0, some 1]) ⟨rfl, by with_unfolding_all rfl⟩ (pi_list (pv 2)) (fun _ => (pg_name (i := 0) (show (["crew", "night", "standing"] : List Str).Nodup by decide +kernel) (by rfl) (by first | exact Or.inl rfl | exact Or.inr rfl))) (fun _ => (pifs_one (pt_val (pe_call G_is_good (hr.mono (by decide)) (by rfl) F_is_good.g F_is_good.fn.kp F_is_good.b .nil pass0 (pa_cons (pv 1) (pa_cons (pe_call G_crossed (hr.mono (by decide)) (by rfl) F_crossed.g F_crossed.fn.kp F_crossed.b .nil pass0 (pa_cons (pv 2) (pa_cons (pv 0) pa_nil))) pa_nil)))))) (fun _ => (pv 0))) pa_nil)))))), ?_⟩
    refine ⟨_, rfl, _, rfl, p, a, ts, r, qs, st, rfl, N, h6, hst, hl, fun hS hG H1 s1 => ?_, k2, k3⟩
    have N1 := N.mono s1
    have hst1 := hst.mono s1
    refine ⟨_, rfl, _, rfl, p, a, ts, r, qs, st, rfl, N1, h6, hst1, fun lb H2 s2 hlb => ?_⟩
    have N2 := N1.mono s2
    have hst2 := hst1.mono s2
    refine ⟨lb, _, rfl, hlb, Nat.le_trans (bank_len hS) h6, fun lg H3 s3 hGs => ?_⟩
    have N3 := N2.mono s3
    have hst3 := hst2.mono s3
    obtain ⟨vg, hvg, dg⟩ := hGs
    have lvg := dvs_len dg
    have l64 : (gOf (bankOf ts.length st)).length ≤ 64 := by
      rw [gOf_len]
      exact Nat.le_trans (Nat.pow_le_pow_right (by decide) (Nat.le_trans (bank_len hS) h6)) (by decide)
    refine ⟨lg, rfl, ⟨_, SqL.of hvg⟩, fun D hD => ?_⟩
    refine comp_list (K := K) (a := lg) (ys := vg) (fun j xs H' => Same H3 H' ∧ H' D = some (.lst xs) ∧ DVs H' ((((gOf (bankOf ts.length st)).take j).filter (manned ts r)).map grD) xs)
      ⟨same_new hD, upd_same, .nil⟩ (fun j xs H' _ ⟨sm, h, _⟩ => ⟨h, SqL.of (sm _ _ hvg)⟩) ?_ ?_
    · rintro j y xs H4 hj ⟨s4, hD4, dx⟩
      obtain ⟨g, hg, dgj⟩ := dvs_get dg hj
      obtain ⟨c, rfl, hc⟩ := gr_inv dgj
      have sub := gOf_sub (List.mem_of_getElem? hg)
      have gin : ∀ t ∈ g, 0 ≤ t ∧ t < (ts.length : Int) := fun t ht => bank_sub hS (sub.subset ht)
      have gl : g.length ≤ 6 := Nat.le_trans sub.length_le (Nat.le_trans (bank_len hS) h6)
      refine ⟨Keep.set rfl, ?_⟩
      refine ⟨_, rfl, _, rfl, p, c, ts, r, qs, g, rfl, N3.mono s4, h6, s4 _ _ hc, by omega, gin, fun H5 s5 => ⟨_, rfl, ?_⟩⟩
      have dx5 := dx.mono s5
      have hD5 := s5 _ _ hD4
      have lx : xs.length ≤ 64 := by
        rw [dvs_len dx]
        exact Nat.le_trans (List.length_filter_le _ _) (by rw [List.length_take]; omega)
      refine iteE (fun h1 => ?_) (fun h1 => ?_)
      · refine ⟨_, rfl, hD5, lt_line (by omega), same_upd (s4.trans s5) hD, upd_same, ?_⟩
        rw [filter_snoc hg h1, List.map_append]
        exact (dvs_upd hD5 dx5 (noLsts_map gr_no _)).snoc (dv_upd hD5 (gr_dv (s5 _ _ (s4 _ _ hc))) (gr_no _))
      · exact ⟨s4.trans s5, hD5, dvs_filter_snoc hg h1 dx5⟩
    · rintro xs H4 ⟨s4, hD4, dx⟩
      rw [List.take_of_length_le (by omega)] at dx
      have N4 := N3.mono s4
      have hst4 := hst3.mono s4
      have lx : xs.length < 64 := by
        rw [dvs_len dx]
        exact preCrews_len (qs := qs) hS h6
      have e0 : (gOf (bankOf ts.length st)).filter (manned ts r) = (gOf (bankOf ts.length st)).filter (manned ts r) := rfl
      generalize hM : (gOf (bankOf ts.length st)).filter (manned ts r) = M at dx e0
      have mem : ∀ g ∈ M, g.Sublist (bankOf ts.length st) ∧ g ≠ [] := fun g hg => by
        rw [← hM] at hg
        obtain ⟨z1, z2⟩ := List.mem_filter.mp hg
        exact ⟨gOf_sub z1, manned_ne z2⟩
      refine ⟨_, rfl, D, rfl, ⟨_, SqL.of hD4⟩, fun D2 hD2 => ?_⟩
      refine comp_list (K := K) (a := D) (ys := xs) (fun j zs H' => Same H4 H' ∧ H' D2 = some (.lst zs) ∧ DVs H' (((M.take j).filter fun c => isGood qs ts.length (behind ts.length st c).1).map grD) zs)
        ⟨same_new hD2, upd_same, .nil⟩ (fun j zs H' _ ⟨sm, h, _⟩ => ⟨h, SqL.of (sm _ _ hD4)⟩) ?_ ?_
      · rintro j y zs H5 hj ⟨s5, hD5, dz⟩
        obtain ⟨g, hg, dgj⟩ := dvs_get dx hj
        obtain ⟨c, rfl, hc⟩ := gr_inv dgj
        obtain ⟨sub, _⟩ := mem g (List.mem_of_getElem? hg)
        refine ⟨Keep.set rfl, ?_⟩
        refine ⟨_, rfl, _, rfl, _, rfl, a, c, st, g, ts.length, rfl, hst4.mono s5, s5 _ _ hc, hS, h6, sub, fun l H6 s6 hl6 => ?_⟩
        refine ⟨p, l, ts, r, qs, _, rfl, (N4.mono s5).mono s6, h6, hl6, fun H7 s7 => ⟨_, rfl, ?_⟩⟩
        have s67 := s6.trans s7
        have dz7 := dz.mono s67
        have hD7 := s67 _ _ hD5
        have lz : zs.length ≤ 64 := by
          rw [dvs_len dz]
          exact Nat.le_trans (List.length_filter_le _ _) (by rw [List.length_take]; have := dvs_len dx; omega)
        refine iteE (fun h1 => ?_) (fun h1 => ?_)
        · refine ⟨_, rfl, hD7, lt_line (by omega), same_upd (s5.trans s67) hD2, upd_same, ?_⟩
          rw [filter_snoc hg h1, List.map_append]
          exact (dvs_upd hD7 dz7 (noLsts_map gr_no _)).snoc (dv_upd hD7 (gr_dv (s67 _ _ (s5 _ _ hc))) (gr_no _))
        · exact ⟨s5.trans s67, hD7, dvs_filter_snoc hg h1 dz7⟩
      · rintro zs H5 ⟨s5, hD5, dz⟩
        have lM : xs.length = M.length := dvs_len dx
        rw [List.take_of_length_le (by omega)] at dz
        have lz : (M.filter fun c => isGood qs ts.length (behind ts.length st c).1).length < 64 := Nat.lt_of_le_of_lt (List.length_filter_le _ _) (by omega)
        refine ⟨D2, _, zs, rfl, hD5, dz, lz, fun g hg => (mem g (List.mem_filter.mp hg).1).2, fun l vs' hl' dv' => ?_⟩
        have sAll := s1.trans (s2.trans (s3.trans (s4.trans s5)))
        refine k1 hS hG l _ (sAll.free hl') (same_upd sAll (sAll.free hl')) ⟨vs', upd_same, ?_⟩
        unfold crewsOf preCrews
        rw [hM]
        exact dv'.mono (same_new hl')
end
end FN


set_option Elab.async false
set_option linter.all false
set_option maxRecDepth 100000
set_option maxHeartbeats 4000000
namespace FN
open PySem L2 PyProof.Rows
/-! ### what a law looks up for itself -/
theorem bitsFrom_fine : ∀ (k : Nat) (t num : Int), (bitsFrom k t num).Pairwise (· < ·) ∧ ∀ x ∈ bitsFrom k t num, t ≤ x ∧ x < t + k
  | 0, _, _ => ⟨.nil, fun x hx => by cases hx⟩
  | k + 1, t, num => by
    obtain ⟨h1, h2⟩ := bitsFrom_fine k (t + 1) (num / 2)
    have h3 : ∀ x ∈ bitsFrom k (t + 1) (num / 2), t < x ∧ x < t + ((k + 1 : Nat) : Int) := fun x hx => by have := h2 x hx; omega
    show ((if num % 2 = 1 then [t] else []) ++ bitsFrom k (t + 1) (num / 2)).Pairwise (· < ·) ∧ _
    split
    · refine ⟨List.pairwise_cons.mpr ⟨fun x hx => (h3 x hx).1, h1⟩, fun x hx => ?_⟩
      have hx' : x ∈ t :: bitsFrom k (t + 1) (num / 2) := by
        have e : bitsFrom (k + 1) t num = t :: bitsFrom k (t + 1) (num / 2) := by
          show (if num % 2 = 1 then [t] else []) ++ _ = _
          rw [if_pos (by assumption)]; rfl
        rw [← e]; exact hx
      rcases List.mem_cons.mp hx' with e | e
      · omega
      · have := h3 x e; omega
    · refine ⟨h1, fun x hx => ?_⟩
      have hx' : x ∈ bitsFrom k (t + 1) (num / 2) := by
        have e : bitsFrom (k + 1) t num = bitsFrom k (t + 1) (num / 2) := by
          show (if num % 2 = 1 then [t] else []) ++ _ = _
          rw [if_neg (by assumption)]; rfl
        rw [← e]; exact hx
      have := h3 x hx'; omega
theorem bits_st (n : Nat) (num sd : Int) (h : sd = 0 ∨ sd = 1) : isSt n (bits n num, sd) = true := by
  obtain ⟨h1, h2⟩ := bitsFrom_fine n 0 num
  refine isSt_of h1 (fun t ht => ?_) h
  have := h2 t ht
  omega
theorem st_len {n : Nat} {st : St2} (h : isSt n st = true) (h6 : n ≤ 6) : st.1.length ≤ 6 := by
  obtain ⟨h1, h2, _⟩ := isSt_grp h
  have e := grp_filter h1 h2
  have l : ((till n).filter fun t => st.1.contains t).length ≤ n := Nat.le_trans (List.length_filter_le _ _) (by rw [till_length]; exact Nat.le_refl _)
  rw [e] at l
  omega
section
variable {P : Program} {w : World} {K : PySem.W.Frag} {mg : Str → Option Value} {base : Heap} {C : Addr} {Z : Ad} {fs : Nat → Addr} {ds : Nat → FuncData}
def sp_rest : Sp := fun vs H Q _ => ∃ (b : Addr) (g : List Int) (n : Nat), vs = [.ref b, .int n] ∧ H b = some (.tup (g.map V.int)) ∧ n ≤ 6 ∧ ∀ l H', Same H H' → H' l = some (.tup ((restOf n g).map V.int)) → Q (.ref l) H'
theorem sc__law_rest : FnScope ["group", "many"] ["group", "many"] (defScope s__law_rest) := ⟨rfl, rfl, rfl, by decide +kernel, rfl, by decide +kernel, by decide +kernel⟩
theorem ok_rest {f : Addr} {fd : FuncData} (F : Fn K mg "_law_rest" s__law_rest f fd ["group", "many"]) (T : Txt K mg C Z) : FnOk P w K mg base CX0 1 f fd ["group", "many"] sp_rest := by
  refine F.fn.ok sc__law_rest (fun vs H Q E h => ?_) (fun cdv A outer s H vs Q E hr h => ?_)
  · obtain ⟨b, g, n, rfl, _⟩ := h
    rfl
  · obtain ⟨b, g, n, rfl, hb, h6, k⟩ := h
    refine ⟨_, (pss_one (ps_ret (pe_callTy call_tuple_of (by rfl) T.n_tuple boot_tuple (pa_cons (pe_comp rfl (N' := ["thing", "group"]) (cap := [none, some 0]) ⟨rfl, by with_unfolding_all rfl⟩ (pi_range1 (by rfl) T.n_range (pa_cons (pv 1) pa_nil)) (fun _ => (pg_name (i := 0) (show (["thing", "group"] : List Str).Nodup by decide +kernel) (by rfl) (by first | exact Or.inl rfl | exact Or.inr rfl))) (fun _ => (pifs_one (pt_cmpR (notInK (K := K) rfl) (pv 0) (pv 1) (by with_unfolding_all rfl)))) (fun _ => (pv 0))) pa_nil)))), ?_⟩
    refine ⟨_, rfl, _, rfl, by omega, by omega, fun D hD => ?_⟩
    rw [Int.toNat_natCast]
    refine comp_range (n := n) (fun i xs H' => Same H H' ∧ H' D = some (.lst xs) ∧ xs = ((till i).filter fun t => !g.contains t).map V.int)
      ⟨same_new hD, upd_same, rfl⟩ (fun i xs H' _ ⟨_, h, _⟩ => h) ?_ ?_
    · rintro i xs H' hi ⟨sm, hD', rfl⟩
      have e1 : ((0 : Int) + (i : Int)) = (i : Int) := by omega
      refine ⟨Keep.set rfl, ?_⟩
      refine ⟨_, rfl, _, rfl, b, _, rfl, .inr (SqT.of (sm _ _ hb)), rfl, flat_ints g, _, rfl, ?_⟩
      rw [inV_ints, e1]
      have sl : ((till i).filter fun t => !g.contains t).length ≤ i := Nat.le_trans (List.length_filter_le _ _) (by rw [till_length]; exact Nat.le_refl _)
      refine iteE (fun h1 => ?_) (fun h1 => ?_)
      · refine ⟨_, rfl, hD', lt_line (by rw [List.length_map]; omega), same_upd sm hD, upd_same, ?_⟩
        have h1' : (!g.contains (i : Int)) = true := h1
        have ef : [(i : Int)].filter (fun t => !g.contains t) = [(i : Int)] := by rw [List.filter_cons, if_pos h1']; rfl
        rw [till_succ, List.filter_append, List.map_append, ef]
        rfl
      · have h1' : (!g.contains (i : Int)) = false := h1
        have ef : [(i : Int)].filter (fun t => !g.contains t) = [] := by rw [List.filter_cons, if_neg (by rw [h1']; simp)]; rfl
        refine ⟨sm, hD', ?_⟩
        rw [till_succ, List.filter_append, List.map_append, ef]
        simp
    · rintro xs H' ⟨sm, hD', rfl⟩
      exact ⟨D, _, rfl, .inl ⟨SqL.of hD', fun o ho => k o _ (same_upd sm (sm.free ho)) upd_same⟩⟩
def sp_lgood (K : PySem.W.Frag) : Sp := fun vs H Q _ => ∃ (q b : Addr) (qs : List Qu) (g : List Int) (n : Nat), vs = [.ref q, .ref b, .int n] ∧ LstAt quD H q qs ∧ H b = some (.tup (g.map V.int)) ∧ n ≤ 6 ∧ ∀ H', Same H H' → Q (.bl (isGood qs n g)) H'
theorem sc__law_good : FnScope ["quarrels", "group", "many"] ["quarrels", "group", "many"] (defScope s__law_good) := ⟨rfl, rfl, rfl, by decide +kernel, rfl, by decide +kernel, by decide +kernel⟩
theorem ok_lgood {f f1 f2 : Addr} {fd fd1 fd2 : FuncData} (F : Fn K mg "_law_good" s__law_good f fd ["quarrels", "group", "many"]) (T : Txt K mg C Z) (F__law_peace : Fn K mg "_law_peace" s__law_peace f1 fd1 ["quarrels", "group"])
    (F__law_rest : Fn K mg "_law_rest" s__law_rest f2 fd2 ["group", "many"]) : FnOk P w K mg base CX0 2 f fd ["quarrels", "group", "many"] (sp_lgood K) := by
  have G__law_peace : FnOk P w K mg base CX0 1 f1 fd1 ["quarrels", "group"] (sp_peace K) := ok_peace F__law_peace
  have G__law_rest : FnOk P w K mg base CX0 1 f2 fd2 ["group", "many"] sp_rest := ok_rest F__law_rest T
  refine F.fn.ok sc__law_good (fun vs H Q E h => ?_) (fun cdv A outer s H vs Q E hr h => ?_)
  · obtain ⟨q, b, qs, g, n, rfl, _⟩ := h
    rfl
  · obtain ⟨q, b, qs, g, n, rfl, hq, hb, h6, k⟩ := h
    refine ⟨_, (pss_one (ps_ret (pe_and (pe_call G__law_peace (hr.mono (by decide)) (by rfl) F__law_peace.g F__law_peace.fn.kp F__law_peace.b .nil pass0 (pa_cons (pv 0) (pa_cons (pv 1) pa_nil))) (pe_one (pe_call G__law_peace (hr.mono (by decide)) (by rfl) F__law_peace.g F__law_peace.fn.kp F__law_peace.b .nil pass0 (pa_cons (pv 0) (pa_cons (pe_call G__law_rest (hr.mono (by decide)) (by rfl) F__law_rest.g F__law_rest.fn.kp F__law_rest.b .nil pass0 (pa_cons (pv 1) (pa_cons (pv 2) pa_nil))) pa_nil))))))), ?_⟩
    refine ⟨_, rfl, _, rfl, q, b, qs, g, rfl, hq, hb, _, rfl, ?_⟩
    refine iteE (fun h1 => ?_) (fun h1 => ?_)
    · refine ⟨_, rfl, _, rfl, _, rfl, b, g, n, rfl, hb, h6, fun l H' sm hl => ?_⟩
      refine ⟨q, l, qs, _, rfl, hq.mono sm, hl, ?_⟩
      have k' := k H' sm
      unfold isGood at k'
      rw [h1, Bool.true_and] at k'
      exact k'
    · have k' := k H (Same.refl H)
      unfold isGood at k'
      rw [h1, Bool.false_and] at k'
      exact k'
end
end FN


set_option Elab.async false
set_option linter.all false
set_option maxRecDepth 100000
set_option maxHeartbeats 4000000
namespace FN
open PySem L2 PyProof.Rows
section
variable {P : Program} {w : World} {K : PySem.W.Frag} {mg : Str → Option Value} {base : Heap} {C : Addr} {Z : Ad} {fs : Nat → Addr} {ds : Nat → FuncData}
/-! ### _law_group, _law_right -/
theorem gr_can (g : List Int) : (grD g).canLay0 = true := by simp [grD, PyData.canLay0, can_ints]
theorem gr_dp (g : List Int) : (grD g).depth ≤ 6 := by
  have h := depthAll_map (f := PyData.int) (n := 5) (fun i => by simp [PyData.depth]) g
  simp only [grD, PyData.depth]
  omega
end
end FN


set_option Elab.async false
set_option linter.all false
set_option maxRecDepth 100000
set_option maxHeartbeats 4000000
namespace FN
open PySem L2 PyProof.Rows
theorem eqv_gr (g c : List Int) : PyData.eqv (grD g) (grD c) = decide (g = c) := by
  show PyData.eqv (.tuple (g.map PyData.int)) (.tuple (c.map PyData.int)) = _
  rw [PyData.eqv]
  exact PySem.W.ked_eqvAll g c
theorem any_gr (l : List (List Int)) (c : List Int) : ((l.map grD).any fun e => PyData.eqv e (grD c)) = decide (c ∈ l) := by
  rw [List.any_map, Bool.eq_iff_iff, decide_eq_true_eq, List.any_eq_true]
  constructor
  · rintro ⟨x, hx, h⟩
    have h' : PyData.eqv (grD x) (grD c) = true := h
    rw [eqv_gr] at h'
    rw [← of_decide_eq_true h']; exact hx
  · intro h
    refine ⟨c, h, ?_⟩
    show PyData.eqv (grD c) (grD c) = true
    rw [eqv_gr]; exact decide_eq_true rfl
theorem crew_mem {ts : List Th} {r : Int} {qs : List Qu} {st : St2} {c : List Int} (h : c ∈ crewsOf ts r qs st) : c.Sublist (bankOf ts.length st) ∧ c ≠ [] ∧ isGood qs ts.length (behind ts.length st c).1 = true := by
  have h1 := (srtT_perm (preCrews ts r qs st)).mem_iff.mp h
  obtain ⟨h2, h3⟩ := List.mem_filter.mp h1
  obtain ⟨h4, h5⟩ := List.mem_filter.mp h2
  exact ⟨gOf_sub h4, manned_ne h5, h3⟩
theorem behind_st {n : Nat} {st : St2} {c : List Int} (h : isSt n st = true) : isSt n (behind n st c) = true := by
  obtain ⟨h1, h2, _⟩ := isSt_grp h
  unfold behind
  split
  · exact isSt_of (filter_pw _ h1) (fun t ht => h2 t (List.mem_filter.mp ht).1) (.inr rfl)
  · exact isSt_of (filter_pw _ (till_pw n)) (fun t ht => mem_till.mp (List.mem_filter.mp ht).1) (.inl rfl)
section
variable {P : Program} {w : World} {K : PySem.W.Frag} {mg : Str → Option Value} {base : Heap} {C : Addr} {Z : Ad} {fs gs : Nat → Addr} {ds es : Nat → FuncData}
/-! ### minutes -/
def sp_minutes (C : Addr) : Sp := fun vs H Q _ => ∃ (p b : Addr) (ts : List Th) (r : Int) (qs : List Qu) (c : List Int), vs = [.ref p, .ref b] ∧ NightAt C H p ts r qs ∧ ts.length ≤ 6 ∧ H b = some (.tup (c.map V.int)) ∧ c.length ≤ 1000 ∧ c ≠ [] ∧ (∀ t ∈ c, 0 ≤ t ∧ t < (ts.length : Int)) ∧
  ∀ H', Same H H' → Q (.int (minutesOf ts c)) H'
theorem sc_minutes : FnScope ["night", "crew", "things"] ["night", "crew"] (defScope s_minutes) := ⟨rfl, rfl, rfl, by decide +kernel, rfl, by decide +kernel, by decide +kernel⟩
theorem ok_minutes {f f1 : Addr} {fd fd1 : FuncData} (F : Fn K mg "minutes" s_minutes f fd ["night", "crew"]) (T : Txt K mg C Z) (M_Night_things : Meth K C "things" f1) (F_Night_things : Mt K "things" "Night.things" s_Night_things f1 fd1 ["self"]) :
    FnOk P w K mg base CX0 2 f fd ["night", "crew"] (sp_minutes C) := by
  have G_Night_things : FnOk P w K mg base CX0 1 f1 fd1 ["self"] (sp_nthings C) := ok_nthings F_Night_things T
  refine F.fn.ok sc_minutes (fun vs H Q E h => ?_) (fun cdv A outer s H vs Q E hr h => ?_)
  · obtain ⟨p, b, ts, r, qs, c, rfl, _⟩ := h
    rfl
  · obtain ⟨p, b, ts, r, qs, c, rfl, N, h6, hb, hc, hne, hin, k⟩ := h
    obtain ⟨dx, t, q, hp, _, _⟩ := id N.ex
    refine ⟨_, (pss_cons (ps_set (i := 2) sc_minutes.nd (by rfl) (by first | exact Or.inl rfl | exact Or.inr rfl) (pe_meth0 (pv 0) T.cl_Night M_Night_things G_Night_things (hr.mono (by decide)) F_Night_things.b .nil pass0))
      (pss_one (ps_ret (pe_callB (call_max rfl) (by rfl) T.n_max boot_max (pa_cons (pe_comp rfl (N' := ["thing", "things"]) (cap := [none, some 2]) ⟨rfl, by with_unfolding_all rfl⟩ (pi_tup (pv 1)) (fun _ => (pg_name (i := 0) (show (["thing", "things"] : List Str).Nodup by decide +kernel) (by rfl) (by first | exact Or.inl rfl | exact Or.inr rfl))) (fun _ => pifs_nil) (fun _ => (pe_ix (ixTK (K := K) rfl) (pe_ix (ixLK (K := K) rfl) (pv 1) (pv 0) (fun _ _ => rfl)) pe_int (fun _ _ => rfl)))) pa_nil))))), ?_⟩
    refine ⟨_, rfl, p, dx, _, rfl, hp, m_things _ _ _, p, ts, r, qs, rfl, N, fun l vs hl dv => ?_⟩
    have s1 : Same H (L2.upd H l (.lst vs)) := same_new hl
    have dv1 := dv.mono s1
    have hb1 := s1 _ _ hb
    have hl1 : (L2.upd H l (.lst vs)) l = some (.lst vs) := upd_same
    generalize L2.upd H l (.lst vs) = H1 at s1 dv1 hb1 hl1 ⊢
    refine ⟨_, rfl, b, rfl, ⟨_, SqT.of hb1⟩, fun D hD => ?_⟩
    refine comp_tup (K := K) (a := b) (ys := c.map V.int) (fun i xs H' => Same H1 H' ∧ H' D = some (.lst xs) ∧ xs = (c.take i).map fun t => V.int (paceAt ts t))
      ⟨same_new hD, upd_same, rfl⟩ (fun i xs H' _ ⟨sm, h, _⟩ => ⟨h, SqT.of (sm _ _ hb1)⟩) ?_ ?_
    · rintro i x xs H' hi ⟨sm, hD', rfl⟩
      rw [List.getElem?_map, Option.map_eq_some_iff] at hi
      obtain ⟨x', hx', rfl⟩ := hi
      obtain ⟨x0, x1⟩ := hin x' (List.mem_of_getElem? hx')
      obtain ⟨o, ho1, ho2⟩ := th_at dv1 x0 x1
      refine ⟨Keep.set rfl, ?_⟩
      refine ⟨_, rfl, _, rfl, l, _, _, _, rfl, rfl, SqL.of (sm _ _ hl1), ho1, o, _, _, _, rfl, rfl, SqT.of (sm _ _ ho2), at0, hD', lt_line (by rw [List.length_map, List.length_take]; omega), same_upd sm hD, upd_same, ?_⟩
      rw [List.take_add_one, hx']
      simp
    · rintro xs H' ⟨sm, hD', rfl⟩
      refine ⟨D, c.map (paceAt ts), rfl, SqL.of ?_, ?_, k H' (s1.trans sm)⟩
      · rw [hD', List.length_map, List.take_length, List.map_map]
        rfl
      · simpa using hne
/-! ### after -/
def sp_after (C : Addr) (Z : Ad) : Sp := fun vs H Q E => ∃ (p a b : Addr) (ts : List Th) (r : Int) (qs : List Qu) (st : St2) (c : List Int), vs = [.ref p, .ref a, .ref b] ∧ NightAt C H p ts r qs ∧ ts.length ≤ 6 ∧ StAt H a st ∧ st.1.length ≤ 1000 ∧ H b = some (.tup (c.map V.int)) ∧
  (isSt ts.length st = true → isGood qs ts.length st.1 = true → c ∈ crewsOf ts r qs st → ∀ l H', Same H H' → StAt H' l (behind ts.length st c) → Q (.ref l) H') ∧ (isSt ts.length st = false → ∀ H', Same H H' → E (.ref Z.NoStanding) none H') ∧
  (isSt ts.length st = true → isGood qs ts.length st.1 = false → ∀ H', Same H H' → E (.ref Z.BadStart) none H') ∧ (isSt ts.length st = true → isGood qs ts.length st.1 = true → c ∉ crewsOf ts r qs st → ∀ H', Same H H' → E (.ref Z.NoCrew) none H')
theorem sc_after : FnScope ["night", "standing", "crew"] ["night", "standing", "crew"] (defScope s_after) := ⟨rfl, rfl, rfl, by decide +kernel, rfl, by decide +kernel, by decide +kernel⟩
theorem ok_after {f : Addr} {fd : FuncData} (F : Fn K mg "after" s_after f fd ["night", "standing", "crew"]) (L : Lk K mg C fs ds) (T : Txt K mg C Z) : FnOk P w K mg base (CXF P w) 6 f fd ["night", "standing", "crew"] (sp_after C Z) := by
  have F_crews := L.crews
  have F_crossed := L.crossed
  have G_crews : FnOk P w K mg base (CXF P w) 5 (fs 15) (ds 15) ["night", "standing"] (sp_crews C Z) := ok_crews L T
  have G_crossed : FnOk P w K mg base CX0 1 (fs 14) (ds 14) ["standing", "crew"] sp_crossed := ok_crossed L.crossed T
  refine F.fn.okX sc_after (fun vs H Q E h => ?_) (fun cdv A outer s H vs Q E hr h => ?_)
  · obtain ⟨p, a, b, ts, r, qs, st, c, rfl, _⟩ := h
    rfl
  · obtain ⟨p, a, b, ts, r, qs, st, c, rfl, N, h6, hst, hl, hb, k1, k2, k3, k4⟩ := h
    have hu := hr.units
    have dp := gr_dp c
    refine ⟨_, (pss_cons (ps_if (pt_cmpR (op_notInD hu) (pv 2) (pe_call G_crews (hr.mono (by decide)) (by rfl) F_crews.g F_crews.fn.kp F_crews.b .nil passes_def (pa_cons (pv 0) (pa_cons (pv 1) pa_nil))) (by with_unfolding_all rfl))
      (pss_one (ps_raise outs_def rfl (by rfl) T.g_NoCrew T.x_NoCrew PySem.F.excBase_ValueError (pa_cons pe_str pa_nil)))
      pss_nil)
      (pss_one (ps_ret (pe_call G_crossed (hr.mono (by decide)) (by rfl) F_crossed.g F_crossed.fn.kp F_crossed.b .nil pass0 (pa_cons (pv 1) (pa_cons (pv 2) pa_nil)))))), ?_⟩
    refine ⟨_, rfl, _, rfl, _, rfl, p, a, ts, r, qs, st, rfl, N, h6, hst, hl, fun hS hG l H1 hl1 s1 hL => ?_, k2, k3⟩
    obtain ⟨vl, hvl, dl⟩ := hL
    refine ⟨grD c, (crewsOf ts r qs st).map grD, gr_dv (s1 _ _ hb), .inl (.lst hvl dl), gr_can c, canAll_map gr_can _, by omega, _, rfl, ?_⟩
    rw [any_gr]
    refine iteE (fun h1 => ?_) (fun h1 => ?_)
    · have hn : c ∉ crewsOf ts r qs st := fun z => by
        have h1' : (!decide (c ∈ crewsOf ts r qs st)) = true := h1
        rw [decide_eq_true z] at h1'
        cases h1'
      exact ⟨le_line (by show 1 ≤ _; decide), k4 hS hG hn H1 s1⟩
    · have hy : c ∈ crewsOf ts r qs st := by
        have h1' : (!decide (c ∈ crewsOf ts r qs st)) = false := h1
        by_cases z : c ∈ crewsOf ts r qs st
        · exact z
        · rw [decide_eq_false z] at h1'; cases h1'
      exact ⟨_, rfl, _, rfl, a, b, st, c, ts.length, rfl, hst.mono s1, s1 _ _ hb, hS, h6, (crew_mem hy).1, fun l2 H2 s2 h2 => k1 hS hG hy l2 H2 (s1.trans s2) h2⟩
end
end FN


set_option Elab.async false
set_option linter.all false
set_option maxRecDepth 100000
set_option maxHeartbeats 4000000
namespace FN
open PySem L2 PyProof.Rows
theorem mod_in {c : Int} {n : Nat} (h : 0 < n) : 0 ≤ c % (n : Int) ∧ c % (n : Int) < n := ⟨Int.emod_nonneg _ (by omega), Int.emod_lt_of_pos _ (by omega)⟩
section
variable {P : Program} {w : World} {K : PySem.W.Frag} {mg : Str → Option Value} {base : Heap} {C : Addr} {Z : Ad} {fs gs : Nat → Addr} {ds es : Nat → FuncData}
def sp_walked (K : PySem.W.Frag) (m : Nat) : Sp := fun vs H Q _ => ∃ (a p : Addr) (ns : List Int) (ts : List Th) (r : Int) (qs : List Qu), vs = [.ref a, .ref p] ∧ SqL K H a (ns.map V.int) ∧ NightD H p m ts r qs ∧
  ∀ l st H', Same H H' → StAt H' l st → isSt ts.length st = true → Q (.ref l) H'
end
end FN


set_option Elab.async false
set_option linter.all false
set_option maxRecDepth 100000
set_option maxHeartbeats 4000000
namespace FN
open PySem L2 PyProof.Rows
/-- all minutes of a plan from st on, behind tot: none where it is no plan -/
def goT (ts : List Th) (r : Int) (qs : List Qu) : St2 → Int → List (List Int) → Option Int
  | st, tot, [] => if st = ([], 1) then some tot else none
  | st, tot, c :: cs => if c ∈ crewsOf ts r qs st then goT ts r qs (behind ts.length st c) (tot + minutesOf ts c) cs else none
def optV : Option Int → V
  | none => .non
  | some i => .int i
theorem eqv_st (a b : St2) : PyData.eqv (stD a) (stD b) = decide (a = b) := by
  obtain ⟨g, i⟩ := a
  obtain ⟨g', i'⟩ := b
  show PyData.eqv (.tuple [grD g, .int i]) (.tuple [grD g', .int i']) = _
  rw [PyData.eqv, PyData.eqvAll, PyData.eqvAll, PyData.eqvAll, eqv_gr, Bool.eq_iff_iff]
  simp [PyData.eqv, Prod.ext_iff]
theorem st_can (st : St2) : (stD st).canLay0 = true := by
  simp [stD, PyData.canLay0, PyData.canLayAll0, gr_can]
theorem st_dp (st : St2) : (stD st).depth ≤ 8 := by
  have := gr_dp st.1
  simp [stD, PyData.depth, PyData.depthAll]
  omega
section
variable {P : Program} {w : World} {K : PySem.W.Frag} {mg : Str → Option Value} {base : Heap} {C : Addr} {Z : Ad} {fs gs : Nat → Addr} {ds es : Nat → FuncData}
/-! ### takes -/
def sp_takes (C : Addr) (Z : Ad) : Sp := fun vs H Q E => ∃ (p a b : Addr) (ts : List Th) (r : Int) (qs : List Qu) (st : St2) (plan : List (List Int)), vs = [.ref p, .ref a, .ref b] ∧ NightAt C H p ts r qs ∧ ts.length ≤ 6 ∧ StAt H a st ∧ st.1.length ≤ 1000 ∧ LstAt grD H b plan ∧
  (isSt ts.length st = true → isGood qs ts.length st.1 = true → ∀ H', Same H H' → Q (optV (goT ts r qs st 0 plan)) H') ∧ (isSt ts.length st = false → ∀ H', Same H H' → E (.ref Z.NoStanding) none H') ∧
  (isSt ts.length st = true → isGood qs ts.length st.1 = false → ∀ H', Same H H' → E (.ref Z.BadStart) none H')
theorem sc_takes : FnScope ["night", "standing", "plan", "here", "total", "crew"] ["night", "standing", "plan"] (defScope s_takes) := ⟨rfl, rfl, rfl, by decide +kernel, rfl, by decide +kernel, by decide +kernel⟩
theorem ok_takes {f f1 f2 : Addr} {fd fd1 fd2 : FuncData} (F : Fn K mg "takes" s_takes f fd ["night", "standing", "plan"]) (L : Lk K mg C fs ds) (T : Txt K mg C Z) (F_minutes : Fn K mg "minutes" s_minutes f1 fd1 ["night", "crew"])
    (M_Night_ends : Meth K C "ends" f2) (F_Night_ends : Mt K "ends" "Night.ends" s_Night_ends f2 fd2 ["self"]) : FnOk P w K mg base (CXF P w) 6 f fd ["night", "standing", "plan"] (sp_takes C Z) := by
  have F_check_start := L.check_start
  have F_crews := L.crews
  have F_crossed := L.crossed
  have G_check_start : FnOk P w K mg base (CXF P w) 4 (fs 10) (ds 10) ["night", "standing"] (sp_check_start C Z) := ok_check_start L T
  have G_crews : FnOk P w K mg base (CXF P w) 5 (fs 15) (ds 15) ["night", "standing"] (sp_crews C Z) := ok_crews L T
  have G_crossed : FnOk P w K mg base CX0 1 (fs 14) (ds 14) ["standing", "crew"] sp_crossed := ok_crossed L.crossed T
  have G_minutes : FnOk P w K mg base CX0 2 f1 fd1 ["night", "crew"] (sp_minutes C) := ok_minutes F_minutes T L.m_things L.things
  have G_Night_ends : FnOk P w K mg base CX0 1 f2 fd2 ["self"] sp_nends := ok_nends F_Night_ends
  refine F.fn.okX sc_takes (fun vs H Q E h => ?_) (fun cdv A outer s H vs Q E hr h => ?_)
  · obtain ⟨p, a, b, ts, r, qs, st, plan, rfl, _⟩ := h
    rfl
  · obtain ⟨p, a, b, ts, r, qs, st, plan, rfl, N, h6, hst, hl, ⟨vp, hb, dp⟩, k1, k2, k3⟩ := h
    have hu := hr.units
    have lp := dvs_len dp
    refine ⟨_, (pss_cons (ps_expr (pe_call G_check_start (hr.mono (by decide)) (by rfl) F_check_start.g F_check_start.fn.kp F_check_start.b .nil passes_def (pa_cons (pv 0) (pa_cons (pv 1) pa_nil))))
      (pss_cons (ps_set (i := 3) sc_takes.nd (by rfl) (by first | exact Or.inl rfl | exact Or.inr rfl) (pv 1))
      (pss_cons (ps_set (i := 4) sc_takes.nd (by rfl) (by first | exact Or.inl rfl | exact Or.inr rfl) pe_int)
      (pss_cons (ps_for own_def rfl (pi_list (pv 2)) (pg_name (i := 5) sc_takes.nd (by rfl) (by first | exact Or.inl rfl | exact Or.inr rfl))
      (pss_cons (ps_if (pt_cmpR (op_notInD hu) (pv 5) (pe_call G_crews (hr.mono (by decide)) (by rfl) F_crews.g F_crews.fn.kp F_crews.b .nil passes_def (pa_cons (pv 0) (pa_cons (pv 3) pa_nil))) (by with_unfolding_all rfl))
      (pss_one (ps_ret pe_non))
      pss_nil)
      (pss_cons (ps_set (i := 3) sc_takes.nd (by rfl) (by first | exact Or.inl rfl | exact Or.inr rfl) (pe_call G_crossed (hr.mono (by decide)) (by rfl) F_crossed.g F_crossed.fn.kp F_crossed.b .nil pass0 (pa_cons (pv 3) (pa_cons (pv 5) pa_nil))))
      (pss_one (ps_aug (i := 4) sc_takes.nd (by rfl) (by first | exact Or.inl rfl | exact Or.inr rfl) (pe_call G_minutes (hr.mono (by decide)) (by rfl) F_minutes.g F_minutes.fn.kp F_minutes.b .nil pass0 (pa_cons (pv 0) (pa_cons (pv 5) pa_nil))) ip_add)))))
      (pss_one (ps_ret (pe_ifExp (pt_cmpR (op_eqD hu) (pv 3) (pe_meth0 (pv 0) T.cl_Night M_Night_ends G_Night_ends (hr.mono (by decide)) F_Night_ends.b .nil pass0) (nomark _)) (pv 4) pe_non))))))), ?_⟩
    refine ⟨_, rfl, _, rfl, p, a, ts, r, qs, st, rfl, N, h6, hst, hl, fun hS hG H1 s1 => ?_, k2, k3⟩
    refine ⟨_, rfl, _, rfl, b, rfl, ⟨_, SqL.of (s1 _ _ hb)⟩, for_list (K := K) (a := b) (xs := vp) (fun i σ H' => Same H H' ∧ ∃ l st' tot v5, σ = [some (.ref p), some (.ref a), some (.ref b), some (.ref l), some (.int tot), v5] ∧ StAt H' l st' ∧ isSt ts.length st' = true ∧ isGood qs ts.length st'.1 = true ∧
        goT ts r qs st' tot (plan.drop i) = goT ts r qs st 0 plan)
      ⟨s1, a, st, 0, _, rfl, hst.mono s1, hS, hG, rfl⟩ (fun i σ H' _ ⟨sm, _⟩ => SqL.of (sm _ _ hb)) ?_ ?_⟩
    · rintro i x σ H2 hi ⟨s2, l, st', tot, v5, rfl, hst', hS', hG', hgo⟩
      obtain ⟨c, hc, dc⟩ := dvs_get (dp.mono s2) hi
      obtain ⟨o, rfl, ho⟩ := gr_inv dc
      have lst := st_len hS' h6
      have dpc := gr_dp c
      have hdr : plan.drop i = c :: plan.drop (i + 1) := by
        rw [List.drop_eq_getElem_cons (List.getElem?_eq_some_iff.mp hc).1, (List.getElem?_eq_some_iff.mp hc).2]
      rw [hdr, goT] at hgo
      refine ⟨_, rfl, _, rfl, _, rfl, p, l, ts, r, qs, st', rfl, N.mono s2, h6, hst', by omega, fun _ _ lc H3 hlc s3 hL => ?_, (fun hn => by rw [hS'] at hn; cases hn), (fun _ hn => by rw [hG'] at hn; cases hn)⟩
      have s23 := s2.trans s3
      obtain ⟨vl, hvl, dl⟩ := hL
      refine ⟨grD c, (crewsOf ts r qs st').map grD, gr_dv (s3 _ _ ho), .inl (.lst hvl dl), gr_can c, canAll_map gr_can _, by omega, _, rfl, ?_⟩
      rw [any_gr]
      refine iteE (fun h1 => ?_) (fun h1 => ?_)
      · have hn : c ∉ crewsOf ts r qs st' := fun z => by
          have h1' : (!decide (c ∈ crewsOf ts r qs st')) = true := h1
          rw [decide_eq_true z] at h1'
          cases h1'
        rw [if_neg hn] at hgo
        have := k1 hS hG H3 s23
        rw [← hgo] at this
        exact this
      · have hy : c ∈ crewsOf ts r qs st' := by
          have h1' : (!decide (c ∈ crewsOf ts r qs st')) = false := h1
          by_cases z : c ∈ crewsOf ts r qs st'
          · exact z
          · rw [decide_eq_false z] at h1'; cases h1'
        rw [if_pos hy] at hgo
        obtain ⟨csub, cne, cg⟩ := crew_mem hy
        have cl : c.length ≤ 6 := Nat.le_trans csub.length_le (Nat.le_trans (bank_len hS') h6)
        refine ⟨_, rfl, _, rfl, l, o, st', c, ts.length, rfl, hst'.mono s3, s3 _ _ ho, hS', h6, csub, fun l2 H4 s4 h4 => ?_⟩
        have s24 := s23.trans s4
        refine ⟨_, rfl, _, rfl, _, rfl, p, o, ts, r, qs, c, rfl, N.mono s24, h6, s4 _ _ (s3 _ _ ho), by omega, cne, (fun t ht => bank_sub hS' (csub.subset ht)), fun H5 s5 => ?_⟩
        exact ⟨_, _, rfl, rfl, s24.trans s5, l2, _, _, _, rfl, h4.mono s5, behind_st hS', cg, hgo⟩
    · rintro σ H2 ⟨s2, l, st', tot, v5, rfl, hst', hS', hG', hgo⟩
      rw [lp, List.drop_of_length_le (Nat.le_refl _), goT] at hgo
      obtain ⟨dx, t, q, hp, _, _⟩ := id (N.mono s2).ex
      refine ⟨_, rfl, _, rfl, p, dx, _, rfl, hp, rfl, p, rfl, fun le H3 s3 he => ?_⟩
      have s23 := s2.trans s3
      have dps := st_dp st'
      refine ⟨stD st', stD ([], 1), (hst'.mono s3).dv, he, st_can _, st_can _, by omega, _, rfl, ?_⟩
      rw [eqv_st]
      have kk := k1 hS hG H3 s23
      refine iteE (fun h1 => ?_) (fun h1 => ?_)
      · rw [if_pos (of_decide_eq_true h1)] at hgo
        rw [← hgo] at kk
        exact ⟨_, rfl, kk⟩
      · rw [if_neg (of_decide_eq_false h1)] at hgo
        rw [← hgo] at kk
        exact kk
end
end FN


set_option Elab.async false
set_option linter.all false
set_option maxRecDepth 100000
set_option maxHeartbeats 4000000
namespace FN
open PySem L2 PyProof.Rows
structure OkQs (n : Nat) (qs : List Qu) : Prop where
  l : qs.length ≤ 30
  q : ∀ q ∈ qs, OkQ n q
section
variable {P : Program} {w : World} {K : PySem.W.Frag} {mg : Str → Option Value} {base : Heap} {C : Addr} {Z : Ad}
/-! ### the checks, whatever they are handed -/
def sp_check_thingsX (Z : Ad) : Sp := fun vs H Q E => ∃ (a : Addr) (ts : List Th), vs = [.ref a] ∧ LstAt thD H a ts ∧ (OkT ts → Q .non H) ∧ (¬ OkT ts → E (.ref Z.BadThing) none H)
theorem ok_check_thingsX {f : Addr} {fd : FuncData} (F : Fn K mg "check_things" s_check_things f fd ["things"]) (T : Txt K mg C Z) : FnOk P w K mg base (CXF P w) 1 f fd ["things"] (sp_check_thingsX Z) := by
  refine F.fn.okX sc_check_things (fun vs H Q E h => ?_) (fun cdv A outer s H vs Q E hr h => ?_)
  · obtain ⟨a, ts, rfl, _⟩ := h
    rfl
  · obtain ⟨a, ts, rfl, ⟨va, ha, dv⟩, k, kx⟩ := h
    refine ⟨_, (pss_cons (ps_if (pt_not (pt_chain op_le op_le pe_int (pe_callB call_len_seq (by rfl) T.n_len PySem.boot_len (pa_cons (pv 0) pa_nil)) (pe_glob (v := .int (6)) (by rfl) T.c_MOST_THINGS ⟨_, rfl⟩)))
      (pss_one (ps_raise outs_def rfl (by rfl) T.g_BadThing T.x_BadThing PySem.F.excBase_ValueError (pa_cons pe_str pa_nil)))
      pss_nil)
      (pss_one (ps_for own_def rfl (pi_list (pv 0)) (pg_tup rfl (pgs_cons (pg_name (i := 1) sc_check_things.nd (by rfl) (by first | exact Or.inl rfl | exact Or.inr rfl)) (pgs_cons (pg_name (i := 2) sc_check_things.nd (by rfl) (by first | exact Or.inl rfl | exact Or.inr rfl)) pgs_nil)))
      (pss_one (ps_if (pt_not (pt_chain op_le op_le pe_int (pv 1) (pe_glob (v := .int (1000000000)) (by rfl) T.c_MOST_MINUTES ⟨_, rfl⟩)))
      (pss_one (ps_raise outs_def rfl (by rfl) T.g_BadThing T.x_BadThing PySem.F.excBase_ValueError (pa_cons pe_str pa_nil)))
      pss_nil))))), ?_⟩
    have hl := dvs_len dv
    refine ⟨_, rfl, a, _, rfl, .inl (SqL.of ha), _, _, rfl, rfl, _, rfl, ?_⟩
    have bad : ¬ (1 ≤ (va.length : Int) ∧ (va.length : Int) ≤ 6) → E (.ref Z.BadThing) none H := fun hn => kx fun ok => hn (by have := ok.l1; have := ok.l6; omega)
    refine iteE (fun h1 => ?_) (fun h1 => ?_)
    rotate_left
    · exact ⟨_, rfl, iteT ⟨le_line (by show 1 ≤ _; decide), bad fun z => by rw [decide_eq_true z.1] at h1; cases h1⟩⟩
    refine ⟨_, _, rfl, rfl, _, rfl, ?_⟩
    refine iteE (fun h2 => ?_) (fun h2 => ?_)
    · exact ⟨le_line (by show 1 ≤ _; decide), bad fun z => by have h2' : (!decide ((va.length : Int) ≤ 6)) = true := h2; rw [decide_eq_true z.2] at h2'; cases h2'⟩
    have h1' : (1 : Int) ≤ (va.length : Int) := of_decide_eq_true h1
    have h2' : (va.length : Int) ≤ 6 := by
      have z : (!decide ((va.length : Int) ≤ 6)) = false := h2
      simpa using z
    refine ⟨_, rfl, a, rfl, ⟨_, SqL.of ha⟩, for_list (K := K) (a := a) (xs := va) (fun i σ H' => H' = H ∧ (∃ v1 v2, σ = [some (.ref a), v1, v2]) ∧ ∀ t ∈ ts.take i, 1 ≤ t.1 ∧ t.1 ≤ 1000000000) ⟨rfl, ⟨_, _, rfl⟩, by simp⟩ (fun i σ H' _ ⟨e, _⟩ => by rw [e]; exact SqL.of ha) ?_ ?_⟩
    · rintro i x σ H' hi ⟨rfl, ⟨v1, v2, rfl⟩, hin⟩
      obtain ⟨t, ht, dt⟩ := dvs_get dv hi
      obtain ⟨b, rfl, hb⟩ := th_inv dt
      have bad2 : ¬ (1 ≤ t.1 ∧ t.1 ≤ 1000000000) → E (.ref Z.BadThing) none H' := fun hn => kx fun ok => hn (ok.p t (List.mem_of_getElem? ht))
      refine ⟨b, _, rfl, SqT.of hb, rfl, _, _, rfl, _, _, rfl, rfl, ?_⟩
      refine ⟨_, rfl, _, _, rfl, rfl, _, rfl, ?_⟩
      refine iteE (fun h3 => ?_) (fun h3 => ?_)
      rotate_left
      · exact ⟨_, rfl, iteT ⟨le_line (by show 1 ≤ _; decide), bad2 fun z => by rw [decide_eq_true z.1] at h3; cases h3⟩⟩
      refine ⟨_, _, rfl, rfl, _, rfl, ?_⟩
      refine iteE (fun h4 => ?_) (fun h4 => ?_)
      · exact ⟨le_line (by show 1 ≤ _; decide), bad2 fun z => by have h4' : (!decide (t.1 ≤ (1000000000 : Int))) = true := h4; rw [decide_eq_true z.2] at h4'; cases h4'⟩
      · refine ⟨rfl, ⟨_, _, rfl⟩, fun y hy => ?_⟩
        rw [List.take_add_one, ht] at hy
        rcases List.mem_append.mp hy with z | z
        · exact hin y z
        · have e : y = t := by simpa using z
          rw [e]
          have z4 : (!decide (t.1 ≤ (1000000000 : Int))) = false := h4
          exact ⟨of_decide_eq_true h3, by simpa using z4⟩
    · rintro σ H' ⟨rfl, ⟨v1, v2, rfl⟩, hin⟩
      rw [hl, List.take_length] at hin
      exact k ⟨by omega, by omega, hin⟩
def sp_check_roomX (Z : Ad) : Sp := fun vs H Q E => ∃ (r : Int), vs = [.int r] ∧ (1 ≤ r ∧ r ≤ 3 → Q .non H) ∧ (¬ (1 ≤ r ∧ r ≤ 3) → E (.ref Z.BadRoom) none H)
theorem ok_check_roomX {f : Addr} {fd : FuncData} (F : Fn K mg "check_room" s_check_room f fd ["room"]) (T : Txt K mg C Z) : FnOk P w K mg base (CXF P w) 1 f fd ["room"] (sp_check_roomX Z) := by
  refine F.fn.okX sc_check_room (fun vs H Q E h => ?_) (fun cdv A outer s H vs Q E hr h => ?_)
  · obtain ⟨r, rfl, _⟩ := h
    rfl
  · obtain ⟨r, rfl, k, kx⟩ := h
    refine ⟨_, (pss_one (ps_if (pt_not (pt_chain op_le op_le pe_int (pv 0) (pe_glob (v := .int (3)) (by rfl) T.c_MOST_ROOM ⟨_, rfl⟩)))
      (pss_one (ps_raise outs_def rfl (by rfl) T.g_BadRoom T.x_BadRoom PySem.F.excBase_ValueError (pa_cons pe_str pa_nil)))
      pss_nil)), ?_⟩
    refine ⟨_, rfl, _, _, rfl, rfl, _, rfl, ?_⟩
    refine iteE (fun h1 => ?_) (fun h1 => ?_)
    rotate_left
    · exact ⟨_, rfl, iteT ⟨le_line (by show 1 ≤ _; decide), kx fun z => by rw [decide_eq_true z.1] at h1; cases h1⟩⟩
    refine ⟨_, _, rfl, rfl, _, rfl, ?_⟩
    refine iteE (fun h2 => ?_) (fun h2 => ?_)
    · exact ⟨le_line (by show 1 ≤ _; decide), kx fun z => by have h2' : (!decide (r ≤ (3 : Int))) = true := h2; rw [decide_eq_true z.2] at h2'; cases h2'⟩
    · have z2 : (!decide (r ≤ (3 : Int))) = false := h2
      exact k ⟨of_decide_eq_true h1, by simpa using z2⟩
def sp_check_quarrelsX (Z : Ad) : Sp := fun vs H Q E => ∃ (a : Addr) (n : Nat) (qs : List Qu), vs = [.ref a, .int n] ∧ LstAt quD H a qs ∧ (OkQs n qs → Q .non H) ∧ (¬ OkQs n qs → E (.ref Z.BadQuarrel) none H)
theorem ok_check_quarrelsX {f f1 f2 f3 : Addr} {fd fd1 fd2 fd3 : FuncData} (F : Fn K mg "check_quarrels" s_check_quarrels f fd ["quarrels", "count"]) (T : Txt K mg C Z) (F_is_thing : Fn K mg "is_thing" s_is_thing f1 fd1 ["number", "count"])
    (F_is_pair : Fn K mg "is_pair" s_is_pair f2 fd2 ["one", "other", "count"]) (F_is_keeper : Fn K mg "is_keeper" s_is_keeper f3 fd3 ["keeper", "one", "other", "count"]) : FnOk P w K mg base (CXF P w) 3 f fd ["quarrels", "count"] (sp_check_quarrelsX Z) := by
  have G_is_pair : FnOk P w K mg base CX0 2 f2 fd2 ["one", "other", "count"] sp_is_pair := ok_is_pair F_is_pair F_is_thing
  have G_is_keeper : FnOk P w K mg base CX0 2 f3 fd3 ["keeper", "one", "other", "count"] sp_is_keeper := ok_is_keeper F_is_keeper T F_is_thing
  refine F.fn.okX sc_check_quarrels (fun vs H Q E h => ?_) (fun cdv A outer s H vs Q E hr h => ?_)
  · obtain ⟨a, n, qs, rfl, _⟩ := h
    rfl
  · obtain ⟨a, n, qs, rfl, ⟨va, ha, dv⟩, k, kx⟩ := h
    refine ⟨_, (pss_cons (ps_if (pt_cmpR op_gt (pe_callB call_len_seq (by rfl) T.n_len PySem.boot_len (pa_cons (pv 0) pa_nil)) (pe_glob (v := .int (30)) (by rfl) T.c_MOST_QUARRELS ⟨_, rfl⟩) (nomark _))
      (pss_one (ps_raise outs_def rfl (by rfl) T.g_BadQuarrel T.x_BadQuarrel PySem.F.excBase_ValueError (pa_cons pe_str pa_nil)))
      pss_nil)
      (pss_one (ps_for own_def rfl (pi_list (pv 0)) (pg_tup rfl (pgs_cons (pg_name (i := 2) sc_check_quarrels.nd (by rfl) (by first | exact Or.inl rfl | exact Or.inr rfl)) (pgs_cons (pg_name (i := 3) sc_check_quarrels.nd (by rfl) (by first | exact Or.inl rfl | exact Or.inr rfl)) (pgs_cons (pg_name (i := 4) sc_check_quarrels.nd (by rfl) (by first | exact Or.inl rfl | exact Or.inr rfl)) pgs_nil))))
      (pss_cons (ps_if (pt_not (pt_val (pe_call G_is_pair (hr.mono (by decide)) (by rfl) F_is_pair.g F_is_pair.fn.kp F_is_pair.b .nil pass0 (pa_cons (pv 2) (pa_cons (pv 3) (pa_cons (pv 1) pa_nil))))))
      (pss_one (ps_raise outs_def rfl (by rfl) T.g_BadQuarrel T.x_BadQuarrel PySem.F.excBase_ValueError (pa_cons pe_str pa_nil)))
      pss_nil)
      (pss_one (ps_if (pt_not (pt_val (pe_call G_is_keeper (hr.mono (by decide)) (by rfl) F_is_keeper.g F_is_keeper.fn.kp F_is_keeper.b .nil pass0 (pa_cons (pv 4) (pa_cons (pv 2) (pa_cons (pv 3) (pa_cons (pv 1) pa_nil)))))))
      (pss_one (ps_raise outs_def rfl (by rfl) T.g_BadQuarrel T.x_BadQuarrel PySem.F.excBase_ValueError (pa_cons pe_str pa_nil)))
      pss_nil)))))), ?_⟩
    have hl := dvs_len dv
    refine ⟨_, rfl, a, _, rfl, .inl (SqL.of ha), _, _, rfl, rfl, _, rfl, ?_⟩
    refine iteE (fun h1 => ?_) (fun h1 => ?_)
    · exact ⟨le_line (by show 1 ≤ _; decide), kx fun ok => by have := ok.l; have := of_decide_eq_true h1; omega⟩
    have h1' : qs.length ≤ 30 := by
      have := of_decide_eq_false h1
      omega
    refine ⟨_, rfl, a, rfl, ⟨_, SqL.of ha⟩, for_list (K := K) (a := a) (xs := va) (fun i σ H' => H' = H ∧ (∃ v1 v2 v3, σ = [some (.ref a), some (.int n), v1, v2, v3]) ∧ ∀ q ∈ qs.take i, OkQ n q) ⟨rfl, ⟨_, _, _, rfl⟩, by simp⟩ (fun i σ H' _ ⟨e, _⟩ => by rw [e]; exact SqL.of ha) ?_ ?_⟩
    · rintro i x σ H' hi ⟨rfl, ⟨v1, v2, v3, rfl⟩, hin⟩
      obtain ⟨q, hq, dq⟩ := dvs_get dv hi
      obtain ⟨b, rfl, hb⟩ := qu_inv dq
      have bad : ¬ OkQ n q → E (.ref Z.BadQuarrel) none H' := fun hn => kx fun ok => hn (ok.q q (List.mem_of_getElem? hq))
      refine ⟨b, _, rfl, SqT.of hb, rfl, _, _, rfl, _, _, rfl, _, _, rfl, rfl, ?_⟩
      refine ⟨_, rfl, _, rfl, _, rfl, _, _, _, rfl, _, rfl, ?_⟩
      refine iteE (fun h2 => ?_) (fun h2 => ?_)
      · refine ⟨le_line (by show 1 ≤ _; decide), bad fun o => ?_⟩
        have e1 : decide (0 ≤ q.1 ∧ q.1 < (n : Int)) = true := decide_eq_true ⟨o.a0, o.a1⟩
        have e2 : decide (0 ≤ q.2.1 ∧ q.2.1 < (n : Int)) = true := decide_eq_true ⟨o.b0, o.b1⟩
        have e3 : decide (V.int q.1 = V.int q.2.1) = false := decide_eq_false fun z => o.ab (by injection z)
        rw [e1, e2, e3] at h2
        cases h2
      have h2' : (decide (0 ≤ q.1 ∧ q.1 < (n : Int)) && (decide (0 ≤ q.2.1 ∧ q.2.1 < (n : Int)) && !decide (V.int q.1 = V.int q.2.1))) = true := by
        have z : (!(decide (0 ≤ q.1 ∧ q.1 < (n : Int)) && (decide (0 ≤ q.2.1 ∧ q.2.1 < (n : Int)) && !decide (V.int q.1 = V.int q.2.1)))) = false := h2
        rw [Bool.not_eq_false'] at z
        exact z
      simp only [Bool.and_eq_true, decide_eq_true_eq, Bool.not_eq_true', decide_eq_false_iff_not] at h2'
      obtain ⟨⟨a0, a1⟩, ⟨b0, b1⟩, ab⟩ := h2'
      refine ⟨_, rfl, _, rfl, _, rfl, _, rfl, _, _, _, _, rfl, _, rfl, ?_⟩
      refine iteE (fun h3 => ?_) (fun h3 => ?_)
      · refine ⟨le_line (by show 1 ≤ _; decide), bad fun o => ?_⟩
        have e4 : (decide (V.int q.2.2 = V.int (-1)) || (decide (0 ≤ q.2.2 ∧ q.2.2 < (n : Int)) && (!decide (V.int q.2.2 = V.int q.1) && !decide (V.int q.2.2 = V.int q.2.1)))) = true := by
          rcases o.k with z | ⟨z1, z2, z3, z4⟩
          · rw [decide_eq_true (show V.int q.2.2 = V.int (-1) by rw [z])]
            rfl
          · rw [decide_eq_true (show 0 ≤ q.2.2 ∧ q.2.2 < (n : Int) from ⟨z1, z2⟩), decide_eq_false (show ¬ V.int q.2.2 = V.int q.1 from fun z => z3 (by injection z)), decide_eq_false (show ¬ V.int q.2.2 = V.int q.2.1 from fun z => z4 (by injection z))]
            simp
        rw [e4] at h3
        cases h3
      have h3' : (decide (V.int q.2.2 = V.int (-1)) || (decide (0 ≤ q.2.2 ∧ q.2.2 < (n : Int)) && (!decide (V.int q.2.2 = V.int q.1) && !decide (V.int q.2.2 = V.int q.2.1)))) = true := by
        have z : (!(decide (V.int q.2.2 = V.int (-1)) || (decide (0 ≤ q.2.2 ∧ q.2.2 < (n : Int)) && (!decide (V.int q.2.2 = V.int q.1) && !decide (V.int q.2.2 = V.int q.2.1))))) = false := h3
        rw [Bool.not_eq_false'] at z
        exact z
      simp only [Bool.or_eq_true, Bool.and_eq_true, decide_eq_true_eq, Bool.not_eq_true', decide_eq_false_iff_not] at h3'
      refine ⟨rfl, ⟨_, _, _, rfl⟩, fun y hy => ?_⟩
      rw [List.take_add_one, hq] at hy
      rcases List.mem_append.mp hy with z | z
      · exact hin y z
      · have e : y = q := by simpa using z
        rw [e]
        refine ⟨a0, a1, b0, b1, fun z => ab (by rw [z]), ?_⟩
        rcases h3' with z | ⟨⟨z1, z2⟩, z3, z4⟩
        · exact .inl (by injection z)
        · exact .inr ⟨z1, z2, fun z => z3 (by rw [z]), fun z => z4 (by rw [z])⟩
    · rintro σ H' ⟨rfl, ⟨v1, v2, v3, rfl⟩, hin⟩
      rw [hl, List.take_length] at hin
      exact k ⟨h1', hin⟩
/-! ### Night -/
def sp_initX (C : Addr) (Z : Ad) : Sp := fun vs H Q E => ∃ (p dx a b : Addr) (ts : List Th) (r : Int) (qs : List Qu), vs = [.ref p, .ref a, .int r, .ref b] ∧ H p = some (.ins C dx []) ∧ LstAt thD H a ts ∧ LstAt quD H b qs ∧
  (OkT ts → 1 ≤ r → r ≤ 3 → OkQs ts.length qs → ∀ H', NightAt C H' p ts r qs → (∀ b o, H b = some o → b ≠ p → H' b = some o) → Q .non H') ∧ (¬ OkT ts → E (.ref Z.BadThing) none H) ∧ (OkT ts → ¬ (1 ≤ r ∧ r ≤ 3) → E (.ref Z.BadRoom) none H) ∧
  (OkT ts → 1 ≤ r ∧ r ≤ 3 → ¬ OkQs ts.length qs → E (.ref Z.BadQuarrel) none H)
theorem ok_initX {f f1 f2 f3 f4 f5 f6 : Addr} {fd fd1 fd2 fd3 fd4 fd5 fd6 : FuncData} (F : Mt K "__init__" "Night.__init__" s_Night___init__ f fd ["self", "things", "room", "quarrels"]) (T : Txt K mg C Z) (F_is_thing : Fn K mg "is_thing" s_is_thing f1 fd1 ["number", "count"])
    (F_is_pair : Fn K mg "is_pair" s_is_pair f2 fd2 ["one", "other", "count"]) (F_is_keeper : Fn K mg "is_keeper" s_is_keeper f3 fd3 ["keeper", "one", "other", "count"])
    (F_check_things : Fn K mg "check_things" s_check_things f4 fd4 ["things"]) (F_check_room : Fn K mg "check_room" s_check_room f5 fd5 ["room"]) (F_check_quarrels : Fn K mg "check_quarrels" s_check_quarrels f6 fd6 ["quarrels", "count"]) :
    FnOk P w K mg base (CXF P w) 4 f fd ["self", "things", "room", "quarrels"] (sp_initX C Z) := by
  have G_check_things : FnOk P w K mg base (CXF P w) 1 f4 fd4 ["things"] (sp_check_thingsX Z) := ok_check_thingsX F_check_things T
  have G_check_room : FnOk P w K mg base (CXF P w) 1 f5 fd5 ["room"] (sp_check_roomX Z) := ok_check_roomX F_check_room T
  have G_check_quarrels : FnOk P w K mg base (CXF P w) 3 f6 fd6 ["quarrels", "count"] (sp_check_quarrelsX Z) := ok_check_quarrelsX F_check_quarrels T F_is_thing F_is_pair F_is_keeper
  refine F.fn.okX sc_Night___init__ (fun vs H Q E h => ?_) (fun cdv A outer s H vs Q E hr h => ?_)
  · obtain ⟨p, dx, a, b, ts, r, qs, rfl, _⟩ := h
    rfl
  · obtain ⟨p, dx, a, b, ts, r, qs, rfl, hp, lt, lq, k', kt, kr, kq⟩ := h
    refine ⟨_, (pss_cons (ps_expr (pe_call G_check_things (hr.mono (by decide)) (by rfl) F_check_things.g F_check_things.fn.kp F_check_things.b .nil passes_def (pa_cons (pv 1) pa_nil)))
      (pss_cons (ps_expr (pe_call G_check_room (hr.mono (by decide)) (by rfl) F_check_room.g F_check_room.fn.kp F_check_room.b .nil passes_def (pa_cons (pv 2) pa_nil)))
      (pss_cons (ps_expr (pe_call G_check_quarrels (hr.mono (by decide)) (by rfl) F_check_quarrels.g F_check_quarrels.fn.kp F_check_quarrels.b .nil passes_def (pa_cons (pv 3) (pa_cons (pe_callB call_len_seq (by rfl) T.n_len PySem.boot_len (pa_cons (pv 1) pa_nil)) pa_nil))))
      (pss_cons (ps_fld (pv 0) (pe_callTy call_tuple_of (by rfl) T.n_tuple boot_tuple (pa_cons (pv 1) pa_nil)) rfl)
      (pss_cons (ps_fld (pv 0) (pv 2) rfl)
      (pss_one (ps_fld (pv 0) (pe_callTy call_tuple_of (by rfl) T.n_tuple boot_tuple (pa_cons (pv 3) pa_nil)) rfl))))))), ?_⟩
    obtain ⟨va, ha, dva⟩ := id lt
    obtain ⟨vb, hb, dvb⟩ := id lq
    have hl := dvs_len dva
    refine ⟨_, rfl, a, ts, rfl, lt, fun okt => ?_, kt⟩
    refine ⟨_, rfl, r, rfl, fun hr13 => ?_, fun hn => kr okt hn⟩
    refine ⟨_, rfl, _, rfl, a, _, rfl, .inl (SqL.of ha), b, va.length, qs, rfl, lq, fun okq' => ?_, fun hn => kq okt hr13 (fun z => hn (by rw [hl]; exact z))⟩
    have okq : OkQs ts.length qs := by rw [hl] at okq'; exact okq'
    have k := k' okt hr13.1 hr13.2 okq
    refine ⟨_, rfl, a, _, rfl, .inl ⟨SqL.of ha, fun t ht => ?_⟩⟩
    have npt : p ≠ t := ne_of_none hp ht
    have nbt : b ≠ t := ne_of_none hb ht
    refine ⟨_, rfl, p, C, dx, [], rfl, (by rw [upd_ne npt]; exact hp), T.cl_Night, T.a_things, (by show 0 < 1000; decide), ?_⟩
    refine ⟨_, rfl, _, rfl, p, C, dx, _, rfl, upd_same, T.cl_Night, T.a_room, (by show 1 < 1000; decide), ?_⟩
    have nbp : b ≠ p := ne_of hb hp (by intro z; cases z)
    have hb2 : ∀ o o', (L2.upd (L2.upd (L2.upd H t (.tup va)) p o) p o') b = some (.lst vb) := fun o o' => by rw [upd_ne nbp, upd_ne nbp, upd_ne nbt]; exact hb
    refine ⟨_, rfl, b, _, rfl, .inl ⟨SqL.of (hb2 _ _), fun q hq' => ?_⟩⟩
    have npq : p ≠ q := ne_of_none (H := L2.upd (L2.upd (L2.upd H t (.tup va)) p _) p _) upd_same hq'
    refine ⟨_, rfl, p, C, dx, _, rfl, (by rw [upd_ne npq]; exact upd_same), T.cl_Night, T.a_quarrels, (by show 2 < 1000; decide), ?_⟩
    have old : ∀ b o, H b = some o → b ≠ p → (L2.upd (L2.upd (L2.upd (L2.upd (L2.upd H t (.tup va)) p (.ins C dx (putF "kept_things" (.ref t) []))) p (.ins C dx (putF "kept_room" (.int r) (putF "kept_things" (.ref t) [])))) q (.tup vb)) p (.ins C dx (flds t r q))) b = some o := fun c o hc hcp => by
      have nct : c ≠ t := ne_of_none hc ht
      have h1 : (L2.upd (L2.upd (L2.upd H t (.tup va)) p (.ins C dx (putF "kept_things" (.ref t) []))) p (.ins C dx (putF "kept_room" (.int r) (putF "kept_things" (.ref t) [])))) c = some o := by rw [upd_ne hcp, upd_ne hcp, upd_ne nct]; exact hc
      have ncq : c ≠ q := ne_of_none h1 hq'
      rw [upd_ne hcp, upd_ne ncq]
      exact h1
    have ntp : t ≠ p := fun e => npt e.symm
    have ht1 : (L2.upd (L2.upd (L2.upd H t (.tup va)) p (.ins C dx (putF "kept_things" (.ref t) []))) p (.ins C dx (putF "kept_room" (.int r) (putF "kept_things" (.ref t) [])))) t = some (.tup va) := by rw [upd_ne ntp, upd_ne ntp]; exact upd_same
    have ntq : t ≠ q := ne_of_none ht1 hq'
    -- the inner tuples stand apart from p
    have sm : ∀ {α : Type} {f : α → PyData} {l : List α} {vs : List V}, (∀ x, noLst (f x) = true) → DVs H (l.map f) vs → DVs (L2.upd (L2.upd (L2.upd (L2.upd (L2.upd H t (.tup va)) p (.ins C dx (putF "kept_things" (.ref t) []))) p (.ins C dx (putF "kept_room" (.int r) (putF "kept_things" (.ref t) [])))) q (.tup vb)) p (.ins C dx (flds t r q))) (l.map f) vs := fun {α f l vs} hf h => dvs_but (fun b ws hb => old b _ hb (by
        intro z
        rw [z, hp] at hb
        cases hb)) h (noLsts_map hf l)
    refine k _ ⟨dx, t, q, upd_same, ⟨va, ?_, sm th_no dva⟩, ⟨vb, ?_, sm qu_no dvb⟩⟩ old
    · rw [upd_ne ntp, upd_ne ntq]; exact ht1
    · rw [upd_ne (fun e => npq e.symm)]; exact upd_same
end
end FN


set_option Elab.async false
set_option linter.all false
set_option maxRecDepth 100000
set_option maxHeartbeats 4000000
namespace FN
open PySem L2 PyProof.Rows
theorem kit_self (K : PySem.W.Frag) (v : Value) (h : (v == v) = true) : PySem.W.kitOne K v v = some true := by
  unfold PySem.W.kitOne
  rw [if_pos h]
theorem kit_ref (K : PySem.W.Frag) (D : Addr) : PySem.W.kitOne K (.ref D) (.ref D) = some true := kit_self K _ (by simp)
/-- D is none of the others -/
def Alone (K : PySem.W.Frag) (D : Addr) (others : List Addr) : Prop := ∀ E ∈ others, PySem.W.kitOne K (.ref D) (.ref E) = some false
/-- what a refusal of the class C is told as: the κ-th -/
structure FlagsOf (K : PySem.W.Frag) (Z : Ad) (C : Addr) (κ : Nat) : Prop where
  k : PySem.W.ExcK K C
  v : PySem.W.kitOne K (.ref C) (.type "ValueError") = some true
  f0 : PySem.W.kitOne K (.ref C) (.ref Z.BadThing) = some (decide (0 = κ))
  f1 : PySem.W.kitOne K (.ref C) (.ref Z.BadRoom) = some (decide (1 = κ))
  f2 : PySem.W.kitOne K (.ref C) (.ref Z.BadQuarrel) = some (decide (2 = κ))
  f3 : PySem.W.kitOne K (.ref C) (.ref Z.NoStanding) = some (decide (3 = κ))
  f4 : PySem.W.kitOne K (.ref C) (.ref Z.BadStart) = some (decide (4 = κ))
  f5 : PySem.W.kitOne K (.ref C) (.ref Z.NoCrew) = some (decide (5 = κ))
  f6 : PySem.W.kitOne K (.ref C) (.ref Z.BadNote) = some (decide (6 = κ))
def flagsB (κ : Nat) : List Bool := [decide (0 = κ), decide (1 = κ), decide (2 = κ), decide (3 = κ), decide (4 = κ), decide (5 = κ), decide (6 = κ), true]
structure Als (K : PySem.W.Frag) (Z : Ad) : Prop where
  t : Alone K Z.BadThing [Z.BadRoom, Z.BadQuarrel, Z.NoStanding, Z.BadStart, Z.NoCrew, Z.BadNote]
  r : Alone K Z.BadRoom [Z.BadThing, Z.BadQuarrel, Z.NoStanding, Z.BadStart, Z.NoCrew, Z.BadNote]
  q : Alone K Z.BadQuarrel [Z.BadThing, Z.BadRoom, Z.NoStanding, Z.BadStart, Z.NoCrew, Z.BadNote]
  n : Alone K Z.NoStanding [Z.BadThing, Z.BadRoom, Z.BadQuarrel, Z.BadStart, Z.NoCrew, Z.BadNote]
  s : Alone K Z.BadStart [Z.BadThing, Z.BadRoom, Z.BadQuarrel, Z.NoStanding, Z.NoCrew, Z.BadNote]
section
variable {P : Program} {w : World} {K : PySem.W.Frag} {mg : Str → Option Value} {base : Heap} {C : Addr} {Z : Ad} {fs gs : Nat → Addr} {ds es : Nat → FuncData}
theorem fl_t (T : Txt K mg C Z) (A : Als K Z) : FlagsOf K Z Z.BadThing 0 := ⟨T.r_BadThing.k, T.r_BadThing.v, kit_ref _ _, A.t _ (by simp), A.t _ (by simp), A.t _ (by simp), A.t _ (by simp), A.t _ (by simp), A.t _ (by simp)⟩
theorem fl_r (T : Txt K mg C Z) (A : Als K Z) : FlagsOf K Z Z.BadRoom 1 := ⟨T.r_BadRoom.k, T.r_BadRoom.v, A.r _ (by simp), kit_ref _ _, A.r _ (by simp), A.r _ (by simp), A.r _ (by simp), A.r _ (by simp), A.r _ (by simp)⟩
theorem fl_q (T : Txt K mg C Z) (A : Als K Z) : FlagsOf K Z Z.BadQuarrel 2 := ⟨T.r_BadQuarrel.k, T.r_BadQuarrel.v, A.q _ (by simp), A.q _ (by simp), kit_ref _ _, A.q _ (by simp), A.q _ (by simp), A.q _ (by simp), A.q _ (by simp)⟩
theorem fl_n (T : Txt K mg C Z) (A : Als K Z) : FlagsOf K Z Z.NoStanding 3 := ⟨T.r_NoStanding.k, T.r_NoStanding.v, A.n _ (by simp), A.n _ (by simp), A.n _ (by simp), kit_ref _ _, A.n _ (by simp), A.n _ (by simp), A.n _ (by simp)⟩
theorem fl_s (T : Txt K mg C Z) (A : Als K Z) : FlagsOf K Z Z.BadStart 4 := ⟨T.r_BadStart.k, T.r_BadStart.v, A.s _ (by simp), A.s _ (by simp), A.s _ (by simp), A.s _ (by simp), kit_ref _ _, A.s _ (by simp), A.s _ (by simp)⟩
/-! ### shortest, where it refuses -/
def sp_shortestX (C : Addr) (Z : Ad) : Sp := fun vs H Q E => ∃ (p a : Addr) (ts : List Th) (r : Int) (qs : List Qu) (st : St2), vs = [.ref p, .ref a] ∧ NightAt C H p ts r qs ∧ ts.length ≤ 6 ∧ StAt H a st ∧ st.1.length ≤ 1000 ∧
  (isSt ts.length st = true → isGood qs ts.length st.1 = false) ∧ (isSt ts.length st = false → ∀ H', Same H H' → E (.ref Z.NoStanding) none H') ∧ (isSt ts.length st = true → isGood qs ts.length st.1 = false → ∀ H', Same H H' → E (.ref Z.BadStart) none H')
theorem sc_shortest : FnScope ["night", "standing", "crossings", "fewest"] ["night", "standing"] (defScope s_shortest) := ⟨rfl, rfl, rfl, by decide +kernel, rfl, by decide +kernel, by decide +kernel⟩
theorem ok_shortestX {f : Addr} {fd : FuncData} (F : Fn K mg "shortest" s_shortest f fd ["night", "standing"]) (L : Lk K mg C fs ds) (T : Txt K mg C Z) : FnOk P w K mg base (CXF P w) 5 f fd ["night", "standing"] (sp_shortestX C Z) := by
  have F_check_start := L.check_start
  have G_check_start : FnOk P w K mg base (CXF P w) 4 (fs 10) (ds 10) ["night", "standing"] (sp_check_start C Z) := ok_check_start L T
  refine F.fn.okX sc_shortest (fun vs H Q E h => ?_) (fun cdv A outer s H vs Q E hr h => ?_)
  · obtain ⟨p, a, ts, r, qs, st, rfl, _⟩ := h
    rfl
  · obtain ⟨p, a, ts, r, qs, st, rfl, N, h6, hst, hl, hn, k2, k3⟩ := h
    refine ⟨_, (pss_cons (ps_expr (pe_call G_check_start (hr.mono (by decide)) (by rfl) F_check_start.g F_check_start.fn.kp F_check_start.b .nil passes_def (pa_cons (pv 0) (pa_cons (pv 1) pa_nil))))
      pss_never), ?_⟩
    exact ⟨_, rfl, _, rfl, p, a, ts, r, qs, st, rfl, N, h6, hst, hl, (fun hS hG => by rw [hn hS] at hG; cases hG), k2, k3⟩
/-! ### _law_asked -/
def sp_asked (C : Addr) (Z : Ad) : Sp := fun vs H Q E => ∃ (way : Int) (p a : Addr) (ts : List Th) (r : Int) (qs : List Qu) (st : St2), vs = [.int way, .ref p, .ref a] ∧ NightAt C H p ts r qs ∧ ts.length ≤ 6 ∧ StAt H a st ∧ st.1.length ≤ 1000 ∧
  (isSt ts.length st = true → isGood qs ts.length st.1 = false ∧ way ≠ 0) ∧ (isSt ts.length st = false → ∀ H', Same H H' → E (.ref Z.NoStanding) none H') ∧ (isSt ts.length st = true → isGood qs ts.length st.1 = false → ∀ H', Same H H' → E (.ref Z.BadStart) none H')
theorem sc__law_asked : FnScope ["way", "made", "standing"] ["way", "made", "standing"] (defScope s__law_asked) := ⟨rfl, rfl, rfl, by decide +kernel, rfl, by decide +kernel, by decide +kernel⟩
theorem ok_asked {f f1 f2 f3 f4 f5 f6 : Addr} {fd fd1 fd2 fd3 fd4 fd5 fd6 : FuncData} (F : Fn K mg "_law_asked" s__law_asked f fd ["way", "made", "standing"]) (L : Lk K mg C fs ds) (T : Txt K mg C Z) (F_good : Fn K mg "good" s_good f1 fd1 ["night", "standing"])
    (F_after : Fn K mg "after" s_after f2 fd2 ["night", "standing", "crew"]) (F_takes : Fn K mg "takes" s_takes f3 fd3 ["night", "standing", "plan"]) (F_shortest : Fn K mg "shortest" s_shortest f4 fd4 ["night", "standing"])
    (F_minutes : Fn K mg "minutes" s_minutes f5 fd5 ["night", "crew"]) (M_Night_ends : Meth K C "ends" f6) (F_Night_ends : Mt K "ends" "Night.ends" s_Night_ends f6 fd6 ["self"]) : FnOk P w K mg base (CXF P w) 7 f fd ["way", "made", "standing"] (sp_asked C Z) := by
  have F_crews := L.crews
  have G_good : FnOk P w K mg base (CXF P w) 4 f1 fd1 ["night", "standing"] (sp_good C Z) := ok_good F_good L T
  have G_crews : FnOk P w K mg base (CXF P w) 5 (fs 15) (ds 15) ["night", "standing"] (sp_crews C Z) := ok_crews L T
  have G_after : FnOk P w K mg base (CXF P w) 6 f2 fd2 ["night", "standing", "crew"] (sp_after C Z) := ok_after F_after L T
  have G_takes : FnOk P w K mg base (CXF P w) 6 f3 fd3 ["night", "standing", "plan"] (sp_takes C Z) := ok_takes F_takes L T F_minutes M_Night_ends F_Night_ends
  have G_shortest : FnOk P w K mg base (CXF P w) 5 f4 fd4 ["night", "standing"] (sp_shortestX C Z) := ok_shortestX F_shortest L T
  refine F.fn.okX sc__law_asked (fun vs H Q E h => ?_) (fun cdv A outer s H vs Q E hr h => ?_)
  · obtain ⟨way, p, a, ts, r, qs, st, rfl, _⟩ := h
    rfl
  · obtain ⟨way, p, a, ts, r, qs, st, rfl, N, h6, hst, hl, hn, k2, k3⟩ := h
    refine ⟨_, (pss_one (ps_if (pt_cmpR op_eq (pv 0) pe_int (nomark _))
      (pss_one (ps_expr (pe_call G_good (hr.mono (by decide)) (by rfl) F_good.g F_good.fn.kp F_good.b .nil passes_def (pa_cons (pv 1) (pa_cons (pv 2) pa_nil)))))
      (pss_one (ps_if (pt_cmpR op_eq (pv 0) pe_int (nomark _))
      (pss_one (ps_expr (pe_call G_crews (hr.mono (by decide)) (by rfl) F_crews.g F_crews.fn.kp F_crews.b .nil passes_def (pa_cons (pv 1) (pa_cons (pv 2) pa_nil)))))
      (pss_one (ps_if (pt_cmpR op_eq (pv 0) pe_int (nomark _))
      (pss_one (ps_expr (pe_call G_after (hr.mono (by decide)) (by rfl) F_after.g F_after.fn.kp F_after.b .nil passes_def (pa_cons (pv 1) (pa_cons (pv 2) (pa_cons (pe_tup (pa_cons pe_int pa_nil)) pa_nil))))))
      (pss_one (ps_if (pt_cmpR op_eq (pv 0) pe_int (nomark _))
      (pss_one (ps_expr (pe_call G_takes (hr.mono (by decide)) (by rfl) F_takes.g F_takes.fn.kp F_takes.b .nil passes_def (pa_cons (pv 1) (pa_cons (pv 2) (pa_cons (pe_lst pa_nil) pa_nil))))))
      (pss_one (ps_expr (pe_call G_shortest (hr.mono (by decide)) (by rfl) F_shortest.g F_shortest.fn.kp F_shortest.b .nil passes_def (pa_cons (pv 1) (pa_cons (pv 2) pa_nil))))))))))))), ?_⟩
    refine ⟨_, rfl, rfl, _, rfl, ?_⟩
    refine iteE (fun h1 => ?_) (fun h1 => ?_)
    · have hw : way = 0 := by have := of_decide_eq_true h1; injection this
      exact ⟨_, rfl, _, rfl, p, a, ts, r, qs, st, rfl, N, h6, hst, hl, (fun hS => absurd hw (hn hS).2), k2⟩
    refine ⟨_, rfl, rfl, _, rfl, ?_⟩
    refine iteE (fun h2 => ?_) (fun h2 => ?_)
    · exact ⟨_, rfl, _, rfl, p, a, ts, r, qs, st, rfl, N, h6, hst, hl, (fun hS hG => by rw [(hn hS).1] at hG; cases hG), k2, k3⟩
    refine ⟨_, rfl, rfl, _, rfl, ?_⟩
    refine iteE (fun h3 => ?_) (fun h3 => ?_)
    · refine ⟨_, rfl, _, rfl, le_line (by show 1 ≤ _; decide), fun o ho => ?_⟩
      have s1 := same_new (o := .tup [.int 0]) ho
      exact ⟨p, a, o, ts, r, qs, st, [0], rfl, N.mono s1, h6, hst.mono s1, hl, upd_same, (fun hS hG => by rw [(hn hS).1] at hG; cases hG), fun hS H' sm => k2 hS H' (s1.trans sm), fun hS hG H' sm => k3 hS hG H' (s1.trans sm), (fun hS hG => by rw [(hn hS).1] at hG; cases hG)⟩
    refine ⟨_, rfl, rfl, _, rfl, ?_⟩
    refine iteE (fun h4 => ?_) (fun h4 => ?_)
    · refine ⟨_, rfl, _, rfl, le_line (Nat.zero_le _), fun o ho => ?_⟩
      have s1 := same_new (o := .lst []) ho
      exact ⟨p, a, o, ts, r, qs, st, [], rfl, N.mono s1, h6, hst.mono s1, hl, ⟨[], upd_same, .nil⟩, (fun hS hG => by rw [(hn hS).1] at hG; cases hG), fun hS H' sm => k2 hS H' (s1.trans sm), fun hS hG H' sm => k3 hS hG H' (s1.trans sm)⟩
    · exact ⟨_, rfl, _, rfl, p, a, ts, r, qs, st, rfl, N, h6, hst, hl, (fun hS => (hn hS).1), k2, k3⟩
/-! ### _law_flags -/
def sp_flags (K : PySem.W.Frag) (Z : Ad) : Addr → Addr → Sp := fun a C vs H Q _ => ∃ κ, vs = [.ref a] ∧ FlagsOf K Z C κ ∧ ∀ l H', Same H H' → H' l = some (.lst ((flagsB κ).map V.bl)) → Q (.ref l) H'
theorem sc__law_flags : FnScope ["e", "flags"] ["e"] (defScope s__law_flags) := ⟨rfl, rfl, rfl, by decide +kernel, rfl, by decide +kernel, by decide +kernel⟩
theorem ok_flags {f : Addr} {fd : FuncData} (F : Fn K mg "_law_flags" s__law_flags f fd ["e"]) (T : Txt K mg C Z) : FnOkC P w K mg base 1 f fd ["e"] (sp_flags K Z) := by
  refine F.fn.okC sc__law_flags (fun a C vs H Q E h => ?_) (fun cdv A outer s H vs Q a C oe hC h => ?_)
  · obtain ⟨κ, rfl, _⟩ := h
    rfl
  · obtain ⟨κ, rfl, fl, k⟩ := h
    refine ⟨_, (pss_cons (ps_set (i := 1) sc__law_flags.nd (by rfl) (by first | exact Or.inl rfl | exact Or.inr rfl) (pe_lst (pa_cons (pe_callB (call_isEC List.mem_cons_self hC) (by rfl) T.n_isinstance boot_isinstance (pa_cons (pv 0) (pa_cons (pe_glob (v := .ref Z.BadThing) (by rfl) T.g_BadThing rfl) pa_nil))) (pa_cons (pe_callB (call_isEC List.mem_cons_self hC) (by rfl) T.n_isinstance boot_isinstance (pa_cons (pv 0) (pa_cons (pe_glob (v := .ref Z.BadRoom) (by rfl) T.g_BadRoom rfl) pa_nil))) (pa_cons (pe_callB (call_isEC List.mem_cons_self hC) (by rfl) T.n_isinstance boot_isinstance (pa_cons (pv 0) (pa_cons (pe_glob (v := .ref Z.BadQuarrel) (by rfl) T.g_BadQuarrel rfl) pa_nil))) (pa_cons (pe_callB (call_isEC List.mem_cons_self hC) (by rfl) T.n_isinstance boot_isinstance (pa_cons (pv 0) (pa_cons (pe_glob (v := .ref Z.NoStanding) (by rfl) T.g_NoStanding rfl) pa_nil))) pa_nil))))))
      (pss_cons (ps_set (i := 1) sc__law_flags.nd (by rfl) (by first | exact Or.inl rfl | exact Or.inr rfl) (pe_op op_cat (pv 1) (pe_lst (pa_cons (pe_callB (call_isEC List.mem_cons_self hC) (by rfl) T.n_isinstance boot_isinstance (pa_cons (pv 0) (pa_cons (pe_glob (v := .ref Z.BadStart) (by rfl) T.g_BadStart rfl) pa_nil))) (pa_cons (pe_callB (call_isEC List.mem_cons_self hC) (by rfl) T.n_isinstance boot_isinstance (pa_cons (pv 0) (pa_cons (pe_glob (v := .ref Z.NoCrew) (by rfl) T.g_NoCrew rfl) pa_nil))) (pa_cons (pe_callB (call_isEC List.mem_cons_self hC) (by rfl) T.n_isinstance boot_isinstance (pa_cons (pv 0) (pa_cons (pe_glob (v := .ref Z.BadNote) (by rfl) T.g_BadNote rfl) pa_nil))) pa_nil))))))
      (pss_one (ps_ret (pe_op op_cat (pv 1) (pe_lst (pa_cons (pe_callB (call_isEC List.mem_cons_self hC) (by rfl) T.n_isinstance boot_isinstance (pa_cons (pv 0) (pa_cons (pe_bltn (v := .ty "ValueError") (by rfl) T.n_ValueError boot_ValueError rfl) pa_nil))) pa_nil))))))), ?_⟩
    have ek := fl.k
    refine ⟨_, rfl, ek, .inl ⟨_, _, rfl, fl.f0, _, rfl, ek, .inl ⟨_, _, rfl, fl.f1, _, rfl, ek, .inl ⟨_, _, rfl, fl.f2, _, rfl, ek, .inl ⟨_, _, rfl, fl.f3, le_line (by show 4 ≤ _; decide), fun l1 hl1 => ?_⟩⟩⟩⟩⟩
    have s2 := same_new (o := .lst [.bl (decide (0 = κ)), .bl (decide (1 = κ)), .bl (decide (2 = κ)), .bl (decide (3 = κ))]) hl1
    refine ⟨_, rfl, _, rfl, ek, .inl ⟨_, _, rfl, fl.f4, _, rfl, ek, .inl ⟨_, _, rfl, fl.f5, _, rfl, ek, .inl ⟨_, _, rfl, fl.f6, le_line (by show 3 ≤ _; decide), fun l2 hl2 => ?_⟩⟩⟩⟩
    have s3 := same_new (o := .lst [.bl (decide (4 = κ)), .bl (decide (5 = κ)), .bl (decide (6 = κ))]) hl2
    refine ⟨l1, l2, _, _, rfl, rfl, s3 _ _ upd_same, upd_same, le_line (by show 7 ≤ _; decide), fun l3 hl3 => ?_⟩
    have s4 := same_new (o := .lst ([.bl (decide (0 = κ)), .bl (decide (1 = κ)), .bl (decide (2 = κ)), .bl (decide (3 = κ))] ++ [.bl (decide (4 = κ)), .bl (decide (5 = κ)), .bl (decide (6 = κ))])) hl3
    refine ⟨_, rfl, _, rfl, ek, .inr ⟨_, _, rfl, fl.v, le_line (by show 1 ≤ _; decide), fun l4 hl4 => ?_⟩⟩
    have s5 := same_new (o := .lst [.bl true]) hl4
    refine ⟨l3, l4, _, _, rfl, rfl, s5 _ _ upd_same, upd_same, le_line (by show 8 ≤ _; decide), fun l5 hl5 => ?_⟩
    exact k l5 _ (s2.trans (s3.trans (s4.trans (s5.trans (same_new hl5))))) upd_same
/-! ### _law_refusal, _law_making -/
def sp_refusal (C : Addr) : Sp := fun vs H Q _ => ∃ (way : Int) (p a : Addr) (ts : List Th) (r : Int) (qs : List Qu) (st : St2), vs = [.int way, .ref p, .ref a] ∧ NightAt C H p ts r qs ∧ ts.length ≤ 6 ∧ StAt H a st ∧ st.1.length ≤ 1000 ∧
  (isSt ts.length st = true → isGood qs ts.length st.1 = false ∧ way ≠ 0) ∧ ∀ l H', Same H H' → H' l = some (.lst ((flagsB (if isSt ts.length st = true then 4 else 3)).map V.bl)) → Q (.ref l) H'
theorem sc__law_refusal : FnScope ["way", "made", "standing", "found", "e"] ["way", "made", "standing"] (defScope s__law_refusal) := ⟨rfl, rfl, rfl, by decide +kernel, rfl, by decide +kernel, by decide +kernel⟩
theorem ok_refusal {f f1 f2 f3 f4 f5 f6 f7 f8 : Addr} {fd fd1 fd2 fd3 fd4 fd5 fd6 fd7 fd8 : FuncData} (F : Fn K mg "_law_refusal" s__law_refusal f fd ["way", "made", "standing"]) (L : Lk K mg C fs ds) (T : Txt K mg C Z) (Al : Als K Z) (F_good : Fn K mg "good" s_good f1 fd1 ["night", "standing"])
    (F_after : Fn K mg "after" s_after f2 fd2 ["night", "standing", "crew"]) (F_takes : Fn K mg "takes" s_takes f3 fd3 ["night", "standing", "plan"]) (F_shortest : Fn K mg "shortest" s_shortest f4 fd4 ["night", "standing"])
    (F_minutes : Fn K mg "minutes" s_minutes f5 fd5 ["night", "crew"]) (M_Night_ends : Meth K C "ends" f6) (F_Night_ends : Mt K "ends" "Night.ends" s_Night_ends f6 fd6 ["self"]) (F__law_asked : Fn K mg "_law_asked" s__law_asked f7 fd7 ["way", "made", "standing"])
    (F__law_flags : Fn K mg "_law_flags" s__law_flags f8 fd8 ["e"]) : FnOk P w K mg base CX0 8 f fd ["way", "made", "standing"] (sp_refusal C) := by
  have G__law_asked : FnOk P w K mg base (CXF P w) 7 f7 fd7 ["way", "made", "standing"] (sp_asked C Z) := ok_asked F__law_asked L T F_good F_after F_takes F_shortest F_minutes M_Night_ends F_Night_ends
  have G__law_flags : FnOkC P w K mg base 1 f8 fd8 ["e"] (sp_flags K Z) := ok_flags F__law_flags T
  refine F.fn.ok sc__law_refusal (fun vs H Q E h => ?_) (fun cdv A outer s H vs Q E hr h => ?_)
  · obtain ⟨way, p, a, ts, r, qs, st, rfl, _⟩ := h
    rfl
  · obtain ⟨way, p, a, ts, r, qs, st, rfl, N, h6, hst, hl, hn, k⟩ := h
    refine ⟨_, (pss_cons (ps_set (i := 3) sc__law_refusal.nd (by rfl) (by first | exact Or.inl rfl | exact Or.inr rfl) (pe_lst pa_nil))
      (pss_cons (ps_try (j := 4) rfl rfl sc__law_refusal.nd (by rfl) (by rfl) (by rfl) T.g_FerryError (pxs_expr (px_call G__law_asked (hr.mono (by decide)) (by rfl) F__law_asked.g F__law_asked.fn.kp F__law_asked.b .nil (pa_cons (pv 0) (pa_cons (pv 1) (pa_cons (pv 2) pa_nil)))) pss_nil) (fun a oe C hC =>
      (pss_one (ps_set (i := 3) sc__law_refusal.nd (by rfl) (by first | exact Or.inl rfl | exact Or.inr rfl) (pe_callC hC G__law_flags (hr.mono (by decide)) (by rfl) F__law_flags.g F__law_flags.fn.kp F__law_flags.b (pa_cons (pv 4) pa_nil))))))
      (pss_one (ps_ret (pv 3))))), ?_⟩
    refine ⟨le_line (Nat.zero_le _), fun l0 hl0 => ?_⟩
    have s0 := same_new (o := .lst []) hl0
    refine ⟨_, rfl, _, rfl, _, rfl, way, p, a, ts, r, qs, st, rfl, N.mono s0, h6, hst.mono s0, hl, hn, fun hS H1 s1 => ?_, fun hS hG H1 s1 => ?_⟩
    · rw [if_neg (by rw [hS]; simp)] at k
      refine ⟨_, rfl, T.r_NoStanding.m, fun x hx => ?_⟩
      refine ⟨_, rfl, 3, rfl, fl_n T Al, fun l H' sm h' => ?_⟩
      exact ⟨_, rfl, k l H' (s0.trans (s1.trans sm)) h'⟩
    · rw [if_pos hS] at k
      refine ⟨_, rfl, T.r_BadStart.m, fun x hx => ?_⟩
      refine ⟨_, rfl, 4, rfl, fl_s T Al, fun l H' sm h' => ?_⟩
      exact ⟨_, rfl, k l H' (s0.trans (s1.trans sm)) h'⟩
def sp_making : Sp := fun vs H Q _ => ∃ (a b : Addr) (ts : List Th) (r : Int) (qs : List Qu), vs = [.ref a, .int r, .ref b] ∧ LstAt thD H a ts ∧ LstAt quD H b qs ∧
  (OkT ts → 1 ≤ r ∧ r ≤ 3 → OkQs ts.length qs → ∀ l H', Same H H' → H' l = some (.lst []) → Q (.ref l) H') ∧ (¬ OkT ts → ∀ l H', Same H H' → H' l = some (.lst ((flagsB 0).map V.bl)) → Q (.ref l) H') ∧
  (OkT ts → ¬ (1 ≤ r ∧ r ≤ 3) → ∀ l H', Same H H' → H' l = some (.lst ((flagsB 1).map V.bl)) → Q (.ref l) H') ∧ (OkT ts → 1 ≤ r ∧ r ≤ 3 → ¬ OkQs ts.length qs → ∀ l H', Same H H' → H' l = some (.lst ((flagsB 2).map V.bl)) → Q (.ref l) H')
theorem sc__law_making : FnScope ["things", "room", "quarrels", "found", "e"] ["things", "room", "quarrels"] (defScope s__law_making) := ⟨rfl, rfl, rfl, by decide +kernel, rfl, by decide +kernel, by decide +kernel⟩
theorem ok_making {f f0 f1 f2 f3 f4 f5 f6 f8 : Addr} {fd fd0 fd1 fd2 fd3 fd4 fd5 fd6 fd8 : FuncData} (F : Fn K mg "_law_making" s__law_making f fd ["things", "room", "quarrels"]) (T : Txt K mg C Z) (Al : Als K Z) (M_Night : Mk K C f0)
    (F_Night___init__ : Mt K "__init__" "Night.__init__" s_Night___init__ f0 fd0 ["self", "things", "room", "quarrels"]) (F_is_thing : Fn K mg "is_thing" s_is_thing f1 fd1 ["number", "count"])
    (F_is_pair : Fn K mg "is_pair" s_is_pair f2 fd2 ["one", "other", "count"]) (F_is_keeper : Fn K mg "is_keeper" s_is_keeper f3 fd3 ["keeper", "one", "other", "count"])
    (F_check_things : Fn K mg "check_things" s_check_things f4 fd4 ["things"]) (F_check_room : Fn K mg "check_room" s_check_room f5 fd5 ["room"]) (F_check_quarrels : Fn K mg "check_quarrels" s_check_quarrels f6 fd6 ["quarrels", "count"])
    (F__law_flags : Fn K mg "_law_flags" s__law_flags f8 fd8 ["e"]) : FnOk P w K mg base CX0 6 f fd ["things", "room", "quarrels"] sp_making := by
  have G_Night___init__ : FnOk P w K mg base (CXF P w) 4 f0 fd0 ["self", "things", "room", "quarrels"] (sp_initX C Z) := ok_initX F_Night___init__ T F_is_thing F_is_pair F_is_keeper F_check_things F_check_room F_check_quarrels
  have G__law_flags : FnOkC P w K mg base 1 f8 fd8 ["e"] (sp_flags K Z) := ok_flags F__law_flags T
  refine F.fn.ok sc__law_making (fun vs H Q E h => ?_) (fun cdv A outer s H vs Q E hr h => ?_)
  · obtain ⟨a, b, ts, r, qs, rfl, _⟩ := h
    rfl
  · obtain ⟨a, b, ts, r, qs, rfl, ⟨va, ha, dva⟩, ⟨vb, hb, dvb⟩, k, kt, kr, kq⟩ := h
    refine ⟨_, (pss_cons (ps_set (i := 3) sc__law_making.nd (by rfl) (by first | exact Or.inl rfl | exact Or.inr rfl) (pe_lst pa_nil))
      (pss_cons (ps_try (j := 4) rfl rfl sc__law_making.nd (by rfl) (by rfl) (by rfl) T.g_FerryError (pxs_expr (px_make M_Night G_Night___init__ (hr.mono (by decide)) (by rfl) T.g_Night F_Night___init__.b .nil (pa_cons (pv 0) (pa_cons (pv 1) (pa_cons (pv 2) pa_nil)))) pss_nil) (fun a oe C hC =>
      (pss_one (ps_set (i := 3) sc__law_making.nd (by rfl) (by first | exact Or.inl rfl | exact Or.inr rfl) (pe_callC hC G__law_flags (hr.mono (by decide)) (by rfl) F__law_flags.g F__law_flags.fn.kp F__law_flags.b (pa_cons (pv 4) pa_nil))))))
      (pss_one (ps_ret (pv 3))))), ?_⟩
    refine ⟨le_line (Nat.zero_le _), fun l0 hl0 => ?_⟩
    have s0 := same_new (o := .lst []) hl0
    have hl0' : (L2.upd H l0 (.lst [])) l0 = some (.lst []) := upd_same
    generalize L2.upd H l0 (.lst []) = H0 at s0 hl0' ⊢
    refine ⟨_, rfl, _, rfl, _, rfl, fun pm dx nx ndx nex => ?_⟩
    have s1 : Same H0 (L2.upd (L2.upd H0 dx (.own pm)) pm (.ins C dx [])) := same_upd (same_new ndx) nx
    have st := s0.trans s1
    refine ⟨pm, dx, a, b, ts, r, qs, rfl, upd_same, ⟨va, st _ _ ha, dva.mono st⟩, ⟨vb, st _ _ hb, dvb.mono st⟩, fun okt r1 r3 okq H1 NA kp => ⟨rfl, ?_⟩, fun hn => ?_, fun okt hn => ?_, fun okt hr13 hn => ?_⟩
    · have s4 : Same H0 H1 := fun b o e => kp b o (s1 b o e) (ne_of_none e nx)
      exact ⟨_, rfl, k okt ⟨r1, r3⟩ okq l0 H1 (s0.trans s4) (s4 _ _ hl0')⟩
    · refine ⟨_, rfl, T.r_BadThing.m, fun x hx => ?_⟩
      refine ⟨_, rfl, 0, rfl, fl_t T Al, fun l H' sm h' => ?_⟩
      exact ⟨_, rfl, kt hn l H' (st.trans sm) h'⟩
    · refine ⟨_, rfl, T.r_BadRoom.m, fun x hx => ?_⟩
      refine ⟨_, rfl, 1, rfl, fl_r T Al, fun l H' sm h' => ?_⟩
      exact ⟨_, rfl, kr okt hn l H' (st.trans sm) h'⟩
    · refine ⟨_, rfl, T.r_BadQuarrel.m, fun x hx => ?_⟩
      refine ⟨_, rfl, 2, rfl, fl_q T Al, fun l H' sm h' => ?_⟩
      exact ⟨_, rfl, kq okt hr13 hn l H' (st.trans sm) h'⟩
end
end FN


set_option Elab.async false
set_option linter.all false
set_option maxRecDepth 100000
set_option maxHeartbeats 4000000
namespace FN
open PySem L2 PyProof.Rows
theorem dvs_dropG {H : Hp} : ∀ (n : Nat) {ds : List PyData} {vs : List V}, DVs H ds vs → DVs H (ds.drop n) (vs.drop n)
  | 0, _, _, h => h
  | n + 1, _, _, .nil => by simpa using DVs.nil
  | n + 1, _, _, .cons _ h => by simpa using dvs_dropG n h
theorem dvs_takeG {H : Hp} : ∀ (n : Nat) {ds : List PyData} {vs : List V}, DVs H ds vs → DVs H (ds.take n) (vs.take n)
  | 0, _, _, _ => by simpa using DVs.nil
  | n + 1, _, _, .nil => by simpa using DVs.nil
  | n + 1, _, _, .cons d h => by simpa using DVs.cons d (dvs_takeG n h)
theorem dvs_cutG {α : Type} {f : α → PyData} {H : Hp} {l : List α} {vs : List V} (h : DVs H (l.map f) vs) (lo hi : Option Int) : ∃ l' : List α, DVs H (l'.map f) (cutV vs lo hi) ∧ l'.length ≤ l.length := by
  unfold cutV
  refine ⟨(l.drop (HT.sIx vs.length 0 lo)).take (HT.sIx vs.length vs.length hi - HT.sIx vs.length 0 lo), ?_, ?_⟩
  · rw [List.map_take, List.map_drop]
    exact dvs_takeG _ (dvs_dropG _ h)
  · rw [List.length_take, List.length_drop]
    omega
theorem dvs_rep {H : Hp} {d : PyData} {v : V} (h : DV H d v) : ∀ n : Nat, DVs H (List.replicate n d) (List.replicate n [v]).flatten
  | 0 => .nil
  | n + 1 => by
    rw [List.replicate_succ, List.replicate_succ, List.flatten_cons]
    exact .cons h (dvs_rep h n)
theorem mod_pos {c : Int} {m : Int} (h : 0 < m) : 0 ≤ c % m := Int.emod_nonneg _ (by omega)
theorem p20 : (0 : Int) < (10 : Int) ^ (20 : Int).toNat := by decide
theorem cat0_eq {K : PySem.W.Frag} {H : Hp} {o o2 : Addr} {g g2 : List Int} {Q : VK} (h1 : H o = some (.tup (g.map V.int))) (h2 : H o2 = some (.tup (g2.map V.int))) (hl : g.length + g2.length ≤ 1000)
    (hQ : ∀ (o' : Addr) (H' : Hp), Same H H' → H' o' = some (.tup ((g ++ g2).map V.int)) → Q (.ref o') H') : rCat0 K (.ref o) (.ref o2) H Q := by
  refine ⟨o, o2, _, _, rfl, rfl, SqT.of h1, SqT.of h2, le_line (by simp; omega), fun z => ?_, fun _ z => ?_, fun _ _ p hp => ?_⟩
  · have e : g = [] := by simpa using z
    exact hQ o2 H (Same.refl H) (by rw [e]; exact h2)
  · have e : g2 = [] := by simpa using z
    exact hQ o H (Same.refl H) (by rw [e, List.append_nil]; exact h1)
  · exact hQ p _ (same_new hp) (by rw [List.map_append]; exact upd_same)
theorem st_ill {n : Nat} {st : St2} (h : ¬ (st.1.Pairwise (· < ·) ∧ (∀ t ∈ st.1, 0 ≤ t ∧ t < (n : Int)) ∧ (st.2 = 0 ∨ st.2 = 1))) : isSt n st = false := by
  cases e : isSt n st with
  | false => rfl
  | true => exact absurd (isSt_grp e) h
section
variable {P : Program} {w : World} {K : PySem.W.Frag} {mg : Str → Option Value} {base : Heap} {C : Addr} {Z : Ad} {fs gs : Nat → Addr} {ds es : Nat → FuncData}
/-! ### _law_ill_things -/
def sp_illT : Sp := fun vs H Q _ => ∃ (a : Addr) (cell : Int) (ts : List Th), vs = [.ref a, .int cell] ∧ LstAt thD H a ts ∧ OkT ts ∧ ∀ l ts' H', Same H H' → LstAt thD H' l ts' → ¬ OkT ts' → Q (.ref l) H'
theorem sc__law_ill_things : FnScope ["things", "cell", "at", "pace"] ["things", "cell"] (defScope s__law_ill_things) := ⟨rfl, rfl, rfl, by decide +kernel, rfl, by decide +kernel, by decide +kernel⟩
theorem ok_illT {f : Addr} {fd : FuncData} (F : Fn K mg "_law_ill_things" s__law_ill_things f fd ["things", "cell"]) (T : Txt K mg C Z) : FnOk P w K mg base CX0 1 f fd ["things", "cell"] sp_illT := by
  refine F.fn.ok sc__law_ill_things (fun vs H Q E h => ?_) (fun cdv A outer s H vs Q E hr h => ?_)
  · obtain ⟨a, cell, ts, rfl, _⟩ := h
    rfl
  · obtain ⟨a, cell, ts, rfl, ⟨va, ha, dv⟩, ok, k⟩ := h
    have hl := dvs_len dv
    have l1 := ok.l1
    have l6 := ok.l6
    refine ⟨_, (pss_cons (ps_if (pt_cmpR op_eq (pe_op op_mod (pv 1) pe_int) pe_int (nomark _))
      (pss_one (ps_ret (pe_lst pa_nil)))
      pss_nil)
      (pss_cons (ps_if (pt_cmpR op_eq (pe_op op_mod (pv 1) pe_int) pe_int (nomark _))
      (pss_one (ps_ret (pe_op op_cat (pv 0) (pe_op op_rep (pe_lst (pa_cons (pe_tup (pa_cons pe_int (pa_cons pe_bl pa_nil))) pa_nil)) (pe_op op_sub (pe_op op_add pe_int (pe_op op_mod (pe_op op_fdiv (pv 1) pe_int) pe_int)) (pe_callB call_len_seq (by rfl) T.n_len PySem.boot_len (pa_cons (pv 0) pa_nil)))))))
      pss_nil)
      (pss_cons (ps_set (i := 2) sc__law_ill_things.nd (by rfl) (by first | exact Or.inl rfl | exact Or.inr rfl) (pe_op op_mod (pe_op op_fdiv (pv 1) pe_int) (pe_callB call_len_seq (by rfl) T.n_len PySem.boot_len (pa_cons (pv 0) pa_nil))))
      (pss_cons (ps_set (i := 3) sc__law_ill_things.nd (by rfl) (by first | exact Or.inl rfl | exact Or.inr rfl) (pe_ix ix_list (pe_lst (pa_cons pe_int (pa_cons (pe_op op_add (pe_op op_pow pe_int pe_int) pe_int) (pa_cons (pe_op op_sub (pe_un un_neg pe_int) (pe_op op_mod (pe_op op_fdiv (pv 1) pe_int) (pe_op op_pow pe_int pe_int))) (pa_cons (pe_op op_add (pe_op op_add (pe_op op_pow pe_int pe_int) pe_int) (pe_op op_mod (pe_op op_fdiv (pv 1) pe_int) (pe_op op_pow pe_int pe_int))) pa_nil))))) (pe_op op_mod (pe_op op_fdiv (pv 1) pe_int) pe_int) (fun _ _ => rfl)))
      (pss_one (ps_ret (pe_op op_cat (pe_op op_cat (pe_slice sl_list (pv 0) po_none (po_some (pv 2))) (pe_lst (pa_cons (pe_tup (pa_cons (pv 3) (pa_cons pe_bl pa_nil))) pa_nil))) (pe_slice sl_list (pv 0) (po_some (pe_op op_add (pv 2) pe_int)) po_none)))))))), ?_⟩
    refine ⟨_, rfl, _, _, rfl, rfl, (by show (0 : Int) < 4; decide), rfl, _, rfl, ?_⟩
    refine iteE (fun h1 => ?_) (fun h1 => ?_)
    · exact ⟨le_line (Nat.zero_le _), fun o ho => k o [] _ (same_new ho) ⟨[], upd_same, .nil⟩ fun z => by have := z.l1; simp at this⟩
    refine ⟨_, rfl, _, _, rfl, rfl, (by show (0 : Int) < 4; decide), rfl, _, rfl, ?_⟩
    refine iteE (fun h2 => ?_) (fun h2 => ?_)
    · refine ⟨_, rfl, le_line (by show 2 ≤ _; decide), fun o ho => ?_⟩
      have s1 := same_new (o := .tup [.int 3, .bl true]) ho
      have dt : DV (L2.upd H o (.tup [.int 3, .bl true])) (thD (3, true)) (.ref o) := .tup upd_same (.cons (.int _) (.cons (.bl _) .nil))
      generalize L2.upd H o (.tup [.int 3, .bl true]) = H1 at s1 dt ⊢
      refine ⟨le_line (by show 1 ≤ _; decide), fun l hl' => ?_⟩
      have s2 := same_new (o := .lst [.ref o]) hl'
      have e2 : (L2.upd H1 l (.lst [.ref o])) l = some (.lst [.ref o]) := upd_same
      have dt2 := dt.mono s2
      generalize L2.upd H1 l (.lst [.ref o]) = H2 at s2 e2 dt2 ⊢
      have s02 := s1.trans s2
      refine ⟨_, rfl, _, _, rfl, rfl, ⟨by decide, by decide⟩, _, _, rfl, rfl, (by show (0 : Int) < 3; decide), _, _, rfl, rfl, _, rfl, a, _, rfl, .inl (SqL.of (s02 _ _ ha)), _, _, rfl, rfl, ?_⟩
      have q0 : 0 ≤ cell / 4 % 3 := mod_pos (by decide)
      have q1 : cell / 4 % 3 < 3 := Int.emod_lt_of_pos _ (by decide)
      refine ⟨l, _, _, rfl, rfl, e2, ?_, ?_, le_line ?_, fun l2 hl2 => ?_⟩
      · show -(2 ^ 63) ≤ (7 : Int) + cell / 4 % 3 - (va.length : Int)
        omega
      · show (7 : Int) + cell / 4 % 3 - (va.length : Int) < 2 ^ 63
        omega
      · show [V.ref o].length * ((7 : Int) + cell / 4 % 3 - (va.length : Int)).toNat ≤ 1000000
        simp only [List.length_singleton]
        omega
      dsimp only
      generalize hm : ((7 : Int) + cell / 4 % 3 - (va.length : Int)).toNat = m at hl2 ⊢
      have s3 := same_new (o := .lst (List.replicate m [V.ref o]).flatten) hl2
      have s03 := s02.trans s3
      have lr : (List.replicate m [V.ref o]).flatten.length = m := by rw [len_rep]; simp
      refine ⟨a, l2, _, _, rfl, rfl, s03 _ _ ha, upd_same, le_line (by rw [lr]; omega), fun l3 hl3 => ?_⟩
      have s4 := same_new (o := .lst (va ++ (List.replicate m [V.ref o]).flatten)) hl3
      refine k l3 (ts ++ List.replicate m (3, true)) _ (s03.trans s4) ⟨_, upd_same, ?_⟩ (fun z => ?_)
      · rw [List.map_append, List.map_replicate]
        exact (dv.mono (s03.trans s4)).append (dvs_rep ((dt2.mono s3).mono s4) m)
      · have := z.l6
        simp only [List.length_append, List.length_replicate] at this
        omega
    refine ⟨_, rfl, _, _, rfl, rfl, ⟨by decide, by decide⟩, _, rfl, a, _, rfl, .inl (SqL.of ha), _, _, rfl, rfl, (by show (0 : Int) < (va.length : Int); omega), ?_⟩
    dsimp only [gName]
    generalize cell / 4 % (va.length : Int) = at_
    refine ⟨_, _, rfl, rfl, ⟨by decide, by decide, by decide⟩, _, _, rfl, rfl, _, rfl, _, rfl, _, _, rfl, rfl, ⟨by decide, by decide⟩, _, _, rfl, rfl, ⟨by decide, by decide, by decide⟩, _, _, rfl, rfl, p20, _, _, rfl, rfl, _, _, rfl, rfl, ⟨by decide, by decide, by decide⟩, _, _, rfl, rfl, _, rfl, _, _, rfl, rfl, ⟨by decide, by decide⟩, _, _, rfl, rfl, ⟨by decide, by decide, by decide⟩, _, _, rfl, rfl, p20, _, _, rfl, rfl, le_line (by show 4 ≤ _; decide), fun lp hlp => ?_⟩
    have x0 : 0 ≤ cell / 64 % (10 : Int) ^ (20 : Int).toNat := mod_pos p20
    dsimp only at hlp ⊢
    generalize cell / 64 % (10 : Int) ^ (20 : Int).toNat = x at x0 hlp ⊢
    have s1 := same_new (o := .lst [.int 0, .int ((10 : Int) ^ (9 : Int).toNat + 1), .int (-1 - x), .int ((10 : Int) ^ (9 : Int).toNat + 1 + x)]) hlp
    have e1 : (L2.upd H lp (.lst [.int 0, .int ((10 : Int) ^ (9 : Int).toNat + 1), .int (-1 - x), .int ((10 : Int) ^ (9 : Int).toNat + 1 + x)])) lp = some (.lst [.int 0, .int ((10 : Int) ^ (9 : Int).toNat + 1), .int (-1 - x), .int ((10 : Int) ^ (9 : Int).toNat + 1 + x)]) := upd_same
    have n9 : (10 : Int) ^ (9 : Int).toNat = 1000000000 := by decide
    rw [n9] at s1 e1 ⊢
    generalize L2.upd H lp (.lst [.int 0, .int ((1000000000 : Int) + 1), .int (-1 - x), .int ((1000000000 : Int) + 1 + x)]) = H1 at s1 e1 ⊢
    obtain ⟨m0, m1⟩ := mod_in (c := cell / 16) (n := 4) (by decide)
    have hy : ∃ y : Int, atI [V.int 0, V.int ((1000000000 : Int) + 1), V.int (-1 - x), V.int ((1000000000 : Int) + 1 + x)] (cell / 16 % 4) = some (V.int y) ∧ ¬ (1 ≤ y ∧ y ≤ 1000000000) := by
      obtain ⟨v, hv, hat⟩ := atI_in (xs := [V.int 0, V.int ((1000000000 : Int) + 1), V.int (-1 - x), V.int ((1000000000 : Int) + 1 + x)]) m0 m1
      simp only [List.mem_cons, List.not_mem_nil, or_false] at hv
      rcases hv with rfl | rfl | rfl | rfl
      · exact ⟨_, hat, by omega⟩
      · exact ⟨_, hat, by omega⟩
      · exact ⟨_, hat, by omega⟩
      · exact ⟨_, hat, by omega⟩
    obtain ⟨y, hy1, hy2⟩ := hy
    refine ⟨_, rfl, _, _, rfl, rfl, ⟨by decide, by decide⟩, _, _, rfl, rfl, (by show (0 : Int) < 4; decide), lp, _, _, _, rfl, rfl, SqL.of e1, hy1, ?_⟩
    have ha1 := s1 _ _ ha
    refine ⟨_, rfl, _, rfl, _, rfl, a, va, rfl, SqL.of ha1, fun l1' hl1' => ?_⟩
    have s2 := same_new (o := .lst (cutV va none (some at_))) hl1'
    refine ⟨_, rfl, le_line (by show 2 ≤ _; decide), fun o ho => ?_⟩
    have s3 := same_new (o := .tup [.int y, .bl true]) ho
    have dt : DV (L2.upd (L2.upd H1 l1' (.lst (cutV va none (some at_)))) o (.tup [.int y, .bl true])) (thD (y, true)) (.ref o) := .tup upd_same (.cons (.int _) (.cons (.bl _) .nil))
    refine ⟨le_line (by show 1 ≤ _; decide), fun l2 hl2 => ?_⟩
    have s4 := same_new (o := .lst [.ref o]) hl2
    have c1 := cutV_length va none (some at_)
    have c2 := cutV_length va (some (at_ + 1)) none
    refine ⟨l1', l2, _, _, rfl, rfl, s4 _ _ (s3 _ _ upd_same), upd_same, le_line (by simp only [List.length_singleton]; omega), fun l3 hl3 => ?_⟩
    have s5 := same_new (o := .lst (cutV va none (some at_) ++ [.ref o])) hl3
    have s15 := s2.trans (s3.trans (s4.trans s5))
    refine ⟨_, rfl, _, rfl, _, _, rfl, rfl, _, rfl, a, va, rfl, SqL.of (s15 _ _ ha1), fun l4 hl4 => ?_⟩
    have s6 := same_new (o := .lst (cutV va (some (at_ + 1)) none)) hl4
    refine ⟨l3, l4, _, _, rfl, rfl, s6 _ _ upd_same, upd_same, le_line (by simp only [List.length_append, List.length_singleton]; omega), fun l5 hl5 => ?_⟩
    have s7 := same_new (o := .lst ((cutV va none (some at_) ++ [.ref o]) ++ cutV va (some (at_ + 1)) none)) hl5
    have sT := s1.trans (s15.trans (s6.trans s7))
    obtain ⟨t1, d1, _⟩ := dvs_cutG (dv.mono sT) none (some at_)
    obtain ⟨t2, d2, _⟩ := dvs_cutG (dv.mono sT) (some (at_ + 1)) none
    refine k l5 ((t1 ++ [(y, true)]) ++ t2) _ sT ⟨_, upd_same, ?_⟩ (fun z => hy2 (z.p (y, true) (by simp)))
    rw [List.map_append, List.map_append]
    exact (d1.append (.cons (dt.mono (s4.trans (s5.trans (s6.trans s7)))) .nil)).append d2
end
end FN


set_option Elab.async false
set_option linter.all false
set_option maxRecDepth 100000
set_option maxHeartbeats 4000000
namespace FN
open PySem L2 PyProof.Rows
theorem ite_contQ {b : Bool} {D : Ends} {t1 t2 : TS} {σ : L2.St} {H : Hp} (M : L2.St → Hp → Prop) (hM : ∀ σ H, M σ H → D.nx σ H) (h : (∀ σ H, M σ H → D.nx σ H) → if b = true then t1 D σ H else t2 D σ H) : if b = true then t1 D σ H else t2 D σ H := h hM
/-- the values are triples that are no quarrels of n things -/
def IllQ (H : Hp) (n : Nat) (xs : List V) : Prop := ∀ v ∈ xs, ∃ (o : Addr) (q : Qu), v = .ref o ∧ H o = some (.tup [.int q.1, .int q.2.1, .int q.2.2]) ∧ ¬ OkQ n q
theorem IllQ.mono {H H' : Hp} {n : Nat} {xs : List V} (h : IllQ H n xs) (s : Same H H') : IllQ H' n xs := fun v hv => let ⟨o, q, e, h1, h2⟩ := h v hv; ⟨o, q, e, s _ _ h1, h2⟩
theorem IllQ.upd {H : Hp} {D : Addr} {u : HO} {ys : List V} {n : Nat} {xs : List V} (h : IllQ H n xs) (hD : H D = some (.lst ys)) : IllQ (L2.upd H D u) n xs := fun v hv =>
  let ⟨o, q, e, h1, h2⟩ := h v hv
  ⟨o, q, e, by rw [upd_ne (ne_of h1 hD (by intro z; cases z))]; exact h1, h2⟩
theorem IllQ.app {H : Hp} {n : Nat} {xs ys : List V} (h : IllQ H n xs) (h' : IllQ H n ys) : IllQ H n (xs ++ ys) := fun v hv => (List.mem_append.mp hv).elim (h v) (h' v)
theorem IllQ.one {H : Hp} {n : Nat} {o : Addr} {a b c : Int} (h : H o = some (.tup [.int a, .int b, .int c])) (hn : ¬ OkQ n (a, b, c)) : IllQ H n [.ref o] := fun v hv => ⟨o, (a, b, c), List.mem_singleton.mp hv, h, hn⟩
section
variable {P : Program} {w : World} {K : PySem.W.Frag} {mg : Str → Option Value} {base : Heap} {C : Addr} {Z : Ad} {fs gs : Nat → Addr} {ds es : Nat → FuncData}
def sp_illQ : Sp := fun vs H Q _ => ∃ (n : Nat) (cell : Int), vs = [.int n, .int cell] ∧ 1 ≤ n ∧ n ≤ 6 ∧ ∀ (o : Addr) (q : Qu) (H' : Hp), Same H H' → H' o = some (.tup [.int q.1, .int q.2.1, .int q.2.2]) → ¬ OkQ n q → Q (.ref o) H'
theorem sc__law_ill_quarrel : FnScope ["many", "cell", "one", "far", "some", "other"] ["many", "cell"] (defScope s__law_ill_quarrel) := ⟨rfl, rfl, rfl, by decide +kernel, rfl, by decide +kernel, by decide +kernel⟩
theorem ok_illQ {f : Addr} {fd : FuncData} (F : Fn K mg "_law_ill_quarrel" s__law_ill_quarrel f fd ["many", "cell"]) (T : Txt K mg C Z) : FnOk P w K mg base CX0 1 f fd ["many", "cell"] sp_illQ := by
  refine F.fn.ok sc__law_ill_quarrel (fun vs H Q E h => ?_) (fun cdv A outer s H vs Q E hr h => ?_)
  · obtain ⟨n, cell, rfl, _⟩ := h
    rfl
  · obtain ⟨n, cell, rfl, n1, n6, k⟩ := h
    refine ⟨_, (pss_cons (ps_set (i := 2) sc__law_ill_quarrel.nd (by rfl) (by first | exact Or.inl rfl | exact Or.inr rfl) (pe_op op_mod (pv 1) (pv 0)))
      (pss_cons (ps_set (i := 3) sc__law_ill_quarrel.nd (by rfl) (by first | exact Or.inl rfl | exact Or.inr rfl) (pe_ix ix_list (pe_lst (pa_cons (pv 0) (pa_cons (pe_un un_neg pe_int) (pa_cons (pe_op op_add (pv 0) (pe_op op_mod (pe_op op_fdiv (pv 1) pe_int) (pe_op op_pow pe_int pe_int))) (pa_cons (pe_op op_sub (pe_un un_neg pe_int) (pe_op op_mod (pe_op op_fdiv (pv 1) pe_int) (pe_op op_pow pe_int pe_int))) pa_nil))))) (pe_op op_mod (pe_op op_fdiv (pv 1) pe_int) pe_int) (fun _ _ => rfl)))
      (pss_cons (ps_set (i := 4) sc__law_ill_quarrel.nd (by rfl) (by first | exact Or.inl rfl | exact Or.inr rfl) (pe_lst (pa_cons (pe_tup (pa_cons (pv 2) (pa_cons (pv 2) (pa_cons (pe_un un_neg pe_int) pa_nil)))) (pa_cons (pe_tup (pa_cons (pv 2) (pa_cons (pv 3) (pa_cons (pe_un un_neg pe_int) pa_nil)))) (pa_cons (pe_tup (pa_cons (pv 3) (pa_cons (pv 2) (pa_cons (pe_un un_neg pe_int) pa_nil)))) pa_nil)))))
      (pss_cons (ps_if (pt_cmpR op_gt (pv 0) pe_int (nomark _))
      (pss_cons (ps_set (i := 5) sc__law_ill_quarrel.nd (by rfl) (by first | exact Or.inl rfl | exact Or.inr rfl) (pe_op op_mod (pe_op op_add (pv 2) pe_int) (pv 0)))
      (pss_cons (ps_set (i := 4) sc__law_ill_quarrel.nd (by rfl) (by first | exact Or.inl rfl | exact Or.inr rfl) (pe_op op_cat (pv 4) (pe_lst (pa_cons (pe_tup (pa_cons (pv 2) (pa_cons (pv 5) (pa_cons (pv 2) pa_nil)))) (pa_cons (pe_tup (pa_cons (pv 2) (pa_cons (pv 5) (pa_cons (pv 5) pa_nil)))) pa_nil)))))
      (pss_one (ps_if (pt_cmpR op_ne (pv 3) (pe_un un_neg pe_int) (nomark _))
      (pss_one (ps_expr (pe_bm PySem.F.plainAttrs_list PySem.F.slot_list_append PySem.F.type_list_append mt_append (pv 4) (pa_cons (pe_tup (pa_cons (pv 2) (pa_cons (pv 5) (pa_cons (pv 3) pa_nil)))) pa_nil))))
      pss_nil))))
      pss_nil)
      (pss_one (ps_ret (pe_ix ix_list (pv 4) (pe_op op_mod (pe_op op_fdiv (pv 1) pe_int) (pe_callB call_len_seq (by rfl) T.n_len PySem.boot_len (pa_cons (pv 4) pa_nil))) (fun _ _ => rfl)))))))), ?_⟩
    refine ⟨_, rfl, _, rfl, _, _, rfl, rfl, (by show (0 : Int) < (n : Int); omega), ?_⟩
    dsimp only [gName]
    have o0 : 0 ≤ cell % (n : Int) := mod_pos (by omega)
    have o1 : cell % (n : Int) < n := Int.emod_lt_of_pos _ (by omega)
    generalize cell % (n : Int) = one at o0 o1 ⊢
    refine ⟨_, rfl, _, rfl, _, rfl, _, rfl, _, _, rfl, rfl, ⟨by decide, by decide⟩, _, _, rfl, rfl, ⟨by decide, by decide, by decide⟩, _, _, rfl, rfl, p20, _, _, rfl, rfl, _, rfl, _, rfl, _, _, rfl, rfl, ⟨by decide, by decide⟩, _, _, rfl, rfl, ⟨by decide, by decide, by decide⟩, _, _, rfl, rfl, p20, _, _, rfl, rfl, le_line (by show 4 ≤ _; decide), fun lp hlp => ?_⟩
    have x0 : 0 ≤ cell / 64 % (10 : Int) ^ (20 : Int).toNat := mod_pos p20
    dsimp only at hlp ⊢
    generalize cell / 64 % (10 : Int) ^ (20 : Int).toNat = x at x0 hlp ⊢
    have s1 := same_new (o := .lst [.int n, .int (-1), .int ((n : Int) + x), .int (-2 - x)]) hlp
    have e1 : (L2.upd H lp (.lst [.int n, .int (-1), .int ((n : Int) + x), .int (-2 - x)])) lp = some (.lst [.int n, .int (-1), .int ((n : Int) + x), .int (-2 - x)]) := upd_same
    generalize L2.upd H lp (.lst [.int n, .int (-1), .int ((n : Int) + x), .int (-2 - x)]) = H1 at s1 e1 ⊢
    obtain ⟨m0, m1⟩ := mod_in (c := cell / 8) (n := 4) (by decide)
    have hy : ∃ y : Int, atI [V.int n, V.int (-1), V.int ((n : Int) + x), V.int (-2 - x)] (cell / 8 % 4) = some (V.int y) ∧ ¬ (0 ≤ y ∧ y < n) := by
      obtain ⟨v, hv, hat⟩ := atI_in (xs := [V.int n, V.int (-1), V.int ((n : Int) + x), V.int (-2 - x)]) m0 m1
      simp only [List.mem_cons, List.not_mem_nil, or_false] at hv
      rcases hv with rfl | rfl | rfl | rfl
      · exact ⟨_, hat, by omega⟩
      · exact ⟨_, hat, by omega⟩
      · exact ⟨_, hat, by omega⟩
      · exact ⟨_, hat, by omega⟩
    obtain ⟨far, hy1, hy2⟩ := hy
    refine ⟨_, rfl, _, _, rfl, rfl, ⟨by decide, by decide⟩, _, _, rfl, rfl, (by show (0 : Int) < 4; decide), lp, _, _, _, rfl, rfl, SqL.of e1, hy1, ?_⟩
    dsimp only [gName]
    -- the three
    refine ⟨_, rfl, _, rfl, _, rfl, le_line (by show 3 ≤ _; decide), fun a1 ha1 => ?_⟩
    have t1 := same_new (o := .tup [.int one, .int one, .int (-1)]) ha1
    refine ⟨_, rfl, _, rfl, _, rfl, le_line (by show 3 ≤ _; decide), fun a2 ha2 => ?_⟩
    have t2 := same_new (o := .tup [.int one, .int far, .int (-1)]) ha2
    refine ⟨_, rfl, _, rfl, _, rfl, le_line (by show 3 ≤ _; decide), fun a3 ha3 => ?_⟩
    have t3 := same_new (o := .tup [.int far, .int one, .int (-1)]) ha3
    refine ⟨le_line (by show 3 ≤ _; decide), fun ls hls => ?_⟩
    have t4 := same_new (o := .lst [.ref a1, .ref a2, .ref a3]) hls
    have ill : IllQ (L2.upd (L2.upd (L2.upd (L2.upd H1 a1 (.tup [.int one, .int one, .int (-1)])) a2 (.tup [.int one, .int far, .int (-1)])) a3 (.tup [.int far, .int one, .int (-1)])) ls (.lst [.ref a1, .ref a2, .ref a3])) n [.ref a1, .ref a2, .ref a3] :=
      (IllQ.one (a := one) (b := one) (c := -1) (t4 _ _ (t3 _ _ (t2 _ _ upd_same))) (fun z => z.ab rfl)).app
        ((IllQ.one (a := one) (b := far) (c := -1) (t4 _ _ (t3 _ _ upd_same)) (fun z => hy2 ⟨z.b0, z.b1⟩)).app (IllQ.one (a := far) (b := one) (c := -1) (t4 _ _ upd_same) (fun z => hy2 ⟨z.a0, z.a1⟩)))
    have els : (L2.upd (L2.upd (L2.upd (L2.upd H1 a1 (.tup [.int one, .int one, .int (-1)])) a2 (.tup [.int one, .int far, .int (-1)])) a3 (.tup [.int far, .int one, .int (-1)])) ls (.lst [.ref a1, .ref a2, .ref a3])) ls = some (.lst [.ref a1, .ref a2, .ref a3]) := upd_same
    have s2 := s1.trans (t1.trans (t2.trans (t3.trans t4)))
    dsimp only at ill els s2 ⊢
    generalize L2.upd (L2.upd (L2.upd (L2.upd H1 a1 (.tup [.int one, .int one, .int (-1)])) a2 (.tup [.int one, .int far, .int (-1)])) a3 (.tup [.int far, .int one, .int (-1)])) ls (.lst [.ref a1, .ref a2, .ref a3]) = H2 at ill els s2 ⊢
    refine ⟨_, rfl, _, _, rfl, rfl, _, rfl, ?_⟩
    refine ite_contQ (fun σ H' => Same H H' ∧ ∃ l xs v, σ = [some (.int n), some (.int cell), some (.int one), some (.int far), some (.ref l), v] ∧ H' l = some (.lst xs) ∧ IllQ H' n xs ∧ 0 < xs.length) ?_ (fun fin => ?_)
    · rintro σ H3 ⟨s3, l, xs, v, rfl, hl, il, hpos⟩
      obtain ⟨q0, q1⟩ := mod_in (c := cell / 32) hpos
      obtain ⟨v', hv, hat⟩ := atI_in q0 q1
      obtain ⟨o, q, rfl, ho, hn⟩ := il v' hv
      exact ⟨_, rfl, _, rfl, _, _, rfl, rfl, ⟨by decide, by decide⟩, _, rfl, l, _, rfl, .inl (SqL.of hl), _, _, rfl, rfl, (by show (0 : Int) < (xs.length : Int); omega), l, _, _, _, rfl, rfl, SqL.of hl, hat, k o q H3 s3 ho hn⟩
    refine iteE (fun h1 => ?_) (fun h1 => ?_)
    · have hn2 : 1 < (n : Int) := of_decide_eq_true h1
      refine ⟨_, rfl, _, _, rfl, rfl, _, rfl, _, _, rfl, rfl, (by show (0 : Int) < (n : Int); omega), ?_⟩
      dsimp only [gName]
      have b0 : 0 ≤ (one + 1) % (n : Int) := mod_pos (by omega)
      generalize (one + 1) % (n : Int) = other at b0 ⊢
      refine ⟨_, rfl, _, rfl, _, rfl, _, rfl, le_line (by show 3 ≤ _; decide), fun c1 hc1 => ?_⟩
      have u1 := same_new (o := .tup [.int one, .int other, .int one]) hc1
      refine ⟨_, rfl, _, rfl, _, rfl, le_line (by show 3 ≤ _; decide), fun c2 hc2 => ?_⟩
      have u2 := same_new (o := .tup [.int one, .int other, .int other]) hc2
      refine ⟨le_line (by show 2 ≤ _; decide), fun lt hlt => ?_⟩
      have u3 := same_new (o := .lst [.ref c1, .ref c2]) hlt
      have il2 : IllQ (L2.upd (L2.upd (L2.upd H2 c1 (.tup [.int one, .int other, .int one])) c2 (.tup [.int one, .int other, .int other])) lt (.lst [.ref c1, .ref c2])) n [.ref c1, .ref c2] :=
        (IllQ.one (a := one) (b := other) (c := one) (u3 _ _ (u2 _ _ upd_same)) (fun z => by rcases z.k with y | ⟨_, _, y, _⟩; exact absurd (show one = -1 from y) (by omega); exact y rfl)).app
          (IllQ.one (a := one) (b := other) (c := other) (u3 _ _ upd_same) (fun z => by rcases z.k with y | ⟨_, _, _, y⟩; exact absurd (show other = -1 from y) (by omega); exact y rfl))
      have u13 := u1.trans (u2.trans u3)
      refine ⟨ls, lt, _, _, rfl, rfl, u13 _ _ els, upd_same, le_line (by show 5 ≤ _; decide), fun lu hlu => ?_⟩
      have u4 := same_new (o := .lst ([.ref a1, .ref a2, .ref a3] ++ [.ref c1, .ref c2])) hlu
      have il3 := ((ill.mono u13).app il2).mono u4
      have elu : (L2.upd (L2.upd (L2.upd (L2.upd H2 c1 (.tup [.int one, .int other, .int one])) c2 (.tup [.int one, .int other, .int other])) lt (.lst [.ref c1, .ref c2])) lu (.lst ([.ref a1, .ref a2, .ref a3] ++ [.ref c1, .ref c2]))) lu = some (.lst ([.ref a1, .ref a2, .ref a3] ++ [.ref c1, .ref c2])) := upd_same
      have s3 := s2.trans (u13.trans u4)
      have hluH : H lu = none := (s2.trans u13).free hlu
      generalize L2.upd (L2.upd (L2.upd (L2.upd H2 c1 (.tup [.int one, .int other, .int one])) c2 (.tup [.int one, .int other, .int other])) lt (.lst [.ref c1, .ref c2])) lu (.lst ([.ref a1, .ref a2, .ref a3] ++ [.ref c1, .ref c2])) = H3 at il3 elu s3 ⊢
      refine ⟨_, rfl, _, rfl, rfl, _, rfl, ?_⟩
      refine iteE (fun h2 => ?_) (fun h2 => ?_)
      · have hf : far ≠ -1 := fun z => by rw [z] at h2; simp at h2
        refine ⟨_, rfl, .inl ⟨rfl, _, SqL.of elu⟩, _, rfl, _, rfl, _, rfl, le_line (by show 3 ≤ _; decide), fun c3 hc3 => ?_⟩
        have u5 := same_new (o := .tup [.int one, .int other, .int far]) hc3
        refine ⟨lu, _, _, rfl, rfl, u5 _ _ elu, lt_line (by show 5 ≤ _; decide), ?_⟩
        have elu5 := u5 _ _ elu
        have il4 := ((il3.mono u5).app (IllQ.one (o := c3) (a := one) (b := other) (c := far) upd_same (fun z => by rcases z.k with y | ⟨y1, y2, _⟩; exact hf y; exact hy2 ⟨y1, y2⟩))).upd (u := .lst ([.ref a1, .ref a2, .ref a3] ++ [.ref c1, .ref c2] ++ [.ref c3])) elu5
        exact fin _ _ ⟨same_upd (s3.trans u5) hluH, lu, _, _, rfl, upd_same, il4, by simp⟩
      · exact fin _ _ ⟨s3, lu, _, _, rfl, elu, il3, by simp⟩
    · exact fin _ _ ⟨s2, ls, _, _, rfl, els, ill, by simp⟩
end
end FN


set_option Elab.async false
set_option linter.all false
set_option maxRecDepth 100000
set_option maxHeartbeats 4000000
namespace FN
open PySem L2 PyProof.Rows
theorem if_contQ {c : TT} {t u : TS} {D : Ends} {σ : L2.St} {H : Hp} (M : Bool → Hp → Prop) (hT : ∀ H', M true H' → t D σ H') (hU : ∀ H', M false H' → u D σ H')
    (h : (∀ b H', M b H' → if b = true then t D σ H' else u D σ H') → tIfS c t u D σ H) : tIfS c t u D σ H := h fun b H' m => by
  cases b
  · exact hU H' m
  · exact hT H' m
section
variable {P : Program} {w : World} {K : PySem.W.Frag} {mg : Str → Option Value} {base : Heap} {C : Addr} {Z : Ad} {fs gs : Nat → Addr} {ds es : Nat → FuncData}
def sp_illS : Sp := fun vs H Q _ => ∃ (n : Nat) (cell : Int), vs = [.int n, .int cell] ∧ n ≤ 6 ∧ ∀ (o : Addr) (st : St2) (H' : Hp), Same H H' → StAt H' o st → st.1.length ≤ 100 → isSt n st = false → Q (.ref o) H'
theorem sc__law_ill_standing : FnScope ["many", "cell", "group", "far"] ["many", "cell"] (defScope s__law_ill_standing) := ⟨rfl, rfl, rfl, by decide +kernel, rfl, by decide +kernel, by decide +kernel⟩
theorem ok_illS {f f2 : Addr} {fd fd2 : FuncData} (F : Fn K mg "_law_ill_standing" s__law_ill_standing f fd ["many", "cell"]) (T : Txt K mg C Z) (F__law_bits : Fn K mg "_law_bits" s__law_bits f2 fd2 ["number", "many"]) : FnOk P w K mg base CX0 2 f fd ["many", "cell"] sp_illS := by
  have G__law_bits : FnOk P w K mg base CX0 1 f2 fd2 ["number", "many"] sp_bits := ok_bits F__law_bits T
  refine F.fn.ok sc__law_ill_standing (fun vs H Q E h => ?_) (fun cdv A outer s H vs Q E hr h => ?_)
  · obtain ⟨n, cell, rfl, _⟩ := h
    rfl
  · obtain ⟨n, cell, rfl, n6, k⟩ := h
    refine ⟨_, (pss_cons (ps_set (i := 2) sc__law_ill_standing.nd (by rfl) (by first | exact Or.inl rfl | exact Or.inr rfl) (pe_call G__law_bits (hr.mono (by decide)) (by rfl) F__law_bits.g F__law_bits.fn.kp F__law_bits.b .nil pass0 (pa_cons (pe_op op_mod (pe_op op_fdiv (pv 1) pe_int) pe_int) (pa_cons (pv 0) pa_nil))))
      (pss_cons (ps_set (i := 3) sc__law_ill_standing.nd (by rfl) (by first | exact Or.inl rfl | exact Or.inr rfl) (pe_ix ix_list (pe_lst (pa_cons (pv 0) (pa_cons (pe_un un_neg pe_int) (pa_cons (pe_op op_add (pv 0) (pe_op op_mod (pv 1) (pe_op op_pow pe_int pe_int))) pa_nil)))) (pe_op op_mod (pe_op op_fdiv (pv 1) pe_int) pe_int) (fun _ _ => rfl)))
      (pss_cons (ps_if (PW.pt (pw_and (pt_cmpR op_eq (pe_op op_mod (pv 1) pe_int) pe_int (nomark _)) (pw_and1 (pt_cmpR op_gt (pe_callB call_len_seq (by rfl) T.n_len PySem.boot_len (pa_cons (pv 2) pa_nil)) pe_int (nomark _)))))
      (pss_one (ps_ret (pe_tup (pa_cons (pe_tuprev rfl (by rfl) T.n_tuple (by rfl) T.n_reversed (pv 2)) (pa_cons (pe_op op_mod (pe_op op_fdiv (pv 1) pe_int) pe_int) pa_nil)))))
      pss_nil)
      (pss_cons (ps_if (pt_cmpR op_eq (pe_op op_mod (pv 1) pe_int) pe_int (nomark _))
      (pss_one (ps_ret (pe_tup (pa_cons (pv 2) (pa_cons (pe_ix ix_list (pe_lst (pa_cons pe_int (pa_cons (pe_un un_neg pe_int) (pa_cons (pe_op op_add pe_int (pe_op op_mod (pv 1) (pe_op op_pow pe_int pe_int))) pa_nil)))) (pe_op op_mod (pe_op op_fdiv (pv 1) pe_int) pe_int) (fun _ _ => rfl)) pa_nil)))))
      pss_nil)
      (pss_cons (ps_if (pt_cmpR op_eq (pe_op op_mod (pv 1) pe_int) pe_int (nomark _))
      (pss_one (ps_ret (pe_tup (pa_cons (pe_op op_cat0 (pv 2) (pe_tup (pa_cons (pv 3) pa_nil))) (pa_cons (pe_op op_mod (pe_op op_fdiv (pv 1) pe_int) pe_int) pa_nil)))))
      pss_nil)
      (pss_cons (ps_if (pt_cmpR op_eq (pe_op op_mod (pv 1) pe_int) pe_int (nomark _))
      (pss_one (ps_ret (pe_tup (pa_cons (pe_op op_cat0 (pv 2) (pe_tup (pa_cons pe_int (pa_cons pe_int pa_nil)))) (pa_cons (pe_op op_mod (pe_op op_fdiv (pv 1) pe_int) pe_int) pa_nil)))))
      pss_nil)
      (pss_one (ps_ret (pe_tup (pa_cons (pe_op op_cat0 (pe_tup (pa_cons (pv 3) pa_nil)) (pv 2)) (pa_cons (pe_op op_mod (pe_op op_fdiv (pv 1) pe_int) pe_int) pa_nil))))))))))), ?_⟩
    refine ⟨_, rfl, _, _, rfl, rfl, ⟨by decide, by decide⟩, _, _, rfl, rfl, (by show (0 : Int) < 64; decide), _, rfl, _, n, rfl, by omega, fun og H1 s1 ho => ?_⟩
    obtain ⟨gp, gin, _⟩ := isSt_grp (bits_st n (cell / 8 % 64) 0 (.inl rfl))
    have gl : (bits n (cell / 8 % 64)).length ≤ 6 := st_len (bits_st n (cell / 8 % 64) 0 (.inl rfl)) n6
    dsimp only [gName] at ho gp gin gl ⊢
    generalize bits n (cell / 8 % 64) = g at ho gp gin gl ⊢
    refine ⟨_, rfl, _, rfl, _, rfl, _, rfl, _, _, rfl, rfl, ⟨by decide, by decide, by decide⟩, _, _, rfl, rfl, p20, _, _, rfl, rfl, le_line (by show 3 ≤ _; decide), fun lp hlp => ?_⟩
    have x0 : 0 ≤ cell % (10 : Int) ^ (20 : Int).toNat := mod_pos p20
    dsimp only at hlp ⊢
    have s2 := same_new (o := .lst [.int n, .int (-1), .int ((n : Int) + cell % (10 : Int) ^ (20 : Int).toNat)]) hlp
    have e2 : (L2.upd H1 lp (.lst [.int n, .int (-1), .int ((n : Int) + cell % (10 : Int) ^ (20 : Int).toNat)])) lp = some (.lst [.int n, .int (-1), .int ((n : Int) + cell % (10 : Int) ^ (20 : Int).toNat)]) := upd_same
    generalize L2.upd H1 lp (.lst [.int n, .int (-1), .int ((n : Int) + cell % (10 : Int) ^ (20 : Int).toNat)]) = H2 at s2 e2 ⊢
    have ho2 := s2 _ _ ho
    obtain ⟨m0, m1⟩ := mod_in (c := cell / 512) (n := 3) (by decide)
    have hy : ∃ y : Int, atI [V.int n, V.int (-1), V.int ((n : Int) + cell % (10 : Int) ^ (20 : Int).toNat)] (cell / 512 % 3) = some (V.int y) ∧ ¬ (0 ≤ y ∧ y < n) := by
      obtain ⟨v, hv, hat⟩ := atI_in (xs := [V.int n, V.int (-1), V.int ((n : Int) + cell % (10 : Int) ^ (20 : Int).toNat)]) m0 m1
      simp only [List.mem_cons, List.not_mem_nil, or_false] at hv
      generalize cell % (10 : Int) ^ (20 : Int).toNat = x at x0 hv hat ⊢
      rcases hv with rfl | rfl | rfl
      · exact ⟨_, hat, by omega⟩
      · exact ⟨_, hat, by omega⟩
      · exact ⟨_, hat, by omega⟩
    obtain ⟨far, hy1, hy2⟩ := hy
    refine ⟨_, rfl, _, _, rfl, rfl, ⟨by decide, by decide⟩, _, _, rfl, rfl, (by show (0 : Int) < 3; decide), lp, _, _, _, rfl, rfl, SqL.of e2, hy1, ?_⟩
    dsimp only [gName]
    have s02 := s1.trans s2
    have rest : ∀ (H3 : Hp), Same H2 H3 → False → True := fun _ _ _ => trivial
    refine if_contQ (fun b H' => H' = H2 ∧ (b = true → 1 < g.length)) (fun H' hM => ?_) (fun H' hM => ?_) (fun fin => ?_)
    · obtain ⟨rfl, hg⟩ := hM
      have hg := hg rfl
      refine ⟨_, rfl, og, _, rfl, SqT.of ho2, by simp; omega, fun o hno => ?_⟩
      have s3 := same_new (o := .tup (g.map V.int).reverse) hno
      have eo : (L2.upd H' o (.tup (g.map V.int).reverse)) o = some (.tup (g.reverse.map V.int)) := by rw [List.map_reverse]; exact upd_same
      generalize L2.upd H' o (.tup (g.map V.int).reverse) = H3 at s3 eo ⊢
      refine ⟨_, rfl, _, _, rfl, rfl, ⟨by decide, by decide⟩, _, _, rfl, rfl, (by show (0 : Int) < 2; decide), le_line (by show 2 ≤ _; decide), fun o2 ho2' => ?_⟩
      have s4 := same_new (o := .tup [.ref o, .int (cell / 4 % 2)]) ho2'
      refine k o2 (g.reverse, cell / 4 % 2) _ (s02.trans (s3.trans s4)) ⟨o, upd_same, s4 _ _ eo⟩ (by simp; omega) (st_ill fun z => ?_)
      have zp : g.reverse.Pairwise (· < ·) := z.1
      rw [List.pairwise_reverse] at zp
      match g, hg, gp, zp with
      | x :: y :: r, _, gp, zp =>
        have a1 := (List.pairwise_cons.mp gp).1 y (.head _)
        have a2 := (List.pairwise_cons.mp zp).1 y (.head _)
        omega
    · obtain ⟨rfl, _⟩ := hM
      refine ⟨_, rfl, _, _, rfl, rfl, (by show (0 : Int) < 4; decide), rfl, _, rfl, ?_⟩
      refine iteE (fun h1 => ?_) (fun h1 => ?_)
      · refine ⟨_, rfl, _, rfl, _, rfl, _, _, rfl, rfl, ⟨by decide, by decide, by decide⟩, _, _, rfl, rfl, p20, _, _, rfl, rfl, le_line (by show 3 ≤ _; decide), fun lq hlq => ?_⟩
        dsimp only at hlq ⊢
        have s3 := same_new (o := .lst [.int 2, .int (-1), .int (2 + cell % (10 : Int) ^ (20 : Int).toNat)]) hlq
        have e3 : (L2.upd H' lq (.lst [.int 2, .int (-1), .int (2 + cell % (10 : Int) ^ (20 : Int).toNat)])) lq = some (.lst [.int 2, .int (-1), .int (2 + cell % (10 : Int) ^ (20 : Int).toNat)]) := upd_same
        generalize L2.upd H' lq (.lst [.int 2, .int (-1), .int (2 + cell % (10 : Int) ^ (20 : Int).toNat)]) = H3 at s3 e3 ⊢
        have hz : ∃ y : Int, atI [V.int 2, V.int (-1), V.int (2 + cell % (10 : Int) ^ (20 : Int).toNat)] (cell / 512 % 3) = some (V.int y) ∧ ¬ (y = 0 ∨ y = 1) := by
          obtain ⟨v, hv, hat⟩ := atI_in (xs := [V.int 2, V.int (-1), V.int (2 + cell % (10 : Int) ^ (20 : Int).toNat)]) m0 m1
          simp only [List.mem_cons, List.not_mem_nil, or_false] at hv
          generalize cell % (10 : Int) ^ (20 : Int).toNat = x at x0 hv hat ⊢
          rcases hv with rfl | rfl | rfl
          · exact ⟨_, hat, by omega⟩
          · exact ⟨_, hat, by omega⟩
          · exact ⟨_, hat, by omega⟩
        obtain ⟨y, hz1, hz2⟩ := hz
        refine ⟨_, rfl, _, _, rfl, rfl, ⟨by decide, by decide⟩, _, _, rfl, rfl, (by show (0 : Int) < 3; decide), lq, _, _, _, rfl, rfl, SqL.of e3, hz1, le_line (by show 2 ≤ _; decide), fun o2 ho2' => ?_⟩
        have s4 := same_new (o := .tup [.ref og, .int y]) ho2'
        exact k o2 (g, y) _ (s02.trans (s3.trans s4)) ⟨og, upd_same, s4 _ _ (s3 _ _ ho2)⟩ (by show g.length ≤ 100; omega) (st_ill fun z => hz2 z.2.2)
      refine ⟨_, rfl, _, _, rfl, rfl, (by show (0 : Int) < 4; decide), rfl, _, rfl, ?_⟩
      refine iteE (fun h2 => ?_) (fun h2 => ?_)
      · refine ⟨_, rfl, _, rfl, le_line (by show 1 ≤ _; decide), fun o3 ho3 => ?_⟩
        have s3 := same_new (o := .tup [.int far]) ho3
        refine cat0_eq (g2 := [far]) (s3 _ _ ho2) upd_same (by simp; omega) fun o4 H4 s4 ho4 => ?_
        refine ⟨_, rfl, _, _, rfl, rfl, ⟨by decide, by decide⟩, _, _, rfl, rfl, (by show (0 : Int) < 2; decide), le_line (by show 2 ≤ _; decide), fun o5 ho5 => ?_⟩
        have s5 := same_new (o := .tup [.ref o4, .int (cell / 4 % 2)]) ho5
        exact k o5 (g ++ [far], cell / 4 % 2) _ (s02.trans (s3.trans (s4.trans s5))) ⟨o4, upd_same, s5 _ _ ho4⟩ (by simp; omega) (st_ill fun z => hy2 (z.2.1 far (by simp)))
      refine ⟨_, rfl, _, _, rfl, rfl, (by show (0 : Int) < 4; decide), rfl, _, rfl, ?_⟩
      refine iteE (fun h3 => ?_) (fun h3 => ?_)
      · refine ⟨_, rfl, le_line (by show 2 ≤ _; decide), fun o3 ho3 => ?_⟩
        have s3 := same_new (o := .tup [.int 0, .int 0]) ho3
        refine cat0_eq (g2 := [0, 0]) (s3 _ _ ho2) upd_same (by simp; omega) fun o4 H4 s4 ho4 => ?_
        refine ⟨_, rfl, _, _, rfl, rfl, ⟨by decide, by decide⟩, _, _, rfl, rfl, (by show (0 : Int) < 2; decide), le_line (by show 2 ≤ _; decide), fun o5 ho5 => ?_⟩
        have s5 := same_new (o := .tup [.ref o4, .int (cell / 4 % 2)]) ho5
        refine k o5 (g ++ [0, 0], cell / 4 % 2) _ (s02.trans (s3.trans (s4.trans s5))) ⟨o4, upd_same, s5 _ _ ho4⟩ (by simp; omega) (st_ill fun z => ?_)
        have zp : (g ++ [0, 0]).Pairwise (· < ·) := z.1
        have := (List.pairwise_append.mp zp).2.1
        simp at this
      · refine ⟨_, rfl, le_line (by show 1 ≤ _; decide), fun o3 ho3 => ?_⟩
        have s3 := same_new (o := .tup [.int far]) ho3
        refine ⟨_, rfl, ?_⟩
        refine cat0_eq (g := [far]) (g2 := g) upd_same (s3 _ _ ho2) (by simp; omega) fun o4 H4 s4 ho4 => ?_
        refine ⟨_, rfl, _, _, rfl, rfl, ⟨by decide, by decide⟩, _, _, rfl, rfl, (by show (0 : Int) < 2; decide), le_line (by show 2 ≤ _; decide), fun o5 ho5 => ?_⟩
        have s5 := same_new (o := .tup [.ref o4, .int (cell / 4 % 2)]) ho5
        exact k o5 ([far] ++ g, cell / 4 % 2) _ (s02.trans (s3.trans (s4.trans s5))) ⟨o4, upd_same, s5 _ _ ho4⟩ (by simp; omega) (st_ill fun z => hy2 (z.2.1 far (by simp)))
    · refine ⟨_, rfl, _, _, rfl, rfl, (by show (0 : Int) < 5; decide), rfl, _, rfl, ?_⟩
      refine iteE (fun h1 => ?_) (fun h1 => ?_)
      · refine ⟨_, rfl, og, _, rfl, .inr (SqT.of ho2), _, _, rfl, rfl, _, rfl, ?_⟩
        exact fin _ _ ⟨rfl, fun hb => by have := of_decide_eq_true hb; simp at this; omega⟩
      · exact fin false _ ⟨rfl, (fun z => by cases z)⟩
end
end FN


set_option Elab.async false
set_option linter.all false
set_option maxRecDepth 100000
set_option maxHeartbeats 4000000
namespace FN
open PySem L2 PyProof.Rows
def flD (bs : List Bool) : PyData := .list (bs.map PyData.bool)
theorem fl_can (bs : List Bool) : (flD bs).canLay0 = true := by
  unfold flD
  rw [PyData.canLay0]; exact canAll_map (fun _ => rfl) _
theorem fl_dp (bs : List Bool) : (flD bs).depth ≤ 8 := by
  have h := depthAll_map (f := PyData.bool) (n := 5) (fun i => by simp [PyData.depth]) bs
  simp only [flD, PyData.depth]
  omega
theorem fl_dvs {H : Hp} : ∀ bs : List Bool, DVs H (bs.map PyData.bool) (bs.map V.bl)
  | [] => .nil
  | b :: bs => .cons (.bl b) (fl_dvs bs)
theorem fl_dv {H : Hp} {l : Addr} {bs : List Bool} (h : H l = some (.lst (bs.map V.bl))) : DV H (flD bs) (.ref l) := .lst h (fl_dvs bs)
def BadAt (H : Hp) (b : Addr) : Prop := ∃ xs, H b = some (.lst xs) ∧ ∀ j < 5, ∃ l, xs[j]? = some (.ref l) ∧ H l = some (.lst ((flagsB j).map V.bl))
theorem BadAt.mono {H H' : Hp} {b : Addr} (h : BadAt H b) (s : Same H H') : BadAt H' b := let ⟨xs, h1, h2⟩ := h; ⟨xs, s _ _ h1, fun j hj => let ⟨l, e, z⟩ := h2 j hj; ⟨l, e, s _ _ z⟩⟩
/-- .. told == bad[j] -/
theorem bad_at {K : PySem.W.Frag} {H : Hp} {b l : Addr} {j : Nat} {Q : VK} (h : BadAt H b) (hj : j < 5) (hl : H l = some (.lst ((flagsB j).map V.bl))) (hQ : Q (.bl false) H) : rIxL K (.ref b) (.int (j : Int)) H fun y H2 => rEqD true (.ref l) y H2 Q := by
  obtain ⟨xs, h1, h2⟩ := h
  obtain ⟨l', e, z⟩ := h2 j hj
  have dp := fl_dp (flagsB j)
  refine ⟨b, xs, _, _, rfl, rfl, SqL.of h1, atI_nat e, flD (flagsB j), flD (flagsB j), fl_dv hl, fl_dv z, fl_can _, fl_can _, by omega, ?_⟩
  rw [SeqAt.eqv_refl _ (fl_can _)]
  exact hQ
theorem nil_at {H : Hp} {l : Addr} {Q : VK} (hl : H l = some (.lst [])) (hQ : ∀ H', Same H H' → Q (.bl false) H') : ([] : List V).length ≤ sizeLine ∧ ∀ p, H p = none → rEqD true (.ref l) (.ref p) (L2.upd H p (.lst [])) Q := by
  refine ⟨le_line (Nat.zero_le _), fun p hp => ?_⟩
  have s := same_new (o := .lst []) hp
  refine ⟨flD [], flD [], fl_dv (s _ _ hl), fl_dv upd_same, fl_can _, fl_can _, by have := fl_dp []; omega, ?_⟩
  rw [SeqAt.eqv_refl _ (fl_can _)]
  exact hQ _ s
/-- all the text's defs as the top has made them -/
structure All (K : PySem.W.Frag) (mg : Str → Option Value) (C : Addr) (fs : Nat → Addr) (ds : Nat → FuncData) : Prop where
  check_things : Fn K mg "check_things" s_check_things (fs 21) (ds 21) ["things"]
  check_room : Fn K mg "check_room" s_check_room (fs 22) (ds 22) ["room"]
  is_pair : Fn K mg "is_pair" s_is_pair (fs 23) (ds 23) ["one", "other", "count"]
  is_keeper : Fn K mg "is_keeper" s_is_keeper (fs 24) (ds 24) ["keeper", "one", "other", "count"]
  check_quarrels : Fn K mg "check_quarrels" s_check_quarrels (fs 25) (ds 25) ["quarrels", "count"]
  init : Mt K "__init__" "Night.__init__" s_Night___init__ (fs 26) (ds 26) ["self", "things", "room", "quarrels"]
  cell_at : Fn K mg "_law_cell_at" s__law_cell_at (fs 28) (ds 28) ["script", "k"]
  quarrel : Fn K mg "_law_quarrel" s__law_quarrel (fs 30) (ds 30) ["cell", "many"]
  lquarrels : Fn K mg "_law_quarrels" s__law_quarrels (fs 31) (ds 31) ["script", "start", "many"]
  lthings : Fn K mg "_law_things" s__law_things (fs 32) (ds 32) ["script", "start", "many"]
  night : Fn K mg "_law_night" s__law_night (fs 33) (ds 33) ["script", "most"]
  good : Fn K mg "good" s_good (fs 34) (ds 34) ["night", "standing"]
  after : Fn K mg "after" s_after (fs 35) (ds 35) ["night", "standing", "crew"]
  minutes : Fn K mg "minutes" s_minutes (fs 36) (ds 36) ["night", "crew"]
  takes : Fn K mg "takes" s_takes (fs 37) (ds 37) ["night", "standing", "plan"]
  shortest : Fn K mg "shortest" s_shortest (fs 38) (ds 38) ["night", "standing"]
  peace : Fn K mg "_law_peace" s__law_peace (fs 41) (ds 41) ["quarrels", "group"]
  bits : Fn K mg "_law_bits" s__law_bits (fs 42) (ds 42) ["number", "many"]
  rest : Fn K mg "_law_rest" s__law_rest (fs 44) (ds 44) ["group", "many"]
  lgood : Fn K mg "_law_good" s__law_good (fs 45) (ds 45) ["quarrels", "group", "many"]
  asked : Fn K mg "_law_asked" s__law_asked (fs 46) (ds 46) ["way", "made", "standing"]
  flags : Fn K mg "_law_flags" s__law_flags (fs 47) (ds 47) ["e"]
  refusal : Fn K mg "_law_refusal" s__law_refusal (fs 48) (ds 48) ["way", "made", "standing"]
  making : Fn K mg "_law_making" s__law_making (fs 49) (ds 49) ["things", "room", "quarrels"]
  illT : Fn K mg "_law_ill_things" s__law_ill_things (fs 50) (ds 50) ["things", "cell"]
  illQ : Fn K mg "_law_ill_quarrel" s__law_ill_quarrel (fs 51) (ds 51) ["many", "cell"]
  illS : Fn K mg "_law_ill_standing" s__law_ill_standing (fs 52) (ds 52) ["many", "cell"]
  m_ends : Meth K C "ends" (fs 27)
  ends : Mt K "ends" "Night.ends" s_Night_ends (fs 27) (ds 27) ["self"]
  lk : Lk K mg C fs ds
  m_Night : Mk K C (fs 26)
theorem p30 : (0 : Int) < (10 : Int) ^ (30 : Int).toNat := by decide
section
variable {P : Program} {w : World} {K : PySem.W.Frag} {mg : Str → Option Value} {base : Heap} {C : Addr} {Z : Ad} {fs : Nat → Addr} {ds : Nat → FuncData}
def sp_law (K : PySem.W.Frag) : Sp := fun vs H Q _ => ∃ (a : Addr) (ns : List Int), vs = [.ref a] ∧ SqL K H a (ns.map V.int) ∧ ns.length ≤ 63 ∧ ∀ H', Q (.bl true) H'
theorem sc_law : FnScope ["script", "night", "many", "room", "things", "at", "quarrels", "bad", "made", "standing", "way", "group"] ["script"] (defScope s_law) := ⟨rfl, rfl, rfl, by decide +kernel, rfl, by decide +kernel, by decide +kernel⟩
theorem ok_law {f : Addr} {fd : FuncData} (F : Fn K mg "law" s_law f fd ["script"]) (T : Txt K mg C Z) (L : All K mg C fs ds) (Al : Als K Z) : FnOk P w K mg base CX0 9 f fd ["script"] (sp_law K) := by
  have F__law_cell_at := L.cell_at
  have F__law_night := L.night
  have F__law_bits := L.bits
  have F__law_good := L.lgood
  have F__law_refusal := L.refusal
  have F__law_making := L.making
  have F__law_ill_things := L.illT
  have F__law_ill_quarrel := L.illQ
  have F__law_ill_standing := L.illS
  have F_Night___init__ := L.init
  have M_Night := L.m_Night
  have G__law_cell_at : FnOk P w K mg base CX0 1 _ _ ["script", "k"] (sp_cell_at K) := ok_cell_at L.cell_at T
  have G__law_night : FnOk P w K mg base CX0 3 _ _ ["script", "most"] (sp_night K) := ok_night L.night T L.cell_at L.quarrel L.lquarrels L.lthings
  have G__law_bits : FnOk P w K mg base CX0 1 _ _ ["number", "many"] sp_bits := ok_bits L.bits T
  have G__law_good : FnOk P w K mg base CX0 2 _ _ ["quarrels", "group", "many"] (sp_lgood K) := ok_lgood L.lgood T L.peace L.rest
  have G__law_refusal : FnOk P w K mg base CX0 8 _ _ ["way", "made", "standing"] (sp_refusal C) := ok_refusal L.refusal L.lk T Al L.good L.after L.takes L.shortest L.minutes L.m_ends L.ends L.asked L.flags
  have G__law_making : FnOk P w K mg base CX0 6 _ _ ["things", "room", "quarrels"] sp_making := ok_making L.making T Al L.m_Night L.init L.lk.is_thing L.is_pair L.is_keeper L.check_things L.check_room L.check_quarrels L.flags
  have G__law_ill_things : FnOk P w K mg base CX0 1 _ _ ["things", "cell"] sp_illT := ok_illT L.illT T
  have G__law_ill_quarrel : FnOk P w K mg base CX0 1 _ _ ["many", "cell"] sp_illQ := ok_illQ L.illQ T
  have G__law_ill_standing : FnOk P w K mg base CX0 2 _ _ ["many", "cell"] sp_illS := ok_illS L.illS T L.bits
  have G_Night___init__ : FnOk P w K mg base CX0 4 _ _ ["self", "things", "room", "quarrels"] (sp_init C) := ok_init L.init T L.lk.is_thing L.is_pair L.is_keeper L.check_things L.check_room L.check_quarrels
  refine F.fn.ok sc_law (fun vs H Q E h => ?_) (fun cdv A outer s H vs Q E hr h => ?_)
  · obtain ⟨a, ns, rfl, _⟩ := h
    rfl
  obtain ⟨a, ns, rfl, hS, hlen, k⟩ := h
  have hu := hr.units
  -- standings
  obtain ⟨tE, hE, rE⟩ : ∃ t, PSs (bX P w K mg base ["script", "night", "many", "room", "things", "at", "quarrels", "bad", "made", "standing", "way", "group"] "law" s_law f cdv A outer s H E) ((defBody s_law).drop 11) t ∧ ∀ (H1 : Hp) (p lb : Addr) (ts : List Th) (r : Int) (qs : List Qu) (v3 v4 v5 v6 : Option V), NightD H1 p 6 ts r qs → qs.length ≤ 4 → BadAt H1 lb → SqL K H1 a (ns.map V.int) →
      t (bD Q) [some (.ref a), some (.ref p), some (.int ts.length), v3, v4, v5, v6, some (.ref lb), none, none, none, none] H1 := by
    refine ⟨_, (pss_cons (ps_set (i := 8) sc_law.nd (by rfl) (by first | exact Or.inl rfl | exact Or.inr rfl) (pe_make M_Night G_Night___init__ (hr.mono (by decide)) (by rfl) T.g_Night F_Night___init__.b .nil pass0 (pa_cons (pe_callTy call_list_of (by rfl) T.n_list boot_list (pa_cons (pe_ix ix_tup (pv 1) pe_int (fun _ _ => rfl)) pa_nil)) (pa_cons (pe_ix ix_tup (pv 1) pe_int (fun _ _ => rfl)) (pa_cons (pe_callTy call_list_of (by rfl) T.n_list boot_list (pa_cons (pe_ix ix_tup (pv 1) pe_int (fun _ _ => rfl)) pa_nil)) pa_nil)))))
      (pss_cons (ps_set (i := 9) sc_law.nd (by rfl) (by first | exact Or.inl rfl | exact Or.inr rfl) (pe_call G__law_ill_standing (hr.mono (by decide)) (by rfl) F__law_ill_standing.g F__law_ill_standing.fn.kp F__law_ill_standing.b .nil pass0 (pa_cons (pv 2) (pa_cons (pe_op op_mod (pe_call G__law_cell_at (hr.mono (by decide)) (by rfl) F__law_cell_at.g F__law_cell_at.fn.kp F__law_cell_at.b .nil pass0 (pa_cons (pv 0) (pa_cons pe_int pa_nil))) (pe_op op_pow pe_int pe_int)) pa_nil))))
      (pss_cons (ps_for PassesOwn.never rfl (pi_range1 (by rfl) T.n_range (pa_cons pe_int pa_nil)) (pg_name (i := 10) sc_law.nd (by rfl) (by first | exact Or.inl rfl | exact Or.inr rfl))
      (pss_one (ps_if (pt_cmpR (op_neD hu) (pe_call G__law_refusal (hr.mono (by decide)) (by rfl) F__law_refusal.g F__law_refusal.fn.kp F__law_refusal.b .nil pass0 (pa_cons (pv 10) (pa_cons (pv 8) (pa_cons (pv 9) pa_nil)))) (pe_ix ix_list (pv 7) pe_int (fun _ _ => rfl)) (nomark _))
      (pss_one (ps_ret pe_bl))
      pss_nil)))
      (pss_cons (ps_set (i := 11) sc_law.nd (by rfl) (by first | exact Or.inl rfl | exact Or.inr rfl) (pe_call G__law_bits (hr.mono (by decide)) (by rfl) F__law_bits.g F__law_bits.fn.kp F__law_bits.b .nil pass0 (pa_cons (pe_op op_mod (pe_call G__law_cell_at (hr.mono (by decide)) (by rfl) F__law_cell_at.g F__law_cell_at.fn.kp F__law_cell_at.b .nil pass0 (pa_cons (pv 0) (pa_cons pe_int pa_nil))) pe_int) (pa_cons (pv 2) pa_nil))))
      (pss_cons (ps_if (pt_not (pt_val (pe_call G__law_good (hr.mono (by decide)) (by rfl) F__law_good.g F__law_good.fn.kp F__law_good.b .nil pass0 (pa_cons (pe_ix ix_tup (pv 1) pe_int (fun _ _ => rfl)) (pa_cons (pv 11) (pa_cons (pv 2) pa_nil))))))
      (pss_one (ps_for PassesOwn.never rfl (pi_range2 (by rfl) T.n_range (pa_cons pe_int (pa_cons pe_int pa_nil))) (pg_name (i := 10) sc_law.nd (by rfl) (by first | exact Or.inl rfl | exact Or.inr rfl))
      (pss_one (ps_if (pt_cmpR (op_neD hu) (pe_call G__law_refusal (hr.mono (by decide)) (by rfl) F__law_refusal.g F__law_refusal.fn.kp F__law_refusal.b .nil pass0 (pa_cons (pv 10) (pa_cons (pv 8) (pa_cons (pe_tup (pa_cons (pv 11) (pa_cons (pe_op op_mod (pv 10) pe_int) pa_nil))) pa_nil)))) (pe_ix ix_list (pv 7) pe_int (fun _ _ => rfl)) (nomark _))
      (pss_one (ps_ret pe_bl))
      pss_nil))))
      pss_nil)
      (pss_one (ps_ret pe_bl))))))), fun H1 p lb ts r qs v3 v4 v5 v6 ND q4 hB hS1 => ?_⟩
    have h6 := ND.t.l6
    obtain ⟨ap, bq, hp, ⟨vt, ht, dt⟩, ⟨vq, hq, dq⟩⟩ := id ND.ex
    have hqu : LstAt quD H1 bq qs := ⟨vq, hq, dq⟩
    refine ⟨_, rfl, p, _, _, _, rfl, rfl, SqT.of hp, at0, ap, _, rfl, .inl (SqL.of ht), fun l0 hl0 => ?_⟩
    have s2 : Same H1 (L2.upd H1 l0 (.lst vt)) := same_new hl0
    have e0 : (L2.upd H1 l0 (.lst vt)) l0 = some (.lst vt) := upd_same
    generalize L2.upd H1 l0 (.lst vt) = H2 at s2 e0 ⊢
    refine ⟨_, rfl, p, _, _, _, rfl, rfl, SqT.of (s2 _ _ hp), at1, _, rfl, p, _, _, _, rfl, rfl, SqT.of (s2 _ _ hp), at2, bq, _, rfl, .inl (SqL.of (s2 _ _ hq)), fun l1 hl1 => ?_⟩
    have s3 : Same H2 (L2.upd H2 l1 (.lst vq)) := same_new hl1
    have e1 : (L2.upd H2 l1 (.lst vq)) l1 = some (.lst vq) := upd_same
    generalize L2.upd H2 l1 (.lst vq) = H3 at s3 e1 ⊢
    have s13 := s2.trans s3
    refine fun pm dx nx ndx nex => ?_
    have s34 : Same H3 (L2.upd (L2.upd H3 dx (.own pm)) pm (.ins C dx [])) := same_upd (same_new ndx) nx
    have st := s13.trans s34
    refine ⟨pm, dx, l0, l1, ts, r, qs, rfl, upd_same, ⟨vt, s34 _ _ (s3 _ _ e0), dt.mono st⟩, ND.t, ND.r1, ND.r3, ⟨vq, s34 _ _ e1, dq.mono st⟩, by omega, ND.q, fun H4 NA kp => ⟨rfl, ?_⟩⟩
    have s4 : Same H3 H4 := fun b o e => kp b o (s34 b o e) (ne_of_none e nx)
    have s14 := s13.trans s4
    refine ⟨_, rfl, _, rfl, a, ns, 25, rfl, s14.seq hS1, _, _, rfl, rfl, ⟨by decide, by decide, by decide⟩, _, _, rfl, rfl, p30, ts.length, _, rfl, h6, fun o st2 H5 s5 hst hl hI => ?_⟩
    have s15 := s14.trans s5
    refine ⟨_, rfl, by decide, by decide, for_range (n := (5 : Int).toNat) (fun i σ H' => Same H5 H' ∧ ∃ v10, σ = [some (.ref a), some (.ref p), some (.int ts.length), v3, v4, v5, v6, some (.ref lb), some (.ref pm), some (.ref o), v10, none]) ⟨Same.refl H5, _, rfl⟩ ?_ ?_⟩
    · rintro i σ H6 hi ⟨s6, v10, rfl⟩
      have s16 := s15.trans s6
      refine ⟨_, rfl, _, rfl, _, rfl, _, pm, o, ts, r, qs, st2, rfl, NA.mono (s5.trans s6), h6, hst.mono s6, by omega, (fun z => by rw [hI] at z; cases z), fun l H7 s7 hl7 => ?_⟩
      rw [if_neg (by rw [hI]; simp)] at hl7
      refine ⟨_, rfl, bad_at (hB.mono (s16.trans s7)) (j := 3) (by decide) hl7 ⟨_, rfl, iteF ?_⟩⟩
      exact ⟨s6.trans s7, _, rfl⟩
    · rintro σ H6 ⟨s6, v10, rfl⟩
      have s16 := s15.trans s6
      refine ⟨_, rfl, a, ns, 26, rfl, s16.seq hS1, _, _, rfl, rfl, (by show (0 : Int) < 64; decide), _, rfl, _, ts.length, rfl, by omega, fun og H7 s7 hog => ?_⟩
      have s17 := s16.trans s7
      generalize hb : bits ts.length (ns.getD 26 0 % 64) = gr at hog ⊢
      refine ⟨_, rfl, p, _, _, _, rfl, rfl, SqT.of (s17 _ _ hp), at2, _, rfl, _, rfl, bq, og, qs, gr, ts.length, rfl, hqu.mono s17, hog, h6, fun H8 s8 => ⟨_, rfl, ?_⟩⟩
      have s18 := s17.trans s8
      refine iteE (fun hG => ?_) (fun hG => ?_)
      · have hG : isGood qs ts.length gr = false := by simpa using hG
        refine ⟨1, 5, rfl, ⟨by decide, by decide, by decide, by decide⟩, for_range (lo := 1) (n := ((5 : Int) - 1).toNat) (fun i σ H' => Same H8 H' ∧ ∃ v10, σ = [some (.ref a), some (.ref p), some (.int ts.length), v3, v4, v5, v6, some (.ref lb), some (.ref pm), some (.ref o), v10, some (.ref og)]) ⟨Same.refl H8, _, rfl⟩ ?_ ?_⟩
        · rintro i σ H9 hi ⟨s9, v10, rfl⟩
          have s19 := s18.trans s9
          refine ⟨_, rfl, _, rfl, _, rfl, _, rfl, _, _, rfl, rfl, (by show (0 : Int) < 2; decide), le_line (by show 2 ≤ _; decide), fun o2 ho2 => ?_⟩
          have s10 := same_new (o := .tup [.ref og, .int ((1 + (i : Int)) % 2)]) ho2
          have m2 := Int.emod_two_eq (1 + (i : Int))
          have hS2 : isSt ts.length (gr, (1 + (i : Int)) % 2) = true := by rw [← hb]; exact bits_st _ _ _ (by omega)
          have lgr := st_len hS2 h6
          have lgr' : gr.length ≤ 6 := lgr
          refine ⟨_, pm, o2, ts, r, qs, (gr, (1 + (i : Int)) % 2), rfl, NA.mono (s5.trans (s6.trans (s7.trans (s8.trans (s9.trans s10))))), h6, ⟨og, upd_same, s10 _ _ (s9 _ _ (s8 _ _ hog))⟩, by show gr.length ≤ 1000; omega, fun _ => ⟨hG, by omega⟩, fun l H11 s11 hl11 => ?_⟩
          rw [if_pos hS2] at hl11
          refine ⟨_, rfl, bad_at (hB.mono (s19.trans (s10.trans s11))) (j := 4) (by decide) hl11 ⟨_, rfl, iteF ?_⟩⟩
          exact ⟨s9.trans (s10.trans s11), _, rfl⟩
        · rintro σ H9 ⟨s9, v10, rfl⟩
          exact k H9
      · exact k H8
  -- nights
  obtain ⟨tD, hD, rD⟩ : ∃ t, PSs (bX P w K mg base ["script", "night", "many", "room", "things", "at", "quarrels", "bad", "made", "standing", "way", "group"] "law" s_law f cdv A outer s H E) ((defBody s_law).drop 7) t ∧ ∀ (H1 : Hp) (p lb lt lq : Addr) (ts ts' : List Th) (r r' at_ : Int) (qs qs' : List Qu), NightD H1 p 6 ts r qs → qs.length ≤ 4 → BadAt H1 lb → SqL K H1 a (ns.map V.int) → LstAt thD H1 lt ts' → ¬ OkT ts' → ¬ (1 ≤ r' ∧ r' ≤ 3) → LstAt quD H1 lq qs' → ¬ OkQs ts.length qs' →
      t (bD Q) [some (.ref a), some (.ref p), some (.int ts.length), some (.int r'), some (.ref lt), some (.int at_), some (.ref lq), some (.ref lb), none, none, none, none] H1 := by
    refine ⟨_, (pss_cons (ps_if (PW.pt (pw_or (pt_cmpR (op_neD hu) (pe_call G__law_making (hr.mono (by decide)) (by rfl) F__law_making.g F__law_making.fn.kp F__law_making.b .nil pass0 (pa_cons (pv 4) (pa_cons (pv 3) (pa_cons (pv 6) pa_nil)))) (pe_ix ix_list (pv 7) pe_int (fun _ _ => rfl)) (nomark _)) (pw_or1 (pt_cmpR (op_neD hu) (pe_call G__law_making (hr.mono (by decide)) (by rfl) F__law_making.g F__law_making.fn.kp F__law_making.b .nil pass0 (pa_cons (pv 4) (pa_cons (pe_ix ix_tup (pv 1) pe_int (fun _ _ => rfl)) (pa_cons (pv 6) pa_nil)))) (pe_ix ix_list (pv 7) pe_int (fun _ _ => rfl)) (nomark _)))))
      (pss_one (ps_ret pe_bl))
      pss_nil)
      (pss_cons (ps_if (PW.pt (pw_or (pt_cmpR (op_neD hu) (pe_call G__law_making (hr.mono (by decide)) (by rfl) F__law_making.g F__law_making.fn.kp F__law_making.b .nil pass0 (pa_cons (pe_ix ix_tup (pv 1) pe_int (fun _ _ => rfl)) (pa_cons (pv 3) (pa_cons (pv 6) pa_nil)))) (pe_ix ix_list (pv 7) pe_int (fun _ _ => rfl)) (nomark _)) (pw_or1 (pt_cmpR (op_neD hu) (pe_call G__law_making (hr.mono (by decide)) (by rfl) F__law_making.g F__law_making.fn.kp F__law_making.b .nil pass0 (pa_cons (pe_ix ix_tup (pv 1) pe_int (fun _ _ => rfl)) (pa_cons (pe_ix ix_tup (pv 1) pe_int (fun _ _ => rfl)) (pa_cons (pv 6) pa_nil)))) (pe_ix ix_list (pv 7) pe_int (fun _ _ => rfl)) (nomark _)))))
      (pss_one (ps_ret pe_bl))
      pss_nil)
      (pss_cons (ps_if (pt_cmpR (op_neD hu) (pe_call G__law_making (hr.mono (by decide)) (by rfl) F__law_making.g F__law_making.fn.kp F__law_making.b .nil pass0 (pa_cons (pe_ix ix_tup (pv 1) pe_int (fun _ _ => rfl)) (pa_cons (pe_ix ix_tup (pv 1) pe_int (fun _ _ => rfl)) (pa_cons (pe_ix ix_tup (pv 1) pe_int (fun _ _ => rfl)) pa_nil)))) (pe_lst pa_nil) (nomark _))
      (pss_one (ps_ret pe_bl))
      pss_nil)
      (pss_cons (ps_if (pt_cmpR op_gt (pv 2) pe_int (nomark _))
      (pss_cons (ps_if (pt_cmpR (op_neD hu) (pe_call G__law_making (hr.mono (by decide)) (by rfl) F__law_making.g F__law_making.fn.kp F__law_making.b .nil pass0 (pa_cons (pe_ix ix_tup (pv 1) pe_int (fun _ _ => rfl)) (pa_cons (pe_ix ix_tup (pv 1) pe_int (fun _ _ => rfl)) (pa_cons (pe_op op_rep (pe_lst (pa_cons (pe_tup (pa_cons pe_int (pa_cons pe_int (pa_cons (pe_un un_neg pe_int) pa_nil)))) pa_nil)) pe_int) pa_nil)))) (pe_ix ix_list (pv 7) pe_int (fun _ _ => rfl)) (nomark _))
      (pss_one (ps_ret pe_bl))
      pss_nil)
      (pss_one (ps_if (pt_cmpR (op_neD hu) (pe_call G__law_making (hr.mono (by decide)) (by rfl) F__law_making.g F__law_making.fn.kp F__law_making.b .nil pass0 (pa_cons (pe_ix ix_tup (pv 1) pe_int (fun _ _ => rfl)) (pa_cons (pe_ix ix_tup (pv 1) pe_int (fun _ _ => rfl)) (pa_cons (pe_op op_rep (pe_lst (pa_cons (pe_tup (pa_cons pe_int (pa_cons pe_int (pa_cons (pe_un un_neg pe_int) pa_nil)))) pa_nil)) pe_int) pa_nil)))) (pe_lst pa_nil) (nomark _))
      (pss_one (ps_ret pe_bl))
      pss_nil)))
      pss_nil)
      hE)))), fun H1 p lb lt lq ts ts' r r' at_ qs qs' ND q4 hB hS1 hlt nt nr hlq nq => ?_⟩
    have h6 := ND.t.l6
    obtain ⟨ap, bq, hp, hth, hqu⟩ := id ND.ex
    have hr13 : 1 ≤ r ∧ r ≤ 3 := ⟨ND.r1, ND.r3⟩
    have okq : OkQs ts.length qs := ⟨by omega, ND.q⟩
    refine ⟨_, rfl, _, rfl, _, rfl, lt, lq, ts', r', qs', rfl, hlt, hlq, (fun z => absurd z nt), fun _ l H2 s2 hl => ?_, (fun z => absurd z nt), (fun z => absurd z nt)⟩
    refine ⟨_, rfl, bad_at (hB.mono s2) (j := 0) (by decide) hl ⟨_, rfl, iteF ?_⟩⟩
    refine ⟨_, rfl, _, rfl, p, _, _, _, rfl, rfl, SqT.of (s2 _ _ hp), at1, _, rfl, lt, lq, ts', r, qs', rfl, hlt.mono s2, hlq.mono s2, (fun z => absurd z nt), fun _ l3 H3 s3 hl3 => ?_, (fun z => absurd z nt), (fun z => absurd z nt)⟩
    have s13 := s2.trans s3
    refine ⟨_, rfl, bad_at (hB.mono s13) (j := 0) (by decide) hl3 ⟨_, rfl, iteF ?_⟩⟩
    refine ⟨_, rfl, p, _, _, _, rfl, rfl, SqT.of (s13 _ _ hp), at0, _, rfl, _, rfl, ap, lq, ts, r', qs', rfl, hth.mono s13, hlq.mono s13, (fun _ z => absurd z nr), (fun z => absurd ND.t z), fun _ _ l4 H4 s4 hl4 => ?_, (fun _ z => absurd z nr)⟩
    have s14 := s13.trans s4
    refine ⟨_, rfl, bad_at (hB.mono s14) (j := 1) (by decide) hl4 ⟨_, rfl, iteF ?_⟩⟩
    refine ⟨_, rfl, p, _, _, _, rfl, rfl, SqT.of (s14 _ _ hp), at0, _, rfl, p, _, _, _, rfl, rfl, SqT.of (s14 _ _ hp), at1, _, rfl, ap, lq, ts, r, qs', rfl, hth.mono s14, hlq.mono s14, (fun _ _ z => absurd z nq), (fun z => absurd ND.t z), (fun _ z => absurd hr13 z), fun _ _ _ l5 H5 s5 hl5 => ?_⟩
    have s15 := s14.trans s5
    refine ⟨_, rfl, bad_at (hB.mono s15) (j := 2) (by decide) hl5 ⟨_, rfl, iteF ?_⟩⟩
    refine ⟨_, rfl, p, _, _, _, rfl, rfl, SqT.of (s15 _ _ hp), at0, _, rfl, p, _, _, _, rfl, rfl, SqT.of (s15 _ _ hp), at1, _, rfl, p, _, _, _, rfl, rfl, SqT.of (s15 _ _ hp), at2, ap, bq, ts, r, qs, rfl, hth.mono s15, hqu.mono s15, fun _ _ _ l6 H6 s6 hl6 => ?_, (fun z => absurd ND.t z), (fun _ z => absurd hr13 z), (fun _ _ z => absurd okq z)⟩
    have s16 := s15.trans s6
    refine nil_at hl6 fun H7 s7 => ⟨_, rfl, iteF ?_⟩
    have s17 := s16.trans s7
    dsimp only [tNext, tSeq]
    refine if_contQ (fun b H' => Same H1 H' ∧ (b = true → 1 < ts.length)) (fun H8 hM => ?_) (fun H8 hM => ?_) (fun fin => ?_)
    · obtain ⟨s18, h1⟩ := hM
      have h1 := h1 rfl
      have okp : OkQ ts.length (0, 1, -1) := ⟨by show (0 : Int) ≤ 0; omega, by show (0 : Int) < (ts.length : Int); omega, by show (0 : Int) ≤ 1; omega, by show (1 : Int) < (ts.length : Int); omega, (by show (0 : Int) ≠ 1; omega), .inl rfl⟩
      refine ⟨_, rfl, p, _, _, _, rfl, rfl, SqT.of (s18 _ _ hp), at0, _, rfl, p, _, _, _, rfl, rfl, SqT.of (s18 _ _ hp), at1, _, rfl, le_line (by show 3 ≤ _; decide), fun o1 ho1 => ?_⟩
      have t1 := same_new (o := .tup [.int 0, .int 1, .int (-1)]) ho1
      have d1 : DV (L2.upd H8 o1 (.tup [.int 0, .int 1, .int (-1)])) (quD (0, 1, -1)) (.ref o1) := .tup upd_same (.cons (.int _) (.cons (.int _) (.cons (.int _) .nil)))
      refine ⟨le_line (by show 1 ≤ _; decide), fun k1 hk1 => ?_⟩
      have t2 := same_new (o := .lst [.ref o1]) hk1
      refine ⟨k1, 31, _, rfl, rfl, upd_same, by decide, by decide, le_line (by show 31 ≤ _; decide), fun k2 hk2 => ?_⟩
      have t3 := same_new (o := .lst (List.replicate (31 : Int).toNat [V.ref o1]).flatten) hk2
      have t13 := t1.trans (t2.trans t3)
      have s19 := s18.trans t13
      refine ⟨ap, k2, ts, r, List.replicate 31 (0, 1, -1), rfl, hth.mono s19, ⟨_, upd_same, ?_⟩, (fun _ _ z => absurd z.l (by simp)), (fun z => absurd ND.t z), (fun _ z => absurd hr13 z), fun _ _ _ l9 H9 s9 hl9 => ?_⟩
      · rw [List.map_replicate]
        exact dvs_rep ((d1.mono t2).mono t3) 31
      have s110 := s19.trans s9
      refine ⟨_, rfl, bad_at (hB.mono s110) (j := 2) (by decide) hl9 ⟨_, rfl, iteF ?_⟩⟩
      refine ⟨_, rfl, p, _, _, _, rfl, rfl, SqT.of (s110 _ _ hp), at0, _, rfl, p, _, _, _, rfl, rfl, SqT.of (s110 _ _ hp), at1, _, rfl, le_line (by show 3 ≤ _; decide), fun o2 ho2 => ?_⟩
      have u1 := same_new (o := .tup [.int 0, .int 1, .int (-1)]) ho2
      have d2 : DV (L2.upd H9 o2 (.tup [.int 0, .int 1, .int (-1)])) (quD (0, 1, -1)) (.ref o2) := .tup upd_same (.cons (.int _) (.cons (.int _) (.cons (.int _) .nil)))
      refine ⟨le_line (by show 1 ≤ _; decide), fun k3 hk3 => ?_⟩
      have u2 := same_new (o := .lst [.ref o2]) hk3
      refine ⟨k3, 30, _, rfl, rfl, upd_same, by decide, by decide, le_line (by show 30 ≤ _; decide), fun k4 hk4 => ?_⟩
      have u3 := same_new (o := .lst (List.replicate (30 : Int).toNat [V.ref o2]).flatten) hk4
      have u13 := u1.trans (u2.trans u3)
      have s111 := s110.trans u13
      have okr : OkQs ts.length (List.replicate 30 ((0, 1, -1) : Qu)) := ⟨by simp, fun q hq => by rw [List.eq_of_mem_replicate hq]; exact okp⟩
      refine ⟨ap, k4, ts, r, List.replicate 30 (0, 1, -1), rfl, hth.mono s111, ⟨_, upd_same, ?_⟩, fun _ _ _ l10 H10 s10 hl10 => ?_, (fun z => absurd ND.t z), (fun _ z => absurd hr13 z), (fun _ _ z => absurd okr z)⟩
      · rw [List.map_replicate]
        exact dvs_rep ((d2.mono u2).mono u3) 30
      refine nil_at hl10 fun H11 s11 => ⟨_, rfl, iteF ?_⟩
      have sF := s111.trans (s10.trans s11)
      exact rE H11 p lb ts r qs _ _ _ _ (ND.mono sF) q4 (hB.mono sF) (sF.seq hS1)
    · obtain ⟨s18, _⟩ := hM
      exact rE H8 p lb ts r qs _ _ _ _ (ND.mono s18) q4 (hB.mono s18) (s18.seq hS1)
    · refine ⟨_, rfl, _, _, rfl, rfl, _, rfl, ?_⟩
      exact fin _ _ ⟨s17, fun hb => by have := of_decide_eq_true hb; omega⟩
  -- the draws
  refine ⟨_, (pss_cons (ps_set (i := 1) sc_law.nd (by rfl) (by first | exact Or.inl rfl | exact Or.inr rfl) (pe_call G__law_night (hr.mono (by decide)) (by rfl) F__law_night.g F__law_night.fn.kp F__law_night.b .nil pass0 (pa_cons (pv 0) (pa_cons pe_int pa_nil))))
      (pss_cons (ps_set (i := 2) sc_law.nd (by rfl) (by first | exact Or.inl rfl | exact Or.inr rfl) (pe_callB call_len_seq (by rfl) T.n_len PySem.boot_len (pa_cons (pe_ix ix_tup (pv 1) pe_int (fun _ _ => rfl)) pa_nil)))
      (pss_cons (ps_set (i := 3) sc_law.nd (by rfl) (by first | exact Or.inl rfl | exact Or.inr rfl) (pe_ix ix_list (pe_lst (pa_cons pe_int (pa_cons pe_int (pa_cons (pe_un un_neg pe_int) (pa_cons (pe_op op_add pe_int (pe_op op_mod (pe_call G__law_cell_at (hr.mono (by decide)) (by rfl) F__law_cell_at.g F__law_cell_at.fn.kp F__law_cell_at.b .nil pass0 (pa_cons (pv 0) (pa_cons pe_int pa_nil))) (pe_op op_pow pe_int pe_int))) pa_nil))))) (pe_op op_mod (pe_call G__law_cell_at (hr.mono (by decide)) (by rfl) F__law_cell_at.g F__law_cell_at.fn.kp F__law_cell_at.b .nil pass0 (pa_cons (pv 0) (pa_cons pe_int pa_nil))) pe_int) (fun _ _ => rfl)))
      (pss_cons (ps_set (i := 4) sc_law.nd (by rfl) (by first | exact Or.inl rfl | exact Or.inr rfl) (pe_call G__law_ill_things (hr.mono (by decide)) (by rfl) F__law_ill_things.g F__law_ill_things.fn.kp F__law_ill_things.b .nil pass0 (pa_cons (pe_ix ix_tup (pv 1) pe_int (fun _ _ => rfl)) (pa_cons (pe_op op_mod (pe_call G__law_cell_at (hr.mono (by decide)) (by rfl) F__law_cell_at.g F__law_cell_at.fn.kp F__law_cell_at.b .nil pass0 (pa_cons (pv 0) (pa_cons pe_int pa_nil))) (pe_op op_pow pe_int pe_int)) pa_nil))))
      (pss_cons (ps_set (i := 5) sc_law.nd (by rfl) (by first | exact Or.inl rfl | exact Or.inr rfl) (pe_op op_mod (pe_call G__law_cell_at (hr.mono (by decide)) (by rfl) F__law_cell_at.g F__law_cell_at.fn.kp F__law_cell_at.b .nil pass0 (pa_cons (pv 0) (pa_cons pe_int pa_nil))) (pe_op op_add (pe_callB call_len_seq (by rfl) T.n_len PySem.boot_len (pa_cons (pe_ix ix_tup (pv 1) pe_int (fun _ _ => rfl)) pa_nil)) pe_int)))
      (pss_cons (ps_set (i := 6) sc_law.nd (by rfl) (by first | exact Or.inl rfl | exact Or.inr rfl) (pe_op op_cat (pe_op op_cat (pe_slice sl_list (pe_ix ix_tup (pv 1) pe_int (fun _ _ => rfl)) po_none (po_some (pv 5))) (pe_lst (pa_cons (pe_call G__law_ill_quarrel (hr.mono (by decide)) (by rfl) F__law_ill_quarrel.g F__law_ill_quarrel.fn.kp F__law_ill_quarrel.b .nil pass0 (pa_cons (pv 2) (pa_cons (pe_op op_mod (pe_call G__law_cell_at (hr.mono (by decide)) (by rfl) F__law_cell_at.g F__law_cell_at.fn.kp F__law_cell_at.b .nil pass0 (pa_cons (pv 0) (pa_cons pe_int pa_nil))) (pe_op op_pow pe_int pe_int)) pa_nil))) pa_nil))) (pe_slice sl_list (pe_ix ix_tup (pv 1) pe_int (fun _ _ => rfl)) (po_some (pv 5)) po_none)))
      (pss_cons (ps_setCC (j := 7) rfl (N' := ["kind"]) ⟨rfl, by with_unfolding_all rfl⟩ (pi_range1 (by rfl) T.n_range (pa_cons pe_int pa_nil)) (fun _ => (pg_name (i := 0) (show (["kind"] : List Str).Nodup by decide +kernel) (by rfl) (by first | exact Or.inl rfl | exact Or.inr rfl))) (fun _ => pifs_nil) (fun _ => (pe_op op_cat (pe_comp rfl (N' := ["k", "kind"]) (cap := [none, some 0]) ⟨rfl, by with_unfolding_all rfl⟩ (pi_range1 (by rfl) T.n_range (pa_cons pe_int pa_nil)) (fun _ => (pg_name (i := 0) (show (["k", "kind"] : List Str).Nodup by decide +kernel) (by rfl) (by first | exact Or.inl rfl | exact Or.inr rfl))) (fun _ => pifs_nil) (fun _ => (pe_cmpR op_eq (pv 0) (pv 1) (nomark _)))) (pe_lst (pa_cons pe_bl pa_nil)))) sc_law.nd (by rfl) (by rfl) (by with_unfolding_all rfl))
      hD))))))), ?_⟩
  refine ⟨_, rfl, a, ns, 6, rfl, hS, by decide, by decide, fun ts r qs p H1 ND q4 s1 => ?_⟩
  have l6 := ND.t.l6
  have l1 := ND.t.l1
  obtain ⟨ap, bq, hp, ⟨vt, ht, dt⟩, ⟨vq, hq, dq⟩⟩ := id ND.ex
  have ct := dvs_len dt
  have cq := dvs_len dq
  refine ⟨_, rfl, p, _, _, _, rfl, rfl, SqT.of hp, at0, ap, _, rfl, .inl (SqL.of ht), ?_⟩
  rw [ct]
  have hS1 := s1.seq hS
  -- the room
  refine ⟨_, rfl, _, rfl, a, ns, 21, rfl, hS1, _, _, rfl, rfl, ⟨by decide, by decide, by decide⟩, _, _, rfl, rfl, p20, _, _, rfl, rfl, le_line (by show 4 ≤ _; decide), fun lp hlp => ?_⟩
  have x0 : 0 ≤ ns.getD 21 0 % (10 : Int) ^ (20 : Int).toNat := mod_pos p20
  dsimp only at hlp ⊢
  generalize ns.getD 21 0 % (10 : Int) ^ (20 : Int).toNat = x at x0 hlp ⊢
  have s2 := same_new (o := .lst [.int 0, .int 4, .int (-1), .int (4 + x)]) hlp
  have e2 : (L2.upd H1 lp (.lst [.int 0, .int 4, .int (-1), .int (4 + x)])) lp = some (.lst [.int 0, .int 4, .int (-1), .int (4 + x)]) := upd_same
  generalize L2.upd H1 lp (.lst [.int 0, .int 4, .int (-1), .int (4 + x)]) = H2 at s2 e2 ⊢
  obtain ⟨m0, m1⟩ := mod_in (c := ns.getD 20 0) (n := 4) (by decide)
  have hy : ∃ y : Int, atI [V.int 0, V.int 4, V.int (-1), V.int (4 + x)] (ns.getD 20 0 % 4) = some (V.int y) ∧ ¬ (1 ≤ y ∧ y ≤ 3) := by
    obtain ⟨v, hv, hat⟩ := atI_in (xs := [V.int 0, V.int 4, V.int (-1), V.int (4 + x)]) m0 m1
    simp only [List.mem_cons, List.not_mem_nil, or_false] at hv
    rcases hv with rfl | rfl | rfl | rfl
    · exact ⟨_, hat, by omega⟩
    · exact ⟨_, hat, by omega⟩
    · exact ⟨_, hat, by omega⟩
    · exact ⟨_, hat, by omega⟩
  obtain ⟨r', hy1, hy2⟩ := hy
  refine ⟨_, rfl, a, ns, 20, rfl, s2.seq hS1, _, _, rfl, rfl, (by show (0 : Int) < 4; decide), lp, _, _, _, rfl, rfl, SqL.of e2, hy1, ?_⟩
  -- the things
  refine ⟨_, rfl, p, _, _, _, rfl, rfl, SqT.of (s2 _ _ hp), at0, _, rfl, a, ns, 22, rfl, s2.seq hS1, _, _, rfl, rfl, ⟨by decide, by decide, by decide⟩, _, _, rfl, rfl, p30, ap, _, ts, rfl, ⟨vt, s2 _ _ ht, dt.mono s2⟩, ND.t, fun lt ts' H3 s3 hlt nt => ?_⟩
  have s13 := s2.trans s3
  -- the quarrels
  refine ⟨_, rfl, a, ns, 24, rfl, s13.seq hS1, _, rfl, p, _, _, _, rfl, rfl, SqT.of (s13 _ _ hp), at2, bq, _, rfl, .inl (SqL.of (s13 _ _ hq)), _, _, rfl, rfl, _, _, rfl, rfl, (by show (0 : Int) < (vq.length : Int) + 1; omega), ?_⟩
  dsimp only [gName]
  generalize ns.getD 24 0 % ((vq.length : Int) + 1) = at_
  refine ⟨_, rfl, p, _, _, _, rfl, rfl, SqT.of (s13 _ _ hp), at2, _, rfl, _, rfl, bq, vq, rfl, SqL.of (s13 _ _ hq), fun l1' hl1' => ?_⟩
  have s4 := same_new (o := .lst (cutV vq none (some at_))) hl1'
  have e4 : (L2.upd H3 l1' (.lst (cutV vq none (some at_)))) l1' = some (.lst (cutV vq none (some at_))) := upd_same
  generalize L2.upd H3 l1' (.lst (cutV vq none (some at_))) = H4 at s4 e4 ⊢
  have s14 := s13.trans s4
  refine ⟨_, rfl, _, rfl, a, ns, 23, rfl, s14.seq hS1, _, _, rfl, rfl, ⟨by decide, by decide, by decide⟩, _, _, rfl, rfl, p30, ts.length, _, rfl, l1, l6, fun oq q H5 s5 hoq nq => ?_⟩
  have s15 := s14.trans s5
  have dq5 : DV H5 (quD q) (.ref oq) := .tup hoq (.cons (.int _) (.cons (.int _) (.cons (.int _) .nil)))
  refine ⟨le_line (by show 1 ≤ _; decide), fun l2' hl2' => ?_⟩
  have s6 := same_new (o := .lst [.ref oq]) hl2'
  have c1 := cutV_length vq none (some at_)
  have c2 := cutV_length vq (some at_) none
  refine ⟨l1', l2', _, _, rfl, rfl, s6 _ _ (s5 _ _ e4), upd_same, le_line (by simp only [List.length_singleton]; omega), fun l3' hl3' => ?_⟩
  have s7 := same_new (o := .lst (cutV vq none (some at_) ++ [.ref oq])) hl3'
  have s17 := s15.trans (s6.trans s7)
  refine ⟨_, rfl, p, _, _, _, rfl, rfl, SqT.of (s17 _ _ hp), at2, _, rfl, _, rfl, bq, vq, rfl, SqL.of (s17 _ _ hq), fun l4' hl4' => ?_⟩
  have s8 := same_new (o := .lst (cutV vq (some at_) none)) hl4'
  refine ⟨l3', l4', _, _, rfl, rfl, s8 _ _ upd_same, upd_same, le_line (by simp only [List.length_append, List.length_singleton]; omega), fun l5' hl5' => ?_⟩
  have s9 := same_new (o := .lst ((cutV vq none (some at_) ++ [.ref oq]) ++ cutV vq (some at_) none)) hl5'
  have s19 := s17.trans (s8.trans s9)
  obtain ⟨qa, da, _⟩ := dvs_cutG (dq.mono s19) none (some at_)
  obtain ⟨qb, db, _⟩ := dvs_cutG (dq.mono s19) (some at_) none
  have hlq : LstAt quD (L2.upd (L2.upd (L2.upd (L2.upd H5 l2' (.lst [.ref oq])) l3' (.lst (cutV vq none (some at_) ++ [.ref oq]))) l4' (.lst (cutV vq (some at_) none))) l5' (.lst ((cutV vq none (some at_) ++ [.ref oq]) ++ cutV vq (some at_) none))) l5' ((qa ++ [q]) ++ qb) := by
    refine ⟨_, upd_same, ?_⟩
    rw [List.map_append, List.map_append]
    exact (da.append (.cons (dq5.mono (s6.trans (s7.trans (s8.trans s9)))) .nil)).append db
  have hlt9 := hlt.mono (s4.trans (s5.trans (s6.trans (s7.trans (s8.trans s9)))))
  have nqs : ¬ OkQs ts.length ((qa ++ [q]) ++ qb) := fun z => nq (z.q q (by simp))
  generalize L2.upd (L2.upd (L2.upd (L2.upd H5 l2' (.lst [.ref oq])) l3' (.lst (cutV vq none (some at_) ++ [.ref oq]))) l4' (.lst (cutV vq (some at_) none))) l5' (.lst ((cutV vq none (some at_) ++ [.ref oq]) ++ cutV vq (some at_) none)) = H9 at s19 hlq hlt9 ⊢
  -- what is bad
  refine ⟨5, rfl, by decide, by decide, fun D hD => ?_⟩
  refine compC_range (lo := 0) (n := (5 : Int).toNat) (fun i xs H' => Same H9 H' ∧ H' D = some (.lst xs) ∧ xs.length = i ∧ ∀ j < i, ∃ l, xs[j]? = some (.ref l) ∧ l ≠ D ∧ H' l = some (.lst ((flagsB j).map V.bl)))
    ⟨same_new hD, upd_same, rfl, fun j hj => absurd hj (Nat.not_lt_zero j)⟩ (fun i xs H' _ ⟨_, h, _⟩ => h) ?_ ?_
  · rintro i xs H10 hi ⟨s10, hDx, lx, hx⟩
    have hi5 : i < 5 := hi
    refine ⟨Keep.set rfl, ?_⟩
    refine ⟨7, rfl, by decide, by decide, fun D2 hD2 => ?_⟩
    refine comp_range (lo := 0) (n := (7 : Int).toNat) (fun i2 ys H' => Same H10 H' ∧ H' D2 = some (.lst ys) ∧ ys = (List.range i2).map fun j => V.bl (decide (j = i)))
      ⟨same_new hD2, upd_same, rfl⟩ (fun i2 ys H' _ ⟨_, h, _⟩ => h) ?_ ?_
    · rintro i2 ys H11 hi2 ⟨s11, hD11, rfl⟩
      have hi7 : i2 < 7 := hi2
      refine ⟨Keep.set rfl, ?_⟩
      refine ⟨_, rfl, _, rfl, rfl, hD11, lt_line (by simp; omega), same_upd s11 hD2, upd_same, ?_⟩
      rw [List.range_succ, List.map_append]
      congr 1
      show [V.bl (decide (V.int (0 + (i2 : Int)) = V.int (0 + (i : Int))))] = [V.bl (decide (i2 = i))]
      have e : decide (V.int (0 + (i2 : Int)) = V.int (0 + (i : Int))) = decide (i2 = i) := by
        rw [Bool.eq_iff_iff, decide_eq_true_eq, decide_eq_true_eq]
        constructor
        · intro z
          injection z with z
          omega
        · intro z; rw [z]
      rw [e]
    · rintro ys H11 ⟨s11, hD11, rfl⟩
      refine ⟨le_line (by show 1 ≤ _; decide), fun l6' hl6' => ?_⟩
      have s12 := same_new (o := .lst [.bl true]) hl6'
      refine ⟨D2, l6', _, _, rfl, rfl, s12 _ _ hD11, upd_same, le_line (by show 8 ≤ _; decide), fun l7 hl7 => ?_⟩
      have ef : (List.range (7 : Int).toNat).map (fun j => V.bl (decide (j = i))) ++ [V.bl true] = (flagsB i).map V.bl := rfl
      rw [ef]
      have s13' := same_new (o := .lst ((flagsB i).map V.bl)) hl7
      have s113 := s11.trans (s12.trans s13')
      have hDn := s113 _ _ hDx
      have nlD : l7 ≠ D := fun z => by
        rw [z] at hl7
        rw [s12 _ _ (s11 _ _ hDx)] at hl7
        cases hl7
      refine ⟨hDn, lt_line (by omega), same_upd (s10.trans s113) hD, upd_same, by simp [lx], fun j hj => ?_⟩
      by_cases hji : j = i
      · subst hji
        refine ⟨l7, by rw [List.getElem?_append_right (by omega), lx]; simp, nlD, ?_⟩
        rw [upd_ne nlD]; exact upd_same
      · obtain ⟨l, e1, e2, e3⟩ := hx j (by omega)
        refine ⟨l, by rw [List.getElem?_append_left (by omega)]; exact e1, e2, ?_⟩
        rw [upd_ne e2]; exact s113 _ _ e3
  · rintro xs H10 ⟨s10, hDx, lx, hx⟩
    have sF := s19.trans s10
    exact rD H10 p D lt l5' ts ts' r r' at_ qs ((qa ++ [q]) ++ qb) (ND.mono sF) q4 ⟨xs, hDx, fun j hj => let ⟨l, e1, _, e3⟩ := hx j hj; ⟨l, e1, e3⟩⟩ (sF.seq hS1) (hlt9.mono s10) nt hy2 (hlq.mono s10) nqs
end
end FN


set_option Elab.async false
set_option linter.all false
set_option maxRecDepth 100000
set_option maxHeartbeats 4000000
namespace FN
open PySem L2
theorem cls_of {K : PySem.W.Frag} {D : Addr} {v : Value} (h : PySem.W.mroIn K D v = some true) : (PySem.W.clsIn K D).isSome = true := by
  unfold PySem.W.mroIn at h
  cases e : PySem.W.clsIn K D with
  | none => rw [e] at h; cases h
  | some c => rfl
theorem all_mk {l : PySem.W.OpenLaw} {w : World} {K : PySem.W.Frag} {h : Heap} {mg : Str → Option Value} {fa C sd f1 f2 f3 f4 f5 f6 f7 f8 f9 f10 f11 f12 f13 f14 f15 f21 f22 f23 f24 f25 f26 f27 f28 f30 f31 f32 f33 f34 f35 f36 f37 f38 f41 f42 f44 f45 f46 f47 f48 f49 f50 f51 f52 f99 xFerryError xBadThing xBadRoom xBadQuarrel xNoStanding xBadStart xNoCrew xBadNote : Addr} (X : K.In h) (G : h.Ns mainGlobals mg) (hfa : mg "law" = some (.ref fa))
    {dS od1 an1 od2 an2 od3 an3 od4 an4 od5 an5 od6 an6 od7 an7 od8 an8 od9 an9 od10 an10 od11 an11 od12 an12 od13 an13 od14 an14 od15 an15 od21 an21 od22 an22 od23 an23 od24 an24 od25 an25 od26 an26 od27 an27 od28 an28 od30 an30 od31 an31 od32 an32 od33 an33 od34 an34 od35 an35 od36 an36 od37 an37 od38 an38 od41 an41 od42 an42 od44 an44 od45 an45 od46 an46 od47 an47 od48 an48 od49 an49 od50 an50 od51 an51 od52 an52 od99 an99 : Option Addr} {nS : Nat} {slS sl1 sl2 sl3 sl4 sl5 sl6 sl7 sl8 sl9 sl10 sl11 sl12 sl13 sl14 sl15 sl21 sl22 sl23 sl24 sl25 sl26 sl27 sl28 sl30 sl31 sl32 sl33 sl34 sl35 sl36 sl37 sl38 sl41 sl42 sl44 sl45 sl46 sl47 sl48 sl49 sl50 sl51 sl52 sl99 : Array (Option Value)} {oc1 kV1 dc1 pm1 cd1 ct1 oc2 kV2 dc2 pm2 cd2 ct2 oc3 kV3 dc3 pm3 cd3 ct3 oc4 kV4 dc4 pm4 cd4 ct4 oc5 kV5 dc5 pm5 cd5 ct5 oc6 kV6 dc6 pm6 cd6 ct6 oc7 kV7 dc7 pm7 cd7 ct7 oc8 kV8 dc8 pm8 cd8 ct8 oc9 kV9 dc9 pm9 cd9 ct9 oc10 kV10 dc10 pm10 cd10 ct10 oc11 kV11 dc11 pm11 cd11 ct11 oc12 kV12 dc12 pm12 cd12 ct12 oc13 kV13 dc13 pm13 cd13 ct13 oc14 kV14 dc14 pm14 cd14 ct14 oc15 kV15 dc15 pm15 cd15 ct15 oc21 kV21 dc21 pm21 cd21 ct21 oc22 kV22 dc22 pm22 cd22 ct22 oc23 kV23 dc23 pm23 cd23 ct23 oc24 kV24 dc24 pm24 cd24 ct24 oc25 kV25 dc25 pm25 cd25 ct25 oc26 kV26 dc26 pm26 cd26 ct26 oc27 kV27 dc27 pm27 cd27 ct27 oc28 kV28 dc28 pm28 cd28 ct28 oc30 kV30 dc30 pm30 cd30 ct30 oc31 kV31 dc31 pm31 cd31 ct31 oc32 kV32 dc32 pm32 cd32 ct32 oc33 kV33 dc33 pm33 cd33 ct33 oc34 kV34 dc34 pm34 cd34 ct34 oc35 kV35 dc35 pm35 cd35 ct35 oc36 kV36 dc36 pm36 cd36 ct36 oc37 kV37 dc37 pm37 cd37 ct37 oc38 kV38 dc38 pm38 cd38 ct38 oc41 kV41 dc41 pm41 cd41 ct41 oc42 kV42 dc42 pm42 cd42 ct42 oc44 kV44 dc44 pm44 cd44 ct44 oc45 kV45 dc45 pm45 cd45 ct45 oc46 kV46 dc46 pm46 cd46 ct46 oc47 kV47 dc47 pm47 cd47 ct47 oc48 kV48 dc48 pm48 cd48 ct48 oc49 kV49 dc49 pm49 cd49 ct49 oc50 kV50 dc50 pm50 cd50 ct50 oc51 kV51 dc51 pm51 cd51 ct51 oc52 kV52 dc52 pm52 cd52 ct52 oc99 kV99 dc99 pm99 cd99 ct99 : Value} {t0 t1 kk0 kk1 kk2 kk3 kk4 : Tok}
    (aC : PySem.W.nsIn K mainGlobals "Night" = some (some (.ref C)))
    (a21 : PySem.W.nsIn K mainGlobals "check_things" = some (some (.ref f21)))
    (l21 : K.lookup f21 = some ⟨oc21, od21, .func (PySem.W.fnOf "check_things" "check_things" (defArgs s_check_things) (defBody s_check_things) (defScope s_check_things) .none kV21 dc21 pm21 an21 cd21 ct21), sl21⟩)
    (c21 : PySem.W.codeIn K cd21 "check_things" = true)
    (q21 : PySem.W.keepIn K (.ref f21) = true)
    (a22 : PySem.W.nsIn K mainGlobals "check_room" = some (some (.ref f22)))
    (l22 : K.lookup f22 = some ⟨oc22, od22, .func (PySem.W.fnOf "check_room" "check_room" (defArgs s_check_room) (defBody s_check_room) (defScope s_check_room) .none kV22 dc22 pm22 an22 cd22 ct22), sl22⟩)
    (c22 : PySem.W.codeIn K cd22 "check_room" = true)
    (q22 : PySem.W.keepIn K (.ref f22) = true)
    (a23 : PySem.W.nsIn K mainGlobals "is_pair" = some (some (.ref f23)))
    (l23 : K.lookup f23 = some ⟨oc23, od23, .func (PySem.W.fnOf "is_pair" "is_pair" (defArgs s_is_pair) (defBody s_is_pair) (defScope s_is_pair) .none kV23 dc23 pm23 an23 cd23 ct23), sl23⟩)
    (c23 : PySem.W.codeIn K cd23 "is_pair" = true)
    (q23 : PySem.W.keepIn K (.ref f23) = true)
    (a24 : PySem.W.nsIn K mainGlobals "is_keeper" = some (some (.ref f24)))
    (l24 : K.lookup f24 = some ⟨oc24, od24, .func (PySem.W.fnOf "is_keeper" "is_keeper" (defArgs s_is_keeper) (defBody s_is_keeper) (defScope s_is_keeper) .none kV24 dc24 pm24 an24 cd24 ct24), sl24⟩)
    (c24 : PySem.W.codeIn K cd24 "is_keeper" = true)
    (q24 : PySem.W.keepIn K (.ref f24) = true)
    (a25 : PySem.W.nsIn K mainGlobals "check_quarrels" = some (some (.ref f25)))
    (l25 : K.lookup f25 = some ⟨oc25, od25, .func (PySem.W.fnOf "check_quarrels" "check_quarrels" (defArgs s_check_quarrels) (defBody s_check_quarrels) (defScope s_check_quarrels) .none kV25 dc25 pm25 an25 cd25 ct25), sl25⟩)
    (c25 : PySem.W.codeIn K cd25 "check_quarrels" = true)
    (q25 : PySem.W.keepIn K (.ref f25) = true)
    (a4 : PySem.W.nsIn K mainGlobals "is_thing" = some (some (.ref f4)))
    (l4 : K.lookup f4 = some ⟨oc4, od4, .func (PySem.W.fnOf "is_thing" "is_thing" (defArgs s_is_thing) (defBody s_is_thing) (defScope s_is_thing) .none kV4 dc4 pm4 an4 cd4 ct4), sl4⟩)
    (c4 : PySem.W.codeIn K cd4 "is_thing" = true)
    (q4 : PySem.W.keepIn K (.ref f4) = true)
    (a5 : PySem.W.nsIn K mainGlobals "rises" = some (some (.ref f5)))
    (l5 : K.lookup f5 = some ⟨oc5, od5, .func (PySem.W.fnOf "rises" "rises" (defArgs s_rises) (defBody s_rises) (defScope s_rises) .none kV5 dc5 pm5 an5 cd5 ct5), sl5⟩)
    (c5 : PySem.W.codeIn K cd5 "rises" = true)
    (q5 : PySem.W.keepIn K (.ref f5) = true)
    (a6 : PySem.W.nsIn K mainGlobals "is_standing" = some (some (.ref f6)))
    (l6 : K.lookup f6 = some ⟨oc6, od6, .func (PySem.W.fnOf "is_standing" "is_standing" (defArgs s_is_standing) (defBody s_is_standing) (defScope s_is_standing) .none kV6 dc6 pm6 an6 cd6 ct6), sl6⟩)
    (c6 : PySem.W.codeIn K cd6 "is_standing" = true)
    (q6 : PySem.W.keepIn K (.ref f6) = true)
    (a7 : PySem.W.nsIn K mainGlobals "other_bank" = some (some (.ref f7)))
    (l7 : K.lookup f7 = some ⟨oc7, od7, .func (PySem.W.fnOf "other_bank" "other_bank" (defArgs s_other_bank) (defBody s_other_bank) (defScope s_other_bank) .none kV7 dc7 pm7 an7 cd7 ct7), sl7⟩)
    (c7 : PySem.W.codeIn K cd7 "other_bank" = true)
    (q7 : PySem.W.keepIn K (.ref f7) = true)
    (a8 : PySem.W.nsIn K mainGlobals "is_good" = some (some (.ref f8)))
    (l8 : K.lookup f8 = some ⟨oc8, od8, .func (PySem.W.fnOf "is_good" "is_good" (defArgs s_is_good) (defBody s_is_good) (defScope s_is_good) .none kV8 dc8 pm8 an8 cd8 ct8), sl8⟩)
    (c8 : PySem.W.codeIn K cd8 "is_good" = true)
    (q8 : PySem.W.keepIn K (.ref f8) = true)
    (a9 : PySem.W.nsIn K mainGlobals "check_standing" = some (some (.ref f9)))
    (l9 : K.lookup f9 = some ⟨oc9, od9, .func (PySem.W.fnOf "check_standing" "check_standing" (defArgs s_check_standing) (defBody s_check_standing) (defScope s_check_standing) .none kV9 dc9 pm9 an9 cd9 ct9), sl9⟩)
    (c9 : PySem.W.codeIn K cd9 "check_standing" = true)
    (q9 : PySem.W.keepIn K (.ref f9) = true)
    (a10 : PySem.W.nsIn K mainGlobals "check_start" = some (some (.ref f10)))
    (l10 : K.lookup f10 = some ⟨oc10, od10, .func (PySem.W.fnOf "check_start" "check_start" (defArgs s_check_start) (defBody s_check_start) (defScope s_check_start) .none kV10 dc10 pm10 an10 cd10 ct10), sl10⟩)
    (c10 : PySem.W.codeIn K cd10 "check_start" = true)
    (q10 : PySem.W.keepIn K (.ref f10) = true)
    (a11 : PySem.W.nsIn K mainGlobals "groups_of" = some (some (.ref f11)))
    (l11 : K.lookup f11 = some ⟨oc11, od11, .func (PySem.W.fnOf "groups_of" "groups_of" (defArgs s_groups_of) (defBody s_groups_of) (defScope s_groups_of) .none kV11 dc11 pm11 an11 cd11 ct11), sl11⟩)
    (c11 : PySem.W.codeIn K cd11 "groups_of" = true)
    (q11 : PySem.W.keepIn K (.ref f11) = true)
    (a12 : PySem.W.nsIn K mainGlobals "bank_of_boat" = some (some (.ref f12)))
    (l12 : K.lookup f12 = some ⟨oc12, od12, .func (PySem.W.fnOf "bank_of_boat" "bank_of_boat" (defArgs s_bank_of_boat) (defBody s_bank_of_boat) (defScope s_bank_of_boat) .none kV12 dc12 pm12 an12 cd12 ct12), sl12⟩)
    (c12 : PySem.W.codeIn K cd12 "bank_of_boat" = true)
    (q12 : PySem.W.keepIn K (.ref f12) = true)
    (a13 : PySem.W.nsIn K mainGlobals "is_manned" = some (some (.ref f13)))
    (l13 : K.lookup f13 = some ⟨oc13, od13, .func (PySem.W.fnOf "is_manned" "is_manned" (defArgs s_is_manned) (defBody s_is_manned) (defScope s_is_manned) .none kV13 dc13 pm13 an13 cd13 ct13), sl13⟩)
    (c13 : PySem.W.codeIn K cd13 "is_manned" = true)
    (q13 : PySem.W.keepIn K (.ref f13) = true)
    (a14 : PySem.W.nsIn K mainGlobals "crossed" = some (some (.ref f14)))
    (l14 : K.lookup f14 = some ⟨oc14, od14, .func (PySem.W.fnOf "crossed" "crossed" (defArgs s_crossed) (defBody s_crossed) (defScope s_crossed) .none kV14 dc14 pm14 an14 cd14 ct14), sl14⟩)
    (c14 : PySem.W.codeIn K cd14 "crossed" = true)
    (q14 : PySem.W.keepIn K (.ref f14) = true)
    (a15 : PySem.W.nsIn K mainGlobals "crews" = some (some (.ref f15)))
    (l15 : K.lookup f15 = some ⟨oc15, od15, .func (PySem.W.fnOf "crews" "crews" (defArgs s_crews) (defBody s_crews) (defScope s_crews) .none kV15 dc15 pm15 an15 cd15 ct15), sl15⟩)
    (c15 : PySem.W.codeIn K cd15 "crews" = true)
    (q15 : PySem.W.keepIn K (.ref f15) = true)
    (a28 : PySem.W.nsIn K mainGlobals "_law_cell_at" = some (some (.ref f28)))
    (l28 : K.lookup f28 = some ⟨oc28, od28, .func (PySem.W.fnOf "_law_cell_at" "_law_cell_at" (defArgs s__law_cell_at) (defBody s__law_cell_at) (defScope s__law_cell_at) .none kV28 dc28 pm28 an28 cd28 ct28), sl28⟩)
    (c28 : PySem.W.codeIn K cd28 "_law_cell_at" = true)
    (q28 : PySem.W.keepIn K (.ref f28) = true)
    (a30 : PySem.W.nsIn K mainGlobals "_law_quarrel" = some (some (.ref f30)))
    (l30 : K.lookup f30 = some ⟨oc30, od30, .func (PySem.W.fnOf "_law_quarrel" "_law_quarrel" (defArgs s__law_quarrel) (defBody s__law_quarrel) (defScope s__law_quarrel) .none kV30 dc30 pm30 an30 cd30 ct30), sl30⟩)
    (c30 : PySem.W.codeIn K cd30 "_law_quarrel" = true)
    (q30 : PySem.W.keepIn K (.ref f30) = true)
    (a31 : PySem.W.nsIn K mainGlobals "_law_quarrels" = some (some (.ref f31)))
    (l31 : K.lookup f31 = some ⟨oc31, od31, .func (PySem.W.fnOf "_law_quarrels" "_law_quarrels" (defArgs s__law_quarrels) (defBody s__law_quarrels) (defScope s__law_quarrels) .none kV31 dc31 pm31 an31 cd31 ct31), sl31⟩)
    (c31 : PySem.W.codeIn K cd31 "_law_quarrels" = true)
    (q31 : PySem.W.keepIn K (.ref f31) = true)
    (a32 : PySem.W.nsIn K mainGlobals "_law_things" = some (some (.ref f32)))
    (l32 : K.lookup f32 = some ⟨oc32, od32, .func (PySem.W.fnOf "_law_things" "_law_things" (defArgs s__law_things) (defBody s__law_things) (defScope s__law_things) .none kV32 dc32 pm32 an32 cd32 ct32), sl32⟩)
    (c32 : PySem.W.codeIn K cd32 "_law_things" = true)
    (q32 : PySem.W.keepIn K (.ref f32) = true)
    (a33 : PySem.W.nsIn K mainGlobals "_law_night" = some (some (.ref f33)))
    (l33 : K.lookup f33 = some ⟨oc33, od33, .func (PySem.W.fnOf "_law_night" "_law_night" (defArgs s__law_night) (defBody s__law_night) (defScope s__law_night) .none kV33 dc33 pm33 an33 cd33 ct33), sl33⟩)
    (c33 : PySem.W.codeIn K cd33 "_law_night" = true)
    (q33 : PySem.W.keepIn K (.ref f33) = true)
    (a34 : PySem.W.nsIn K mainGlobals "good" = some (some (.ref f34)))
    (l34 : K.lookup f34 = some ⟨oc34, od34, .func (PySem.W.fnOf "good" "good" (defArgs s_good) (defBody s_good) (defScope s_good) .none kV34 dc34 pm34 an34 cd34 ct34), sl34⟩)
    (c34 : PySem.W.codeIn K cd34 "good" = true)
    (q34 : PySem.W.keepIn K (.ref f34) = true)
    (a35 : PySem.W.nsIn K mainGlobals "after" = some (some (.ref f35)))
    (l35 : K.lookup f35 = some ⟨oc35, od35, .func (PySem.W.fnOf "after" "after" (defArgs s_after) (defBody s_after) (defScope s_after) .none kV35 dc35 pm35 an35 cd35 ct35), sl35⟩)
    (c35 : PySem.W.codeIn K cd35 "after" = true)
    (q35 : PySem.W.keepIn K (.ref f35) = true)
    (a36 : PySem.W.nsIn K mainGlobals "minutes" = some (some (.ref f36)))
    (l36 : K.lookup f36 = some ⟨oc36, od36, .func (PySem.W.fnOf "minutes" "minutes" (defArgs s_minutes) (defBody s_minutes) (defScope s_minutes) .none kV36 dc36 pm36 an36 cd36 ct36), sl36⟩)
    (c36 : PySem.W.codeIn K cd36 "minutes" = true)
    (q36 : PySem.W.keepIn K (.ref f36) = true)
    (a37 : PySem.W.nsIn K mainGlobals "takes" = some (some (.ref f37)))
    (l37 : K.lookup f37 = some ⟨oc37, od37, .func (PySem.W.fnOf "takes" "takes" (defArgs s_takes) (defBody s_takes) (defScope s_takes) .none kV37 dc37 pm37 an37 cd37 ct37), sl37⟩)
    (c37 : PySem.W.codeIn K cd37 "takes" = true)
    (q37 : PySem.W.keepIn K (.ref f37) = true)
    (a38 : PySem.W.nsIn K mainGlobals "shortest" = some (some (.ref f38)))
    (l38 : K.lookup f38 = some ⟨oc38, od38, .func (PySem.W.fnOf "shortest" "shortest" (defArgs s_shortest) (defBody s_shortest) (defScope s_shortest) .none kV38 dc38 pm38 an38 cd38 ct38), sl38⟩)
    (c38 : PySem.W.codeIn K cd38 "shortest" = true)
    (q38 : PySem.W.keepIn K (.ref f38) = true)
    (a41 : PySem.W.nsIn K mainGlobals "_law_peace" = some (some (.ref f41)))
    (l41 : K.lookup f41 = some ⟨oc41, od41, .func (PySem.W.fnOf "_law_peace" "_law_peace" (defArgs s__law_peace) (defBody s__law_peace) (defScope s__law_peace) .none kV41 dc41 pm41 an41 cd41 ct41), sl41⟩)
    (c41 : PySem.W.codeIn K cd41 "_law_peace" = true)
    (q41 : PySem.W.keepIn K (.ref f41) = true)
    (a42 : PySem.W.nsIn K mainGlobals "_law_bits" = some (some (.ref f42)))
    (l42 : K.lookup f42 = some ⟨oc42, od42, .func (PySem.W.fnOf "_law_bits" "_law_bits" (defArgs s__law_bits) (defBody s__law_bits) (defScope s__law_bits) .none kV42 dc42 pm42 an42 cd42 ct42), sl42⟩)
    (c42 : PySem.W.codeIn K cd42 "_law_bits" = true)
    (q42 : PySem.W.keepIn K (.ref f42) = true)
    (a44 : PySem.W.nsIn K mainGlobals "_law_rest" = some (some (.ref f44)))
    (l44 : K.lookup f44 = some ⟨oc44, od44, .func (PySem.W.fnOf "_law_rest" "_law_rest" (defArgs s__law_rest) (defBody s__law_rest) (defScope s__law_rest) .none kV44 dc44 pm44 an44 cd44 ct44), sl44⟩)
    (c44 : PySem.W.codeIn K cd44 "_law_rest" = true)
    (q44 : PySem.W.keepIn K (.ref f44) = true)
    (a45 : PySem.W.nsIn K mainGlobals "_law_good" = some (some (.ref f45)))
    (l45 : K.lookup f45 = some ⟨oc45, od45, .func (PySem.W.fnOf "_law_good" "_law_good" (defArgs s__law_good) (defBody s__law_good) (defScope s__law_good) .none kV45 dc45 pm45 an45 cd45 ct45), sl45⟩)
    (c45 : PySem.W.codeIn K cd45 "_law_good" = true)
    (q45 : PySem.W.keepIn K (.ref f45) = true)
    (a46 : PySem.W.nsIn K mainGlobals "_law_asked" = some (some (.ref f46)))
    (l46 : K.lookup f46 = some ⟨oc46, od46, .func (PySem.W.fnOf "_law_asked" "_law_asked" (defArgs s__law_asked) (defBody s__law_asked) (defScope s__law_asked) .none kV46 dc46 pm46 an46 cd46 ct46), sl46⟩)
    (c46 : PySem.W.codeIn K cd46 "_law_asked" = true)
    (q46 : PySem.W.keepIn K (.ref f46) = true)
    (a47 : PySem.W.nsIn K mainGlobals "_law_flags" = some (some (.ref f47)))
    (l47 : K.lookup f47 = some ⟨oc47, od47, .func (PySem.W.fnOf "_law_flags" "_law_flags" (defArgs s__law_flags) (defBody s__law_flags) (defScope s__law_flags) .none kV47 dc47 pm47 an47 cd47 ct47), sl47⟩)
    (c47 : PySem.W.codeIn K cd47 "_law_flags" = true)
    (q47 : PySem.W.keepIn K (.ref f47) = true)
    (a48 : PySem.W.nsIn K mainGlobals "_law_refusal" = some (some (.ref f48)))
    (l48 : K.lookup f48 = some ⟨oc48, od48, .func (PySem.W.fnOf "_law_refusal" "_law_refusal" (defArgs s__law_refusal) (defBody s__law_refusal) (defScope s__law_refusal) .none kV48 dc48 pm48 an48 cd48 ct48), sl48⟩)
    (c48 : PySem.W.codeIn K cd48 "_law_refusal" = true)
    (q48 : PySem.W.keepIn K (.ref f48) = true)
    (a49 : PySem.W.nsIn K mainGlobals "_law_making" = some (some (.ref f49)))
    (l49 : K.lookup f49 = some ⟨oc49, od49, .func (PySem.W.fnOf "_law_making" "_law_making" (defArgs s__law_making) (defBody s__law_making) (defScope s__law_making) .none kV49 dc49 pm49 an49 cd49 ct49), sl49⟩)
    (c49 : PySem.W.codeIn K cd49 "_law_making" = true)
    (q49 : PySem.W.keepIn K (.ref f49) = true)
    (a50 : PySem.W.nsIn K mainGlobals "_law_ill_things" = some (some (.ref f50)))
    (l50 : K.lookup f50 = some ⟨oc50, od50, .func (PySem.W.fnOf "_law_ill_things" "_law_ill_things" (defArgs s__law_ill_things) (defBody s__law_ill_things) (defScope s__law_ill_things) .none kV50 dc50 pm50 an50 cd50 ct50), sl50⟩)
    (c50 : PySem.W.codeIn K cd50 "_law_ill_things" = true)
    (q50 : PySem.W.keepIn K (.ref f50) = true)
    (a51 : PySem.W.nsIn K mainGlobals "_law_ill_quarrel" = some (some (.ref f51)))
    (l51 : K.lookup f51 = some ⟨oc51, od51, .func (PySem.W.fnOf "_law_ill_quarrel" "_law_ill_quarrel" (defArgs s__law_ill_quarrel) (defBody s__law_ill_quarrel) (defScope s__law_ill_quarrel) .none kV51 dc51 pm51 an51 cd51 ct51), sl51⟩)
    (c51 : PySem.W.codeIn K cd51 "_law_ill_quarrel" = true)
    (q51 : PySem.W.keepIn K (.ref f51) = true)
    (a52 : PySem.W.nsIn K mainGlobals "_law_ill_standing" = some (some (.ref f52)))
    (l52 : K.lookup f52 = some ⟨oc52, od52, .func (PySem.W.fnOf "_law_ill_standing" "_law_ill_standing" (defArgs s__law_ill_standing) (defBody s__law_ill_standing) (defScope s__law_ill_standing) .none kV52 dc52 pm52 an52 cd52 ct52), sl52⟩)
    (c52 : PySem.W.codeIn K cd52 "_law_ill_standing" = true)
    (q52 : PySem.W.keepIn K (.ref f52) = true)
    (a99 : PySem.W.nsIn K mainGlobals "law" = some (some (.ref f99)))
    (l99 : K.lookup f99 = some ⟨oc99, od99, .func (PySem.W.fnOf "law" "law" (defArgs s_law) (defBody s_law) (defScope s_law) .none kV99 dc99 pm99 an99 cd99 ct99), sl99⟩)
    (c99 : PySem.W.codeIn K cd99 "law" = true)
    (q99 : PySem.W.keepIn K (.ref f99) = true)
    (a1 : PySem.W.findIn K (.ref C) "things" = some (some (.ref f1)))
    (i1 : PySem.W.isFn K (.ref f1) = true)
    (l1 : K.lookup f1 = some ⟨oc1, od1, .func (PySem.W.fnOf "things" "Night.things" (defArgs s_Night_things) (defBody s_Night_things) (defScope s_Night_things) .none kV1 dc1 pm1 an1 cd1 ct1), sl1⟩)
    (c1 : PySem.W.codeIn K cd1 "Night.things" = true)
    (q1 : PySem.W.keepIn K (.ref f1) = true)
    (a2 : PySem.W.findIn K (.ref C) "room" = some (some (.ref f2)))
    (i2 : PySem.W.isFn K (.ref f2) = true)
    (l2 : K.lookup f2 = some ⟨oc2, od2, .func (PySem.W.fnOf "room" "Night.room" (defArgs s_Night_room) (defBody s_Night_room) (defScope s_Night_room) .none kV2 dc2 pm2 an2 cd2 ct2), sl2⟩)
    (c2 : PySem.W.codeIn K cd2 "Night.room" = true)
    (q2 : PySem.W.keepIn K (.ref f2) = true)
    (a3 : PySem.W.findIn K (.ref C) "peace" = some (some (.ref f3)))
    (i3 : PySem.W.isFn K (.ref f3) = true)
    (l3 : K.lookup f3 = some ⟨oc3, od3, .func (PySem.W.fnOf "peace" "Night.peace" (defArgs s_Night_peace) (defBody s_Night_peace) (defScope s_Night_peace) .none kV3 dc3 pm3 an3 cd3 ct3), sl3⟩)
    (c3 : PySem.W.codeIn K cd3 "Night.peace" = true)
    (q3 : PySem.W.keepIn K (.ref f3) = true)
    (a26 : PySem.W.findIn K (.ref C) "__init__" = some (some (.ref f26)))
    (i26 : PySem.W.isFn K (.ref f26) = true)
    (l26 : K.lookup f26 = some ⟨oc26, od26, .func (PySem.W.fnOf "__init__" "Night.__init__" (defArgs s_Night___init__) (defBody s_Night___init__) (defScope s_Night___init__) .none kV26 dc26 pm26 an26 cd26 ct26), sl26⟩)
    (c26 : PySem.W.codeIn K cd26 "Night.__init__" = true)
    (q26 : PySem.W.keepIn K (.ref f26) = true)
    (a27 : PySem.W.findIn K (.ref C) "ends" = some (some (.ref f27)))
    (i27 : PySem.W.isFn K (.ref f27) = true)
    (l27 : K.lookup f27 = some ⟨oc27, od27, .func (PySem.W.fnOf "ends" "Night.ends" (defArgs s_Night_ends) (defBody s_Night_ends) (defScope s_Night_ends) .none kV27 dc27 pm27 an27 cd27 ct27), sl27⟩)
    (c27 : PySem.W.codeIn K cd27 "Night.ends" = true)
    (q27 : PySem.W.keepIn K (.ref f27) = true)
    (pg : PySem.W.plainGet K C Str.empty = true)
    (hd : PySem.W.hasDictIn K C = true)
    (po : PySem.W.plainOver K C = true)
    (sa : PySem.W.findIn K (.ref C) "__setattr__" = some (some (.builtin "object.__setattr__")))
    (mk : PySem.W.makesIn K C = true)
    (kc : PySem.W.keepIn K (.ref C) = true)
    (na0 : PySem.W.findIn K (.ref C) "kept_things" = some none)
    (na1 : PySem.W.findIn K (.ref C) "kept_room" = some none)
    (na2 : PySem.W.findIn K (.ref C) "kept_quarrels" = some none)
    (z0 : PySem.W.nsIn K mainGlobals "len" = some none)
    (z1 : PySem.W.nsIn K mainGlobals "list" = some none)
    (z2 : PySem.W.nsIn K mainGlobals "tuple" = some none)
    (z3 : PySem.W.nsIn K mainGlobals "range" = some none)
    (z4 : PySem.W.nsIn K mainGlobals "isinstance" = some none)
    (z5 : PySem.W.nsIn K mainGlobals "int" = some none)
    (z6 : PySem.W.nsIn K mainGlobals "bool" = some none)
    (z7 : PySem.W.nsIn K mainGlobals "zip" = some none)
    (z8 : PySem.W.nsIn K mainGlobals "all" = some none)
    (z9 : PySem.W.nsIn K mainGlobals "any" = some none)
    (z10 : PySem.W.nsIn K mainGlobals "max" = some none)
    (z11 : PySem.W.nsIn K mainGlobals "sorted" = some none)
    (z12 : PySem.W.nsIn K mainGlobals "ValueError" = some none)
    (z13 : PySem.W.nsIn K mainGlobals "reversed" = some none)
    (v0 : PySem.W.nsIn K mainGlobals "MOST_THINGS" = some (some (.int (6) kk0)))
    (v1 : PySem.W.nsIn K mainGlobals "MOST_MINUTES" = some (some (.int (1000000000) kk1)))
    (v2 : PySem.W.nsIn K mainGlobals "MOST_ROOM" = some (some (.int (3) kk2)))
    (v3 : PySem.W.nsIn K mainGlobals "MOST_QUARRELS" = some (some (.int (30) kk3)))
    (v4 : PySem.W.nsIn K mainGlobals "NO_KEEPER" = some (some (.int (-1) kk4)))
    (vS : PySem.W.nsIn K mainGlobals "SIDES" = some (some (.ref sd)))
    (lS : K.lookup sd = some ⟨.type "tuple", dS, .seq #[.int 0 t0, .int 1 t1] nS, slS⟩)
    (gFerryError : PySem.W.nsIn K mainGlobals "FerryError" = some (some (.ref xFerryError)))
    (gBadThing : PySem.W.nsIn K mainGlobals "BadThing" = some (some (.ref xBadThing)))
    (gBadRoom : PySem.W.nsIn K mainGlobals "BadRoom" = some (some (.ref xBadRoom)))
    (gBadQuarrel : PySem.W.nsIn K mainGlobals "BadQuarrel" = some (some (.ref xBadQuarrel)))
    (gNoStanding : PySem.W.nsIn K mainGlobals "NoStanding" = some (some (.ref xNoStanding)))
    (gBadStart : PySem.W.nsIn K mainGlobals "BadStart" = some (some (.ref xBadStart)))
    (gNoCrew : PySem.W.nsIn K mainGlobals "NoCrew" = some (some (.ref xNoCrew)))
    (gBadNote : PySem.W.nsIn K mainGlobals "BadNote" = some (some (.ref xBadNote)))
    (gt : PySem.W.specialIn K (.builtin "object.__class__") "__get__" = some (some (.builtin "getset_descriptor.__get__")))
    (tk : PySem.W.takesIn K (.builtin "object.__class__") = some true)
    (e1NoStanding : PySem.W.excIn K xNoStanding bmV "ValueError.__new__" = true)
    (e2NoStanding : PySem.W.findIn K (.ref xNoStanding) "__getattribute__" = some (some (.builtin "BaseException.__getattribute__")))
    (e3NoStanding : PySem.W.findIn K (.ref xNoStanding) "__getattr__" = some none)
    (e4NoStanding : PySem.W.findIn K (.ref xNoStanding) "__class__" = some (some (.builtin "object.__class__")))
    (e5NoStanding : PySem.W.mroIn K xNoStanding (.type "object") = some true)
    (e6NoStanding : PySem.W.mroIn K xNoStanding (.type "BaseException") = some true)
    (e8NoStanding : PySem.W.exmOne K (.ref xNoStanding) (.ref xFerryError) = some true)
    (e9NoStanding : PySem.W.kitOne K (.ref xNoStanding) (.type "ValueError") = some true)
    (e1BadStart : PySem.W.excIn K xBadStart bmV "ValueError.__new__" = true)
    (e2BadStart : PySem.W.findIn K (.ref xBadStart) "__getattribute__" = some (some (.builtin "BaseException.__getattribute__")))
    (e3BadStart : PySem.W.findIn K (.ref xBadStart) "__getattr__" = some none)
    (e4BadStart : PySem.W.findIn K (.ref xBadStart) "__class__" = some (some (.builtin "object.__class__")))
    (e5BadStart : PySem.W.mroIn K xBadStart (.type "object") = some true)
    (e6BadStart : PySem.W.mroIn K xBadStart (.type "BaseException") = some true)
    (e8BadStart : PySem.W.exmOne K (.ref xBadStart) (.ref xFerryError) = some true)
    (e9BadStart : PySem.W.kitOne K (.ref xBadStart) (.type "ValueError") = some true)
    (e1NoCrew : PySem.W.excIn K xNoCrew bmV "ValueError.__new__" = true)
    (e2NoCrew : PySem.W.findIn K (.ref xNoCrew) "__getattribute__" = some (some (.builtin "BaseException.__getattribute__")))
    (e3NoCrew : PySem.W.findIn K (.ref xNoCrew) "__getattr__" = some none)
    (e4NoCrew : PySem.W.findIn K (.ref xNoCrew) "__class__" = some (some (.builtin "object.__class__")))
    (e5NoCrew : PySem.W.mroIn K xNoCrew (.type "object") = some true)
    (e6NoCrew : PySem.W.mroIn K xNoCrew (.type "BaseException") = some true)
    (e8NoCrew : PySem.W.exmOne K (.ref xNoCrew) (.ref xFerryError) = some true)
    (e9NoCrew : PySem.W.kitOne K (.ref xNoCrew) (.type "ValueError") = some true)
    (e1BadThing : PySem.W.excIn K xBadThing bmV "ValueError.__new__" = true)
    (e2BadThing : PySem.W.findIn K (.ref xBadThing) "__getattribute__" = some (some (.builtin "BaseException.__getattribute__")))
    (e3BadThing : PySem.W.findIn K (.ref xBadThing) "__getattr__" = some none)
    (e4BadThing : PySem.W.findIn K (.ref xBadThing) "__class__" = some (some (.builtin "object.__class__")))
    (e5BadThing : PySem.W.mroIn K xBadThing (.type "object") = some true)
    (e6BadThing : PySem.W.mroIn K xBadThing (.type "BaseException") = some true)
    (e8BadThing : PySem.W.exmOne K (.ref xBadThing) (.ref xFerryError) = some true)
    (e9BadThing : PySem.W.kitOne K (.ref xBadThing) (.type "ValueError") = some true)
    (e1BadRoom : PySem.W.excIn K xBadRoom bmV "ValueError.__new__" = true)
    (e2BadRoom : PySem.W.findIn K (.ref xBadRoom) "__getattribute__" = some (some (.builtin "BaseException.__getattribute__")))
    (e3BadRoom : PySem.W.findIn K (.ref xBadRoom) "__getattr__" = some none)
    (e4BadRoom : PySem.W.findIn K (.ref xBadRoom) "__class__" = some (some (.builtin "object.__class__")))
    (e5BadRoom : PySem.W.mroIn K xBadRoom (.type "object") = some true)
    (e6BadRoom : PySem.W.mroIn K xBadRoom (.type "BaseException") = some true)
    (e8BadRoom : PySem.W.exmOne K (.ref xBadRoom) (.ref xFerryError) = some true)
    (e9BadRoom : PySem.W.kitOne K (.ref xBadRoom) (.type "ValueError") = some true)
    (e1BadQuarrel : PySem.W.excIn K xBadQuarrel bmV "ValueError.__new__" = true)
    (e2BadQuarrel : PySem.W.findIn K (.ref xBadQuarrel) "__getattribute__" = some (some (.builtin "BaseException.__getattribute__")))
    (e3BadQuarrel : PySem.W.findIn K (.ref xBadQuarrel) "__getattr__" = some none)
    (e4BadQuarrel : PySem.W.findIn K (.ref xBadQuarrel) "__class__" = some (some (.builtin "object.__class__")))
    (e5BadQuarrel : PySem.W.mroIn K xBadQuarrel (.type "object") = some true)
    (e6BadQuarrel : PySem.W.mroIn K xBadQuarrel (.type "BaseException") = some true)
    (e8BadQuarrel : PySem.W.exmOne K (.ref xBadQuarrel) (.ref xFerryError) = some true)
    (e9BadQuarrel : PySem.W.kitOne K (.ref xBadQuarrel) (.type "ValueError") = some true)
    (wBadThingBadRoom : PySem.W.kitOne K (.ref xBadThing) (.ref xBadRoom) = some false)
    (wBadThingBadQuarrel : PySem.W.kitOne K (.ref xBadThing) (.ref xBadQuarrel) = some false)
    (wBadThingNoStanding : PySem.W.kitOne K (.ref xBadThing) (.ref xNoStanding) = some false)
    (wBadThingBadStart : PySem.W.kitOne K (.ref xBadThing) (.ref xBadStart) = some false)
    (wBadThingNoCrew : PySem.W.kitOne K (.ref xBadThing) (.ref xNoCrew) = some false)
    (wBadThingBadNote : PySem.W.kitOne K (.ref xBadThing) (.ref xBadNote) = some false)
    (wBadRoomBadThing : PySem.W.kitOne K (.ref xBadRoom) (.ref xBadThing) = some false)
    (wBadRoomBadQuarrel : PySem.W.kitOne K (.ref xBadRoom) (.ref xBadQuarrel) = some false)
    (wBadRoomNoStanding : PySem.W.kitOne K (.ref xBadRoom) (.ref xNoStanding) = some false)
    (wBadRoomBadStart : PySem.W.kitOne K (.ref xBadRoom) (.ref xBadStart) = some false)
    (wBadRoomNoCrew : PySem.W.kitOne K (.ref xBadRoom) (.ref xNoCrew) = some false)
    (wBadRoomBadNote : PySem.W.kitOne K (.ref xBadRoom) (.ref xBadNote) = some false)
    (wBadQuarrelBadThing : PySem.W.kitOne K (.ref xBadQuarrel) (.ref xBadThing) = some false)
    (wBadQuarrelBadRoom : PySem.W.kitOne K (.ref xBadQuarrel) (.ref xBadRoom) = some false)
    (wBadQuarrelNoStanding : PySem.W.kitOne K (.ref xBadQuarrel) (.ref xNoStanding) = some false)
    (wBadQuarrelBadStart : PySem.W.kitOne K (.ref xBadQuarrel) (.ref xBadStart) = some false)
    (wBadQuarrelNoCrew : PySem.W.kitOne K (.ref xBadQuarrel) (.ref xNoCrew) = some false)
    (wBadQuarrelBadNote : PySem.W.kitOne K (.ref xBadQuarrel) (.ref xBadNote) = some false)
    (wNoStandingBadThing : PySem.W.kitOne K (.ref xNoStanding) (.ref xBadThing) = some false)
    (wNoStandingBadRoom : PySem.W.kitOne K (.ref xNoStanding) (.ref xBadRoom) = some false)
    (wNoStandingBadQuarrel : PySem.W.kitOne K (.ref xNoStanding) (.ref xBadQuarrel) = some false)
    (wNoStandingBadStart : PySem.W.kitOne K (.ref xNoStanding) (.ref xBadStart) = some false)
    (wNoStandingNoCrew : PySem.W.kitOne K (.ref xNoStanding) (.ref xNoCrew) = some false)
    (wNoStandingBadNote : PySem.W.kitOne K (.ref xNoStanding) (.ref xBadNote) = some false)
    (wBadStartBadThing : PySem.W.kitOne K (.ref xBadStart) (.ref xBadThing) = some false)
    (wBadStartBadRoom : PySem.W.kitOne K (.ref xBadStart) (.ref xBadRoom) = some false)
    (wBadStartBadQuarrel : PySem.W.kitOne K (.ref xBadStart) (.ref xBadQuarrel) = some false)
    (wBadStartNoStanding : PySem.W.kitOne K (.ref xBadStart) (.ref xNoStanding) = some false)
    (wBadStartNoCrew : PySem.W.kitOne K (.ref xBadStart) (.ref xNoCrew) = some false)
    (wBadStartBadNote : PySem.W.kitOne K (.ref xBadStart) (.ref xBadNote) = some false) :
    ∃ fd : FuncData, (∀ (s : Shared) (v : Value), BindsTo s fd ⟨[v], []⟩ [("script", v)]) ∧ ∀ base : Heap, K.In base → base.Ns mainGlobals mg → FnOk l.prog w K mg base CX0 9 fa fd ["script"] (sp_law K) := by
  have e := hfa.symm.trans (PySem.W.mg_of X G a99)
  cases e
  have F21 := fun_mk (st := s_check_things) l21 c21 q21
  have b21 := F21.binds (ps := ["things"]) fun _ _ _ _ _ _ us hl => match us, hl with | [_], _ => rfl
  have F22 := fun_mk (st := s_check_room) l22 c22 q22
  have b22 := F22.binds (ps := ["room"]) fun _ _ _ _ _ _ us hl => match us, hl with | [_], _ => rfl
  have F23 := fun_mk (st := s_is_pair) l23 c23 q23
  have b23 := F23.binds (ps := ["one", "other", "count"]) fun _ _ _ _ _ _ us hl => match us, hl with | [_, _, _], _ => rfl
  have F24 := fun_mk (st := s_is_keeper) l24 c24 q24
  have b24 := F24.binds (ps := ["keeper", "one", "other", "count"]) fun _ _ _ _ _ _ us hl => match us, hl with | [_, _, _, _], _ => rfl
  have F25 := fun_mk (st := s_check_quarrels) l25 c25 q25
  have b25 := F25.binds (ps := ["quarrels", "count"]) fun _ _ _ _ _ _ us hl => match us, hl with | [_, _], _ => rfl
  have F4 := fun_mk (st := s_is_thing) l4 c4 q4
  have b4 := F4.binds (ps := ["number", "count"]) fun _ _ _ _ _ _ us hl => match us, hl with | [_, _], _ => rfl
  have F5 := fun_mk (st := s_rises) l5 c5 q5
  have b5 := F5.binds (ps := ["group"]) fun _ _ _ _ _ _ us hl => match us, hl with | [_], _ => rfl
  have F6 := fun_mk (st := s_is_standing) l6 c6 q6
  have b6 := F6.binds (ps := ["night", "standing"]) fun _ _ _ _ _ _ us hl => match us, hl with | [_, _], _ => rfl
  have F7 := fun_mk (st := s_other_bank) l7 c7 q7
  have b7 := F7.binds (ps := ["night", "group"]) fun _ _ _ _ _ _ us hl => match us, hl with | [_, _], _ => rfl
  have F8 := fun_mk (st := s_is_good) l8 c8 q8
  have b8 := F8.binds (ps := ["night", "standing"]) fun _ _ _ _ _ _ us hl => match us, hl with | [_, _], _ => rfl
  have F9 := fun_mk (st := s_check_standing) l9 c9 q9
  have b9 := F9.binds (ps := ["night", "standing"]) fun _ _ _ _ _ _ us hl => match us, hl with | [_, _], _ => rfl
  have F10 := fun_mk (st := s_check_start) l10 c10 q10
  have b10 := F10.binds (ps := ["night", "standing"]) fun _ _ _ _ _ _ us hl => match us, hl with | [_, _], _ => rfl
  have F11 := fun_mk (st := s_groups_of) l11 c11 q11
  have b11 := F11.binds (ps := ["bank"]) fun _ _ _ _ _ _ us hl => match us, hl with | [_], _ => rfl
  have F12 := fun_mk (st := s_bank_of_boat) l12 c12 q12
  have b12 := F12.binds (ps := ["night", "standing"]) fun _ _ _ _ _ _ us hl => match us, hl with | [_, _], _ => rfl
  have F13 := fun_mk (st := s_is_manned) l13 c13 q13
  have b13 := F13.binds (ps := ["night", "crew"]) fun _ _ _ _ _ _ us hl => match us, hl with | [_, _], _ => rfl
  have F14 := fun_mk (st := s_crossed) l14 c14 q14
  have b14 := F14.binds (ps := ["standing", "crew"]) fun _ _ _ _ _ _ us hl => match us, hl with | [_, _], _ => rfl
  have F15 := fun_mk (st := s_crews) l15 c15 q15
  have b15 := F15.binds (ps := ["night", "standing"]) fun _ _ _ _ _ _ us hl => match us, hl with | [_, _], _ => rfl
  have F28 := fun_mk (st := s__law_cell_at) l28 c28 q28
  have b28 := F28.binds (ps := ["script", "k"]) fun _ _ _ _ _ _ us hl => match us, hl with | [_, _], _ => rfl
  have F30 := fun_mk (st := s__law_quarrel) l30 c30 q30
  have b30 := F30.binds (ps := ["cell", "many"]) fun _ _ _ _ _ _ us hl => match us, hl with | [_, _], _ => rfl
  have F31 := fun_mk (st := s__law_quarrels) l31 c31 q31
  have b31 := F31.binds (ps := ["script", "start", "many"]) fun _ _ _ _ _ _ us hl => match us, hl with | [_, _, _], _ => rfl
  have F32 := fun_mk (st := s__law_things) l32 c32 q32
  have b32 := F32.binds (ps := ["script", "start", "many"]) fun _ _ _ _ _ _ us hl => match us, hl with | [_, _, _], _ => rfl
  have F33 := fun_mk (st := s__law_night) l33 c33 q33
  have b33 := F33.binds (ps := ["script", "most"]) fun _ _ _ _ _ _ us hl => match us, hl with | [_, _], _ => rfl
  have F34 := fun_mk (st := s_good) l34 c34 q34
  have b34 := F34.binds (ps := ["night", "standing"]) fun _ _ _ _ _ _ us hl => match us, hl with | [_, _], _ => rfl
  have F35 := fun_mk (st := s_after) l35 c35 q35
  have b35 := F35.binds (ps := ["night", "standing", "crew"]) fun _ _ _ _ _ _ us hl => match us, hl with | [_, _, _], _ => rfl
  have F36 := fun_mk (st := s_minutes) l36 c36 q36
  have b36 := F36.binds (ps := ["night", "crew"]) fun _ _ _ _ _ _ us hl => match us, hl with | [_, _], _ => rfl
  have F37 := fun_mk (st := s_takes) l37 c37 q37
  have b37 := F37.binds (ps := ["night", "standing", "plan"]) fun _ _ _ _ _ _ us hl => match us, hl with | [_, _, _], _ => rfl
  have F38 := fun_mk (st := s_shortest) l38 c38 q38
  have b38 := F38.binds (ps := ["night", "standing"]) fun _ _ _ _ _ _ us hl => match us, hl with | [_, _], _ => rfl
  have F41 := fun_mk (st := s__law_peace) l41 c41 q41
  have b41 := F41.binds (ps := ["quarrels", "group"]) fun _ _ _ _ _ _ us hl => match us, hl with | [_, _], _ => rfl
  have F42 := fun_mk (st := s__law_bits) l42 c42 q42
  have b42 := F42.binds (ps := ["number", "many"]) fun _ _ _ _ _ _ us hl => match us, hl with | [_, _], _ => rfl
  have F44 := fun_mk (st := s__law_rest) l44 c44 q44
  have b44 := F44.binds (ps := ["group", "many"]) fun _ _ _ _ _ _ us hl => match us, hl with | [_, _], _ => rfl
  have F45 := fun_mk (st := s__law_good) l45 c45 q45
  have b45 := F45.binds (ps := ["quarrels", "group", "many"]) fun _ _ _ _ _ _ us hl => match us, hl with | [_, _, _], _ => rfl
  have F46 := fun_mk (st := s__law_asked) l46 c46 q46
  have b46 := F46.binds (ps := ["way", "made", "standing"]) fun _ _ _ _ _ _ us hl => match us, hl with | [_, _, _], _ => rfl
  have F47 := fun_mk (st := s__law_flags) l47 c47 q47
  have b47 := F47.binds (ps := ["e"]) fun _ _ _ _ _ _ us hl => match us, hl with | [_], _ => rfl
  have F48 := fun_mk (st := s__law_refusal) l48 c48 q48
  have b48 := F48.binds (ps := ["way", "made", "standing"]) fun _ _ _ _ _ _ us hl => match us, hl with | [_, _, _], _ => rfl
  have F49 := fun_mk (st := s__law_making) l49 c49 q49
  have b49 := F49.binds (ps := ["things", "room", "quarrels"]) fun _ _ _ _ _ _ us hl => match us, hl with | [_, _, _], _ => rfl
  have F50 := fun_mk (st := s__law_ill_things) l50 c50 q50
  have b50 := F50.binds (ps := ["things", "cell"]) fun _ _ _ _ _ _ us hl => match us, hl with | [_, _], _ => rfl
  have F51 := fun_mk (st := s__law_ill_quarrel) l51 c51 q51
  have b51 := F51.binds (ps := ["many", "cell"]) fun _ _ _ _ _ _ us hl => match us, hl with | [_, _], _ => rfl
  have F52 := fun_mk (st := s__law_ill_standing) l52 c52 q52
  have b52 := F52.binds (ps := ["many", "cell"]) fun _ _ _ _ _ _ us hl => match us, hl with | [_, _], _ => rfl
  have F99 := fun_mk (st := s_law) l99 c99 q99
  have b99 := F99.binds (ps := ["script"]) fun _ _ _ _ _ _ us hl => match us, hl with | [_], _ => rfl
  have F1 := fun_mk (st := s_Night_things) l1 c1 q1
  have b1 := F1.binds (ps := ["self"]) fun _ _ _ _ _ _ us hl => match us, hl with | [_], _ => rfl
  have F2 := fun_mk (st := s_Night_room) l2 c2 q2
  have b2 := F2.binds (ps := ["self"]) fun _ _ _ _ _ _ us hl => match us, hl with | [_], _ => rfl
  have F3 := fun_mk (st := s_Night_peace) l3 c3 q3
  have b3 := F3.binds (ps := ["self", "group"]) fun _ _ _ _ _ _ us hl => match us, hl with | [_, _], _ => rfl
  have F26 := fun_mk (st := s_Night___init__) l26 c26 q26
  have b26 := F26.binds (ps := ["self", "things", "room", "quarrels"]) fun _ _ _ _ _ _ us hl => match us, hl with | [_, _, _, _], _ => rfl
  have F27 := fun_mk (st := s_Night_ends) l27 c27 q27
  have b27 := F27.binds (ps := ["self"]) fun _ _ _ _ _ _ us hl => match us, hl with | [_], _ => rfl
  let Z : Ad := ⟨kk0, kk1, kk2, kk3, kk4, sd, xFerryError, xBadThing, xBadRoom, xBadQuarrel, xNoStanding, xBadStart, xNoCrew, xBadNote⟩
  have T : Txt K mg C Z := ⟨PySem.W.mg_none_of X G z0, PySem.W.mg_none_of X G z1, PySem.W.mg_none_of X G z2, PySem.W.mg_none_of X G z3, PySem.W.mg_none_of X G z4, PySem.W.mg_none_of X G z5, PySem.W.mg_none_of X G z6, PySem.W.mg_none_of X G z7, PySem.W.mg_none_of X G z8, PySem.W.mg_none_of X G z9, PySem.W.mg_none_of X G z10, PySem.W.mg_none_of X G z11, PySem.W.mg_none_of X G z12, PySem.W.mg_none_of X G z13, PySem.W.mg_of X G v0, PySem.W.mg_of X G v1, PySem.W.mg_of X G v2, PySem.W.mg_of X G v3, PySem.W.mg_of X G v4, PySem.W.mg_of X G aC, ⟨pg, hd, po, sa⟩, na0, na1, na2, PySem.W.mg_of X G vS, fun H => .inr ⟨_, _, _, lS, rfl, rfl, by show 2 ≤ sizeLine; decide, .cons ⟨_, rfl⟩ (.cons ⟨_, rfl⟩ .nil)⟩, PySem.W.mg_of X G gFerryError, PySem.W.mg_of X G gBadThing, PySem.W.mg_of X G gBadRoom, PySem.W.mg_of X G gBadQuarrel, PySem.W.mg_of X G gBadNote, ⟨PySem.W.mg_of X G gNoStanding, e1NoStanding, ⟨e2NoStanding, e3NoStanding, e4NoStanding, gt, tk, e5NoStanding, e6NoStanding, cls_of e5NoStanding⟩, e8NoStanding, e9NoStanding⟩, ⟨PySem.W.mg_of X G gBadStart, e1BadStart, ⟨e2BadStart, e3BadStart, e4BadStart, gt, tk, e5BadStart, e6BadStart, cls_of e5BadStart⟩, e8BadStart, e9BadStart⟩, ⟨PySem.W.mg_of X G gNoCrew, e1NoCrew, ⟨e2NoCrew, e3NoCrew, e4NoCrew, gt, tk, e5NoCrew, e6NoCrew, cls_of e5NoCrew⟩, e8NoCrew, e9NoCrew⟩, ⟨PySem.W.mg_of X G gBadThing, e1BadThing, ⟨e2BadThing, e3BadThing, e4BadThing, gt, tk, e5BadThing, e6BadThing, cls_of e5BadThing⟩, e8BadThing, e9BadThing⟩, ⟨PySem.W.mg_of X G gBadRoom, e1BadRoom, ⟨e2BadRoom, e3BadRoom, e4BadRoom, gt, tk, e5BadRoom, e6BadRoom, cls_of e5BadRoom⟩, e8BadRoom, e9BadRoom⟩, ⟨PySem.W.mg_of X G gBadQuarrel, e1BadQuarrel, ⟨e2BadQuarrel, e3BadQuarrel, e4BadQuarrel, gt, tk, e5BadQuarrel, e6BadQuarrel, cls_of e5BadQuarrel⟩, e8BadQuarrel, e9BadQuarrel⟩⟩
  let fs : Nat → Addr := fun i => match i with | 1 => f1 | 2 => f2 | 3 => f3 | 4 => f4 | 5 => f5 | 6 => f6 | 7 => f7 | 8 => f8 | 9 => f9 | 10 => f10 | 11 => f11 | 12 => f12 | 13 => f13 | 14 => f14 | 15 => f15 | 21 => f21 | 22 => f22 | 23 => f23 | 24 => f24 | 25 => f25 | 26 => f26 | 27 => f27 | 28 => f28 | 30 => f30 | 31 => f31 | 32 => f32 | 33 => f33 | 34 => f34 | 35 => f35 | 36 => f36 | 37 => f37 | 38 => f38 | 41 => f41 | 42 => f42 | 44 => f44 | 45 => f45 | 46 => f46 | 47 => f47 | 48 => f48 | 49 => f49 | 50 => f50 | 51 => f51 | 52 => f52 | _ => 0
  let ds : Nat → FuncData := fun i => match i with | 1 => PySem.W.fnOf "things" "Night.things" (defArgs s_Night_things) (defBody s_Night_things) (defScope s_Night_things) .none kV1 dc1 pm1 an1 cd1 ct1 | 2 => PySem.W.fnOf "room" "Night.room" (defArgs s_Night_room) (defBody s_Night_room) (defScope s_Night_room) .none kV2 dc2 pm2 an2 cd2 ct2 | 3 => PySem.W.fnOf "peace" "Night.peace" (defArgs s_Night_peace) (defBody s_Night_peace) (defScope s_Night_peace) .none kV3 dc3 pm3 an3 cd3 ct3 | 4 => PySem.W.fnOf "is_thing" "is_thing" (defArgs s_is_thing) (defBody s_is_thing) (defScope s_is_thing) .none kV4 dc4 pm4 an4 cd4 ct4 | 5 => PySem.W.fnOf "rises" "rises" (defArgs s_rises) (defBody s_rises) (defScope s_rises) .none kV5 dc5 pm5 an5 cd5 ct5 | 6 => PySem.W.fnOf "is_standing" "is_standing" (defArgs s_is_standing) (defBody s_is_standing) (defScope s_is_standing) .none kV6 dc6 pm6 an6 cd6 ct6 | 7 => PySem.W.fnOf "other_bank" "other_bank" (defArgs s_other_bank) (defBody s_other_bank) (defScope s_other_bank) .none kV7 dc7 pm7 an7 cd7 ct7 | 8 => PySem.W.fnOf "is_good" "is_good" (defArgs s_is_good) (defBody s_is_good) (defScope s_is_good) .none kV8 dc8 pm8 an8 cd8 ct8 | 9 => PySem.W.fnOf "check_standing" "check_standing" (defArgs s_check_standing) (defBody s_check_standing) (defScope s_check_standing) .none kV9 dc9 pm9 an9 cd9 ct9 | 10 => PySem.W.fnOf "check_start" "check_start" (defArgs s_check_start) (defBody s_check_start) (defScope s_check_start) .none kV10 dc10 pm10 an10 cd10 ct10 | 11 => PySem.W.fnOf "groups_of" "groups_of" (defArgs s_groups_of) (defBody s_groups_of) (defScope s_groups_of) .none kV11 dc11 pm11 an11 cd11 ct11 | 12 => PySem.W.fnOf "bank_of_boat" "bank_of_boat" (defArgs s_bank_of_boat) (defBody s_bank_of_boat) (defScope s_bank_of_boat) .none kV12 dc12 pm12 an12 cd12 ct12 | 13 => PySem.W.fnOf "is_manned" "is_manned" (defArgs s_is_manned) (defBody s_is_manned) (defScope s_is_manned) .none kV13 dc13 pm13 an13 cd13 ct13 | 14 => PySem.W.fnOf "crossed" "crossed" (defArgs s_crossed) (defBody s_crossed) (defScope s_crossed) .none kV14 dc14 pm14 an14 cd14 ct14 | 15 => PySem.W.fnOf "crews" "crews" (defArgs s_crews) (defBody s_crews) (defScope s_crews) .none kV15 dc15 pm15 an15 cd15 ct15 | 21 => PySem.W.fnOf "check_things" "check_things" (defArgs s_check_things) (defBody s_check_things) (defScope s_check_things) .none kV21 dc21 pm21 an21 cd21 ct21 | 22 => PySem.W.fnOf "check_room" "check_room" (defArgs s_check_room) (defBody s_check_room) (defScope s_check_room) .none kV22 dc22 pm22 an22 cd22 ct22 | 23 => PySem.W.fnOf "is_pair" "is_pair" (defArgs s_is_pair) (defBody s_is_pair) (defScope s_is_pair) .none kV23 dc23 pm23 an23 cd23 ct23 | 24 => PySem.W.fnOf "is_keeper" "is_keeper" (defArgs s_is_keeper) (defBody s_is_keeper) (defScope s_is_keeper) .none kV24 dc24 pm24 an24 cd24 ct24 | 25 => PySem.W.fnOf "check_quarrels" "check_quarrels" (defArgs s_check_quarrels) (defBody s_check_quarrels) (defScope s_check_quarrels) .none kV25 dc25 pm25 an25 cd25 ct25 | 26 => PySem.W.fnOf "__init__" "Night.__init__" (defArgs s_Night___init__) (defBody s_Night___init__) (defScope s_Night___init__) .none kV26 dc26 pm26 an26 cd26 ct26 | 27 => PySem.W.fnOf "ends" "Night.ends" (defArgs s_Night_ends) (defBody s_Night_ends) (defScope s_Night_ends) .none kV27 dc27 pm27 an27 cd27 ct27 | 28 => PySem.W.fnOf "_law_cell_at" "_law_cell_at" (defArgs s__law_cell_at) (defBody s__law_cell_at) (defScope s__law_cell_at) .none kV28 dc28 pm28 an28 cd28 ct28 | 30 => PySem.W.fnOf "_law_quarrel" "_law_quarrel" (defArgs s__law_quarrel) (defBody s__law_quarrel) (defScope s__law_quarrel) .none kV30 dc30 pm30 an30 cd30 ct30 | 31 => PySem.W.fnOf "_law_quarrels" "_law_quarrels" (defArgs s__law_quarrels) (defBody s__law_quarrels) (defScope s__law_quarrels) .none kV31 dc31 pm31 an31 cd31 ct31 | 32 => PySem.W.fnOf "_law_things" "_law_things" (defArgs s__law_things) (defBody s__law_things) (defScope s__law_things) .none kV32 dc32 pm32 an32 cd32 ct32 | 33 => PySem.W.fnOf "_law_night" "_law_night" (defArgs s__law_night) (defBody s__law_night) (defScope s__law_night) .none kV33 dc33 pm33 an33 cd33 ct33 | 34 => PySem.W.fnOf "good" "good" (defArgs s_good) (defBody s_good) (defScope s_good) .none kV34 dc34 pm34 an34 cd34 ct34 | 35 => PySem.W.fnOf "after" "after" (defArgs s_after) (defBody s_after) (defScope s_after) .none kV35 dc35 pm35 an35 cd35 ct35 | 36 => PySem.W.fnOf "minutes" "minutes" (defArgs s_minutes) (defBody s_minutes) (defScope s_minutes) .none kV36 dc36 pm36 an36 cd36 ct36 | 37 => PySem.W.fnOf "takes" "takes" (defArgs s_takes) (defBody s_takes) (defScope s_takes) .none kV37 dc37 pm37 an37 cd37 ct37 | 38 => PySem.W.fnOf "shortest" "shortest" (defArgs s_shortest) (defBody s_shortest) (defScope s_shortest) .none kV38 dc38 pm38 an38 cd38 ct38 | 41 => PySem.W.fnOf "_law_peace" "_law_peace" (defArgs s__law_peace) (defBody s__law_peace) (defScope s__law_peace) .none kV41 dc41 pm41 an41 cd41 ct41 | 42 => PySem.W.fnOf "_law_bits" "_law_bits" (defArgs s__law_bits) (defBody s__law_bits) (defScope s__law_bits) .none kV42 dc42 pm42 an42 cd42 ct42 | 44 => PySem.W.fnOf "_law_rest" "_law_rest" (defArgs s__law_rest) (defBody s__law_rest) (defScope s__law_rest) .none kV44 dc44 pm44 an44 cd44 ct44 | 45 => PySem.W.fnOf "_law_good" "_law_good" (defArgs s__law_good) (defBody s__law_good) (defScope s__law_good) .none kV45 dc45 pm45 an45 cd45 ct45 | 46 => PySem.W.fnOf "_law_asked" "_law_asked" (defArgs s__law_asked) (defBody s__law_asked) (defScope s__law_asked) .none kV46 dc46 pm46 an46 cd46 ct46 | 47 => PySem.W.fnOf "_law_flags" "_law_flags" (defArgs s__law_flags) (defBody s__law_flags) (defScope s__law_flags) .none kV47 dc47 pm47 an47 cd47 ct47 | 48 => PySem.W.fnOf "_law_refusal" "_law_refusal" (defArgs s__law_refusal) (defBody s__law_refusal) (defScope s__law_refusal) .none kV48 dc48 pm48 an48 cd48 ct48 | 49 => PySem.W.fnOf "_law_making" "_law_making" (defArgs s__law_making) (defBody s__law_making) (defScope s__law_making) .none kV49 dc49 pm49 an49 cd49 ct49 | 50 => PySem.W.fnOf "_law_ill_things" "_law_ill_things" (defArgs s__law_ill_things) (defBody s__law_ill_things) (defScope s__law_ill_things) .none kV50 dc50 pm50 an50 cd50 ct50 | 51 => PySem.W.fnOf "_law_ill_quarrel" "_law_ill_quarrel" (defArgs s__law_ill_quarrel) (defBody s__law_ill_quarrel) (defScope s__law_ill_quarrel) .none kV51 dc51 pm51 an51 cd51 ct51 | 52 => PySem.W.fnOf "_law_ill_standing" "_law_ill_standing" (defArgs s__law_ill_standing) (defBody s__law_ill_standing) (defScope s__law_ill_standing) .none kV52 dc52 pm52 an52 cd52 ct52 | _ => PySem.W.fnOf "law" "law" (defArgs s_law) (defBody s_law) (defScope s_law) .none kV99 dc99 pm99 an99 cd99 ct99
  have alBadThing : Alone K Z.BadThing [Z.BadRoom, Z.BadQuarrel, Z.NoStanding, Z.BadStart, Z.NoCrew, Z.BadNote] := fun E hE => by
    simp only [List.mem_cons, List.not_mem_nil, or_false] at hE
    rcases hE with rfl | rfl | rfl | rfl | rfl | rfl
    · exact wBadThingBadRoom
    · exact wBadThingBadQuarrel
    · exact wBadThingNoStanding
    · exact wBadThingBadStart
    · exact wBadThingNoCrew
    · exact wBadThingBadNote
  have alBadRoom : Alone K Z.BadRoom [Z.BadThing, Z.BadQuarrel, Z.NoStanding, Z.BadStart, Z.NoCrew, Z.BadNote] := fun E hE => by
    simp only [List.mem_cons, List.not_mem_nil, or_false] at hE
    rcases hE with rfl | rfl | rfl | rfl | rfl | rfl
    · exact wBadRoomBadThing
    · exact wBadRoomBadQuarrel
    · exact wBadRoomNoStanding
    · exact wBadRoomBadStart
    · exact wBadRoomNoCrew
    · exact wBadRoomBadNote
  have alBadQuarrel : Alone K Z.BadQuarrel [Z.BadThing, Z.BadRoom, Z.NoStanding, Z.BadStart, Z.NoCrew, Z.BadNote] := fun E hE => by
    simp only [List.mem_cons, List.not_mem_nil, or_false] at hE
    rcases hE with rfl | rfl | rfl | rfl | rfl | rfl
    · exact wBadQuarrelBadThing
    · exact wBadQuarrelBadRoom
    · exact wBadQuarrelNoStanding
    · exact wBadQuarrelBadStart
    · exact wBadQuarrelNoCrew
    · exact wBadQuarrelBadNote
  have alNoStanding : Alone K Z.NoStanding [Z.BadThing, Z.BadRoom, Z.BadQuarrel, Z.BadStart, Z.NoCrew, Z.BadNote] := fun E hE => by
    simp only [List.mem_cons, List.not_mem_nil, or_false] at hE
    rcases hE with rfl | rfl | rfl | rfl | rfl | rfl
    · exact wNoStandingBadThing
    · exact wNoStandingBadRoom
    · exact wNoStandingBadQuarrel
    · exact wNoStandingBadStart
    · exact wNoStandingNoCrew
    · exact wNoStandingBadNote
  have alBadStart : Alone K Z.BadStart [Z.BadThing, Z.BadRoom, Z.BadQuarrel, Z.NoStanding, Z.NoCrew, Z.BadNote] := fun E hE => by
    simp only [List.mem_cons, List.not_mem_nil, or_false] at hE
    rcases hE with rfl | rfl | rfl | rfl | rfl | rfl
    · exact wBadStartBadThing
    · exact wBadStartBadRoom
    · exact wBadStartBadQuarrel
    · exact wBadStartNoStanding
    · exact wBadStartNoCrew
    · exact wBadStartBadNote
  have lk : Lk K mg C fs ds := ⟨⟨a1, i1, q1⟩, ⟨F1, b1⟩, ⟨a2, i2, q2⟩, ⟨F2, b2⟩, ⟨a3, i3, q3⟩, ⟨F3, b3⟩, ⟨F4, b4, PySem.W.mg_of X G a4⟩, ⟨F5, b5, PySem.W.mg_of X G a5⟩, ⟨F6, b6, PySem.W.mg_of X G a6⟩, ⟨F7, b7, PySem.W.mg_of X G a7⟩, ⟨F8, b8, PySem.W.mg_of X G a8⟩, ⟨F9, b9, PySem.W.mg_of X G a9⟩, ⟨F10, b10, PySem.W.mg_of X G a10⟩, ⟨F11, b11, PySem.W.mg_of X G a11⟩, ⟨F12, b12, PySem.W.mg_of X G a12⟩, ⟨F13, b13, PySem.W.mg_of X G a13⟩, ⟨F14, b14, PySem.W.mg_of X G a14⟩, ⟨F15, b15, PySem.W.mg_of X G a15⟩⟩
  have Al : Als K Z := ⟨alBadThing, alBadRoom, alBadQuarrel, alNoStanding, alBadStart⟩
  have A : All K mg C fs ds := ⟨⟨F21, b21, PySem.W.mg_of X G a21⟩, ⟨F22, b22, PySem.W.mg_of X G a22⟩, ⟨F23, b23, PySem.W.mg_of X G a23⟩, ⟨F24, b24, PySem.W.mg_of X G a24⟩, ⟨F25, b25, PySem.W.mg_of X G a25⟩, ⟨F26, b26⟩, ⟨F28, b28, PySem.W.mg_of X G a28⟩, ⟨F30, b30, PySem.W.mg_of X G a30⟩, ⟨F31, b31, PySem.W.mg_of X G a31⟩, ⟨F32, b32, PySem.W.mg_of X G a32⟩, ⟨F33, b33, PySem.W.mg_of X G a33⟩, ⟨F34, b34, PySem.W.mg_of X G a34⟩, ⟨F35, b35, PySem.W.mg_of X G a35⟩, ⟨F36, b36, PySem.W.mg_of X G a36⟩, ⟨F37, b37, PySem.W.mg_of X G a37⟩, ⟨F38, b38, PySem.W.mg_of X G a38⟩, ⟨F41, b41, PySem.W.mg_of X G a41⟩, ⟨F42, b42, PySem.W.mg_of X G a42⟩, ⟨F44, b44, PySem.W.mg_of X G a44⟩, ⟨F45, b45, PySem.W.mg_of X G a45⟩, ⟨F46, b46, PySem.W.mg_of X G a46⟩, ⟨F47, b47, PySem.W.mg_of X G a47⟩, ⟨F48, b48, PySem.W.mg_of X G a48⟩, ⟨F49, b49, PySem.W.mg_of X G a49⟩, ⟨F50, b50, PySem.W.mg_of X G a50⟩, ⟨F51, b51, PySem.W.mg_of X G a51⟩, ⟨F52, b52, PySem.W.mg_of X G a52⟩, ⟨a27, i27, q27⟩, ⟨F27, b27⟩, lk, ⟨mk, a26, i26, kc⟩⟩
  exact ⟨PySem.W.fnOf "law" "law" (defArgs s_law) (defBody s_law) (defScope s_law) .none kV99 dc99 pm99 an99 cd99 ct99, fun s v => .of_eq rfl, fun base _ _ => ok_law ⟨F99, b99, PySem.W.mg_of X G a99⟩ T A Al⟩
theorem walk {l : PySem.W.OpenLaw} {q : Program} {loose : List Str} {XP : (Str → Option Value) → Heap → Prop} {YP : World → Heap → Prop} {d : DefRec} {K : Params → PySem.W.Frag} (hn : l.most = some 63) (hdf : d.params.defaults = [])
    (hY : ∀ (w : World) (h : Heap), YP w h → (K w.params).In h)
    (F : ∀ (w : World) (mg : Str → Option Value) (fa : Addr) (h : Heap), (K w.params).In h → h.Ns mainGlobals mg → mg d.name = some (.ref fa) →
      ∃ fd : FuncData, (∀ (s : Shared) (u : Value), BindsTo s fd ⟨[u], []⟩ [("script", u)]) ∧ ∀ base : Heap, (K w.params).In base → base.Ns mainGlobals mg → FnOk l.prog w (K w.params) mg base CX0 9 fa fd ["script"] (sp_law (K w.params))) :
    PySem.W.WalkO q loose XP YP l.row.toRowW d [] (fun f vs => PySem.call f vs) :=
  L2.walk_of (n := 63) (k := 9) (x := "script") (CX := fun _ => CX0) (sp := fun w => sp_law (K w.params)) hn (by decide) hdf ⟨rfl, by decide, by decide⟩ hY F (fun _ _ a ns hl _ hS => ⟨a, ns, rfl, hS, hl, fun _ => rfl⟩) fun _ _ _ _ _ z => z
end FN
def PySem.W.Fast.tw12393627536138711427 : Unit := ()
def PySem.W.Fast.tw9444548772524466212 : Unit := ()
def PySem.W.Fast.tw13922458206405808676 : Unit := ()
def PySem.W.Fast.tw12156275201358132101 : Unit := ()
def PySem.W.Fast.tw15092922017523493990 : Unit := ()
def PySem.W.Fast.tw17668535674294064008 : Unit := ()
def PySem.W.Fast.tw14642043815768942377 : Unit := ()
def PySem.W.Fast.tw17307641417191728394 : Unit := ()
def PySem.W.Fast.tw6098791764267299664 : Unit := ()
def PySem.W.Fast.tw10067570410345202930 : Unit := ()
def PySem.W.Fast.tw4290852362492746674 : Unit := ()
def PySem.W.Fast.tw5342209286424893556 : Unit := ()
def PySem.W.Fast.tw16461853095696303572 : Unit := ()
def PySem.W.Fast.tw9378651979326445335 : Unit := ()
def PySem.W.Fast.tw4313231025099698071 : Unit := ()
def PySem.W.Fast.tw15243278954316207993 : Unit := ()
def PySem.W.Fast.tw7104530871977397466 : Unit := ()
def PySem.W.Fast.tw14429017665378868988 : Unit := ()
def PySem.W.Fast.tw13747301624939258239 : Unit := ()
open PySem PySem.W PyProof.Rows
set_option maxRecDepth 100000 in
set_option maxHeartbeats 0 in
theorem PySem.Challenge.cw_ferrynight_k10_refusals_holds : PySem.Challenge.rw_ferrynight_k10_refusals.Holds := by
  w_on; o_law; k_head; (case hw => w_witness2)
  k_fill
  refine FN.walk (l := PySem.Challenge.rw_ferrynight_k10_refusals) rfl rfl (fun w h Y => PySem.W.kIn_of Y) ?F
  case F =>
    intro w mg fa h KX G hmg
    refine' FN.all_mk KX G hmg ?aC ?a21 ?l21 ?c21 ?q21 ?a22 ?l22 ?c22 ?q22 ?a23 ?l23 ?c23 ?q23 ?a24 ?l24 ?c24 ?q24 ?a25 ?l25 ?c25 ?q25 ?a4 ?l4 ?c4 ?q4 ?a5 ?l5 ?c5 ?q5 ?a6 ?l6 ?c6 ?q6 ?a7 ?l7 ?c7 ?q7 ?a8 ?l8 ?c8 ?q8 ?a9 ?l9 ?c9 ?q9 ?a10 ?l10 ?c10 ?q10 ?a11 ?l11 ?c11 ?q11 ?a12 ?l12 ?c12 ?q12 ?a13 ?l13 ?c13 ?q13 ?a14 ?l14 ?c14 ?q14 ?a15 ?l15 ?c15 ?q15 ?a28 ?l28 ?c28 ?q28 ?a30 ?l30 ?c30 ?q30 ?a31 ?l31 ?c31 ?q31 ?a32 ?l32 ?c32 ?q32 ?a33 ?l33 ?c33 ?q33 ?a34 ?l34 ?c34 ?q34 ?a35 ?l35 ?c35 ?q35 ?a36 ?l36 ?c36 ?q36 ?a37 ?l37 ?c37 ?q37 ?a38 ?l38 ?c38 ?q38 ?a41 ?l41 ?c41 ?q41 ?a42 ?l42 ?c42 ?q42 ?a44 ?l44 ?c44 ?q44 ?a45 ?l45 ?c45 ?q45 ?a46 ?l46 ?c46 ?q46 ?a47 ?l47 ?c47 ?q47 ?a48 ?l48 ?c48 ?q48 ?a49 ?l49 ?c49 ?q49 ?a50 ?l50 ?c50 ?q50 ?a51 ?l51 ?c51 ?q51 ?a52 ?l52 ?c52 ?q52 ?a99 ?l99 ?c99 ?q99 ?a1 ?i1 ?l1 ?c1 ?q1 ?a2 ?i2 ?l2 ?c2 ?q2 ?a3 ?i3 ?l3 ?c3 ?q3 ?a26 ?i26 ?l26 ?c26 ?q26 ?a27 ?i27 ?l27 ?c27 ?q27 ?pg ?hd ?po ?sa ?mk ?kc ?na0 ?na1 ?na2 ?z0 ?z1 ?z2 ?z3 ?z4 ?z5 ?z6 ?z7 ?z8 ?z9 ?z10 ?z11 ?z12 ?z13 ?v0 ?v1 ?v2 ?v3 ?v4 ?vS ?lS ?gFerryError ?gBadThing ?gBadRoom ?gBadQuarrel ?gNoStanding ?gBadStart ?gNoCrew ?gBadNote ?gt ?tk ?e1NoStanding ?e2NoStanding ?e3NoStanding ?e4NoStanding ?e5NoStanding ?e6NoStanding ?e8NoStanding ?e9NoStanding ?e1BadStart ?e2BadStart ?e3BadStart ?e4BadStart ?e5BadStart ?e6BadStart ?e8BadStart ?e9BadStart ?e1NoCrew ?e2NoCrew ?e3NoCrew ?e4NoCrew ?e5NoCrew ?e6NoCrew ?e8NoCrew ?e9NoCrew ?e1BadThing ?e2BadThing ?e3BadThing ?e4BadThing ?e5BadThing ?e6BadThing ?e8BadThing ?e9BadThing ?e1BadRoom ?e2BadRoom ?e3BadRoom ?e4BadRoom ?e5BadRoom ?e6BadRoom ?e8BadRoom ?e9BadRoom ?e1BadQuarrel ?e2BadQuarrel ?e3BadQuarrel ?e4BadQuarrel ?e5BadQuarrel ?e6BadQuarrel ?e8BadQuarrel ?e9BadQuarrel ?wBadThingBadRoom ?wBadThingBadQuarrel ?wBadThingNoStanding ?wBadThingBadStart ?wBadThingNoCrew ?wBadThingBadNote ?wBadRoomBadThing ?wBadRoomBadQuarrel ?wBadRoomNoStanding ?wBadRoomBadStart ?wBadRoomNoCrew ?wBadRoomBadNote ?wBadQuarrelBadThing ?wBadQuarrelBadRoom ?wBadQuarrelNoStanding ?wBadQuarrelBadStart ?wBadQuarrelNoCrew ?wBadQuarrelBadNote ?wNoStandingBadThing ?wNoStandingBadRoom ?wNoStandingBadQuarrel ?wNoStandingBadStart ?wNoStandingNoCrew ?wNoStandingBadNote ?wBadStartBadThing ?wBadStartBadRoom ?wBadStartBadQuarrel ?wBadStartNoStanding ?wBadStartNoCrew ?wBadStartBadNote
    (case aC => k_is)
    (case a21 => k_is)
    (case l21 => k_is)
    (case c21 => k_is)
    (case q21 => k_is)
    (case a22 => k_is)
    (case l22 => k_is)
    (case c22 => k_is)
    (case q22 => k_is)
    (case a23 => k_is)
    (case l23 => k_is)
    (case c23 => k_is)
    (case q23 => k_is)
    (case a24 => k_is)
    (case l24 => k_is)
    (case c24 => k_is)
    (case q24 => k_is)
    (case a25 => k_is)
    (case l25 => k_is)
    (case c25 => k_is)
    (case q25 => k_is)
    (case a4 => k_is)
    (case l4 => k_is)
    (case c4 => k_is)
    (case q4 => k_is)
    (case a5 => k_is)
    (case l5 => k_is)
    (case c5 => k_is)
    (case q5 => k_is)
    (case a6 => k_is)
    (case l6 => k_is)
    (case c6 => k_is)
    (case q6 => k_is)
    (case a7 => k_is)
    (case l7 => k_is)
    (case c7 => k_is)
    (case q7 => k_is)
    (case a8 => k_is)
    (case l8 => k_is)
    (case c8 => k_is)
    (case q8 => k_is)
    (case a9 => k_is)
    (case l9 => k_is)
    (case c9 => k_is)
    (case q9 => k_is)
    (case a10 => k_is)
    (case l10 => k_is)
    (case c10 => k_is)
    (case q10 => k_is)
    (case a11 => k_is)
    (case l11 => k_is)
    (case c11 => k_is)
    (case q11 => k_is)
    (case a12 => k_is)
    (case l12 => k_is)
    (case c12 => k_is)
    (case q12 => k_is)
    (case a13 => k_is)
    (case l13 => k_is)
    (case c13 => k_is)
    (case q13 => k_is)
    (case a14 => k_is)
    (case l14 => k_is)
    (case c14 => k_is)
    (case q14 => k_is)
    (case a15 => k_is)
    (case l15 => k_is)
    (case c15 => k_is)
    (case q15 => k_is)
    (case a28 => k_is)
    (case l28 => k_is)
    (case c28 => k_is)
    (case q28 => k_is)
    (case a30 => k_is)
    (case l30 => k_is)
    (case c30 => k_is)
    (case q30 => k_is)
    (case a31 => k_is)
    (case l31 => k_is)
    (case c31 => k_is)
    (case q31 => k_is)
    (case a32 => k_is)
    (case l32 => k_is)
    (case c32 => k_is)
    (case q32 => k_is)
    (case a33 => k_is)
    (case l33 => k_is)
    (case c33 => k_is)
    (case q33 => k_is)
    (case a34 => k_is)
    (case l34 => k_is)
    (case c34 => k_is)
    (case q34 => k_is)
    (case a35 => k_is)
    (case l35 => k_is)
    (case c35 => k_is)
    (case q35 => k_is)
    (case a36 => k_is)
    (case l36 => k_is)
    (case c36 => k_is)
    (case q36 => k_is)
    (case a37 => k_is)
    (case l37 => k_is)
    (case c37 => k_is)
    (case q37 => k_is)
    (case a38 => k_is)
    (case l38 => k_is)
    (case c38 => k_is)
    (case q38 => k_is)
    (case a41 => k_is)
    (case l41 => k_is)
    (case c41 => k_is)
    (case q41 => k_is)
    (case a42 => k_is)
    (case l42 => k_is)
    (case c42 => k_is)
    (case q42 => k_is)
    (case a44 => k_is)
    (case l44 => k_is)
    (case c44 => k_is)
    (case q44 => k_is)
    (case a45 => k_is)
    (case l45 => k_is)
    (case c45 => k_is)
    (case q45 => k_is)
    (case a46 => k_is)
    (case l46 => k_is)
    (case c46 => k_is)
    (case q46 => k_is)
    (case a47 => k_is)
    (case l47 => k_is)
    (case c47 => k_is)
    (case q47 => k_is)
    (case a48 => k_is)
    (case l48 => k_is)
    (case c48 => k_is)
    (case q48 => k_is)
    (case a49 => k_is)
    (case l49 => k_is)
    (case c49 => k_is)
    (case q49 => k_is)
    (case a50 => k_is)
    (case l50 => k_is)
    (case c50 => k_is)
    (case q50 => k_is)
    (case a51 => k_is)
    (case l51 => k_is)
    (case c51 => k_is)
    (case q51 => k_is)
    (case a52 => k_is)
    (case l52 => k_is)
    (case c52 => k_is)
    (case q52 => k_is)
    (case a99 => k_is)
    (case l99 => k_is)
    (case c99 => k_is)
    (case q99 => k_is)
    (case a1 => k_is)
    (case i1 => k_is)
    (case l1 => k_is)
    (case c1 => k_is)
    (case q1 => k_is)
    (case a2 => k_is)
    (case i2 => k_is)
    (case l2 => k_is)
    (case c2 => k_is)
    (case q2 => k_is)
    (case a3 => k_is)
    (case i3 => k_is)
    (case l3 => k_is)
    (case c3 => k_is)
    (case q3 => k_is)
    (case a26 => k_is)
    (case i26 => k_is)
    (case l26 => k_is)
    (case c26 => k_is)
    (case q26 => k_is)
    (case a27 => k_is)
    (case i27 => k_is)
    (case l27 => k_is)
    (case c27 => k_is)
    (case q27 => k_is)
    (case pg => k_is)
    (case hd => k_is)
    (case po => k_is)
    (case sa => k_is)
    (case mk => k_is)
    (case kc => k_is)
    (case na0 => k_is)
    (case na1 => k_is)
    (case na2 => k_is)
    (case z0 => k_is)
    (case z1 => k_is)
    (case z2 => k_is)
    (case z3 => k_is)
    (case z4 => k_is)
    (case z5 => k_is)
    (case z6 => k_is)
    (case z7 => k_is)
    (case z8 => k_is)
    (case z9 => k_is)
    (case z10 => k_is)
    (case z11 => k_is)
    (case z12 => k_is)
    (case z13 => k_is)
    (case v0 => k_is)
    (case v1 => k_is)
    (case v2 => k_is)
    (case v3 => k_is)
    (case v4 => k_is)
    (case vS => k_is)
    (case lS => k_is)
    (case gFerryError => k_is)
    (case gBadThing => k_is)
    (case gBadRoom => k_is)
    (case gBadQuarrel => k_is)
    (case gNoStanding => k_is)
    (case gBadStart => k_is)
    (case gNoCrew => k_is)
    (case gBadNote => k_is)
    (case gt => k_is)
    (case tk => k_is)
    (case e1NoStanding => k_exc)
    (case e2NoStanding => k_is)
    (case e3NoStanding => k_is)
    (case e4NoStanding => k_is)
    (case e5NoStanding => k_is)
    (case e6NoStanding => k_is)
    (case e8NoStanding => kts_exm)
    (case e9NoStanding => kit_is)
    (case e1BadStart => k_exc)
    (case e2BadStart => k_is)
    (case e3BadStart => k_is)
    (case e4BadStart => k_is)
    (case e5BadStart => k_is)
    (case e6BadStart => k_is)
    (case e8BadStart => kts_exm)
    (case e9BadStart => kit_is)
    (case e1NoCrew => k_exc)
    (case e2NoCrew => k_is)
    (case e3NoCrew => k_is)
    (case e4NoCrew => k_is)
    (case e5NoCrew => k_is)
    (case e6NoCrew => k_is)
    (case e8NoCrew => kts_exm)
    (case e9NoCrew => kit_is)
    (case e1BadThing => k_exc)
    (case e2BadThing => k_is)
    (case e3BadThing => k_is)
    (case e4BadThing => k_is)
    (case e5BadThing => k_is)
    (case e6BadThing => k_is)
    (case e8BadThing => kts_exm)
    (case e9BadThing => kit_is)
    (case e1BadRoom => k_exc)
    (case e2BadRoom => k_is)
    (case e3BadRoom => k_is)
    (case e4BadRoom => k_is)
    (case e5BadRoom => k_is)
    (case e6BadRoom => k_is)
    (case e8BadRoom => kts_exm)
    (case e9BadRoom => kit_is)
    (case e1BadQuarrel => k_exc)
    (case e2BadQuarrel => k_is)
    (case e3BadQuarrel => k_is)
    (case e4BadQuarrel => k_is)
    (case e5BadQuarrel => k_is)
    (case e6BadQuarrel => k_is)
    (case e8BadQuarrel => kts_exm)
    (case e9BadQuarrel => kit_is)
    (case wBadThingBadRoom => kit_is)
    (case wBadThingBadQuarrel => kit_is)
    (case wBadThingNoStanding => kit_is)
    (case wBadThingBadStart => kit_is)
    (case wBadThingNoCrew => kit_is)
    (case wBadThingBadNote => kit_is)
    (case wBadRoomBadThing => kit_is)
    (case wBadRoomBadQuarrel => kit_is)
    (case wBadRoomNoStanding => kit_is)
    (case wBadRoomBadStart => kit_is)
    (case wBadRoomNoCrew => kit_is)
    (case wBadRoomBadNote => kit_is)
    (case wBadQuarrelBadThing => kit_is)
    (case wBadQuarrelBadRoom => kit_is)
    (case wBadQuarrelNoStanding => kit_is)
    (case wBadQuarrelBadStart => kit_is)
    (case wBadQuarrelNoCrew => kit_is)
    (case wBadQuarrelBadNote => kit_is)
    (case wNoStandingBadThing => kit_is)
    (case wNoStandingBadRoom => kit_is)
    (case wNoStandingBadQuarrel => kit_is)
    (case wNoStandingBadStart => kit_is)
    (case wNoStandingNoCrew => kit_is)
    (case wNoStandingBadNote => kit_is)
    (case wBadStartBadThing => kit_is)
    (case wBadStartBadRoom => kit_is)
    (case wBadStartBadQuarrel => kit_is)
    (case wBadStartNoStanding => kit_is)
    (case wBadStartNoCrew => kit_is)
    (case wBadStartBadNote => kit_is)

