import PyProof.Rows.All
import Wide.All
import OpenK.AllK
import Wide.FinOn
import Lean
import PyProof.EqAt
import PyProof.EqKinds
import PyProof.TupleCall
import PySem.Challenge.RW_ferrynight_k09_texts_read
set_option Elab.async false
set_option linter.all false
set_option maxRecDepth 100000
/-! THE HAND LAYER, for ints, bools, texts, own classes, LISTS and tuples (index, slices, in, append, pop ..), calls, loops. Paste it whole ahead of your own text; what your proof does not reach may be deleted. -/
namespace L2
open PySem PySem.Spec PyProof.Rows

/-- a key: an int or a str -/
abbrev Key := Sum Int Str
def keyIs : Key → Value → Bool
  | .inl k, v => Value.isInt k v
  | .inr x, v => Value.isStrOf x v
def keyH (w : World) : Key → Int
  | .inl k => hashInt k
  | .inr x => hashStr w x
theorem keyIs_shape : ∀ {k : Key} {v : Value}, keyIs k v = true → (∃ i t, k = Sum.inl i ∧ v = Value.int i t) ∨ (∃ x t, k = Sum.inr x ∧ v = Value.str x t)
  | .inl i, v, h => by
    obtain ⟨t, e⟩ := Value.isInt_shape (k := i) (v := v) h
    exact .inl ⟨i, t, rfl, e⟩
  | .inr x, v, h => by
    obtain ⟨t, e⟩ := Value.isStrOf_shape (x := x) (v := v) h
    exact .inr ⟨x, t, rfl, e⟩
theorem key_ll (a b : Int) : decide ((Sum.inl a : Key) = Sum.inl b) = (a == b) := by
  by_cases e : a = b
  · subst e; simp
  · have h : ¬ (Sum.inl a : Key) = Sum.inl b := fun q => e (Sum.inl.inj q)
    rw [decide_eq_false h]
    exact (beq_eq_false_iff_ne.mpr e).symm
theorem key_rr (a b : Str) : decide ((Sum.inr a : Key) = Sum.inr b) = decide (a = b) := by
  by_cases e : a = b
  · subst e; simp
  · have h : ¬ (Sum.inr a : Key) = Sum.inr b := fun q => e (Sum.inr.inj q)
    rw [decide_eq_false h, decide_eq_false e]
theorem key_lr (a : Int) (b : Str) : decide ((Sum.inl a : Key) = Sum.inr b) = false := decide_eq_false (fun q => nomatch q)
theorem key_rl (a : Str) (b : Int) : decide ((Sum.inr a : Key) = Sum.inl b) = false := decide_eq_false (fun q => nomatch q)

def mixKind (prog : Program) (w : World) : PySem.KeyKind prog w Key where
  is := keyIs
  hash := keyH w
  inj := fun v a b ha hb => by
    rcases keyIs_shape ha with ⟨i, t, rfl, rfl⟩ | ⟨x, t, rfl, rfl⟩
    · rcases keyIs_shape hb with ⟨j, u, rfl, e⟩ | ⟨y, u, rfl, e⟩
      · injection e with e1 _; rw [e1]
      · exact nomatch e
    · rcases keyIs_shape hb with ⟨j, u, rfl, e⟩ | ⟨y, u, rfl, e⟩
      · exact nomatch e
      · injection e with e1 _; rw [e1]
  byValue := fun k v h => by
    rcases keyIs_shape h with ⟨i, t, rfl, rfl⟩ | ⟨x, t, rfl, rfl⟩ <;> rfl
  pyHash := fun hv h => by
    rcases keyIs_shape hv with ⟨i, t, rfl, rfl⟩ | ⟨x, t, rfl, rfl⟩
    · exact wpAny_pyHash_int h
    · exact wpAny_pyHash_str h
  eqBool := fun hu hv h => by
    rcases keyIs_shape hu with ⟨i, t, rfl, rfl⟩ | ⟨x, t, rfl, rfl⟩
    · rcases keyIs_shape hv with ⟨j, u, rfl, rfl⟩ | ⟨y, u, rfl, rfl⟩
      · rw [key_ll] at h; exact wpAny_eqBool_int h
      · rw [key_lr] at h; exact SeqAt.EqAt.int_str i t y u _ _ _ _ h
    · rcases keyIs_shape hv with ⟨j, u, rfl, rfl⟩ | ⟨y, u, rfl, rfl⟩
      · rw [key_rl] at h; exact SeqAt.EqAt.str_int x t j u _ _ _ _ h
      · rw [key_rr] at h; exact wpAny_eqBool_str h
  «strs» := fun k x t v h => by
    rcases keyIs_shape h with ⟨i, u, rfl, e⟩ | ⟨y, u, rfl, e⟩
    · exact nomatch e
    · injection e with e1 _
      subst e1
      cases v <;> rfl

end L2

namespace L2
open PySem PySem.Spec PyProof.Rows

/-- a value, without the heap -/
inductive V where
  | non | bl (b : Bool) | int (i : Int) | str (x : Str) | byt (b : Array UInt8) | flt (b : UInt64) | ref (a : Addr) | ty (n : String)
  deriving DecidableEq

def RelV : V → Value → Prop
  | .non, u => u = Value.none
  | .bl b, u => u = Value.bool b
  | .int i, u => ∃ t, u = Value.int i t
  | .str x, u => ∃ t, u = Value.str x t
  | .byt b, u => ∃ t, u = Value.bytes b t
  | .flt b, u => ∃ t, u = Value.float b t
  | .ref a, u => u = Value.ref a
  | .ty n, u => u = Value.type n

abbrev Vals : List V → List Value → Prop := Paired RelV
theorem Vals.length {xs : List V} {us : List Value} (r : Vals xs us) : xs.length = us.length := Paired.length r
theorem Vals.get : ∀ {xs : List V} {us : List Value} {i : Nat} {x : V}, Vals xs us → xs[i]? = some x → ∃ u, us[i]? = some u ∧ RelV x u
  | _, _, _, _, .nil, e => by simp at e
  | _, _, 0, _, .cons r _, e => by simp at e; subst e; exact ⟨_, rfl, r⟩
  | _, _, i + 1, x, .cons _ t, e => by
    obtain ⟨u, h1, h2⟩ := Vals.get (i := i) (x := x) t (by simpa using e)
    exact ⟨u, by simpa using h1, h2⟩
theorem Vals.set {x : V} {u : Value} (r : RelV x u) : ∀ {xs : List V} {us : List Value} (i : Nat), Vals xs us → Vals (xs.set i x) (us.set i u)
  | _, _, _, .nil => .nil
  | _, _, 0, .cons _ t => .cons r t
  | _, _, i + 1, .cons q t => .cons q (Vals.set r i t)
theorem Vals.append : ∀ {xs ys : List V} {us ws : List Value}, Vals xs us → Vals ys ws → Vals (xs ++ ys) (us ++ ws)
  | _, _, _, _, .nil, s => s
  | _, _, _, _, .cons r t, s => .cons r (Vals.append t s)
theorem Vals.take : ∀ {xs : List V} {us : List Value} (n : Nat), Vals xs us → Vals (xs.take n) (us.take n)
  | _, _, 0, _ => .nil
  | _, _, _ + 1, .nil => .nil
  | _, _, n + 1, .cons r t => .cons r (Vals.take n t)
theorem Vals.drop : ∀ {xs : List V} {us : List Value} (n : Nat), Vals xs us → Vals (xs.drop n) (us.drop n)
  | _, _, 0, r => r
  | _, _, _ + 1, .nil => .nil
  | _, _, n + 1, .cons _ t => Vals.drop n t
theorem Vals.none_of : ∀ {xs : List V} {us : List Value} {i : Nat}, Vals xs us → xs[i]? = none → us[i]? = none := fun {xs us i} r e => by
  have h1 := r.length
  have h2 : xs.length ≤ i := List.getElem?_eq_none_iff.mp e
  exact List.getElem?_eq_none_iff.mpr (by omega)

def RelO : Option V → Option Value → Prop
  | some v, some u => RelV v u
  | none, none => True
  | _, _ => False
def KV {κ : Type} : List (κ × V) → List (κ × Value) → Prop := Paired fun (p : κ × V) (q : κ × Value) => p.1 = q.1 ∧ RelV p.2 q.2

/-- a key of a dict (00_mix): an int or a text -/
def kV : Key → V
  | .inl i => .int i
  | .inr x => .str x

/-- what stands at a tracked address -/
inductive HO where
  /-- a list -/
  | lst (xs : List V)
  /-- a tuple (never changes) -/
  | tup (xs : List V)
  /-- a dict whose keys are ints and texts; one whose keys are tuples of ints and texts (the empty one is both) -/
  | dK (kvs : List (Key × V)) | dT (kvs : List (List Key × V))
  /-- a set of ints: its members, its size -/
  | set (S : Int → Bool) (n : Nat)
  /-- an instance of the class at C, its dict at dx, its attributes -/
  | ins (C dx : Addr) (fs : List (Str × V))
  /-- the dict of the instance at x -/
  | own (x : Addr)
  /-- the dict of an exception -/
  | xd (fs : List (Str × V))
  /-- a bound method, f of x -/
  | met (f x : Addr)
  /-- a range object lo, lo + 1, .. below hi -/
  | rng (lo hi : Int)
  /-- a thing that is known to the object (the script; a dict while a loop walks it): read, never written while it is so -/
  | frz (o : Obj) (u : HO)
  /-- a code object's table -/
  | tbl (ps : Array Value)
  /-- any other thing, by what is true of its one object (a def of one's own: SetO a S n := HO.ext fun h => ..) -/
  | ext (φ : Heap → Prop)

abbrev Hp := Addr → Option HO
def upd (H : Hp) (a : Addr) (o : HO) : Hp := fun b => if b = a then some o else H b
theorem upd_same {H : Hp} {a : Addr} {o : HO} : upd H a o a = some o := by unfold upd; rw [if_pos rfl]
theorem upd_ne {H : Hp} {a b : Addr} {o : HO} (h : b ≠ a) : upd H a o b = H b := by unfold upd; rw [if_neg h]
/-- two objects of different content stand apart -/
theorem ne_of {H : Hp} {a b : Addr} {o u : HO} (h : H a = some o) (h' : H b = some u) (d : o ≠ u) : a ≠ b := by
  intro e; subst e; rw [h] at h'; exact d (Option.some.inj h')
theorem ne_of_none {H : Hp} {a b : Addr} {o : HO} (h : H a = some o) (h' : H b = none) : a ≠ b := by
  intro e; subst e; rw [h] at h'; cases h'

section
variable (P : Program) (w : World)
def ObjOk (H : Hp) (h : Heap) (a : Addr) : HO → Prop
  | .lst xs => xs.length ≤ sizeLine ∧ ∃ (its : List Value) (n : Nat), Vals xs its ∧ h.get? a = some { cls := .type "list", data := .seq its.toArray n }
  | .tup xs => xs.length ≤ sizeLine ∧ ∃ its : List Value, Vals xs its ∧ IsTup h a its.toArray
  | .dK kvs => kvs.length ≤ sizeLine ∧ (a == sysModules) = false ∧ ∃ vs, KV kvs vs ∧ h.DictOf (mixKind P w) a vs
  | .dT kvs => kvs.length ≤ sizeLine ∧ (a == sysModules) = false ∧ ∃ xs : List (List Key × Addr × Value),
      Paired (fun (p : List Key × V) (q : List Key × Addr × Value) => p.1 = q.1 ∧ H q.2.1 = some (.tup (p.1.map kV)) ∧ RelV p.2 q.2.2) kvs xs ∧
      ∃ o es ep, h.get? a = some o ∧ o.ExactDict ∧ o.data = .dict es ep ∧ es.toList = xs.map (entryOfKey (tupleKind (mixKind P w))) ∧ (xs.map (·.1)).Nodup
  | .set S n => h.SetOf (intKind P w) a S n
  | .ins C dx fs => H dx = some (.own a) ∧ fs.length ≤ 1000 ∧ dx ≠ a ∧ h.get? a = some (PySem.W.instObj C dx) ∧
      ∃ mA, h.Ns1 dx mA ∧ (∀ f, RelO (fs.lookup f) (mA f)) ∧ PySem.Within mA (fs.map (·.1))
  | .own _ => ∃ o, h.get? a = some o
  | .xd fs => ∃ mA, h.Ns1 a mA ∧ ∀ f, RelO (fs.lookup f) (mA f)
  | .rng lo hi => ∃ t u v, h.get? a = some { cls := .type "range", data := .fields #[.int lo t, .int hi u, .int 1 v] }
  | .frz o u => h.get? a = some o ∧ ObjOk H h a u
  | .tbl ps => h.get? a = some { cls := .none, data := .fields ps }
  | .met f x => h.get? a = some (PySem.W.methodObj (.ref f) (.ref x))
  | .ext φ => φ h ∧ (∃ o, h.get? a = some o) ∧ ∀ h1 h2 : Heap, φ h1 → (∀ o, h1.get? a = some o → h2.get? a = some o) → φ h2
/-- the abstract heap is held -/
def HOk (H : Hp) (h : Heap) : Prop := ∀ a o, H a = some o → ObjOk P w H h a o
end

section
variable {P : Program} {w : World} {H H' : Hp} {h h' : Heap} {a : Addr} {o : HO}
theorem ObjOk.lt (x : ObjOk P w H h a o) : a < h.objs.size := by
  cases o with
  | lst xs => obtain ⟨_, _, _, _, e⟩ := x; exact Heap.lt_size e
  | tup xs => obtain ⟨_, _, _, p⟩ := x; exact p.lt
  | dK kvs => obtain ⟨_, _, _, _, o, _, _, e, _⟩ := x; exact Heap.lt_size e
  | dT kvs => obtain ⟨_, _, _, _, o, _, _, e, _⟩ := x; exact Heap.lt_size e
  | set S n => obtain ⟨o, _, _, _, e, _⟩ := x; exact Heap.lt_size e
  | ins C dx fs => obtain ⟨_, _, _, e, _⟩ := x; exact Heap.lt_size e
  | own y => obtain ⟨_, e⟩ := x; exact Heap.lt_size e
  | xd fs => obtain ⟨_, ⟨_, _, _, e, _⟩, _⟩ := x; exact Heap.lt_size e
  | rng lo hi => obtain ⟨_, _, _, e⟩ := x; exact Heap.lt_size e
  | frz ob u => obtain ⟨e, _⟩ := x; exact Heap.lt_size e
  | tbl ps => exact Heap.lt_size (show h.get? a = some _ from x)
  | met f y => exact Heap.lt_size (show h.get? a = some _ from x)
  | ext φ => obtain ⟨_, ⟨_, e⟩, _⟩ := x; exact Heap.lt_size e
theorem Paired.mapP {α β : Type} {F G : α → β → Prop} : ∀ {l₁ : List α} {l₂ : List β}, Paired F l₁ l₂ → (∀ a b, F a b → G a b) → Paired G l₁ l₂
  | _, _, .nil, _ => .nil
  | _, _, .cons r t, f => .cons (f _ _ r) (Paired.mapP t f)
/-- what an object's description leans on: its own object, its own dict, the tuples -/
theorem ObjOk.stay (x : ObjOk P w H h a o) (k : ∀ b u, (b = a ∨ H b = some (.own a)) → h.get? b = some u → h'.get? b = some u)
    (ho : ∀ b, H b = some (.own a) → H' b = some (.own a)) (ht : ∀ b xs, H b = some (.tup xs) → H' b = some (.tup xs)) : ObjOk P w H' h' a o := by
  induction o with
  | lst xs => obtain ⟨z, its, n, r, e⟩ := x; exact ⟨z, its, n, r, k _ _ (.inl rfl) e⟩
  | tup xs => obtain ⟨z, its, r, ob, e, c⟩ := x; exact ⟨z, its, r, ob, k _ _ (.inl rfl) e, c⟩
  | dK kvs => obtain ⟨z, y, vs, r, ob, es, ep, e, c⟩ := x; exact ⟨z, y, vs, r, ob, es, ep, k _ _ (.inl rfl) e, c⟩
  | dT kvs =>
    obtain ⟨z, y, xs, r, ob, es, ep, e, c⟩ := x
    exact ⟨z, y, xs, Paired.mapP r fun p q z => ⟨z.1, ht _ _ z.2.1, z.2.2⟩, ob, es, ep, k _ _ (.inl rfl) e, c⟩
  | set S n => obtain ⟨ob, es, ep, t, e, c⟩ := x; exact ⟨ob, es, ep, t, k _ _ (.inl rfl) e, c⟩
  | ins C dx fs =>
    obtain ⟨d, z, ne, e, mA, ⟨od, es, ep, e2, c⟩, r⟩ := x
    exact ⟨ho _ d, z, ne, k _ _ (.inl rfl) e, mA, ⟨od, es, ep, k _ _ (.inr d) e2, c⟩, r⟩
  | own y => obtain ⟨ob, e⟩ := x; exact ⟨ob, k _ _ (.inl rfl) e⟩
  | xd fs => obtain ⟨mA, ⟨od, es, ep, e, c⟩, r⟩ := x; exact ⟨mA, ⟨od, es, ep, k _ _ (.inl rfl) e, c⟩, r⟩
  | rng lo hi => obtain ⟨t, u, v, e⟩ := x; exact ⟨t, u, v, k _ _ (.inl rfl) e⟩
  | frz ob u ih => obtain ⟨e, q⟩ := x; exact ⟨k _ _ (.inl rfl) e, ih q⟩
  | tbl ps =>
    have e : h.get? a = some { cls := .none, data := .fields ps } := x
    show h'.get? a = some { cls := .none, data := .fields ps }
    exact k a _ (.inl rfl) e
  | met f y =>
    have e : h.get? a = some (PySem.W.methodObj (.ref f) (.ref y)) := x
    show h'.get? a = some (PySem.W.methodObj (.ref f) (.ref y))
    exact k a _ (.inl rfl) e
  | ext φ => obtain ⟨p, ⟨o, e⟩, st⟩ := x; exact ⟨st _ _ p fun o q => k _ _ (.inl rfl) q, ⟨o, k _ _ (.inl rfl) e⟩, st⟩
theorem HOk.lt (x : HOk P w H h) (e : H a = some o) : a < h.objs.size := (x a o e).lt
theorem HOk.fresh (x : HOk P w H h) (e : h.objs.size ≤ a) : H a = none := by
  cases q : H a with
  | none => rfl
  | some u => exact absurd (Nat.lt_of_lt_of_le (x.lt q) e) (Nat.lt_irrefl _)
/-- every object of the heap is kept -/
theorem HOk.kept (x : HOk P w H h) (k : ∀ b u, h.get? b = some u → h'.get? b = some u) : HOk P w H h' := fun a o e =>
  (x a o e).stay (fun b u _ q => k b u q) (fun _ q => q) fun _ _ q => q
/-- a new object is laid and tracked -/
theorem HOk.laid (x : HOk P w H h) (k : ∀ b u, h.get? b = some u → h'.get? b = some u) (hp : h.objs.size ≤ a) (new : ObjOk P w (upd H a o) h' a o) : HOk P w (upd H a o) h' := fun b u e => by
  have hn := x.fresh hp
  by_cases hb : b = a
  · subst hb; rw [upd_same] at e; cases e; exact new
  · rw [upd_ne hb] at e
    exact (x b u e).stay (fun c v _ q => k c v q) (fun c q => by rw [upd_ne (ne_of_none q hn)]; exact q) fun c xs q => by rw [upd_ne (ne_of_none q hn)]; exact q
end

/-- what may be read as u: it is u, or a known u -/
def Rd (H : Hp) (a : Addr) (u : HO) : Prop := H a = some u ∨ ∃ o, H a = some (.frz o u)
theorem Rd.of {H : Hp} {a : Addr} {u : HO} (h : H a = some u) : Rd H a u := .inl h
theorem Rd.ok {P : Program} {w : World} {H : Hp} {h : Heap} {a : Addr} {u : HO} (r : Rd H a u) (x : HOk P w H h) : ObjOk P w H h a u := by
  rcases r with r | ⟨o, r⟩
  · exact x a u r
  · obtain ⟨_, q⟩ := x a _ r
    exact q
/-- what may be written -/
def Mut : Option HO → Prop
  | some (.lst _) => True
  | some (.dK _) => True
  | some (.dT _) => True
  | some (.set _ _) => True
  | some (.ins _ _ _) => True
  | some (.ext _) => True
  | _ => False
section
variable {P : Program} {w : World} {H : Hp} {h h' : Heap} {x e : Addr} {o' : HO}
/-- the object at e is changed: x itself, or the dict of the instance x -/
theorem HOk.write (ok : HOk P w H h) (mu : Mut (H x)) (he : e = x ∨ H e = some (.own x)) (k : ∀ b u, b ≠ e → h.get? b = some u → h'.get? b = some u) (heo : ∃ u, h'.get? e = some u)
    (new : ObjOk P w (upd H x o') h' x o') : HOk P w (upd H x o') h' := fun b u q => by
  have nown : ∀ c y, H c = some (.own y) → c ≠ x := fun c y r z => by subst z; rw [r] at mu; exact mu
  have ntup : ∀ c xs, H c = some (.tup xs) → c ≠ x := fun c xs r z => by subst z; rw [r] at mu; exact mu
  by_cases hb : b = x
  · subst hb; rw [upd_same] at q; cases q; exact new
  · rw [upd_ne hb] at q
    by_cases hbe : b = e
    · have q' : H b = some (.own x) := by
        rcases he with z | z
        · exact absurd (hbe.trans z) hb
        · rw [hbe]; exact z
      rw [q] at q'; cases q'
      obtain ⟨v, hv⟩ := heo
      exact ⟨v, by rw [hbe]; exact hv⟩
    · refine (ok b u q).stay (fun c v hc r => k c v ?_ r) (fun c r => by rw [upd_ne (nown c b r)]; exact r) fun c xs r => by rw [upd_ne (ntup c xs r)]; exact r
      rcases hc with rfl | hc
      · exact hbe
      · rintro rfl
        rcases he with z | z
        · exact nown c b hc z
        · rw [hc] at z; cases z; exact hb rfl
end

/-! ### kept unless tracked; of the frames at fs (the callers') the slots may change (an exception that passes writes there); of the records at ex (iterators) nothing is said -/
structure Un (fs ex : List Addr) (H H' : Hp) (h h' : Heap) : Prop where
  keep : ∀ b o, h.get? b = some o → H b = none → b ∉ fs → b ∉ ex → h'.get? b = some o
  slot : ∀ b o, h.get? b = some o → H b = none → b ∈ fs → b ∉ ex → ∃ sl, h'.get? b = some { o with slots := sl }
  free : ∀ b o, h.get? b = some o → H b = none → b ∉ ex → H' b = none
  there : ∀ b o, h.get? b = some o → b ∉ ex → ∃ o', h'.get? b = some o'
  tups : ∀ b xs, H b = some (.tup xs) → H' b = some (.tup xs)
  frzs : ∀ b o u, H b = some (.frz o u) → H' b = some (.frz o u)
  tbls : ∀ b ps, H b = some (.tbl ps) → ∃ more, H' b = some (.tbl (ps ++ more))
section
variable {fs fs' ex ex' : List Addr} {H H1 H2 : Hp} {h h1 h2 h' : Heap} {a x e : Addr} {o : HO}
theorem Un.any (u : Un fs ex H H1 h h1) {b : Addr} {ob : Obj} (q : h.get? b = some ob) (n : H b = none) (hx : b ∉ ex) : ∃ sl, h1.get? b = some { ob with slots := sl } := by
  by_cases hb : b ∈ fs
  · exact u.slot b ob q n hb hx
  · exact ⟨ob.slots, u.keep b ob q n hb hx⟩
theorem Un.trans (a : Un fs ex H H1 h h1) (b : Un fs ex H1 H2 h1 h2) : Un fs ex H H2 h h2 where
  keep := fun c ob q n hc hx => b.keep c ob (a.keep c ob q n hc hx) (a.free c ob q n hx) hc hx
  slot := fun c ob q n hc hx => by
    obtain ⟨sl, e1⟩ := a.slot c ob q n hc hx
    obtain ⟨sl', e2⟩ := b.slot c _ e1 (a.free c ob q n hx) hc hx
    exact ⟨sl', e2⟩
  free := fun c ob q n hx => by
    obtain ⟨o', e1⟩ := a.there c ob q hx
    exact b.free c o' e1 (a.free c ob q n hx) hx
  there := fun c ob q hx => by
    obtain ⟨o', e1⟩ := a.there c ob q hx
    exact b.there c o' e1 hx
  tups := fun c xs q => b.tups c xs (a.tups c xs q)
  frzs := fun c ob xs q => b.frzs c ob xs (a.frzs c ob xs q)
  tbls := fun c ps q => by
    obtain ⟨m1, e1⟩ := a.tbls c ps q
    obtain ⟨m2, e2⟩ := b.tbls c _ e1
    exact ⟨m1 ++ m2, by rw [e2, Array.append_assoc]⟩
theorem Un.kept (k : ∀ b u, h.get? b = some u → h'.get? b = some u) : Un fs ex H H h h' :=
  ⟨fun b ob q _ _ _ => k b ob q, fun b ob q _ _ _ => ⟨ob.slots, k b ob q⟩, fun _ _ _ n _ => n, fun b ob q _ => ⟨ob, k b ob q⟩, fun _ _ q => q, fun _ _ _ q => q, fun _ ps q => ⟨#[], by rw [q]; simp⟩⟩
theorem Un.refl : Un fs ex H H h h := Un.kept fun _ _ q => q
theorem Un.laid (k : ∀ b u, h.get? b = some u → h'.get? b = some u) (hp : h.objs.size ≤ a) (hn : H a = none) : Un fs ex H (upd H a o) h h' where
  keep := fun b u q _ _ _ => k b u q
  slot := fun b u q _ _ _ => ⟨u.slots, k b u q⟩
  free := fun b u q n _ => by rw [upd_ne (Nat.ne_of_lt (Nat.lt_of_lt_of_le (Heap.lt_size q) hp))]; exact n
  there := fun b u q _ => ⟨u, k b u q⟩
  tups := fun b xs q => by rw [upd_ne (ne_of_none q hn)]; exact q
  frzs := fun b u xs q => by rw [upd_ne (ne_of_none q hn)]; exact q
  tbls := fun b ps q => ⟨#[], by rw [upd_ne (ne_of_none q hn), q]; simp⟩
theorem Un.write (mu : Mut (H x)) (he : e = x ∨ H e = some (.own x)) (k : ∀ b u, b ≠ e → h.get? b = some u → h'.get? b = some u) (heo : ∃ u, h'.get? e = some u) : Un fs ex H (upd H x o) h h' := by
  have hx : ∀ b, H b = none → b ≠ x := fun b n z => by subst z; rw [n] at mu; exact mu
  have hb : ∀ b, H b = none → b ≠ e := fun b n z => by
    subst z
    rcases he with r | r
    · exact hx b n r
    · rw [n] at r; cases r
  have hm : ∀ b u, H b = some u → ¬ Mut (some u) → b ≠ x := fun b u q nm z => by subst z; rw [q] at mu; exact nm mu
  refine ⟨fun b u q n _ _ => k b u (hb b n) q, fun b u q n _ _ => ⟨u.slots, k b u (hb b n) q⟩, fun b u q n _ => by rw [upd_ne (hx b n)]; exact n, fun b u q _ => ?_,
    fun b xs q => by rw [upd_ne (hm b _ q fun z => z)]; exact q, fun b u xs q => by rw [upd_ne (hm b _ q fun z => z)]; exact q, fun b ps q => ⟨#[], by rw [upd_ne (hm b _ q fun z => z), q]; simp⟩⟩
  by_cases hbe : b = e
  · subst hbe; exact heo
  · exact ⟨u, k b u hbe q⟩
theorem Un.mono (u : Un fs ex H H1 h h1) (hs : ∀ b ∈ fs, b ∈ fs') (hx : ∀ b ∈ ex, b ∈ ex') : Un fs' ex' H H1 h h1 :=
  ⟨fun b ob q n hb he => u.keep b ob q n (fun z => hb (hs b z)) fun z => he (hx b z), fun _ _ q n _ he => u.any q n fun z => he (hx _ z), fun b ob q n he => u.free b ob q n fun z => he (hx b z), fun b ob q he => u.there b ob q fun z => he (hx b z), u.tups, u.frzs, u.tbls⟩
end

/-! ### the heap without what is tracked -/
def trk (h : Heap) (H : Hp) : List Addr := (List.range h.objs.size).filter fun a => (H a).isSome
def hidT (h : Heap) (H : Hp) : Heap := PySem.W.hideAll h (trk h H)
theorem hidT_size (h : Heap) (H : Hp) : (hidT h H).objs.size = h.objs.size := PySem.W.hideAll_size _ _
theorem hidT_get {h : Heap} {H : Hp} {b : Addr} {o : Obj} (e : h.get? b = some o) (n : H b = none) : (hidT h H).get? b = some o :=
  PySem.W.hideAll_get _ e fun hm => by
    have q : (H b).isSome = true := (List.mem_filter.mp hm).2
    rw [n] at q; simp at q
theorem of_hidT {h : Heap} {H : Hp} {b : Addr} {o : Obj} (e : (hidT h H).get? b = some o) : h.get? b = some o ∧ H b = none := by
  have e' : h.get? b = some o := PySem.W.of_hideAll (trk h H) e
  refine ⟨e', ?_⟩
  cases q : H b with
  | none => rfl
  | some x =>
    have hm : b ∈ trk h H := List.mem_filter.mpr ⟨List.mem_range.mpr (Heap.lt_size e'), by simp [q]⟩
    have z : (hidT h H).get? b = none := PySem.W.hideAll_none (trk h H) hm
    rw [z] at e; cases e

/-! ### OpenK's ledger, filled with every new object but one -/
def allNews (g h : Heap) (L : Addr) : List (Addr × Obj) := (List.range h.objs.size).filterMap fun a => if a = L ∨ (g.get? a).isSome = true then none else (h.get? a).map fun o => (a, o)
def rest (g h : Heap) (L d : Addr) : List (Addr × Obj) := (allNews g h L).filter fun p => decide (p.1 ≠ d)
end L2

namespace L2
open PySem PySem.Spec PyProof.Rows

/-- the module's facts, over the base: the heap at the law's entry without what is tracked there -/
structure Mod (K : PySem.W.Frag) (mg : Str → Option Value) (base : Heap) : Prop where
  kin : K.In base
  glob : base.Ns mainGlobals mg
  blt : ∃ mb, base.Ns builtinsNs mb ∧ ∀ x : Str, x ≠ "__name__" → mb x = bootBuiltins x
  nolimit : base.NoLimit

/-- the context: a def's body (or a comprehension's block) running. base: fixed through the whole law; s₀, H₀: the entry; outer: the frames whose slots others may change (a def's callers); stack: all frames that run;
   ex: iterators that were made ahead of the entry and are walked here (a comprehension's); fn: the names whose cells were made at the entry (a def: all; a comprehension's block: its own); calm: not within an except suite; pn: pins that every state bears; xe: what is wanted of an exception that leaves the code -/
structure Cx where
  prog : Program
  w : World
  K : PySem.W.Frag
  mg : Str → Option Value
  base : Heap
  A : Around
  N : List Str
  s₀ : Shared
  H₀ : Hp
  env : Env
  outer : List Env
  stack : List Env
  ex : List Addr
  fn : Str → Bool
  calm : Bool
  pn : List (Addr × Obj)
  xe : Value → Shared → Prop
/-- the callers' frames -/
def frs (l : List Env) : List Addr := l.filterMap (·.frame)
abbrev Cx.fs (X : Cx) : List Addr := frs X.outer

def Vis (sc : Scope) (x : Str) : Prop := sc.names.lookup x = some .local ∨ sc.names.lookup x = some .cell ∨ sc.names.lookup x = some .free
def Loc (sc : Scope) (x : Str) : Prop := sc.names.lookup x = some .local ∨ sc.names.lookup x = some .cell
def Look (env : Env) (h : Heap) (m : Str → Option Value) (x : Str) (u : Value) : Prop :=
  (env.kindOf x = some .local ∧ m x = some u) ∨ ((env.kindOf x = some .cell ∨ env.kindOf x = some .free) ∧ ∃ c, env.cells.lookup x = some c ∧ h.IsCell c (some u))

structure Cx.Ok (X : Cx) : Prop where
  mod : Mod X.K X.mg X.base
  kind : X.env.scope.kind = .function
  glob : X.env.globals = mainGlobals
  blt : X.env.builtins = builtinsNs
  above : X.s₀.heap.objs.size ≤ X.env.locals
  inj : ∀ x y c, X.env.cells.lookup x = some c → X.env.cells.lookup y = some c → x = y
  has : ∀ x, (X.env.kindOf x = some .cell ∨ X.env.kindOf x = some .free) → ∃ c, X.env.cells.lookup x = some c
  cab : ∀ x c, X.fn x = true → X.env.cells.lookup x = some c → X.s₀.heap.objs.size ≤ c
  hd : X.calm = true → X.A.handled = none
  frames : X.A.frames = some X.stack
  stk : X.stack = X.outer ∨ (X.stack = X.env :: X.outer ∧ X.env.frame = some X.env.locals)
  exf : ∀ b ∈ X.ex, b ≠ X.env.locals ∧ ∀ x c, X.env.cells.lookup x = some c → c ≠ b
  bs : ∀ b o, X.base.get? b = some o → X.s₀.heap.get? b = some o ∧ X.H₀ b = none
  bsz : X.base.objs.size ≤ X.s₀.heap.objs.size
  noex : ∀ b o, X.base.get? b = some o → b ∉ X.ex
  exfs : ∀ b ∈ X.ex, b ∉ X.fs
  funs : X.s₀.heap.FunFrames X.base X.outer
  frf : ∀ b ∈ X.fs, X.H₀ b = none

structure Inv (X : Cx) (pins : List (Addr × Obj)) (σ : List (Option V)) (H : Hp) (s : Shared) : Prop where
  ok : X.Ok
  os : s.os = X.s₀.os
  bare : AllBare s.gens
  base : Un X.fs X.ex X.H₀ H X.s₀.heap s.heap
  loc : ∃ m, s.heap.Ns X.env.locals m ∧ ∀ (i : Nat) (x : Str) (v : V), X.N[i]? = some x → σ[i]? = some (some v) → Vis X.env.scope x → ∃ u, RelV v u ∧ Look X.env s.heap m x u
  cell : ∀ x c, X.env.cells.lookup x = some c → ∃ v, s.heap.IsCell c v
  free : H X.env.locals = none
  freeC : ∀ x c, X.env.cells.lookup x = some c → H c = none
  pin : ∀ p ∈ X.pn ++ pins, s.heap.get? p.1 = some p.2 ∧ H p.1 = none ∧ p.1 ≠ X.env.locals ∧ p.1 ∉ X.fs ∧ ∀ v, p.2.data ≠ .cell v
  hok : HOk X.prog X.w H s.heap
  len : σ.length = X.N.length

section
variable {X : Cx} {pins : List (Addr × Obj)} {σ : List (Option V)} {H H' : Hp} {s : Shared} {h' : Heap}

theorem Cx.Ok.nofr (ok : X.Ok) {b : Addr} {o : Obj} (e : X.base.get? b = some o) : b ∉ X.fs := fun hb => by
  have := (ok.funs.mem hb).1
  rw [e] at this; cases this
theorem Inv.bs (I : Inv X pins σ H s) : ∀ b o, X.base.get? b = some o → s.heap.get? b = some o ∧ H b = none := fun b o e =>
  ⟨I.base.keep b o (I.ok.bs b o e).1 (I.ok.bs b o e).2 (I.ok.nofr e) (I.ok.noex b o e), I.base.free b o (I.ok.bs b o e).1 (I.ok.bs b o e).2 (I.ok.noex b o e)⟩
theorem Inv.bk (I : Inv X pins σ H s) : ∀ b o, X.base.get? b = some o → s.heap.get? b = some o := fun b o e => (I.bs b o e).1
theorem Inv.mod (I : Inv X pins σ H s) : Mod X.K X.mg X.base := I.ok.mod
theorem Inv.kIn (I : Inv X pins σ H s) : X.K.In s.heap := I.ok.mod.kin.keeps I.bk
theorem Inv.nolimit (I : Inv X pins σ H s) : s.heap.NoLimit := I.ok.mod.nolimit.keeps I.bk
/-- the frame over the base: for OpenK's rules (K.In X.base is I.mod.kin) -/
theorem Inv.fr (I : Inv X pins σ H s) : ∃ m, Fr X.base X.env.locals s.heap m :=
  let ⟨m, hn, _⟩ := I.loc
  ⟨m, hn, I.bk, Nat.le_trans I.ok.bsz I.ok.above⟩
theorem Inv.lt (I : Inv X pins σ H s) : X.env.locals < s.heap.objs.size := let ⟨_, hn, _⟩ := I.loc; hn.lt
theorem Inv.sz (I : Inv X pins σ H s) : X.s₀.heap.objs.size ≤ s.heap.objs.size := Nat.le_trans I.ok.above (Nat.le_of_lt I.lt)
theorem Inv.nofs (I : Inv X pins σ H s) {a : Addr} (h : s.heap.objs.size ≤ a) : a ∉ X.fs := fun hb => by
  obtain ⟨_, o, ho, _⟩ := I.ok.funs.mem hb
  exact absurd (Nat.lt_of_lt_of_le (Heap.lt_size ho) (Nat.le_trans I.sz h)) (Nat.lt_irrefl _)
theorem Inv.cne (I : Inv X pins σ H s) : ∀ x c, X.env.cells.lookup x = some c → c ≠ X.env.locals := fun x c e z => by
  obtain ⟨v, o, ho, hd⟩ := I.cell x c e
  obtain ⟨m, ⟨o', es, ep, ho', hd', _⟩, _⟩ := I.loc
  rw [z, ho'] at ho; cases ho; rw [hd'] at hd; cases hd
theorem Inv.funs (I : Inv X pins σ H s) : s.heap.FunFrames X.base X.outer := by
  have all : ∀ (l : List Env), (∀ b ∈ frs l, b ∈ X.fs) → X.s₀.heap.FunFrames X.base l → s.heap.FunFrames X.base l := by
    intro l
    induction l with
    | nil => intro _ _; trivial
    | cons env r ih =>
      intro hs hl
      obtain ⟨hk, ⟨L, o, hf, hn, ho, hd⟩, hr⟩ := hl
      have hL : L ∈ X.fs := hs L (by unfold frs; rw [List.filterMap_cons, hf]; exact List.mem_cons_self)
      obtain ⟨sl, e⟩ := I.base.slot L o ho (I.ok.frf L hL) hL fun z => I.ok.exfs L z hL
      exact ⟨hk, ⟨L, _, hf, hn, e, hd⟩, ih (fun b hb => hs b (by unfold frs; rw [List.filterMap_cons, hf]; exact List.mem_cons_of_mem _ hb)) hr⟩
  exact all X.outer (fun _ hb => hb) I.ok.funs

/-- the frames that run, for a call -/
theorem Inv.stack (I : Inv X pins σ H s) : s.heap.FunFrames X.base X.stack := by
  rcases I.ok.stk with e | ⟨e, hf⟩
  · rw [e]; exact I.funs
  · rw [e]
    obtain ⟨m, hn, _⟩ := I.loc
    refine .cons (by rw [I.ok.kind]; decide) hf hn ?_ I.funs
    exact Heap.get?_none_of_le (Nat.le_trans I.ok.bsz I.ok.above)
theorem Inv.stkSub (I : Inv X pins σ H s) : ∀ b ∈ frs X.stack, b ∈ X.env.locals :: X.fs := fun b hb => by
  rcases I.ok.stk with e | ⟨e, hf⟩
  · rw [e] at hb; exact List.mem_cons_of_mem _ hb
  · rw [e] at hb
    unfold frs at hb
    rw [List.filterMap_cons, hf] at hb
    exact hb
theorem Inv.stkFree (I : Inv X pins σ H s) : ∀ b ∈ frs X.stack, H b = none := fun b hb => by
  rcases List.mem_cons.mp (I.stkSub b hb) with e | hb
  · rw [e]; exact I.free
  · obtain ⟨_, o, ho, _⟩ := I.ok.funs.mem hb
    exact I.base.free b o ho (I.ok.frf b hb) fun z => I.ok.exfs b z hb

/-- THE STEP: the untracked objects but the frame and the records at ch are kept (the callers' frames up to slots), the frame's map is kept, the new abstract heap is held -/
theorem Inv.step {g' : Array GenState} {t' : Nat} {d' : Drawn} {ch : List Addr} (I : Inv X pins σ H s)
    (hch : ∀ b ∈ ch, (b ∈ X.ex ∨ X.s₀.heap.objs.size ≤ b) ∧ b ≠ X.env.locals ∧ (∀ x c, X.env.cells.lookup x = some c → c ≠ b) ∧ ∀ p ∈ X.pn ++ pins, p.1 ≠ b)
    (keep : ∀ b o, b ≠ X.env.locals → b ∉ X.fs → b ∉ ch → s.heap.get? b = some o → H b = none → h'.get? b = some o)
    (slot : ∀ b o, b ≠ X.env.locals → b ∈ X.fs → b ∉ ch → s.heap.get? b = some o → H b = none → ∃ sl, h'.get? b = some { o with slots := sl }) (free : ∀ b o, b ∉ ch → s.heap.get? b = some o → H b = none → H' b = none)
    (there : ∀ b o, b ∉ ch → s.heap.get? b = some o → ∃ o', h'.get? b = some o')
    (tups : ∀ b xs, H b = some (.tup xs) → H' b = some (.tup xs)) (frzs : ∀ b o u, H b = some (.frz o u) → H' b = some (.frz o u)) (tbls : ∀ b ps, H b = some (.tbl ps) → ∃ more, H' b = some (.tbl (ps ++ more)))
    (ns : ∀ m, s.heap.Ns X.env.locals m → h'.Ns X.env.locals m) (hok : HOk X.prog X.w H' h') (hg : AllBare g') :
    Inv X pins σ H' { s with heap := h', gens := g', drawn := d', toks := t' } := by
  have neL : ∀ b o, X.s₀.heap.get? b = some o → b ≠ X.env.locals := fun b o e => Nat.ne_of_lt (Nat.lt_of_lt_of_le (Heap.lt_size e) I.ok.above)
  have neC : ∀ b o, X.s₀.heap.get? b = some o → b ∉ X.ex → b ∉ ch := fun b o e hx hb => by
    rcases (hch b hb).1 with z | z
    · exact hx z
    · exact absurd (Nat.lt_of_lt_of_le (Heap.lt_size e) z) (Nat.lt_irrefl _)
  have cellK : ∀ x c, X.env.cells.lookup x = some c → ∀ v, s.heap.IsCell c v → h'.IsCell c v := fun x c e v ⟨o, ho, hd⟩ => by
    have nch : c ∉ ch := fun z => (hch c z).2.2.1 x c e rfl
    by_cases hc : c ∈ X.fs
    · obtain ⟨sl, q⟩ := slot c o (I.cne x c e) hc nch ho (I.freeC x c e)
      exact ⟨_, q, hd⟩
    · exact ⟨o, keep c o (I.cne x c e) hc nch ho (I.freeC x c e), hd⟩
  refine ⟨I.ok, I.os, hg, ⟨fun b o e n hb hx => ?_, fun b o e n hb hx => ?_, fun b o e n hx => ?_, fun b o e hx => ?_, fun b xs e => tups b xs (I.base.tups b xs e), fun b o xs e => frzs b o xs (I.base.frzs b o xs e), fun b ps e => ?_⟩, ?_, fun x c e => ?_, ?_, fun x c e => ?_, fun p hp => ?_, hok, I.len⟩
  · exact keep b o (neL b o e) hb (neC b o e hx) (I.base.keep b o e n hb hx) (I.base.free b o e n hx)
  · obtain ⟨sl, e1⟩ := I.base.slot b o e n hb hx
    obtain ⟨sl', e2⟩ := slot b _ (neL b o e) hb (neC b o e hx) e1 (I.base.free b o e n hx)
    exact ⟨sl', e2⟩
  · obtain ⟨o', e1⟩ := I.base.there b o e hx
    exact free b o' (neC b o e hx) e1 (I.base.free b o e n hx)
  · obtain ⟨o', e1⟩ := I.base.there b o e hx
    exact there b o' (neC b o e hx) e1
  · obtain ⟨m1, e1⟩ := I.base.tbls b ps e
    obtain ⟨m2, e2⟩ := tbls b _ e1
    exact ⟨m1 ++ m2, by rw [e2, Array.append_assoc]⟩
  · obtain ⟨m, hn, hl⟩ := I.loc
    refine ⟨m, ns m hn, fun i x v e1 e2 e3 => ?_⟩
    obtain ⟨u, r, l⟩ := hl i x v e1 e2 e3
    refine ⟨u, r, ?_⟩
    rcases l with l | ⟨k, c, e, z⟩
    · exact .inl l
    · exact .inr ⟨k, c, e, cellK x c e _ z⟩
  · obtain ⟨v, z⟩ := I.cell x c e
    exact ⟨v, cellK x c e v z⟩
  · obtain ⟨m, ⟨o, _, _, ho, _⟩, _⟩ := I.loc
    exact free _ o (fun z => (hch _ z).2.1 rfl) ho I.free
  · obtain ⟨v, o, ho, hd⟩ := I.cell x c e
    exact free c o (fun z => (hch c z).2.2.1 x c e rfl) ho (I.freeC x c e)
  · obtain ⟨e, n, ne, nf, d⟩ := I.pin p hp
    have nch : p.1 ∉ ch := fun z => (hch p.1 z).2.2.2 p hp rfl
    exact ⟨keep p.1 p.2 ne nf nch e n, free p.1 p.2 nch e n, ne, nf, d⟩
/-- .. where the frame's own object is kept too -/
theorem Inv.un {t' : Nat} (I : Inv X pins σ H s) (u : Un X.fs [] H H' s.heap h') (hok : HOk X.prog X.w H' h') : Inv X pins σ H' { s with heap := h', toks := t' } := by
  obtain ⟨m, ⟨o, es, ep, ho, r⟩, _⟩ := id I.loc
  obtain ⟨sl, hL⟩ := u.any ho I.free (by simp)
  exact I.step (g' := s.gens) (d' := s.drawn) (ch := []) (fun _ z => nomatch z) (fun b o _ hb _ e n => u.keep b o e n hb (by simp)) (fun b o _ hb _ e n => u.slot b o e n hb (by simp)) (fun b o _ e n => u.free b o e n (by simp)) (fun b o _ e => u.there b o e (by simp)) u.tups u.frzs u.tbls (fun m' hm => by
    obtain ⟨o', es', ep', ho', r'⟩ := hm
    rw [ho] at ho'; cases ho'
    exact ⟨_, es', ep', hL, r'⟩) hok I.bare
/-- behind a call (or a comprehension's block): the slots of this frame may have changed too, the records at ch may have turned -/
theorem Inv.call {g' : Array GenState} {t' : Nat} {d' : Drawn} {ch : List Addr} (I : Inv X pins σ H s) (u : Un (frs X.stack) ch H H' s.heap h') (hok : HOk X.prog X.w H' h') (hg : AllBare g')
    (hch : ∀ b ∈ ch, (b ∈ X.ex ∨ X.s₀.heap.objs.size ≤ b) ∧ b ≠ X.env.locals ∧ (∀ x c, X.env.cells.lookup x = some c → c ≠ b) ∧ ∀ p ∈ X.pn ++ pins, p.1 ≠ b) :
    Inv X pins σ H' { s with heap := h', gens := g', drawn := d', toks := t' } := by
  obtain ⟨m, ⟨o, es, ep, ho, r⟩, _⟩ := id I.loc
  obtain ⟨sl, hL⟩ := u.any ho I.free fun z => (hch _ z).2.1 rfl
  exact I.step (ch := ch) hch (fun b o hL hb hc e n => u.keep b o e n (fun z => (List.mem_cons.mp (I.stkSub b z)).elim hL hb) hc) (fun b o _ _ hc e n => u.any e n hc) (fun b o hc e n => u.free b o e n hc) (fun b o hc e => u.there b o e hc) u.tups u.frzs u.tbls (fun m' hm => by
    obtain ⟨o', es', ep', ho', r'⟩ := hm
    rw [ho] at ho'; cases ho'
    exact ⟨_, es', ep', hL, r'⟩) hok hg
/-- an untracked record of ours (an iterator) has turned -/
theorem Inv.turned {t' : Nat} {it : Addr} (I : Inv X pins σ H s) (k : ∀ b o, b ≠ it → s.heap.get? b = some o → h'.get? b = some o) (hn : H it = none) (hL : it ≠ X.env.locals)
    (h1 : it ∈ X.ex ∨ X.s₀.heap.objs.size ≤ it) (h2 : ∀ x c, X.env.cells.lookup x = some c → c ≠ it) (h3 : ∀ p ∈ X.pn ++ pins, p.1 ≠ it) : Inv X pins σ H { s with heap := h', toks := t' } := by
  have nit : ∀ b u, H b = some u → b ≠ it := fun b u e z => by rw [z, hn] at e; cases e
  refine I.step (g' := s.gens) (d' := s.drawn) (ch := [it]) (fun b hb => ?_) (fun b o _ _ hc e _ => k b o (fun z => hc (by simp [z])) e) (fun b o _ _ hc e _ => ⟨o.slots, k b o (fun z => hc (by simp [z])) e⟩) (fun _ _ _ _ n => n)
    (fun b o hc e => ⟨o, k b o (fun z => hc (by simp [z])) e⟩) (fun _ _ e => e) (fun _ _ _ e => e) (fun b ps e => ⟨#[], by rw [e]; simp⟩) (fun m hm => ?_) (fun b u e => ?_) I.bare
  · have e : b = it := by simpa using hb
    subst e
    exact ⟨h1, hL, h2, h3⟩
  · obtain ⟨o, es, ep, ho, r⟩ := hm
    exact ⟨o, es, ep, k _ o (Ne.symm hL) ho, r⟩
  · refine (I.hok b u e).stay (fun c v hc q => k c v ?_ q) (fun _ q => q) fun _ _ q => q
    rcases hc with z | z
    · rw [z]; exact nit b u e
    · exact nit c _ z
theorem Inv.tok (I : Inv X pins σ H s) (t : Nat) : Inv X pins σ H { s with toks := t } := I.un (h' := s.heap) (t' := t) Un.refl I.hok
/-- all objects kept -/
theorem Inv.kept {t' : Nat} (I : Inv X pins σ H s) (k : ∀ b u, s.heap.get? b = some u → h'.get? b = some u) : Inv X pins σ H { s with heap := h', toks := t' } := I.un (Un.kept k) (I.hok.kept k)
/-- a new object laid and tracked -/
theorem Inv.laid {a : Addr} {o : HO} {t' : Nat} (I : Inv X pins σ H s) (k : ∀ b u, s.heap.get? b = some u → h'.get? b = some u) (hp : s.heap.objs.size ≤ a) (new : ObjOk X.prog X.w (upd H a o) h' a o) :
    Inv X pins σ (upd H a o) { s with heap := h', toks := t' } := I.un (Un.laid k hp (I.hok.fresh hp)) (I.hok.laid k hp new)
/-- an object written -/
theorem Inv.write {x e : Addr} {o : HO} {t' : Nat} (I : Inv X pins σ H s) (mu : Mut (H x)) (he : e = x ∨ H e = some (.own x)) (k : ∀ b u, b ≠ e → s.heap.get? b = some u → h'.get? b = some u) (heo : ∃ u, h'.get? e = some u)
    (new : ObjOk X.prog X.w (upd H x o) h' x o) : Inv X pins σ (upd H x o) { s with heap := h', toks := t' } := I.un (Un.write mu he k heo) (I.hok.write mu he k heo new)
/-- forgetting slots, pins -/
theorem Inv.weak {σ' : List (Option V)} (I : Inv X pins σ H s) (hl : σ'.length = σ.length) (w : ∀ (i : Nat) v, σ'[i]? = some (some v) → σ[i]? = some (some v)) : Inv X pins σ' H s :=
  ⟨I.ok, I.os, I.bare, I.base, let ⟨m, hn, hl'⟩ := I.loc; ⟨m, hn, fun i x v e1 e2 e3 => hl' i x v e1 (w i v e2) e3⟩, I.cell, I.free, I.freeC, I.pin, I.hok, hl.trans I.len⟩
theorem Inv.pins_of {pins' : List (Addr × Obj)} (I : Inv X pins σ H s) (h : ∀ p ∈ pins', s.heap.get? p.1 = some p.2 ∧ H p.1 = none ∧ p.1 ≠ X.env.locals ∧ p.1 ∉ X.fs ∧ ∀ v, p.2.data ≠ .cell v) : Inv X pins' σ H s :=
  ⟨I.ok, I.os, I.bare, I.base, I.loc, I.cell, I.free, I.freeC, fun p hp => (List.mem_append.mp hp).elim (fun z => I.pin p (List.mem_append_left _ z)) (h p), I.hok, I.len⟩

theorem nodup_ix {N : List Str} (hN : N.Nodup) {i j : Nat} {x : Str} (a : N[i]? = some x) (b : N[j]? = some x) : i = j := by
  obtain ⟨h1, e1⟩ := List.getElem?_eq_some_iff.mp a
  obtain ⟨h2, e2⟩ := List.getElem?_eq_some_iff.mp b
  exact (List.getElem_inj hN).mp (e1.trans e2.symm)

/-- a name is stored; what changed -/
theorem store_ok2 {M : Model} {A : Around} {E : Value → Shared → Prop} {i : Nat} {x : Str} {v : V} {u : Value} {Q : Unit → Shared → Prop} (I : Inv X pins σ H s) (hN : X.N.Nodup) (hi : X.N[i]? = some x) (hx : Loc X.env.scope x) (r : RelV v u)
    (h : ∀ s', Inv X pins (σ.set i (some v)) H s' → (∃ a, Heap.SameBut a s.heap s'.heap ∧ (a = X.env.locals ∨ X.env.cells.lookup x = some a)) → Q () s') (hf : X.fn x = true ∨ X.env.scope.names.lookup x = some .local := by first | exact .inl rfl | exact .inr rfl | assumption) : wpAny M A (storeName X.env x u) Q E s := by
  obtain ⟨m, hn, hl⟩ := id I.loc
  have hcls : (X.env.scope.kind == .class || (X.env.scope.kind == .module && X.env.locals != X.env.globals)) = false := by rw [I.ok.kind]; rfl
  have hiσ : i < σ.length := by rw [I.len]; exact (List.getElem?_eq_some_iff.mp hi).1
  have cne := I.cne
  have tracked : ∀ {a : Addr} {h' : Heap}, (∃ o, s.heap.get? a = some o ∧ H a = none) → Heap.SameBut a s.heap h' → HOk X.prog X.w H h' := fun {a h'} ha hs b ob e => by
    obtain ⟨_, _, hfree⟩ := ha
    refine (I.hok b ob e).stay (fun c w' hc q => (hs.2 c ?_).trans q) (fun _ q => q) fun _ _ q => q
    rintro rfl
    rcases hc with rfl | hc
    · rw [hfree] at e; cases e
    · rw [hfree] at hc; cases hc
  rcases hx with hk | hk
  · refine wpAny_storeName_local hk hn (fun h' hn' hs => ?_) hcls
    obtain ⟨oL, _, _, hoL, _⟩ := id hn
    refine h _ ⟨I.ok, I.os, I.bare, ⟨fun b o e n hb hx => ?_, fun b o e n hb hx => ?_, I.base.free, fun b o e hx => ?_, I.base.tups, I.base.frzs, I.base.tbls⟩, ⟨_, hn', fun j y v' e1 e2 e3 => ?_⟩, fun y c e => ?_, I.free, I.freeC, fun p hp => ?_, tracked ⟨oL, hoL, I.free⟩ hs, by simpa using I.len⟩ ⟨_, hs, .inl rfl⟩
    · exact (hs.2 b (Nat.ne_of_lt (Nat.lt_of_lt_of_le (Heap.lt_size e) I.ok.above))).trans (I.base.keep b o e n hb hx)
    · obtain ⟨sl, e1⟩ := I.base.slot b o e n hb hx
      exact ⟨sl, (hs.2 b (Nat.ne_of_lt (Nat.lt_of_lt_of_le (Heap.lt_size e) I.ok.above))).trans e1⟩
    · obtain ⟨o', e1⟩ := I.base.there b o e hx
      exact ⟨o', (hs.2 b (Nat.ne_of_lt (Nat.lt_of_lt_of_le (Heap.lt_size e) I.ok.above))).trans e1⟩
    · by_cases hj : j = i
      · subst hj
        rw [hi] at e1; cases e1
        rw [List.getElem?_set_self hiσ] at e2
        cases e2
        exact ⟨u, r, .inl ⟨hk, by simp⟩⟩
      · rw [List.getElem?_set_ne (Ne.symm hj)] at e2
        obtain ⟨u', r', q⟩ := hl j y v' e1 e2 e3
        refine ⟨u', r', ?_⟩
        rcases q with ⟨k, e⟩ | ⟨k, c, e, z⟩
        · refine .inl ⟨k, ?_⟩
          have : y ≠ x := fun e => hj (nodup_ix hN e1 (e ▸ hi))
          simp [this, e]
        · exact .inr ⟨k, c, e, z.sameBut hs (cne y c e)⟩
    · obtain ⟨w', z⟩ := I.cell y c e
      exact ⟨w', z.sameBut hs (cne y c e)⟩
    · obtain ⟨e, n, ne, nf, d⟩ := I.pin p hp
      exact ⟨(hs.2 p.1 ne).trans e, n, ne, nf, d⟩
  · have hfn : X.fn x = true := by
      rcases hf with z | z
      · exact z
      · rw [z] at hk; cases hk
    obtain ⟨c, hc⟩ := I.ok.has x (.inl hk)
    obtain ⟨w', z⟩ := I.cell x c hc
    refine wpAny_storeName_cell I.ok.kind hk hc z (fun h' hc' hs => ?_)
    obtain ⟨oc, hoc, hocd⟩ := id z
    refine h { s with heap := h' } ⟨I.ok, I.os, I.bare, ⟨fun b o e n hb hx => ?_, fun b o e n hb hx => ?_, I.base.free, fun b o e hx => ?_, I.base.tups, I.base.frzs, I.base.tbls⟩, ⟨m, hn.sameBut hs (Ne.symm (cne x c hc)), fun j y v' e1 e2 e3 => ?_⟩, fun y c' e => ?_, I.free, I.freeC, fun p hp => ?_, tracked ⟨oc, hoc, I.freeC x c hc⟩ hs, by simpa using I.len⟩ ⟨c, hs, .inr hc⟩
    · exact (hs.2 b (Nat.ne_of_lt (Nat.lt_of_lt_of_le (Heap.lt_size e) (I.ok.cab x c hfn hc)))).trans (I.base.keep b o e n hb hx)
    · obtain ⟨sl, e1⟩ := I.base.slot b o e n hb hx
      exact ⟨sl, (hs.2 b (Nat.ne_of_lt (Nat.lt_of_lt_of_le (Heap.lt_size e) (I.ok.cab x c hfn hc)))).trans e1⟩
    · obtain ⟨o', e1⟩ := I.base.there b o e hx
      exact ⟨o', (hs.2 b (Nat.ne_of_lt (Nat.lt_of_lt_of_le (Heap.lt_size e) (I.ok.cab x c hfn hc)))).trans e1⟩
    · by_cases hj : j = i
      · subst hj
        rw [hi] at e1; cases e1
        rw [List.getElem?_set_self hiσ] at e2
        cases e2
        exact ⟨u, r, .inr ⟨.inl hk, c, hc, hc'⟩⟩
      · rw [List.getElem?_set_ne (Ne.symm hj)] at e2
        obtain ⟨u', r', q⟩ := hl j y v' e1 e2 e3
        refine ⟨u', r', ?_⟩
        rcases q with q | ⟨k, c', e, z'⟩
        · exact .inl q
        · refine .inr ⟨k, c', e, z'.sameBut hs ?_⟩
          rintro rfl
          exact hj (nodup_ix hN e1 (I.ok.inj _ _ _ e hc ▸ hi))
    · by_cases hcc : c' = c
      · subst hcc; exact ⟨_, hc'⟩
      · obtain ⟨w2, z2⟩ := I.cell y c' e
        exact ⟨w2, z2.sameBut hs hcc⟩
    · obtain ⟨e, n, ne, nf, d⟩ := I.pin p hp
      refine ⟨(hs.2 p.1 ?_).trans e, n, ne, nf, d⟩
      intro q
      rw [q, hoc] at e
      have q' : oc = p.2 := Option.some.inj e
      exact d w' (by rw [← q']; exact hocd)
theorem store_ok {M : Model} {A : Around} {E : Value → Shared → Prop} {i : Nat} {x : Str} {v : V} {u : Value} {Q : Unit → Shared → Prop} (I : Inv X pins σ H s) (hN : X.N.Nodup) (hi : X.N[i]? = some x) (hx : Loc X.env.scope x) (r : RelV v u)
    (h : ∀ s', Inv X pins (σ.set i (some v)) H s' → Q () s') (hf : X.fn x = true ∨ X.env.scope.names.lookup x = some .local := by first | exact .inl rfl | exact .inr rfl | assumption) : wpAny M A (storeName X.env x u) Q E s :=
  store_ok2 I hN hi hx r (fun s' I' _ => h s' I') hf
/-- behind a call or a block, the state as it is -/
theorem Inv.call' {s' : Shared} {ch : List Addr} (I : Inv X pins σ H s) (ho : s'.os = s.os) (u : Un (frs X.stack) ch H H' s.heap s'.heap) (hok : HOk X.prog X.w H' s'.heap) (hg : AllBare s'.gens)
    (hch : ∀ b ∈ ch, (b ∈ X.ex ∨ X.s₀.heap.objs.size ≤ b) ∧ b ≠ X.env.locals ∧ (∀ x c, X.env.cells.lookup x = some c → c ≠ b) ∧ ∀ p ∈ X.pn ++ pins, p.1 ≠ b) : Inv X pins σ H' s' := by
  obtain ⟨h', g', d', t', o'⟩ := s'
  have e : o' = s.os := ho
  subst e
  exact I.call (g' := g') (t' := t') (d' := d') u hok hg hch
end

/-! ### the judgements -/
/-- an exception: its class, its own dict's address (where it has one), the abstract heap behind it -/
abbrev XK := Value → Option Addr → Hp → Prop
abbrev St := List (Option V)
abbrev VK := V → Hp → Prop
/-- an expression's reading; a test's; an argument list's -/
abbrev TE := St → Hp → VK → Prop
abbrev TT := St → Hp → (Bool → Hp → Prop) → Prop
abbrev TA := St → Hp → (List V → Hp → Prop) → Prop
/-- what is wanted behind a statement -/
structure Ends where
  nx : St → Hp → Prop
  rt : VK
  bk : St → Hp → Prop := fun _ _ => False
  ct : St → Hp → Prop := fun _ _ => False
abbrev TS := Ends → St → Hp → Prop

def EP (X : Cx) (pins : List (Addr × Obj)) (σ : St) (Q : VK) (u : Value) (s' : Shared) : Prop := ∃ v H', Inv X pins σ H' s' ∧ RelV v u ∧ Q v H'
def TP (X : Cx) (pins : List (Addr × Obj)) (σ : St) (Q : Bool → Hp → Prop) (b : Bool) (s' : Shared) : Prop := ∃ H', Inv X pins σ H' s' ∧ Q b H'
def AP (X : Cx) (pins : List (Addr × Obj)) (σ : St) (Q : List V → Hp → Prop) (us : List Value) (s' : Shared) : Prop := ∃ vs H', Inv X pins σ H' s' ∧ Vals vs us ∧ Q vs H'
def SP (X : Cx) (pins : List (Addr × Obj)) (D : Ends) (f : Flow) (s' : Shared) : Prop :=
  match f with
  | .next => ∃ σ' H', Inv X pins σ' H' s' ∧ D.nx σ' H'
  | .brk => ∃ σ' H', Inv X pins σ' H' s' ∧ D.bk σ' H'
  | .cont => ∃ σ' H', Inv X pins σ' H' s' ∧ D.ct σ' H'
  | .ret u => ∃ v σ' H', Inv X pins σ' H' s' ∧ RelV v u ∧ D.rt v H'

def PE (X : Cx) (e : Expr) (t : TE) : Prop :=
  ∀ (pins : List (Addr × Obj)) (s : Shared) (σ : St) (H : Hp) (Q : VK), Inv X pins σ H s → t σ H Q → wpAny (model X.prog X.w) X.A (eval e X.env) (EP X pins σ Q) X.xe s
def PT (X : Cx) (e : Expr) (t : TT) : Prop :=
  ∀ (pins : List (Addr × Obj)) (s : Shared) (σ : St) (H : Hp) (Q : Bool → Hp → Prop), Inv X pins σ H s → t σ H Q → wpAny (model X.prog X.w) X.A (isTrue e X.env (eval e X.env)) (TP X pins σ Q) X.xe s
/-- a test whatever its 'whole' is (and, or) -/
def PW (X : Cx) (e : Expr) (t : TT) : Prop :=
  ∀ (whole : Sem Value) (pins : List (Addr × Obj)) (s : Shared) (σ : St) (H : Hp) (Q : Bool → Hp → Prop), Inv X pins σ H s → t σ H Q → wpAny (model X.prog X.w) X.A (isTrue e X.env whole) (TP X pins σ Q) X.xe s
theorem PW.pt {X : Cx} {e : Expr} {t : TT} (h : PW X e t) : PT X e t := h _
/-- an argument list (no star), from the left -/
def PA (X : Cx) (es : List Expr) (t : TA) : Prop :=
  ∀ (pos : Pos) (pins : List (Addr × Obj)) (s : Shared) (σ : St) (H : Hp) (Q : List V → Hp → Prop), Inv X pins σ H s → t σ H Q → wpAny (model X.prog X.w) X.A (spliced (backTo pos (starEach es X.env))) (AP X pins σ Q) X.xe s
def PS (X : Cx) (st : Stmt) (t : TS) : Prop :=
  ∀ (pins : List (Addr × Obj)) (s : Shared) (σ : St) (H : Hp) (D : Ends), Inv X pins σ H s → t D σ H → wpAny (model X.prog X.w) X.A (exec st X.env) (SP X pins D) X.xe s
def PSs (X : Cx) (st : List Stmt) (t : TS) : Prop :=
  ∀ (pins : List (Addr × Obj)) (s : Shared) (σ : St) (H : Hp) (D : Ends), Inv X pins σ H s → t D σ H → wpAny (model X.prog X.w) X.A (execs st X.env) (SP X pins D) X.xe s
/-- weaken the end -/
theorem thn {α : Type} {t : Sem α} {Q Q' : α → Shared → Prop} {M : Model} {A : Around} {E : Value → Shared → Prop} {s : Shared} (h : wpAny M A t Q E s) (hQ : ∀ a s, Q a s → Q' a s) : wpAny M A t Q' E s := wpAny_mono h hQ fun _ _ x => x
end L2

namespace L2
open PySem PySem.Spec PyProof.Rows
section
variable {X : Cx}

/-- two expressions in a row -/
theorem bin {a b : Expr} {ta tb : TE} (ha : PE X a ta) (hb : PE X b tb) {pins : List (Addr × Obj)} {s : Shared} {σ : St} {H : Hp} {R : V → V → Hp → Prop} (I : Inv X pins σ H s) (h : ta σ H fun x H1 => tb σ H1 fun y H2 => R x y H2)
    {α : Type} {Q : α → Shared → Prop} {f : Value → Value → Sem α}
    (hf : ∀ v u s2 x y H2, Inv X pins σ H2 s2 → RelV x v → RelV y u → R x y H2 → wpAny (model X.prog X.w) X.A (f v u) Q X.xe s2) :
    wpAny (model X.prog X.w) X.A (eval a X.env) (fun v s₁ => wpAny (model X.prog X.w) X.A (eval b X.env) (fun u s₂ => wpAny (model X.prog X.w) X.A (f v u) Q X.xe s₂) X.xe s₁) X.xe s := by
  refine thn (ha pins s σ H _ I h) fun v s1 ⟨x, H1, I1, r1, q1⟩ => ?_
  refine thn (hb pins s1 σ H1 _ I1 q1) fun u s2 ⟨y, H2, I2, r2, q2⟩ => ?_
  exact hf v u s2 x y H2 I2 r1 r2 q2

/-! ### names and constants -/
def tVar (i : Nat) : TE := fun σ H Q => ∃ v, σ[i]? = some (some v) ∧ Q v H
def tC (v : V) : TE := fun _ H Q => Q v H
theorem pe_var {i : Nat} {x : Str} {pos : Pos} (hN : X.N[i]? = some x) (hv : Vis X.env.scope x) (hd : (x == ("__debug__" : Str)) = false := by decide) (hcd : (x == ("__classdict__" : Str)) = false := by decide) : PE X (.Name x pos) (tVar i) := by
  intro pins s σ H Q I h
  obtain ⟨v, e, h⟩ := h
  obtain ⟨m, hn, hl⟩ := I.loc
  obtain ⟨u, r, l⟩ := hl i x v hN e hv
  have fin : EP X pins σ Q u s := ⟨v, H, I, r, h⟩
  rcases l with ⟨hk, hm⟩ | ⟨hk, c, hc, hcell⟩
  · exact wpAny_Name (wpAny_loadName_local I.ok.kind hk hn hm fin) hd
  · rcases hk with hk | hk
    · exact wpAny_Name (wpAny_loadName_cell I.ok.kind hk hc hcell fin) hd
    · exact wpAny_Name (wpAny_loadName_free I.ok.kind hk hc hcell fin hcd) hd
theorem pe_int {i j pos} : PE X (.Constant (.int i) j pos) (tC (.int i)) := fun _ _ _ H _ I h => wpAny_Constant_int ⟨.int i, H, I.tok _, ⟨_, rfl⟩, h⟩
theorem pe_bl {b j pos} : PE X (.Constant (.bool b) j pos) (tC (.bl b)) := fun _ _ _ H _ I h => Constant_bool ⟨.bl b, H, I, rfl, h⟩
theorem pe_non {j pos} : PE X (.Constant .none j pos) (tC .non) := fun _ _ _ H _ I h => Constant_none ⟨.non, H, I, rfl, h⟩
theorem pe_str {x j pos} : PE X (.Constant (.str x) j pos) (tC (.str x)) := fun _ _ _ H _ I h => Calls.Constant_str ⟨.str x, H, I.tok _, ⟨_, rfl⟩, h⟩

/-- a global name of the def -/
def Gl (X : Cx) (x : Str) : Prop := X.env.kindOf x = some .globalImplicit
theorem ld_glob {E : Value → Shared → Prop} {pins : List (Addr × Obj)} {s : Shared} {σ : St} {H : Hp} {x : Str} {u : Value} {pos : Pos} {Q : Value → Shared → Prop} (I : Inv X pins σ H s) (hg : Gl X x) (hm : X.mg x = some u) (h : Q u s)
    (hd : (x == ("__debug__" : Str)) = false := by decide) : wpAny (model X.prog X.w) X.A (eval (.Name x pos) X.env) Q E s :=
  Calls.Name_function_global I.ok.kind hg (Calls.loadGlobal_global (by rw [I.ok.glob]; exact I.mod.glob.keeps I.bk) hm h) hd
theorem ld_blt {E : Value → Shared → Prop} {pins : List (Addr × Obj)} {s : Shared} {σ : St} {H : Hp} {x : Str} {u : Value} {pos : Pos} {Q : Value → Shared → Prop} (I : Inv X pins σ H s) (hg : Gl X x) (hm : X.mg x = none) (hv : bootBuiltins x = some u) (h : Q u s)
    (hn : x ≠ "__name__" := by decide) (hd : (x == ("__debug__" : Str)) = false := by decide) : wpAny (model X.prog X.w) X.A (eval (.Name x pos) X.env) Q E s := by
  obtain ⟨mb, h1, h2⟩ := I.mod.blt
  exact Calls.Name_function_global I.ok.kind hg (Calls.loadGlobal_builtin (by rw [I.ok.glob]; exact I.mod.glob.keeps I.bk) hm (by rw [I.ok.blt]; exact h1.keeps I.bk) ((h2 x hn).trans hv) h) hd
/-- a module's constant, a class, a function, as a value -/
theorem pe_glob {x : Str} {v : V} {u : Value} {pos : Pos} (hg : Gl X x) (hm : X.mg x = some u) (r : RelV v u) (hd : (x == ("__debug__" : Str)) = false := by decide) : PE X (.Name x pos) (tC v) :=
  fun _ _ _ H _ I h => ld_glob I hg hm ⟨v, H, I, r, h⟩ hd
theorem pe_bltn {x : Str} {v : V} {u : Value} {pos : Pos} (hg : Gl X x) (hm : X.mg x = none) (hv : bootBuiltins x = some u) (r : RelV v u) (hn : x ≠ "__name__" := by decide) (hd : (x == ("__debug__" : Str)) = false := by decide) : PE X (.Name x pos) (tC v) :=
  fun _ _ _ H _ I h => ld_blt I hg hm hv ⟨v, H, I, r, h⟩ hn hd

/-! ### arithmetic -/
/-- two ints -/
def t2I (ta tb : TE) (k : Int → Int → Hp → Prop) : St → Hp → Prop := fun σ H => ta σ H fun x H1 => tb σ H1 fun y H2 => ∃ i j, x = .int i ∧ y = .int j ∧ k i j H2
def tAdd (ta tb : TE) : TE := fun σ H Q => t2I ta tb (fun i j H2 => Q (.int (i + j)) H2) σ H
def tSub (ta tb : TE) : TE := fun σ H Q => t2I ta tb (fun i j H2 => Q (.int (i - j)) H2) σ H
/-- the left factor below 2^64 -/
def tMul (ta tb : TE) : TE := fun σ H Q => t2I ta tb (fun i j H2 => (-(2 ^ 64) < i ∧ i < 2 ^ 64) ∧ Q (.int (i * j)) H2) σ H
variable {a b : Expr} {ta tb : TE} {pos : Pos}
/-! ### comparisons -/
def PC (X : Cx) (op : CmpOp) (a b : Expr) (t : TE) : Prop :=
  ∀ (pins : List (Addr × Obj)) (s : Shared) (σ : St) (H : Hp) (Q : VK), Inv X pins σ H s → t σ H Q →
    wpAny (model X.prog X.w) X.A (eval a X.env) (fun v s₁ => wpAny (model X.prog X.w) X.A (eval b X.env) (fun u s₂ => wpAny (model X.prog X.w) X.A (compareOp op v u) (EP X pins σ Q) X.xe s₂) X.xe s₁) X.xe s
theorem nobehind (b : Expr) {op : CmpOp} (h : op ≠ .In) (h2 : op ≠ .NotIn) : behindInMarks op b = false := by
  have e1 : (op == CmpOp.In) = false := by cases op <;> first | rfl | exact absurd rfl h
  have e2 : (op == CmpOp.NotIn) = false := by cases op <;> first | rfl | exact absurd rfl h2
  cases b <;> simp [behindInMarks, e1, e2]
def tCmp (p : Int → Int → Bool) (ta tb : TE) : TE := fun σ H Q => t2I ta tb (fun i j H2 => Q (.bl (p i j)) H2) σ H
abbrev tLt : TE → TE → TE := tCmp fun i j => decide (i < j)
abbrev tLe : TE → TE → TE := tCmp fun i j => decide (i ≤ j)
abbrev tGt : TE → TE → TE := tCmp fun i j => decide (j < i)
abbrev tGe : TE → TE → TE := tCmp fun i j => decide (j ≤ i)
abbrev tEqI : TE → TE → TE := tCmp fun i j => decide (i = j)
abbrev tNeI : TE → TE → TE := tCmp fun i j => !decide (i = j)
/-- is None -/
def tIsN (ta : TE) : TE := fun σ H Q => ta σ H fun x H1 => Q (.bl (decide (x = .non))) H1
def tNotN (ta : TE) : TE := fun σ H Q => ta σ H fun x H1 => Q (.bl (!decide (x = .non))) H1
/-- a comparison as a value, as a test -/
def tB (t : TE) : TT := fun σ H Q => t σ H fun x H1 => ∃ c, x = .bl c ∧ Q c H1
theorem pt_cmp {op : CmpOp} {t : TE} (h : PC X op a b t) (h1 : behindInMarks op b = false := by first | exact nobehind _ (by decide) (by decide) | rfl) : PT X (.Compare a [op] [b] pos) (tB t) := by
  intro pins s σ H Q I hw
  refine wpAny_isTrue_Compare1 (thn (h pins s σ H _ I hw) fun v s1 h1 => thn h1 fun u s2 h2 => thn h2 fun c s3 ⟨x, H1, I1, r1, q1⟩ => ?_) h1
  obtain ⟨d, rfl, q⟩ := q1
  cases r1
  exact wpAny_truthy_bool ⟨H1, I1, q⟩
/-- an expression whose value is a bool, as a test -/
theorem pt_val {e : Expr} {t : TE} (h : PE X e t) (he : ∀ whole, isTrue e X.env whole = (do let v ← whole; standAt e.pos; holding [v] (truthy v)) := by intro _; rfl) : PT X e (tB t) := by
  intro pins s σ H Q I hw
  refine isTrue_plain (thn (h pins s σ H _ I hw) fun v s1 ⟨x, H1, I1, r1, q1⟩ => ?_) (he _)
  obtain ⟨d, rfl, q⟩ := q1
  cases r1
  exact wpAny_truthy_bool ⟨H1, I1, q⟩

/-! ### and, or, not -/
variable {tA tB' : TT} {rest : List Expr}
def tAnd (t u : TT) : TT := fun σ H Q => t σ H fun c H1 => if c = true then u σ H1 Q else Q false H1
def tOr (t u : TT) : TT := fun σ H Q => t σ H fun c H1 => if c = true then Q true H1 else u σ H1 Q
def tNot (t : TT) : TT := fun σ H Q => t σ H fun c H1 => Q (!c) H1
theorem pw_and1 (ha : PT X a tA) : PW X (.BoolOp .And [a] pos) tA := by
  intro wh pins s σ H Q I h
  refine isTrue_and (thn (ha pins s σ H Q I h) fun c s1 e => ?_)
  cases c with
  | true => exact isTrue_and_nil e
  | false => exact e
theorem pw_or1 (ha : PT X a tA) : PW X (.BoolOp .Or [a] pos) tA := by
  intro wh pins s σ H Q I h
  refine isTrue_or (thn (ha pins s σ H Q I h) fun c s1 e => ?_)
  cases c with
  | false => exact isTrue_or_nil e
  | true => exact e
theorem pw_and (ha : PT X a tA) (hb : PW X (.BoolOp .And (b :: rest) pos) tB') : PW X (.BoolOp .And (a :: b :: rest) pos) (tAnd tA tB') := by
  intro wh pins s σ H Q I h
  refine isTrue_and (thn (ha pins s σ H _ I h) fun c s1 ⟨H1, I1, q1⟩ => ?_)
  cases c with
  | true => exact hb wh pins s1 σ H1 Q I1 q1
  | false => exact ⟨H1, I1, q1⟩
theorem pw_or (ha : PT X a tA) (hb : PW X (.BoolOp .Or (b :: rest) pos) tB') : PW X (.BoolOp .Or (a :: b :: rest) pos) (tOr tA tB') := by
  intro wh pins s σ H Q I h
  refine isTrue_or (thn (ha pins s σ H _ I h) fun c s1 ⟨H1, I1, q1⟩ => ?_)
  cases c with
  | true => exact ⟨H1, I1, q1⟩
  | false => exact hb wh pins s1 σ H1 Q I1 q1
theorem pt_not (ha : PT X a tA) : PT X (.UnaryOp .Not a pos) (tNot tA) := by
  intro pins s σ H Q I h
  exact isTrue_not (ha pins s σ H (fun c H1 => Q (!c) H1) I h)
/-- .. as values (bools) -/
def tAndV (ta tb : TE) : TE := fun σ H Q => ta σ H fun x H1 => ∃ c, x = .bl c ∧ if c = true then tb σ H1 Q else Q (.bl false) H1
def tOrV (ta tb : TE) : TE := fun σ H Q => ta σ H fun x H1 => ∃ c, x = .bl c ∧ if c = true then Q (.bl true) H1 else tb σ H1 Q
def tNotV (ta : TE) : TE := fun σ H Q => ta σ H fun x H1 => ∃ c, x = .bl c ∧ Q (.bl (!c)) H1
theorem pe_one {op} {t : TE} (h : PE X a t) : PE X (.BoolOp op [a] pos) t := fun pins s σ H Q I hw => BoolOp_one (h pins s σ H Q I hw)
theorem pe_and (ha : PE X a ta) (hb : PE X (.BoolOp .And (b :: rest) pos) tb) : PE X (.BoolOp .And (a :: b :: rest) pos) (tAndV ta tb) := by
  intro pins s σ H Q I h
  refine BoolOp_and (thn (ha pins s σ H _ I h) fun v s1 ⟨x, H1, I1, r1, q1⟩ => ?_)
  obtain ⟨c, rfl, q1⟩ := q1
  cases r1
  refine wpAny_truthy_bool ?_
  cases c with
  | true => exact hb pins s1 σ H1 Q I1 q1
  | false => exact ⟨.bl false, H1, I1, rfl, q1⟩
/-- a if t else b -/
def tIf (t : TT) (ta tb : TE) : TE := fun σ H Q => t σ H fun c H1 => if c = true then ta σ H1 Q else tb σ H1 Q
theorem pe_ifExp {c : Expr} (hc : PT X c tA) (ha : PE X a ta) (hb : PE X b tb) : PE X (.IfExp c a b pos) (tIf tA ta tb) := by
  intro pins s σ H Q I h
  refine wpAny_IfExp (thn (hc pins s σ H _ I h) fun d s1 ⟨H1, I1, q1⟩ => ?_)
  cases d with
  | true => exact ha pins s1 σ H1 Q I1 q1
  | false => exact hb pins s1 σ H1 Q I1 q1
end
end L2

namespace L2
open PySem PySem.Spec PyProof.Rows

/-! ### a list, a tuple that is read: tracked, frozen, or an object of the module -/
def SqL (K : PySem.W.Frag) (H : Hp) (a : Addr) (xs : List V) : Prop :=
  Rd H a (.lst xs) ∨
    ∃ (o : Obj) (its : Array Value) (n : Nat), K.lookup a = some o ∧ o.cls = .type "list" ∧ o.dict = none ∧ o.data = .seq its n ∧ its.size ≤ sizeLine ∧ Vals xs its.toList
def SqT (K : PySem.W.Frag) (H : Hp) (a : Addr) (xs : List V) : Prop :=
  Rd H a (.tup xs) ∨
    ∃ (o : Obj) (its : Array Value) (n : Nat), K.lookup a = some o ∧ o.cls = .type "tuple" ∧ o.data = .seq its n ∧ its.size ≤ sizeLine ∧ Vals xs its.toList
def absV : Value → Option V
  | .none => some .non
  | .bool b => some (.bl b)
  | .int i _ => some (.int i)
  | .str x _ => some (.str x)
  | .bytes b _ => some (.byt b)
  | .float b _ => some (.flt b)
  | .ref a => some (.ref a)
  | .type n => some (.ty n)
  | _ => none
theorem RelV.abs {x : V} {u : Value} (r : RelV x u) : absV u = some x := by
  cases x with
  | non => cases r; rfl
  | bl _ => cases r; rfl
  | int _ => obtain ⟨t, rfl⟩ := r; rfl
  | str _ => obtain ⟨t, rfl⟩ := r; rfl
  | byt _ => obtain ⟨t, rfl⟩ := r; rfl
  | flt _ => obtain ⟨t, rfl⟩ := r; rfl
  | ref _ => cases r; rfl
  | ty _ => cases r; rfl
theorem RelV.inj {x y : V} {u : Value} (r : RelV x u) (q : RelV y u) : x = y := Option.some.inj (r.abs.symm.trans q.abs)
theorem Vals.inj : ∀ {xs ys : List V} {us : List Value}, Vals xs us → Vals ys us → xs = ys
  | _, _, _, .nil, .nil => rfl
  | _, _, _, .cons r t, .cons r' t' => by rw [r.inj r', Vals.inj t t']
section
variable {X : Cx} {pins : List (Addr × Obj)} {σ : St} {H : Hp} {s : Shared} {a : Addr} {xs ys : List V}
theorem SqL.of {K : PySem.W.Frag} (h : H a = some (.lst xs)) : SqL K H a xs := .inl (.inl h)
theorem SqT.of {K : PySem.W.Frag} (h : H a = some (.tup xs)) : SqT K H a xs := .inl (.inl h)
theorem Inv.list (I : Inv X pins σ H s) (h : SqL X.K H a xs) : ∃ its : List Value, Vals xs its ∧ PlainL s.heap a its.toArray ∧ xs.length ≤ sizeLine := by
  rcases h with h | ⟨o, its, n, hk, hc, hd, hs, hz, r⟩
  · obtain ⟨z, its, n, r, e⟩ := h.ok I.hok
    exact ⟨its, r, ⟨_, n, e, rfl, rfl, rfl⟩, z⟩
  · refine ⟨its.toList, r, ⟨o, n, I.kIn a o hk, hc, hd, by simpa using hs⟩, ?_⟩
    have e := r.length
    simp only [Array.length_toList] at e
    omega
theorem Inv.tuple (I : Inv X pins σ H s) (h : SqT X.K H a xs) : ∃ its : List Value, Vals xs its ∧ IsTup s.heap a its.toArray ∧ xs.length ≤ sizeLine := by
  rcases h with h | ⟨o, its, n, hk, hc, hs, hz, r⟩
  · obtain ⟨z, its, r, p⟩ := h.ok I.hok
    exact ⟨its, r, p, z⟩
  · refine ⟨its.toList, r, ⟨o, I.kIn a o hk, hc, n, by simpa using hs⟩, ?_⟩
    have e := r.length
    simp only [Array.length_toList] at e
    omega
theorem Inv.list_inj (I : Inv X pins σ H s) (h : SqL X.K H a xs) (h' : SqL X.K H a ys) : xs = ys := by
  obtain ⟨its, r, ⟨o, n, e, _, _, d⟩, _⟩ := I.list h
  obtain ⟨its', r', ⟨o', n', e', _, _, d'⟩, _⟩ := I.list h'
  rw [e] at e'; cases e'
  rw [d] at d'
  injection d' with d1 _
  have : its = its' := by simpa using congrArg Array.toList d1
  subst this
  exact r.inj r'
end

/-! ### another wish about exceptions -/
abbrev Cx.wish (X : Cx) (E : Value → Shared → Prop) : Cx := { X with xe := E }
/-- no exception leaves -/
abbrev Cx.nox (X : Cx) : Cx := X.wish fun _ _ => False
theorem Cx.Ok.wish {X : Cx} (ok : X.Ok) (E : Value → Shared → Prop) : (X.wish E).Ok :=
  ⟨ok.mod, ok.kind, ok.glob, ok.blt, ok.above, ok.inj, ok.has, ok.cab, ok.hd, ok.frames, ok.stk, ok.exf, ok.bs, ok.bsz, ok.noex, ok.exfs, ok.funs, ok.frf⟩
theorem Cx.Ok.unwish {X : Cx} {E : Value → Shared → Prop} (ok : (X.wish E).Ok) : X.Ok :=
  ⟨ok.mod, ok.kind, ok.glob, ok.blt, ok.above, ok.inj, ok.has, ok.cab, ok.hd, ok.frames, ok.stk, ok.exf, ok.bs, ok.bsz, ok.noex, ok.exfs, ok.funs, ok.frf⟩
section
variable {X : Cx} {pins : List (Addr × Obj)} {σ : St} {H : Hp} {s : Shared} {E : Value → Shared → Prop}
theorem Inv.wish (I : Inv X pins σ H s) (E : Value → Shared → Prop) : Inv (X.wish E) pins σ H s := ⟨I.ok.wish E, I.os, I.bare, I.base, I.loc, I.cell, I.free, I.freeC, I.pin, I.hok, I.len⟩
theorem Inv.unwish (I : Inv (X.wish E) pins σ H s) : Inv X pins σ H s := ⟨I.ok.unwish, I.os, I.bare, I.base, I.loc, I.cell, I.free, I.freeC, I.pin, I.hok, I.len⟩
theorem SP.unwish {D : Ends} {f : Flow} {s' : Shared} (h : SP (X.wish E) pins D f s') : SP X pins D f s' := by
  cases f with
  | next => obtain ⟨σ', H', I, q⟩ := h; exact ⟨σ', H', I.unwish, q⟩
  | brk => obtain ⟨σ', H', I, q⟩ := h; exact ⟨σ', H', I.unwish, q⟩
  | cont => obtain ⟨σ', H', I, q⟩ := h; exact ⟨σ', H', I.unwish, q⟩
  | ret u => obtain ⟨v, σ', H', I, r, q⟩ := h; exact ⟨v, σ', H', I.unwish, r, q⟩
theorem PE.nox {e : Expr} {t : TE} (h : PE X.nox e t) : PE X e t := fun pins s σ H Q I hw =>
  wpAny_mono (h pins s σ H Q (I.wish _) hw) (fun _ _ ⟨v, H', I', r, q⟩ => ⟨v, H', I'.unwish, r, q⟩) fun _ _ z => False.elim z
theorem PT.nox {e : Expr} {t : TT} (h : PT X.nox e t) : PT X e t := fun pins s σ H Q I hw =>
  wpAny_mono (h pins s σ H Q (I.wish _) hw) (fun _ _ ⟨H', I', q⟩ => ⟨H', I'.unwish, q⟩) fun _ _ z => False.elim z
theorem PSs.nox {st : List Stmt} {t : TS} (h : PSs X.nox st t) : PSs X st t := fun pins s σ H D I hw =>
  wpAny_mono (h pins s σ H D (I.wish _) hw) (fun _ _ q => q.unwish) fun _ _ z => False.elim z
end

/-! ### blocks and small statements -/
section
variable {X : Cx} {st : Stmt} {rest : List Stmt} {t u : TS} {e : Expr} {te : TE} {pos : Pos}
def tNext : TS := fun D σ H => D.nx σ H
def tSeq (t u : TS) : TS := fun D σ H => t { D with nx := u D } σ H
theorem pss_nil : PSs X [] tNext := fun _ _ σ H _ I h => wpAny_execs_nil ⟨σ, H, I, h⟩
theorem pss_cons (h1 : PS X st t) (h2 : PSs X rest u) : PSs X (st :: rest) (tSeq t u) := by
  intro pins s σ H D I h
  refine wpAny_execs_cons (thn (h1 pins s σ H { D with nx := u D } I h) fun f s1 q => ?_)
  cases f with
  | next =>
    obtain ⟨σ', H', I', q⟩ := q
    exact h2 pins s1 σ' H' D I' q
  | ret v => exact q
  | brk => exact q
  | cont => exact q
theorem pss_one (h1 : PS X st t) : PSs X [st] t := by
  intro pins s σ H D I h
  refine wpAny_execs_cons (thn (h1 pins s σ H D I h) fun f s1 q => ?_)
  cases f with
  | next => exact wpAny_execs_nil q
  | ret v => exact q
  | brk => exact q
  | cont => exact q
def tBreak : TS := fun D σ H => D.bk σ H
def tCont : TS := fun D σ H => D.ct σ H
/-- in a def's body nothing is shown -/
theorem Inv.quiet {pins : List (Addr × Obj)} {σ : St} {H : Hp} {s : Shared} (I : Inv X pins σ H s) : interactive X.env = false := by simp [interactive, I.ok.kind]
/-- an expression whose value is dropped -/
def tDrop (te : TE) : TS := fun D σ H => te σ H fun _ H1 => D.nx σ H1
theorem ps_expr (he : PE X e te) (hs : swapsWith e none pos.line X.env = pure false := by rfl) : PS X (.Expr e pos) (tDrop te) := by
  intro pins s σ H D I h
  exact wpAny_Expr_any (thn (he pins s σ H _ I h) fun v s1 ⟨x, H1, I1, r1, q1⟩ => ⟨σ, H1, I1, q1⟩) I.quiet hs
def tRet (te : TE) : TS := fun D σ H => te σ H D.rt
theorem ps_ret (he : PE X e te) : PS X (.Return (some e) pos) (tRet te) := by
  intro pins s σ H D I h
  exact wpAny_Return_some (thn (he pins s σ H _ I h) fun v s1 ⟨x, H1, I1, r1, q1⟩ => ⟨x, σ, H1, I1, r1, q1⟩)
def tRetN : TS := fun D _ H => D.rt .non H
def tIfS (c : TT) (t u : TS) : TS := fun D σ H => c σ H fun b H1 => if b = true then t D σ H1 else u D σ H1
theorem ps_if {c : Expr} {a b : List Stmt} {tc : TT} (hc : PT X c tc) (ha : PSs X a t) (hb : PSs X b u) : PS X (.If c a b pos) (tIfS tc t u) := by
  intro pins s σ H D I h
  refine wpAny_If (thn (hc pins s σ H _ I h) fun d s1 ⟨H1, I1, q1⟩ => ?_)
  cases d with
  | true => exact ha pins s1 σ H1 D I1 q1
  | false => exact hb pins s1 σ H1 D I1 q1
/-- code that the proof never comes to -/
def tNever : TS := fun _ _ _ => False
end

/-! ### targets -/
abbrev TG := V → St → Hp → (St → Hp → Prop) → Prop
abbrev TGs := List V → St → Hp → (St → Hp → Prop) → Prop
def PG (X : Cx) (target : Expr) (t : TG) : Prop :=
  ∀ (pins : List (Addr × Obj)) (s : Shared) (σ : St) (H : Hp) (v : V) (u : Value) (Q : St → Hp → Prop), Inv X pins σ H s → RelV v u → t v σ H Q →
    wpAny (model X.prog X.w) X.A (assign target X.env u) (fun _ s' => ∃ σ' H', Inv X pins σ' H' s' ∧ Q σ' H') X.xe s
/-- several targets, one after another -/
def PGs (X : Cx) (ts : List Expr) (t : TGs) : Prop :=
  ∀ (pins : List (Addr × Obj)) (s : Shared) (σ : St) (H : Hp) (vs : List V) (us : List Value) (Q : St → Hp → Prop), Inv X pins σ H s → Vals vs us → t vs σ H Q →
    wpAny (model X.prog X.w) X.A (assignInOrder ((assignEach ts X.env).map (·.2)) us) (fun _ s' => ∃ σ' H', Inv X pins σ' H' s' ∧ Q σ' H') X.xe s
/-- o[i] = v, by values -/
abbrev TSet := V → V → V → Hp → (Hp → Prop) → Prop
def PSet (X : Cx) (t : TSet) : Prop :=
  ∀ (pins : List (Addr × Obj)) (s : Shared) (σ : St) (H : Hp) (o i v : V) (ov iv u : Value) (Q : Hp → Prop), Inv X pins σ H s → RelV o ov → RelV i iv → RelV v u → t o i v H Q →
    wpAny (model X.prog X.w) X.A (setItem ov iv u) (fun _ s' => ∃ H', Inv X pins σ H' s' ∧ Q H') X.xe s
/-- a op= b, by values -/
abbrev TIp := V → V → Hp → VK → Prop
def PIp (X : Cx) (op : Operator) (t : TIp) : Prop :=
  ∀ (pins : List (Addr × Obj)) (s : Shared) (σ : St) (H : Hp) (x y : V) (v u : Value) (Q : VK), Inv X pins σ H s → RelV x v → RelV y u → t x y H Q →
    wpAny (model X.prog X.w) X.A (inplaceOp op v u) (EP X pins σ Q) X.xe s
section
variable {X : Cx} {pos : Pos}
def gName (i : Nat) : TG := fun v σ H Q => Q (σ.set i (some v)) H
theorem pg_name {i : Nat} {x : Str} (hN : X.N.Nodup) (hi : X.N[i]? = some x) (hx : Loc X.env.scope x) (hf : X.fn x = true ∨ X.env.scope.names.lookup x = some .local := by first | exact .inl rfl | exact .inr rfl | assumption) : PG X (.Name x pos) (gName i) := by
  intro pins s σ H v u Q I r h
  exact wpAny_assign_Name (store_ok I hN hi hx r (fun s' I' => ⟨_, H, I', h⟩) hf)
def gNil : TGs := fun vs σ H Q => vs = [] ∧ Q σ H
def gCons (t : TG) (u : TGs) : TGs := fun vs σ H Q => ∃ v r, vs = v :: r ∧ t v σ H fun σ' H' => u r σ' H' Q
theorem pgs_nil : PGs X [] gNil := by
  intro pins s σ H vs us Q I r h
  obtain ⟨e, h⟩ := h
  subst e
  cases r
  exact assignInOrder_nil ⟨σ, H, I, h⟩
theorem pgs_cons {e : Expr} {es : List Expr} {t : TG} {u : TGs} (h1 : PG X e t) (h2 : PGs X es u)
    (hs : (assignEach (e :: es) X.env).map (·.2) = assign e X.env :: (assignEach es X.env).map (·.2) := by rfl) : PGs X (e :: es) (gCons t u) := by
  intro pins s σ H vs us Q I r h
  obtain ⟨v, vr, e1, h⟩ := h
  subst e1
  cases r with
  | cons r rr =>
    rw [hs]
    refine assignInOrder_cons (thn (h1 pins s σ H _ _ _ I r h) fun _ s1 ⟨σ1, H1, I1, q1⟩ => ?_)
    exact h2 pins s1 σ1 H1 _ _ Q I1 rr q1
/-- (a, b, ..) = a tuple of that length -/
def gTup (K : PySem.W.Frag) (n : Nat) (t : TGs) : TG := fun v σ H Q => ∃ a xs, v = .ref a ∧ SqT K H a xs ∧ xs.length = n ∧ t xs σ H Q
theorem pg_tup {es : List Expr} {k : Nat} {t : TGs} {n : Nat} (hc : X.calm = true) (h : PGs X es t)
    (hn : (assignEach es X.env).length = n := by rfl) (hst : (assignEach es X.env).findIdx? (·.1) = none := by rfl) : PG X (.Tuple es k pos) (gTup X.K n t) := by
  intro pins s σ H v u Q I r hw
  obtain ⟨a, xs, e1, hq, hl, hw⟩ := hw
  subst e1
  cases r
  obtain ⟨its, rv, ht, hz⟩ := I.tuple hq
  refine assign_Tuple_tuple (I.ok.hd hc) ht (by simp [hn, ← hl, rv.length]) hst fun h' hx => ?_
  have I1 : Inv X pins σ H { s with heap := h' } := I.kept (t' := s.toks) fun b o e => hx b o (Nat.ne_of_lt (Heap.lt_size e)) e
  exact h pins _ σ H xs _ Q I1 (by simpa using rv) hw
/-- o[i] = .. -/
def gSub (to ti : TE) (t : TSet) : TG := fun v σ H Q => to σ H fun o H1 => ti σ H1 fun i H2 => t o i v H2 fun H3 => Q σ H3
theorem pg_sub {o i : Expr} {to ti : TE} {t : TSet} (ho : PE X o to) (hi : PE X i ti) (hs : PSet X t)
    (ha : ∀ v, assign (.Subscript o i pos) X.env v = (do
      let ov ← holding [v] (eval o X.env)
      let iv ← holding [v, ov] (eval i X.env)
      standAt pos
      holding [v, ov, iv] (setItem ov iv v)
      release [v, ov, iv] []) := by intro _; rfl) : PG X (.Subscript o i pos) (gSub to ti t) := by
  intro pins s σ H v u Q I r h
  rw [ha]
  refine wpAny_bind (wpAny_holding (thn (ho pins s σ H _ I h) fun ov s1 ⟨x, H1, I1, r1, q1⟩ => ?_))
  refine wpAny_bind (wpAny_holding (thn (hi pins s1 σ H1 _ I1 q1) fun iv s2 ⟨y, H2, I2, r2, q2⟩ => ?_))
  refine wpAny_bind (wpAny_standAt (wpAny_bind (wpAny_holding (thn (hs pins s2 σ H2 x y v ov iv u _ I2 r1 r2 r q2) fun _ s3 ⟨H3, I3, q3⟩ => ?_))))
  exact wpAny_release ⟨σ, H3, I3, q3⟩
/-- target = value -/
def tAsg (te : TE) (g : TG) : TS := fun D σ H => te σ H fun x H1 => g x σ H1 D.nx
theorem ps_asg {tg e : Expr} {te : TE} {g : TG} (he : PE X e te) (hg : PG X tg g) (hs : swapsWithSole [tg] e pos.line X.env = pure false := by rfl) (hw : swappedStores [tg] e X.env = pure none := by rfl)
    (h1 : (assignEach [tg] X.env).map (·.2) = [assign tg X.env] := by rfl) : PS X (.Assign [tg] e pos) (tAsg te g) := by
  intro pins s σ H D I h
  refine wpAny_Assign_stores (thn (he pins s σ H _ I h) fun v s1 ⟨x, H1, I1, r1, q1⟩ => ?_) hs hw
  rw [h1]
  exact thn (hg pins s1 σ H1 x v _ I1 r1 q1) fun _ s2 q => q
/-- name = value -/
theorem ps_set {i : Nat} {x : Str} {e : Expr} {te : TE} {pos' : Pos} (hN : X.N.Nodup) (hi : X.N[i]? = some x) (hx : Loc X.env.scope x) (he : PE X e te) (hs : swapsWith e (some (.Name x pos')) pos.line X.env = pure false := by rfl) (hf : X.fn x = true ∨ X.env.scope.names.lookup x = some .local := by first | exact .inl rfl | exact .inr rfl | assumption) :
    PS X (.Assign [.Name x pos'] e pos) (tAsg te (gName i)) := by
  intro pins s σ H D I h
  refine wpAny_Assign_Name (thn (he pins s σ H _ I h) fun v s1 ⟨y, H1, I1, r1, q1⟩ => ?_) hs
  exact store_ok I1 hN hi hx r1 (fun s2 I2 => ⟨_, H1, I2, q1⟩) hf
/-- a, b = x, y with plain local names: stored from the right; the pair itself is not tracked (the opening rows as in PyProof/Rows/TupAssign.lean:23) -/
def tPar (i j : Nat) (ta : TA) : TS := fun D σ H => ta σ H fun vs H1 => ∃ v w, vs = [v, w] ∧ D.nx ((σ.set i (some v)).set j (some w)) H1
/-- name op= e -/
def tAug (i : Nat) (te : TE) (ti : TIp) : TS := fun D σ H => ∃ x, σ[i]? = some (some x) ∧ te σ H fun y H1 => ti x y H1 fun z H2 => D.nx (σ.set i (some z)) H2
/-- o[i] op= e -/
def tAugS (to ti te : TE) (tget : V → V → Hp → VK → Prop) (tip : TIp) (tset : TSet) : TS := fun D σ H => to σ H fun o H1 => ti σ H1 fun i H2 => tget o i H2 fun x H3 => te σ H3 fun y H4 => tip x y H4 fun z H5 => tset o i z H5 fun H6 => D.nx σ H6
/-- o[i], by values -/
def PGet (X : Cx) (t : V → V → Hp → VK → Prop) : Prop :=
  ∀ (pins : List (Addr × Obj)) (s : Shared) (σ : St) (H : Hp) (o i : V) (ov iv : Value) (Q : VK), Inv X pins σ H s → RelV o ov → RelV i iv → t o i H Q →
    wpAny (model X.prog X.w) X.A (getItem ov iv) (EP X pins σ Q) X.xe s
/-- ints -/
def ipI (f : Int → Int → Int) : TIp := fun x y H Q => ∃ i j, x = .int i ∧ y = .int j ∧ Q (.int (f i j)) H
end

/-! ### while -/
section
variable {X : Cx} {pos : Pos}
/-- the invariant W with its measure -/
def tWhile (c : TT) (tb : TS) : TS := fun D σ H => ∃ W : Nat → St → Hp → Prop, (∃ m, W m σ H) ∧ ∀ m σ H, W m σ H →
  c σ H fun b H1 => if b = true then ∃ N : St → Hp → Prop, (∀ σ' H', N σ' H' → ∃ m', m' < m ∧ W m' σ' H') ∧ tb { D with nx := N, ct := N, bk := D.nx } σ H1 else D.nx σ H1
theorem ps_while {c : Expr} {body : List Stmt} {tc : TT} {tb : TS} (hp : PassesOwn (model X.prog X.w) X.A X.env X.xe) (hc : PT X c tc) (hb : PSs X body tb) : PS X (.While c body [] pos) (tWhile tc tb) := by
  intro pins s σ H D I h
  obtain ⟨W, ⟨m0, w0⟩, turn⟩ := h
  refine wpAny_While (codeAny_whileLoop (fun n s' => ∃ σ' H', Inv X pins σ' H' s' ∧ W n σ' H') ?_ m0 ⟨σ, H, I, w0⟩)
  rintro n s1 ⟨σ1, H1, I1, w1⟩
  refine wpAny_passesOwn hp (thn (hc pins s1 σ1 H1 _ I1 (turn n σ1 H1 w1)) fun b s2 ⟨H2, I2, q2⟩ => ?_)
  cases b with
  | true =>
    obtain ⟨N, hN, q2⟩ := q2
    rw [if_pos rfl]
    refine wpAny_passesOwn hp (thn (hb pins s2 σ1 H2 _ I2 q2) fun f s3 q3 => ?_)
    cases f with
    | next =>
      obtain ⟨σ3, H3, I3, n3⟩ := q3
      obtain ⟨m', hm, w3⟩ := hN σ3 H3 n3
      exact ⟨m', hm, σ3, H3, I3, w3⟩
    | cont =>
      obtain ⟨σ3, H3, I3, n3⟩ := q3
      obtain ⟨m', hm, w3⟩ := hN σ3 H3 n3
      exact ⟨m', hm, σ3, H3, I3, w3⟩
    | brk => exact q3
    | ret v => exact q3
  | false =>
    rw [if_neg Bool.false_ne_true]
    exact wpAny_execs_nil ⟨σ1, H2, I2, q2⟩
end

/-! ### what a loop or a comprehension walks -/
/-- at turn i: it yields x (the heap may grow), or it stops -/
structure It where
  go : Nat → Hp → Prop
  yld : Nat → Hp → V → Hp → Prop
  stop : Nat → Hp → Prop
/-- the iterator's own objects may turn: they are not the frame's, not pinned, younger than the entry (or a comprehension's own) -/
def FpOk (X : Cx) (pins : List (Addr × Obj)) (H : Hp) (b : Addr) : Prop :=
  H b = none ∧ b ≠ X.env.locals ∧ b ∉ X.fs ∧ (b ∈ X.ex ∨ X.s₀.heap.objs.size ≤ b) ∧ (∀ x c, X.env.cells.lookup x = some c → c ≠ b) ∧ ∀ p ∈ X.pn ++ pins, p.1 ≠ b
theorem Inv.fpOk {X : Cx} {pins : List (Addr × Obj)} {σ : St} {H H' : Hp} {s : Shared} {b : Addr} (I : Inv X pins σ H s) (hb : s.heap.objs.size ≤ b) (hn : H' b = none) : FpOk X pins H' b := by
  refine ⟨hn, Nat.ne_of_gt (Nat.lt_of_lt_of_le I.lt hb), I.nofs hb, .inr (Nat.le_trans I.sz hb), fun x c e z => ?_, fun p hp z => ?_⟩
  · obtain ⟨v, q⟩ := I.cell x c e
    exact absurd (Nat.lt_of_lt_of_le q.lt (by rw [z]; exact hb)) (Nat.lt_irrefl _)
  · exact absurd (Nat.lt_of_lt_of_le (Heap.lt_size (I.pin p hp).1) (by rw [z]; exact hb)) (Nat.lt_irrefl _)
structure Turn (P : Program) (w : World) (K : PySem.W.Frag) (tg : Expr) (J : It) (fp : List Addr) (it : Addr) (tn : Nat → Heap → Prop) : Prop where
  mem : it ∈ fp
  obj : ∀ i h, tn i h → ∀ b ∈ fp, ∃ o, h.get? b = some o ∧ ∀ v, o.data ≠ .cell v
  keep : ∀ i h h', tn i h → (∀ b ∈ fp, ∀ o, h.get? b = some o → h'.get? b = some o) → tn i h'
  item : ∀ (X : Cx), X.prog = P → X.w = w → X.K = K → X.calm = true → ∀ (i : Nat) (pins : List (Addr × Obj)) (s : Shared) (σ : St) (H : Hp) (E : Value → Shared → Prop), Inv X pins σ H s → (∀ b ∈ fp, FpOk X pins H b) → tn i s.heap → J.go i H →
    wpAny (model P w) X.A (pyNext (.ref it)) (fun r s1 => ∃ u, r = some u ∧
      wpAny (model P w) X.A (letOwnedTupleGo tg (.ref it) u) (fun _ s2 => ∃ x H', Inv X pins σ H' s2 ∧ RelV x u ∧ J.yld i H x H' ∧ tn (i + 1) s2.heap ∧ ∀ b ∈ fp, H' b = none) E s1) E s
  done : ∀ (X : Cx), X.prog = P → X.w = w → X.K = K → X.calm = true → ∀ (i : Nat) (pins : List (Addr × Obj)) (s : Shared) (σ : St) (H : Hp) (E : Value → Shared → Prop), Inv X pins σ H s → (∀ b ∈ fp, FpOk X pins H b) → tn i s.heap → J.stop i H →
    wpAny (model P w) X.A (pyNext (.ref it)) (fun r s1 => r = none ∧ Inv X pins σ H s1) E s
  self : ∀ (A : Around) (i : Nat) (s : Shared) (Q : Value → Shared → Prop) (E : Value → Shared → Prop), tn i s.heap → Q (.ref it) s → wpAny (model P w) A (pyIter (.ref it)) Q E s
abbrev TI := St → Hp → (It → Hp → Prop) → Prop
/-- an iterator has come -/
def PIE (X : Cx) (pins : List (Addr × Obj)) (σ : St) (tg : Expr) (R : It → Hp → Prop) (itv : Value) (s2 : Shared) : Prop :=
  ∃ (it : Addr) (fp : List Addr) (tn : Nat → Heap → Prop) (J : It) (H' : Hp), itv = .ref it ∧ Inv X pins σ H' s2 ∧ Turn X.prog X.w X.K tg J fp it tn ∧ tn 0 s2.heap ∧ (∀ b ∈ fp, FpOk X pins H' b) ∧ R J H'
def PI (X : Cx) (tg iter : Expr) (wi : TI) : Prop :=
  ∀ (pins : List (Addr × Obj)) (s : Shared) (σ : St) (H : Hp) (R : It → Hp → Prop), Inv X pins σ H s → wi σ H R →
    wpAny (model X.prog X.w) X.A (eval iter X.env) (fun v s1 => wpAny (model X.prog X.w) X.A (pyIter v) (PIE X pins σ tg R) X.xe s1) X.xe s

/-- the step ahead of the store is nothing for an iterator that keeps no tuple -/
theorem go_of {M : Model} {A : Around} {E : Value → Shared → Prop} {s : Shared} {tg : Expr} {it : Addr} {u : Value} {o : Obj} {n : String} {vs : Array Value} {Q : Unit → Shared → Prop} (ho : s.heap.get? it = some o) (hc : o.cls = .type n) (hd : o.data = .fields vs)
    (hn : ["enumerate", "zip", "dict_itemiterator", "dict_reverseitemiterator", "odict_iterator", "itertools.zip_longest", "itertools.pairwise"].contains n = false) (hQ : Q () s) : wpAny M A (letOwnedTupleGo tg (.ref it) u) Q E s := by
  unfold letOwnedTupleGo
  cases tg <;> first
    | exact wpAny_pure hQ
    | (cases u <;> first
        | exact wpAny_pure hQ
        | (refine wpAny_bind (wpAny_load ho ?_)
           rw [hc, hd]
           show wpAny M A (if (["enumerate", "zip", "dict_itemiterator", "dict_reverseitemiterator", "odict_iterator", "itertools.zip_longest", "itertools.pairwise"].contains n && vs[0]? == some (rawInt _)) = true then _ else _) Q E s
           rw [if_neg (by intro h; rw [hn, Bool.false_and] at h; cases h)]
           exact wpAny_pure hQ))

/-- the list at a, as it stands at each turn (a loop may append to it) -/
def Itl (K : PySem.W.Frag) (a : Addr) : It :=
  ⟨fun i H => ∃ xs x, SqL K H a xs ∧ xs[i]? = some x, fun i H x H' => H' = H ∧ ∀ xs, SqL K H a xs → xs[i]? = some x, fun i H => ∃ xs, SqL K H a xs ∧ xs.length ≤ i⟩
def Itt (K : PySem.W.Frag) (a : Addr) : It :=
  ⟨fun i H => ∃ xs x, SqT K H a xs ∧ xs[i]? = some x, fun i H x H' => H' = H ∧ ∀ xs, SqT K H a xs → xs[i]? = some x, fun i H => ∃ xs, SqT K H a xs ∧ xs.length ≤ i⟩
/-- lo, lo + 1, .. (n of them) -/
def Itr (lo : Int) (n : Nat) : It := ⟨fun i _ => i < n, fun i H x H' => H' = H ∧ x = .int (lo + i), fun i _ => n ≤ i⟩
theorem turn_list {P : Program} {w : World} {K : PySem.W.Frag} {tg : Expr} (a it : Addr) : Turn P w K tg (Itl K a) [it] it (fun i h => h.IsListIter it a i) where
  mem := by simp
  obj := fun i h st b hb => by
    have e : b = it := by simpa using hb
    subst e
    obtain ⟨o, e, c, d⟩ := st
    exact ⟨o, e, fun v z => by rw [d] at z; cases z⟩
  keep := fun i h h' st k => st.at fun o e => k it (by simp) o e
  item := by
    intro X hP hw hK hc i pins s σ H E I hf st hg
    subst hP hw hK
    obtain ⟨xs, x, hq, hx⟩ := hg
    obtain ⟨its, rv, p, hz⟩ := I.list hq
    obtain ⟨u, hu, ru⟩ := rv.get hx
    obtain ⟨f0, f1, f2, f3, f4, f5⟩ := hf it (by simp)
    refine wpAny_pyNext_list_item st p.isList (x := u) (by simpa using hu) fun h' st' sb => ?_
    have I1 : Inv X pins σ H { s with heap := h' } := I.turned (t' := s.toks) (fun b o hb e => (sb.2 b hb).trans e) f0 f1 f3 f4 f5
    obtain ⟨o, e, c, d⟩ := id st'
    exact ⟨u, rfl, go_of (s := { s with heap := h' }) e c d (by decide) ⟨x, H, I1, ru, ⟨rfl, fun ys hy => by rw [I.list_inj hy hq]; exact hx⟩, st', fun b hb => (hf b hb).1⟩⟩
  done := by
    intro X hP hw hK hc i pins s σ H E I hf st hg
    subst hP hw hK
    obtain ⟨xs, hq, hx⟩ := hg
    obtain ⟨its, rv, p, hz⟩ := I.list hq
    obtain ⟨f0, f1, f2, f3, f4, f5⟩ := hf it (by simp)
    have hl := rv.length
    exact wpAny_pyNext_list_end (I.ok.hd hc) st p.isList (by simp; omega) fun h' eb => ⟨rfl, I.turned (t' := s.toks) (fun b o hb e => eb b o hb e) f0 f1 f3 f4 f5⟩
  self := fun _ _ _ _ _ st h => wpAny_pyIter_listiter st h
theorem turn_range {P : Program} {w : World} {K : PySem.W.Frag} {tg : Expr} (it : Addr) (lo : Int) (n : Nat) : Turn P w K tg (Itr lo n) [it] it (fun i h => IsRangeIter h it (lo + (i : Nat) * 1) ((n : Int) - (i : Nat)) 1) where
  mem := by simp
  obj := fun i h st b hb => by
    have e : b = it := by simpa using hb
    subst e
    exact ⟨_, st, fun v z => by
      have z' : Data.fields _ = Data.cell v := z
      cases z'⟩
  keep := fun i h h' st k => k it (by simp) _ st
  item := by
    intro X hP hw hK hc i pins s σ H E I hf st hg
    subst hP hw hK
    obtain ⟨f0, f1, f2, f3, f4, f5⟩ := hf it (by simp)
    have W := Walks.range (prog := X.prog) (w := X.w) (I.ok.hd hc) it lo 1 n
    refine W.item i s _ _ hg st fun v h' tk hv st' kk => ?_
    obtain ⟨t, rfl⟩ := hv
    have I1 : Inv X pins σ H { s with heap := h', toks := tk } := I.turned (fun b o hb e => kk b o (by simpa using hb) e) f0 f1 f3 f4 f5
    refine ⟨_, rfl, go_of (s := { s with heap := h', toks := tk }) (n := "range_iterator") st' rfl rfl (by decide) ⟨.int (lo + i), H, I1, ⟨t, ?_⟩, ⟨rfl, rfl⟩, st', fun b hb => (hf b hb).1⟩⟩
    rw [Int.mul_one]
  done := by
    intro X hP hw hK hc i pins s σ H E I hf st hg
    subst hP hw hK
    obtain ⟨f0, f1, f2, f3, f4, f5⟩ := hf it (by simp)
    exact wpAny_pyNext_range_end (I.ok.hd hc) st (by have : n ≤ i := hg; omega) fun h' eb => ⟨rfl, I.turned (t' := s.toks) (fun b o hb e => eb b o hb e) f0 f1 f3 f4 f5⟩
  self := fun _ _ _ _ _ st h => wpAny_pyIter_rangeiter st h
end L2

namespace L2
open PySem PySem.Spec PyProof.Rows
section
variable {X : Cx} {tg : Expr}
def iList (K : PySem.W.Frag) (tl : TE) : TI := fun σ H R => tl σ H fun x H1 => ∃ a, x = .ref a ∧ (∃ xs, SqL K H1 a xs) ∧ R (Itl K a) H1
def iTup (K : PySem.W.Frag) (tl : TE) : TI := fun σ H R => tl σ H fun x H1 => ∃ a, x = .ref a ∧ (∃ xs, SqT K H1 a xs) ∧ R (Itt K a) H1
theorem pi_list {l : Expr} {tl : TE} (hl : PE X l tl) : PI X tg l (iList X.K tl) := by
  intro pins s σ H R I h
  refine thn (hl pins s σ H _ I h) fun v s1 ⟨x, H1, I1, r1, q1⟩ => ?_
  obtain ⟨a, e, ⟨xs, hq⟩, q⟩ := q1
  subst e
  cases r1
  obtain ⟨its, rv, p, hz⟩ := I1.list hq
  refine wpAny_pyIter_list p.isList ?_
  refine ⟨s1.heap.objs.size, [s1.heap.objs.size], _, _, H1, rfl, I1.kept (t' := s1.toks) fun b o e => Heap.get?_push_of_some _ e, turn_list a _, ⟨_, Heap.get?_push_size _ rfl, rfl, rfl⟩, fun b hb => ?_, q⟩
  have e : b = s1.heap.objs.size := by simpa using hb
  subst e
  exact I1.fpOk (Nat.le_refl _) (I1.hok.fresh (Nat.le_refl _))
/-- a range object just made, walked -/
theorem range_it {pins : List (Addr × Obj)} {σ : St} {H : Hp} {s : Shared} {R : It → Hp → Prop} {E : Value → Shared → Prop} {lo hi : Int} {t u v : Tok} {tk : Nat} (I : Inv X pins σ H s) (h1 : -(2 ^ 62) ≤ lo) (h2 : lo < 2 ^ 62) (h3 : -(2 ^ 62) ≤ hi) (h4 : hi < 2 ^ 62)
    (q : R (Itr lo (hi - lo).toNat) H) : wpAny (model X.prog X.w) X.A (pyIter (.ref s.heap.objs.size)) (PIE X pins σ tg R) E { s with heap := s.heap.push { cls := .type "range", data := .fields #[.int lo t, .int hi u, .int 1 v] }, toks := tk } := by
  refine wpAny_pyIter_range (IsRange.new ..) (small_one h1 h2 h3 h4) ?_
  have I1 : Inv X pins σ H { s with heap := s.heap.push { cls := .type "range", data := .fields #[.int lo t, .int hi u, .int 1 v] }, toks := tk } := I.kept fun b o e => Heap.get?_push_of_some _ e
  refine ⟨(s.heap.push { cls := .type "range", data := .fields #[.int lo t, .int hi u, .int 1 v] }).objs.size, [(s.heap.push { cls := .type "range", data := .fields #[.int lo t, .int hi u, .int 1 v] }).objs.size], _, _, H, rfl,
    I1.kept (t' := tk) fun b o e => Heap.get?_push_of_some _ e, turn_range _ lo (hi - lo).toNat, ?_, fun b hb => ?_, q⟩
  · have e1 : lo + ((0 : Nat) : Int) * 1 = lo := by simp
    have e2 : (((hi - lo).toNat : Nat) : Int) - ((0 : Nat) : Int) = Builtin.Range.rangeSize lo hi 1 := by rw [rangeSize_one]; split <;> omega
    show IsRangeIter _ _ (lo + ((0 : Nat) : Int) * 1) ((((hi - lo).toNat : Nat) : Int) - ((0 : Nat) : Int)) 1
    rw [e1, e2]
    exact Heap.get?_push_size _ rfl
  · have e : b = (s.heap.push { cls := .type "range", data := .fields #[.int lo t, .int hi u, .int 1 v] }).objs.size := by simpa using hb
    subst e
    exact I1.fpOk (Nat.le_refl _) (I1.hok.fresh (Nat.le_refl _))
def iRng1 (ta : TA) : TI := fun σ H R => ta σ H fun vs H1 => ∃ j : Int, vs = [.int j] ∧ -(2 ^ 62) ≤ j ∧ j < 2 ^ 62 ∧ R (Itr 0 j.toNat) H1
def iRng2 (ta : TA) : TI := fun σ H R => ta σ H fun vs H1 => ∃ i j : Int, vs = [.int i, .int j] ∧ (-(2 ^ 62) ≤ i ∧ i < 2 ^ 62 ∧ -(2 ^ 62) ≤ j ∧ j < 2 ^ 62) ∧ R (Itr i (j - i).toNat) H1
theorem pi_range1 {a : Expr} {ta : TA} {p pos : Pos} (hg : Gl X "range") (hm : X.mg "range" = none) (ha : PA X [a] ta) (hs : starEach [a] X.env = [(false, eval a X.env)] := by rfl) : PI X tg (.Call (.Name "range" p) [a] [] pos) (iRng1 ta) := by
  intro pins s σ H R I h
  refine Call_ (ld_blt I hg hm boot_range (PyProof.Rows.callWith_type1 (thn (ha pos pins s σ H _ I h) fun us s1 ⟨vs, H1, I1, r1, q1⟩ => ?_) hs rfl))
  obtain ⟨j, e, q1, q2, q⟩ := q1
  subst e
  cases r1 with
  | cons r rr =>
    cases rr
    obtain ⟨t, rfl⟩ := r
    exact call_range_1 (range_it I1 (by omega) (by omega) q1 q2 (by simpa using q))
/-! ### for -/
/-- W: the invariant by the turn and a measure; N: what the body is to reach -/
def tFor (wi : TI) (g : TG) (tb : TS) : TS := fun D σ H => wi σ H fun J H1 => ∃ W : Nat → Nat → St → Hp → Prop, (∃ m, W 0 m σ H1) ∧ ∀ i m σ H, W i m σ H →
  (J.stop i H ∧ D.nx σ H) ∨ (J.go i H ∧ ∃ N : St → Hp → Prop, (∀ σ' H', N σ' H' → ∃ m', m' < m ∧ W (i + 1) m' σ' H') ∧ ∀ x H', J.yld i H x H' → g x σ H' fun σ2 H2 => tb { D with nx := N, ct := N, bk := D.nx } σ2 H2)
/-- the records at fp as they stand -/
def pinsAt (fp : List Addr) (h : Heap) : List (Addr × Obj) := fp.filterMap fun b => (h.get? b).map fun o => (b, o)
theorem mem_pinsAt {fp : List Addr} {h : Heap} {b : Addr} {o : Obj} (hb : b ∈ fp) (e : h.get? b = some o) : (b, o) ∈ pinsAt fp h := List.mem_filterMap.mpr ⟨b, hb, by rw [e]; rfl⟩
theorem of_pinsAt {fp : List Addr} {h : Heap} {p : Addr × Obj} (hp : p ∈ pinsAt fp h) : p.1 ∈ fp ∧ h.get? p.1 = some p.2 := by
  obtain ⟨b, hb, e⟩ := List.mem_filterMap.mp hp
  cases q : h.get? b with
  | none => rw [q] at e; cases e
  | some o =>
    rw [q] at e
    have e' : (b, o) = p := Option.some.inj e
    subst e'
    exact ⟨hb, q⟩
theorem Inv.pinned {pins : List (Addr × Obj)} {σ : St} {H : Hp} {s : Shared} {fp : List Addr} (I : Inv X pins σ H s) (hf : ∀ b ∈ fp, FpOk X pins H b) (ho : ∀ b ∈ fp, ∃ o, s.heap.get? b = some o ∧ ∀ v, o.data ≠ .cell v) : Inv X (pins ++ pinsAt fp s.heap) σ H s :=
  I.pins_of fun p hp => (List.mem_append.mp hp).elim (fun z => I.pin p (List.mem_append_right _ z)) fun z => by
    obtain ⟨hb, e⟩ := of_pinsAt z
    obtain ⟨f0, f1, f2, _⟩ := hf p.1 hb
    obtain ⟨o, e', d⟩ := ho p.1 hb
    rw [e] at e'; cases e'
    exact ⟨e, f0, f1, f2, d⟩
theorem Inv.unpinned {pins pl : List (Addr × Obj)} {σ : St} {H : Hp} {s : Shared} (I : Inv X (pins ++ pl) σ H s) : Inv X pins σ H s := I.pins_of fun p hp => I.pin p (List.mem_append_right _ (List.mem_append_left _ hp))
theorem ps_for {iter : Expr} {body : List Stmt} {wi : TI} {g : TG} {tb : TS} {pos : Pos} (hp : PassesOwn (model X.prog X.w) X.A X.env X.xe) (hc : X.calm = true) (hi : PI X tg iter wi) (hg : PG X tg g) (hb : PSs X body tb)
    (hs : ∀ x, foldedSetIterable iter X.env x = pure x := by intro _; rfl) : PS X (.For tg iter body [] pos) (tFor wi g tb) := by
  intro pins s σ H D I h
  refine wpAny_For (thn (hi pins s σ H _ I h) fun v s1 h1 => thn h1 fun itv s2 h2 => ?_) hs
  obtain ⟨it, fp, tn, J, H2, e, I2, T, st2, f2, W, ⟨m0, w0⟩, turn⟩ := h2
  subst e
  -- what stays true of the iterator's objects through the loop
  have stat : ∀ {H' : Hp}, (∀ b ∈ fp, H' b = none) → ∀ b ∈ fp, FpOk X pins H' b := fun hn b hb => ⟨hn b hb, (f2 b hb).2⟩
  refine codeAny_forLoop_any (fun n s' => ∃ i σ' H', Inv X pins σ' H' s' ∧ tn i s'.heap ∧ (∀ b ∈ fp, H' b = none) ∧ W i n σ' H') ?_ m0 ⟨0, σ, H2, I2, st2, fun b hb => (f2 b hb).1, w0⟩
  rintro n s3 ⟨i, σ3, H3, I3, st3, fr3, w3⟩
  rcases turn i n σ3 H3 w3 with ⟨stop, qn⟩ | ⟨go, N, hN, step⟩
  · refine wpAny_passesOwn hp (thn (T.done X rfl rfl rfl hc i pins s3 σ3 H3 X.xe I3 (stat fr3) st3 stop) fun r s4 ⟨hr, I4⟩ => ?_)
    subst hr
    exact wpAny_execs_nil ⟨σ3, H3, I4, qn⟩
  · refine wpAny_passesOwn hp (thn (T.item X rfl rfl rfl hc i pins s3 σ3 H3 X.xe I3 (stat fr3) st3 go) fun r s4 ⟨u, hr, h4⟩ => ?_)
    subst hr
    refine wpAny_passesOwn hp (thn h4 fun _ s5 ⟨x, H5, I5, r5, y5, st5, fr5⟩ => ?_)
    have I5' := I5.pinned (stat fr5) (T.obj _ _ st5)
    refine wpAny_passesOwn hp (thn (hg _ s5 σ3 H5 x u _ I5' r5 (step x H5 y5)) fun _ s6 ⟨σ6, H6, I6, q6⟩ => ?_)
    refine wpAny_passesOwn hp (thn (hb _ s6 σ6 H6 _ I6 q6) fun f s7 q7 => ?_)
    have again : ∀ {σ7 : St} {H7 : Hp}, Inv X (pins ++ pinsAt fp s5.heap) σ7 H7 s7 → N σ7 H7 → ∃ m, m < n ∧ ∃ i σ' H', Inv X pins σ' H' s7 ∧ tn i s7.heap ∧ (∀ b ∈ fp, H' b = none) ∧ W i m σ' H' := fun {σ7 H7} I7 n7 => by
      obtain ⟨m', hm, w7⟩ := hN σ7 H7 n7
      refine ⟨m', hm, i + 1, σ7, H7, I7.unpinned, T.keep _ _ _ st5 fun b hb o e => (I7.pin (b, o) (List.mem_append_right _ (List.mem_append_right _ (mem_pinsAt hb e)))).1, fun b hb => ?_, w7⟩
      obtain ⟨o, e, d⟩ := T.obj _ _ st5 b hb
      exact (I7.pin (b, o) (List.mem_append_right _ (List.mem_append_right _ (mem_pinsAt hb e)))).2.1
    cases f with
    | next => obtain ⟨σ7, H7, I7, n7⟩ := q7; exact again I7 n7
    | cont => obtain ⟨σ7, H7, I7, n7⟩ := q7; exact again I7 n7
    | brk => obtain ⟨σ7, H7, I7, q7⟩ := q7; exact ⟨σ7, H7, I7.unpinned, q7⟩
    | ret v => obtain ⟨x7, σ7, H7, I7, r7, q7⟩ := q7; exact ⟨x7, σ7, H7, I7.unpinned, r7, q7⟩
end

/-! ### the forms one uses -/
/-- over a list that the body leaves as it is -/
theorem for_list {K : PySem.W.Frag} {a : Addr} {xs : List V} {g : TG} {tb : TS} {D : Ends} {σ : St} {H : Hp} (Pv : Nat → St → Hp → Prop) (h0 : Pv 0 σ H) (hl : ∀ i σ H, i ≤ xs.length → Pv i σ H → SqL K H a xs)
    (hs : ∀ i x σ H, xs[i]? = some x → Pv i σ H → g x σ H fun σ2 H2 => tb { D with nx := Pv (i + 1), ct := Pv (i + 1), bk := D.nx } σ2 H2) (hd : ∀ σ H, Pv xs.length σ H → D.nx σ H) :
    ∃ W : Nat → Nat → St → Hp → Prop, (∃ m, W 0 m σ H) ∧ ∀ i m σ H, W i m σ H →
      ((Itl K a).stop i H ∧ D.nx σ H) ∨ ((Itl K a).go i H ∧ ∃ N : St → Hp → Prop, (∀ σ' H', N σ' H' → ∃ m', m' < m ∧ W (i + 1) m' σ' H') ∧ ∀ x H', (Itl K a).yld i H x H' → g x σ H' fun σ2 H2 => tb { D with nx := N, ct := N, bk := D.nx } σ2 H2) := by
  refine ⟨fun i m σ H => m = xs.length - i ∧ i ≤ xs.length ∧ Pv i σ H, ⟨xs.length, by simp, Nat.zero_le _, h0⟩, ?_⟩
  rintro i m σ H ⟨rfl, hi, p⟩
  have q := hl i σ H hi p
  by_cases hlt : i < xs.length
  · refine .inr ⟨⟨xs, xs[i], q, by simp [hlt]⟩, Pv (i + 1), fun σ' H' p' => ⟨xs.length - (i + 1), by omega, rfl, hlt, p'⟩, fun x H' y => ?_⟩
    obtain ⟨e, y⟩ := y
    subst e
    exact hs i x σ _ (y xs q) p
  · have e : i = xs.length := by omega
    subst e
    exact .inl ⟨⟨xs, q, Nat.le_refl _⟩, hd σ H p⟩
theorem for_range {lo : Int} {n : Nat} {g : TG} {tb : TS} {D : Ends} {σ : St} {H : Hp} (Pv : Nat → St → Hp → Prop) (h0 : Pv 0 σ H)
    (hs : ∀ i σ H, i < n → Pv i σ H → g (.int (lo + i)) σ H fun σ2 H2 => tb { D with nx := Pv (i + 1), ct := Pv (i + 1), bk := D.nx } σ2 H2) (hd : ∀ σ H, Pv n σ H → D.nx σ H) :
    ∃ W : Nat → Nat → St → Hp → Prop, (∃ m, W 0 m σ H) ∧ ∀ i m σ H, W i m σ H →
      ((Itr lo n).stop i H ∧ D.nx σ H) ∨ ((Itr lo n).go i H ∧ ∃ N : St → Hp → Prop, (∀ σ' H', N σ' H' → ∃ m', m' < m ∧ W (i + 1) m' σ' H') ∧ ∀ x H', (Itr lo n).yld i H x H' → g x σ H' fun σ2 H2 => tb { D with nx := N, ct := N, bk := D.nx } σ2 H2) := by
  refine ⟨fun i m σ H => m = n - i ∧ i ≤ n ∧ Pv i σ H, ⟨n, by simp, Nat.zero_le _, h0⟩, ?_⟩
  rintro i m σ H ⟨rfl, hi, p⟩
  by_cases hlt : i < n
  · refine .inr ⟨hlt, Pv (i + 1), fun σ' H' p' => ⟨n - (i + 1), by omega, rfl, hlt, p'⟩, fun x H' y => ?_⟩
    obtain ⟨e, y⟩ := y
    subst e y
    exact hs i σ _ hlt p
  · have e : i = n := by omega
    subst e
    exact .inl ⟨Nat.le_refl _, hd σ H p⟩
end L2

namespace L2
open PySem PySem.Spec PyProof.Rows

abbrev R2 := V → V → Hp → VK → Prop
/-- a two-place operation on values: f is binaryOp op, inplaceOp op or compareOp op -/
def OpR (X : Cx) (f : Value → Value → Sem Value) (r : R2) : Prop :=
  ∀ (pins : List (Addr × Obj)) (s : Shared) (σ : St) (H : Hp) (x y : V) (v u : Value) (Q : VK), Inv X pins σ H s → RelV x v → RelV y u → r x y H Q →
    wpAny (model X.prog X.w) X.A (f v u) (EP X pins σ Q) X.xe s
/-- a one-place operation -/
def UnR (X : Cx) (f : Value → Sem Value) (r : V → Hp → VK → Prop) : Prop :=
  ∀ (pins : List (Addr × Obj)) (s : Shared) (σ : St) (H : Hp) (x : V) (v : Value) (Q : VK), Inv X pins σ H s → RelV x v → r x H Q →
    wpAny (model X.prog X.w) X.A (f v) (EP X pins σ Q) X.xe s
/-- a call of a value that is known (a builtin, a type) with values -/
def CallR (X : Cx) (f : Value) (r : List V → Hp → VK → Prop) : Prop :=
  ∀ (pins : List (Addr × Obj)) (s : Shared) (σ : St) (H : Hp) (xs : List V) (us : List Value) (Q : VK), Inv X pins σ H s → Vals xs us → r xs H Q →
    wpAny (model X.prog X.w) X.A (call f us) (EP X pins σ Q) X.xe s
/-- a value's truth -/
def TruR (X : Cx) (r : V → Hp → (Bool → Hp → Prop) → Prop) : Prop :=
  ∀ (pins : List (Addr × Obj)) (s : Shared) (σ : St) (H : Hp) (x : V) (v : Value) (Q : Bool → Hp → Prop), Inv X pins σ H s → RelV x v → r x H Q →
    wpAny (model X.prog X.w) X.A (truthy v) (TP X pins σ Q) X.xe s

def tOp (r : R2) (ta tb : TE) : TE := fun σ H Q => ta σ H fun x H1 => tb σ H1 fun y H2 => r x y H2 Q
def tUn (r : V → Hp → VK → Prop) (ta : TE) : TE := fun σ H Q => ta σ H fun x H1 => r x H1 Q
/-- ints in, under C, and a value out -/
def rI (C : Int → Int → Prop) (g : Int → Int → V) : R2 := fun x y H Q => ∃ i j, x = .int i ∧ y = .int j ∧ C i j ∧ Q (g i j) H
def rI0 (g : Int → Int → V) : R2 := fun x y H Q => ∃ i j, x = .int i ∧ y = .int j ∧ Q (g i j) H
def rU (g : Int → V) : V → Hp → VK → Prop := fun x H Q => ∃ i, x = .int i ∧ Q (g i) H

section
variable {X : Cx} {a b c : Expr} {ta tb tc : TE} {pos : Pos}

theorem binT (ha : PE X a ta) (hb : PE X b tb) {pins : List (Addr × Obj)} {s : Shared} {σ : St} {H : Hp} {R : V → V → Hp → Prop} (I : Inv X pins σ H s)
    (h : ta σ H fun x H1 => tb σ H1 fun y H2 => R x y H2) {Q : Value → Shared → Prop} {f : Value → Value → Sem Value}
    (hf : ∀ v u s2 x y H2, Inv X pins σ H2 s2 → RelV x v → RelV y u → R x y H2 → wpAny (model X.prog X.w) X.A (f v u) Q X.xe s2) :
    wpAny (model X.prog X.w) X.A (eval a X.env) (fun v s₁ => wpAny (model X.prog X.w) X.A (eval b X.env) (fun u s₂ => wpAny (model X.prog X.w) X.A (f v u) Q X.xe s₂) X.xe s₁) X.xe s := by
  refine thn (ha pins s σ H _ I h) fun v s1 ⟨x, H1, I1, r1, q1⟩ => ?_
  refine thn (hb pins s1 σ H1 _ I1 q1) fun u s2 ⟨y, H2, I2, r2, q2⟩ => ?_
  exact hf v u s2 x y H2 I2 r1 r2 q2

theorem pe_op {op : Operator} {r : R2} (ho : OpR X (binaryOp op) r) (ha : PE X a ta) (hb : PE X b tb) : PE X (.BinOp a op b pos) (tOp r ta tb) := by
  intro pins s σ H Q I h
  exact wpAny_BinOp (binT ha hb I h fun v u s2 x y H2 I2 rx ry q => ho pins s2 σ H2 x y v u Q I2 rx ry q)
theorem pe_un {op : UnaryOp} {r : V → Hp → VK → Prop} (ho : UnR X (unaryOp op) r) (ha : PE X a ta) : PE X (.UnaryOp op a pos) (tUn r ta) := by
  intro pins s σ H Q I h
  exact UnaryOp_ (thn (ha pins s σ H _ I h) fun v s1 ⟨x, H1, I1, r1, q1⟩ => ho pins s1 σ H1 x v Q I1 r1 q1)
/-! ### ints -/
theorem opI {f : Value → Value → Sem Value} {C : Int → Int → Prop} {g : Int → Int → Int}
    (rule : ∀ (i j : Int) (t u : Tok) (s : Shared) (Q : Value → Shared → Prop) (E : Value → Shared → Prop), C i j → Q (.int (g i j) s.toks) { s with toks := s.toks + 1 } → wpAny (model X.prog X.w) X.A (f (.int i t) (.int j u)) Q E s) :
    OpR X f (rI C fun i j => .int (g i j)) := by
  intro pins s σ H x y v u Q I rx ry h
  obtain ⟨i, j, rfl, rfl, hc, q⟩ := h
  obtain ⟨t, rfl⟩ := rx
  obtain ⟨t', rfl⟩ := ry
  exact rule i j t t' s _ _ hc ⟨.int (g i j), H, I.tok _, ⟨_, rfl⟩, q⟩
theorem opI0 {f : Value → Value → Sem Value} {g : Int → Int → Int}
    (rule : ∀ (i j : Int) (t u : Tok) (s : Shared) (Q : Value → Shared → Prop) (E : Value → Shared → Prop), Q (.int (g i j) s.toks) { s with toks := s.toks + 1 } → wpAny (model X.prog X.w) X.A (f (.int i t) (.int j u)) Q E s) :
    OpR X f (rI0 fun i j => .int (g i j)) := by
  intro pins s σ H x y v u Q I rx ry h
  obtain ⟨i, j, rfl, rfl, q⟩ := h
  obtain ⟨t, rfl⟩ := rx
  obtain ⟨t', rfl⟩ := ry
  exact rule i j t t' s _ _ ⟨.int (g i j), H, I.tok _, ⟨_, rfl⟩, q⟩
theorem opB0 {f : Value → Value → Sem Value} {g : Int → Int → Bool}
    (rule : ∀ (i j : Int) (t u : Tok) (s : Shared) (Q : Value → Shared → Prop) (E : Value → Shared → Prop), Q (.bool (g i j)) s → wpAny (model X.prog X.w) X.A (f (.int i t) (.int j u)) Q E s) :
    OpR X f (rI0 fun i j => .bl (g i j)) := by
  intro pins s σ H x y v u Q I rx ry h
  obtain ⟨i, j, rfl, rfl, q⟩ := h
  obtain ⟨t, rfl⟩ := rx
  obtain ⟨t', rfl⟩ := ry
  exact rule i j t t' s _ _ ⟨.bl (g i j), H, I, rfl, q⟩

def CDiv (i j : Int) : Prop := 0 < j ∧ j < 1073741824
def CDivN (i j : Int) : Prop := j ≠ 0 ∧ j.natAbs < 1073741824
def CPow (i j : Int) : Prop := 0 ≤ j ∧ j ≤ 1000000 ∧ i.natAbs < 2 ^ 64
def CMul (i j : Int) : Prop := (-(2 ^ 64) < i ∧ i < 2 ^ 64) ∨ (-(2 ^ 64) < j ∧ j < 2 ^ 64)
theorem CMul.ok {i j : Int} (h : CMul i j) : IntMulOk i j := by
  rcases h with ⟨h1, h2⟩ | ⟨h1, h2⟩
  · exact .of_left (intBits_le_64 h1 h2)
  · exact .of_right (intBits_le_64 h1 h2)
theorem op_add : OpR X (binaryOp .Add) (rI0 fun i j => .int (i + j)) := opI0 fun _ _ _ _ _ _ _ q => add_int q
theorem op_sub : OpR X (binaryOp .Sub) (rI0 fun i j => .int (i - j)) := opI0 fun _ _ _ _ _ _ _ q => sub_int q
theorem op_mul : OpR X (binaryOp .Mult) (rI CMul fun i j => .int (i * j)) := opI fun _ _ _ _ _ _ _ hc q => mul_int q hc.ok
/-- // by a positive divisor -/
theorem op_fdiv : OpR X (binaryOp .FloorDiv) (rI CDiv fun i j => .int (i / j)) := opI fun i j _ _ _ _ _ hc q => by
  have h1 : (0 : Int) < j := hc.1
  have h2 : j < 1073741824 := hc.2
  exact floordiv_int (by omega) (by rw [Int.fdiv_eq_ediv_of_nonneg i (by omega)]; exact q) (.inl (PyProof.noPylong_small (by omega)))
/-- % by a positive divisor of any size -/
theorem op_mod : OpR X (binaryOp .Mod) (rI (fun _ j => 0 < j) fun i j => .int (i % j)) := opI fun i j _ _ _ _ _ hc q => by
  have h1 : (0 : Int) < j := hc
  exact mod_int' (by omega) (by rw [Int.fmod_eq_emod_of_nonneg i (by omega)]; exact q)
theorem op_pow : OpR X (binaryOp .Pow) (rI CPow fun i j => .int (i ^ j.toNat)) := opI fun _ _ _ _ _ _ _ hc q => pow_int_small hc.1 hc.2.1 hc.2.2 q
theorem unI {f : Value → Sem Value} {g : Int → Int}
    (rule : ∀ (i : Int) (t : Tok) (s : Shared) (Q : Value → Shared → Prop) (E : Value → Shared → Prop), Q (.int (g i) s.toks) { s with toks := s.toks + 1 } → wpAny (model X.prog X.w) X.A (f (.int i t)) Q E s) :
    UnR X f (rU fun i => .int (g i)) := by
  intro pins s σ H x v Q I rx h
  obtain ⟨i, rfl, q⟩ := h
  obtain ⟨t, rfl⟩ := rx
  exact rule i t s _ _ ⟨.int (g i), H, I.tok _, ⟨_, rfl⟩, q⟩
theorem un_neg : UnR X (unaryOp .USub) (rU fun i => .int (-i)) := unI fun _ _ _ _ _ q => neg_int q
/-! ### bools among ints: n += (a < b) -/
end

/-! ### comparisons -/
/-- the scalars that == tells apart as data does -/
def scal : V → V → Bool
  | .non, .non => true | .non, .int _ => true | .int _, .non => true | .non, .bl _ => true | .bl _, .non => true | .non, .str _ => true | .str _, .non => true
  | .int _, .int _ => true | .bl _, .bl _ => true | .str _, .str _ => true | .byt _, .byt _ => true
  | .int _, .str _ => true | .str _, .int _ => true | .bl _, .str _ => true | .str _, .bl _ => true
  | _, _ => false
def rEq : R2 := fun x y H Q => scal x y = true ∧ Q (.bl (decide (x = y))) H
def rNe : R2 := fun x y H Q => scal x y = true ∧ Q (.bl (!decide (x = y))) H

theorem dec_int {i j : Int} : decide (V.int i = V.int j) = (i == j) := by
  rw [Bool.eq_iff_iff]
  simp
theorem dec_bl {i j : Bool} : decide (V.bl i = V.bl j) = (i == j) := by
  rw [Bool.eq_iff_iff]
  simp
theorem dec_str {i j : Str} : decide (V.str i = V.str j) = (i == j) := by
  rw [Bool.eq_iff_iff]
  simp
theorem dec_byt {i j : Array UInt8} : decide (V.byt i = V.byt j) = (i.toList == j.toList) := by
  rw [Bool.eq_iff_iff]
  cases i
  cases j
  simp

section
variable {X : Cx} {a b c : Expr} {ta tb tc : TE} {pos : Pos}
theorem fin_bl {pins : List (Addr × Obj)} {σ : St} {H : Hp} {s : Shared} {Q : VK} {k k' : Bool} (I : Inv X pins σ H s) (q : Q (.bl k) H) (e : k = k') : EP X pins σ Q (.bool k') s := by
  subst e
  exact ⟨.bl k, H, I, rfl, q⟩
theorem op_eq : OpR X (compareOp .Eq) rEq := by
  intro pins s σ H x y v u Q I rx ry h
  obtain ⟨hs, q⟩ := h
  cases x with
  | non =>
    cases rx
    cases y with
    | non => cases ry; exact PySem.EqNone.eq_none_none (fin_bl I q (by simp))
    | bl j => cases ry; exact PySem.EqNone.eq_none_bool (fin_bl I q (by simp))
    | int j => obtain ⟨t', rfl⟩ := ry; exact PySem.EqNone.eq_none_int (fin_bl I q (by simp))
    | str j => obtain ⟨t', rfl⟩ := ry; exact PySem.EqNone.eq_none_str (fin_bl I q (by simp))
    | _ => exact absurd (show false = true from hs) Bool.false_ne_true
  | bl i =>
    cases rx
    cases y with
    | non => cases ry; exact PySem.EqNone.eq_bool_none (fin_bl I q (by simp))
    | bl j => cases ry; exact eq_bool (fin_bl I q dec_bl)
    | str j => obtain ⟨t', rfl⟩ := ry; exact PySem.EqMixed.eq_bool_str (fin_bl I q (by simp))
    | _ => exact absurd (show false = true from hs) Bool.false_ne_true
  | int i =>
    obtain ⟨t, rfl⟩ := rx
    cases y with
    | non => cases ry; exact PySem.EqNone.eq_int_none (fin_bl I q (by simp))
    | int j => obtain ⟨t', rfl⟩ := ry; exact eq_int (fin_bl I q dec_int)
    | str j => obtain ⟨t', rfl⟩ := ry; exact PySem.EqMixed.eq_int_str (fin_bl I q (by simp))
    | _ => exact absurd (show false = true from hs) Bool.false_ne_true
  | str i =>
    obtain ⟨t, rfl⟩ := rx
    cases y with
    | non => cases ry; exact PySem.EqNone.eq_str_none (fin_bl I q (by simp))
    | bl j => cases ry; exact PySem.EqMixed.eq_str_bool (fin_bl I q (by simp))
    | int j => obtain ⟨t', rfl⟩ := ry; exact PySem.EqMixed.eq_str_int (fin_bl I q (by simp))
    | str j => obtain ⟨t', rfl⟩ := ry; exact eq_str (fin_bl I q dec_str)
    | _ => exact absurd (show false = true from hs) Bool.false_ne_true
  | byt i =>
    obtain ⟨t, rfl⟩ := rx
    cases y with
    | byt j => obtain ⟨t', rfl⟩ := ry; exact PySem.W.eq_bytes (fin_bl I q dec_byt)
    | _ => exact absurd (show false = true from hs) Bool.false_ne_true
  | _ => cases y <;> exact absurd (show false = true from hs) Bool.false_ne_true
theorem op_ne : OpR X (compareOp .NotEq) rNe := by
  intro pins s σ H x y v u Q I rx ry h
  obtain ⟨hs, q⟩ := h
  cases x with
  | non =>
    cases rx
    cases y with
    | non => cases ry; exact PySem.EqNone.ne_none_none (fin_bl I q (by simp))
    | bl j => cases ry; exact PySem.EqNone.ne_none_bool (fin_bl I q (by simp))
    | int j => obtain ⟨t', rfl⟩ := ry; exact PySem.EqNone.ne_none_int (fin_bl I q (by simp))
    | str j => obtain ⟨t', rfl⟩ := ry; exact PySem.EqNone.ne_none_str (fin_bl I q (by simp))
    | _ => exact absurd (show false = true from hs) Bool.false_ne_true
  | bl i =>
    cases rx
    cases y with
    | non => cases ry; exact PySem.EqNone.ne_bool_none (fin_bl I q (by simp))
    | bl j => cases ry; exact ne_bool (fin_bl I q (congrArg not dec_bl))
    | str j => obtain ⟨t', rfl⟩ := ry; exact PySem.EqMixed.ne_bool_str (fin_bl I q (by simp))
    | _ => exact absurd (show false = true from hs) Bool.false_ne_true
  | int i =>
    obtain ⟨t, rfl⟩ := rx
    cases y with
    | non => cases ry; exact PySem.EqNone.ne_int_none (fin_bl I q (by simp))
    | int j => obtain ⟨t', rfl⟩ := ry; exact ne_int (fin_bl I q (congrArg not dec_int))
    | str j => obtain ⟨t', rfl⟩ := ry; exact PySem.EqMixed.ne_int_str (fin_bl I q (by simp))
    | _ => exact absurd (show false = true from hs) Bool.false_ne_true
  | str i =>
    obtain ⟨t, rfl⟩ := rx
    cases y with
    | non => cases ry; exact PySem.EqNone.ne_str_none (fin_bl I q (by simp))
    | bl j => cases ry; exact PySem.EqMixed.ne_str_bool (fin_bl I q (by simp))
    | int j => obtain ⟨t', rfl⟩ := ry; exact PySem.EqMixed.ne_str_int (fin_bl I q (by simp))
    | str j => obtain ⟨t', rfl⟩ := ry; exact ne_str (fin_bl I q (congrArg not dec_str))
    | _ => exact absurd (show false = true from hs) Bool.false_ne_true
  | byt i =>
    obtain ⟨t, rfl⟩ := rx
    cases y with
    | byt j => obtain ⟨t', rfl⟩ := ry; exact PySem.W.ne_bytes (fin_bl I q (congrArg not dec_byt))
    | _ => exact absurd (show false = true from hs) Bool.false_ne_true
  | _ => cases y <;> exact absurd (show false = true from hs) Bool.false_ne_true

theorem op_lt : OpR X (compareOp .Lt) (rI0 fun i j => .bl (decide (i < j))) := opB0 fun _ _ _ _ _ _ _ q => lt_int q
theorem op_le : OpR X (compareOp .LtE) (rI0 fun i j => .bl (decide (i ≤ j))) := opB0 fun _ _ _ _ _ _ _ q => le_int q
theorem op_gt : OpR X (compareOp .Gt) (rI0 fun i j => .bl (decide (j < i))) := opB0 fun _ _ _ _ _ _ _ q => gt_int q
theorem op_ge : OpR X (compareOp .GtE) (rI0 fun i j => .bl (decide (j ≤ i))) := opB0 fun _ _ _ _ _ _ _ q => ge_int q
/-- the one string within the other -/
theorem op_in_str : OpR X (compareOp .In) (fun x y H Q => ∃ i j, x = .str i ∧ y = .str j ∧ Q (.bl (!(Builtin.Str.occurrences j i 0 j.length 1).isEmpty)) H) := by
  intro pins s σ H x y v u Q I rx ry h
  obtain ⟨i, j, rfl, rfl, q⟩ := h
  obtain ⟨t, rfl⟩ := rx
  obtain ⟨t', rfl⟩ := ry
  exact in_str (fin_bl I q rfl)

/-- is None, is not None: the right side a value none -/
theorem op_isN : OpR X (compareOp .Is) (fun x y H Q => y = .non ∧ Q (.bl (decide (x = .non))) H) := by
  intro pins s σ H x y v u Q I rx ry h
  obtain ⟨rfl, q⟩ := h
  cases ry
  refine is_none_gen (fin_bl I q ?_)
  cases x <;> first
    | (cases rx; rfl)
    | (obtain ⟨t, rfl⟩ := rx; rfl)
theorem op_notin_str : OpR X (compareOp .NotIn) (fun x y H Q => ∃ i j, x = .str i ∧ y = .str j ∧ Q (.bl (!(!(Builtin.Str.occurrences j i 0 j.length 1).isEmpty))) H) := by
  intro pins s σ H x y v u Q I rx ry h
  obtain ⟨i, j, rfl, rfl, q⟩ := h
  obtain ⟨t, rfl⟩ := rx
  obtain ⟨t', rfl⟩ := ry
  exact notIn_str (fin_bl I q rfl)
/-- is, is not of two objects that are tracked lists or instances -/
def isObj : HO → Bool
  | .lst _ => true
  | .ins _ _ _ => true
  | _ => false
/-- two rules for one operation: by cases -/
theorem OpR.or {f : Value → Value → Sem Value} {r r' : R2} (h : OpR X f r) (h' : OpR X f r') : OpR X f (fun x y H Q => r x y H Q ∨ r' x y H Q) := by
  intro pins s σ H x y v u Q I rx ry q
  rcases q with q | q
  · exact h pins s σ H x y v u Q I rx ry q
  · exact h' pins s σ H x y v u Q I rx ry q

theorem nomark (b : Expr) {op : CmpOp} (h : op ≠ .In := by decide) (h2 : op ≠ .NotIn := by decide) : behindInMarks op b = false := by
  have e1 : (op == CmpOp.In) = false := by cases op <;> first | rfl | exact absurd rfl h
  have e2 : (op == CmpOp.NotIn) = false := by cases op <;> first | rfl | exact absurd rfl h2
  cases b <;> simp [behindInMarks, e1, e2]
/-- a comparison as a value; hm: nomark b, or (for in, not in) by with_unfolding_all rfl -/
theorem pe_cmpR {op : CmpOp} {r : R2} (ho : OpR X (compareOp op) r) (ha : PE X a ta) (hb : PE X b tb) (hm : behindInMarks op b = false) : PE X (.Compare a [op] [b] pos) (tOp r ta tb) := by
  intro pins s σ H Q I h
  exact wpAny_Compare1 (binT ha hb I h fun v u s2 x y H2 I2 rx ry q => ho pins s2 σ H2 x y v u Q I2 rx ry q) hm
/-- a reading of a value as a test -/
def tTest (t : TE) : TT := fun σ H Q => t σ H fun x H' => ∃ k, x = .bl k ∧ Q k H'
theorem pt_cmpR {op : CmpOp} {r : R2} (ho : OpR X (compareOp op) r) (ha : PE X a ta) (hb : PE X b tb) (hm : behindInMarks op b = false) : PT X (.Compare a [op] [b] pos) (tTest (tOp r ta tb)) := by
  intro pins s σ H Q I h
  refine wpAny_isTrue_Compare1 (thn (ha pins s σ H _ I h) fun v s1 ⟨x, H1, I1, r1, q1⟩ => thn (hb pins s1 σ H1 _ I1 q1) fun u s2 ⟨y, H2, I2, r2, q2⟩ =>
    thn (ho pins s2 σ H2 x y v u _ I2 r1 r2 q2) fun c s3 ⟨z, H3, I3, r3, k, e, q3⟩ => ?_) hm
  subst e
  cases r3
  exact wpAny_truthy_bool ⟨H3, I3, q3⟩
/-- a op1 b op2 c -/
def tChain (r r' : R2) (ta tb tc : TE) : TE := fun σ H Q => ta σ H fun x H1 => tb σ H1 fun y H2 => r x y H2 fun z H3 => ∃ k, z = .bl k ∧
  (if k = true then tc σ H3 fun w' H4 => r' y w' H4 Q else Q (.bl false) H3)
theorem pe_chain {op op' : CmpOp} {r r' : R2} (ho : OpR X (compareOp op) r) (ho' : OpR X (compareOp op') r') (ha : PE X a ta) (hb : PE X b tb) (hc : PE X c tc)
    (hm : lastMarks [op, op'] [b, c] = false := by with_unfolding_all rfl) : PE X (.Compare a [op, op'] [b, c] pos) (tChain r r' ta tb tc) := by
  intro pins s σ H Q I h
  refine Compare_chain (thn (ha pins s σ H _ I h) fun v s1 ⟨x, H1, I1, r1, q1⟩ => chain_link (thn (hb pins s1 σ H1 _ I1 q1) fun u s2 ⟨y, H2, I2, r2, q2⟩ =>
    thn (ho pins s2 σ H2 x y v u _ I2 r1 r2 q2) fun d s3 ⟨z, H3, I3, r3, k, e, q3⟩ => ?_)) hm
  subst e
  cases r3
  refine wpAny_truthy_bool ?_
  cases k with
  | false => exact ite_ff ⟨.bl false, H3, I3, rfl, q3⟩
  | true => exact ite_tt (chain_last (thn (hc pins s3 σ H3 _ I3 q3) fun w' s4 ⟨z', H4, I4, r4, q4⟩ => ho' pins s4 σ H4 y z' u w' Q I4 r2 r4 q4))
theorem pt_chain {op op' : CmpOp} {r r' : R2} (ho : OpR X (compareOp op) r) (ho' : OpR X (compareOp op') r') (ha : PE X a ta) (hb : PE X b tb) (hc : PE X c tc)
    (hm : lastMarks [op, op'] [b, c] = false := by with_unfolding_all rfl) : PT X (.Compare a [op, op'] [b, c] pos) (tTest (tChain r r' ta tb tc)) := by
  intro pins s σ H Q I h
  refine isTrue_chain (thn (ha pins s σ H _ I h) fun v s1 ⟨x, H1, I1, r1, q1⟩ => test_link (thn (hb pins s1 σ H1 _ I1 q1) fun u s2 ⟨y, H2, I2, r2, q2⟩ =>
    thn (ho pins s2 σ H2 x y v u _ I2 r1 r2 q2) fun d s3 ⟨z, H3, I3, r3, k, e, q3⟩ => ?_)) hm
  subst e
  cases r3
  refine wpAny_truthy_bool ?_
  cases k with
  | false =>
    obtain ⟨k', e', q'⟩ := q3
    cases e'
    exact ite_ff ⟨H3, I3, q'⟩
  | true =>
    refine ite_tt (test_last (thn (hc pins s3 σ H3 _ I3 q3) fun w' s4 ⟨z', H4, I4, r4, q4⟩ => thn (ho' pins s4 σ H4 y z' u w' _ I4 r2 r4 q4) fun d' s5 ⟨z2, H5, I5, r5, k2, e2, q5⟩ => ?_))
    subst e2
    cases r5
    exact wpAny_truthy_bool ⟨H5, I5, q5⟩

/-! ### truth -/
/-- a value's truth by the abstract heap -/
def TruV (K : PySem.W.Frag) (x : V) (H : Hp) (k : Bool) : Prop :=
  match x with
  | .non => k = false
  | .bl b => k = b
  | .int i => k = (i != 0)
  | .str y => y.length ≤ sizeLine ∧ k = ((y.length : Int) != 0)
  | .byt y => y.size ≤ sizeLine ∧ k = ((y.size : Int) != 0)
  | .ref p => (∃ xs, SqL K H p xs ∧ k = !xs.isEmpty) ∨ (∃ xs, SqT K H p xs ∧ k = !xs.isEmpty) ∨ ∃ kvs, H p = some (.dK kvs) ∧ k = !kvs.isEmpty
  | _ => False
theorem isEmpty_kv {κ : Type} {kvs : List (κ × V)} {vs : List (κ × Value)} (r : KV kvs vs) : (!vs.isEmpty) = !kvs.isEmpty := by
  cases r <;> rfl
theorem isEmpty_of {xs : List V} {its : List Value} (r : Vals xs its) : (!its.toArray.isEmpty) = !xs.isEmpty := by
  cases r <;> simp
theorem line63 : (sizeLine : Nat) < 2 ^ 63 := by rw [sizeLine_eq]; decide
theorem tru_ok : TruR X (fun x H Q => ∃ k, TruV X.K x H k ∧ Q k H) := by
  intro pins s σ H x v Q I rx h
  obtain ⟨k, e, q⟩ := h
  have hl := line63
  have hs : sizeLine = 16777216 := sizeLine_eq
  cases x with
  | non =>
    cases rx
    have e' : k = false := e
    subst e'
    exact truthy_none ⟨H, I, q⟩
  | bl b =>
    cases rx
    have e' : k = b := e
    subst e'
    exact wpAny_truthy_bool ⟨H, I, q⟩
  | int i =>
    obtain ⟨t, rfl⟩ := rx
    have e' : k = (i != 0) := e
    subst e'
    exact PySem.P.truthy_int ⟨H, I, q⟩
  | str y =>
    obtain ⟨t, rfl⟩ := rx
    obtain ⟨hy, e'⟩ : y.length ≤ sizeLine ∧ k = ((y.length : Int) != 0) := e
    subst e'
    exact PySem.P.truthy_str (by omega) ⟨H, I.tok _, q⟩
  | byt y =>
    obtain ⟨t, rfl⟩ := rx
    obtain ⟨hy, e'⟩ : y.size ≤ sizeLine ∧ k = ((y.size : Int) != 0) := e
    subst e'
    exact PySem.W.truthy_bytes (by omega) ⟨H, I.tok _, q⟩
  | ref p =>
    cases rx
    have e' : (∃ xs, SqL X.K H p xs ∧ k = !xs.isEmpty) ∨ (∃ xs, SqT X.K H p xs ∧ k = !xs.isEmpty) ∨ ∃ kvs, H p = some (.dK kvs) ∧ k = !kvs.isEmpty := e
    rcases e' with ⟨xs, hx, e'⟩ | ⟨xs, hx, e'⟩ | ⟨kvs, hx, e'⟩
    · subst e'
      obtain ⟨its, r, pl, hz⟩ := I.list hx
      have hlen := r.length
      exact wpAny_truthy_list pl.isList (by simp only [List.size_toArray]; omega) ⟨H, I.tok _, by rw [isEmpty_of r]; exact q⟩
    · subst e'
      obtain ⟨its, r, pl, hz⟩ := I.tuple hx
      have hlen := r.length
      exact truthy_tuple pl (by simp only [List.size_toArray]; omega) ⟨H, I.tok _, by rw [isEmpty_of r]; exact q⟩
    · subst e'
      obtain ⟨hz, hS, vs, r, m⟩ : kvs.length ≤ sizeLine ∧ (p == sysModules) = false ∧ ∃ vs, KV kvs vs ∧ s.heap.DictOf (mixKind X.prog X.w) p vs := I.hok p _ hx
      have hlen : kvs.length = vs.length := Paired.length r
      exact wpAny_truthy_dict hS m (by omega) ⟨H, I.tok _, by rw [isEmpty_kv r]; exact q⟩
  | _ => exact (show False from e).elim
/-- any expression whose test is its value's truth (a name, a call, a subscript, a field ..: he by fun _ => rfl) -/
theorem pt_truth (ha : PE X a ta) (he : ∀ whole, isTrue a X.env whole = (do let v ← whole; standAt a.pos; holding [v] (truthy v))) :
    PT X a (fun σ H Q => ta σ H fun x H' => ∃ k, TruV X.K x H' k ∧ Q k H') := by
  intro pins s σ H Q I h
  exact isTrue_plain (thn (ha pins s σ H _ I h) fun v s1 ⟨x, H1, I1, r1, q1⟩ => tru_ok pins s1 σ H1 x v Q I1 r1 q1) (he _)

/-! ### strs and bytes -/
theorem op_add_str : OpR X (binaryOp .Add) (fun x y H Q => ∃ i j, x = .str i ∧ y = .str j ∧ i.length + j.length ≤ sizeLine ∧ Q (.str (i ++ j)) H) := by
  intro pins s σ H x y v u Q I rx ry h
  obtain ⟨i, j, rfl, rfl, hz, q⟩ := h
  obtain ⟨t, rfl⟩ := rx
  obtain ⟨t', rfl⟩ := ry
  exact add_str (fun t' tk => ⟨.str (i ++ j), H, I.tok _, ⟨_, rfl⟩, q⟩) hz
def PlainIxT (b : Expr) : Prop := ∀ o i, subscripted b false o i = operate [o, i] (getItem o i)
/-! ### scalar builtins, by CallR -/
theorem vals1 {x : V} {us : List Value} (r : Vals [x] us) : ∃ u, us = [u] ∧ RelV x u := by
  cases r with
  | cons r1 r2 => cases r2; exact ⟨_, rfl, r1⟩
theorem vals2 {x y : V} {us : List Value} (r : Vals [x, y] us) : ∃ u w', us = [u, w'] ∧ RelV x u ∧ RelV y w' := by
  cases r with
  | cons r1 r2 =>
    cases r2 with
    | cons r3 r4 => cases r4; exact ⟨_, _, rfl, r1, r3⟩
theorem call_str_int : CallR X (.type "str") (fun xs H Q => ∃ i, xs = [.int i] ∧ i.natAbs.log2 < 1920 ∧ Q (.str (toString i)) H) := by
  intro pins s σ H xs us Q I r h
  obtain ⟨i, rfl, hz, q⟩ := h
  obtain ⟨u, rfl, t, rfl⟩ := vals1 r
  exact PySem.P.str_of_int hz ⟨.str _, H, I.tok _, ⟨_, rfl⟩, q⟩
/-- len of a str, a bytes, a list, a tuple -/
def LenV (K : PySem.W.Frag) (x : V) (H : Hp) (n : Nat) : Prop :=
  match x with
  | .str y => y.length ≤ sizeLine ∧ n = y.length
  | .byt y => y.size ≤ sizeLine ∧ n = y.size
  | .ref p => (∃ xs, SqL K H p xs ∧ n = xs.length) ∨ ∃ xs, SqT K H p xs ∧ n = xs.length
  | _ => False
end
end L2

namespace L2
open PySem PySem.Spec PyProof.Rows

/-! ### an instance, its attributes a map -/
structure ObjM (h : Heap) (x dx C : Addr) (mA : Str → Option Value) : Prop where
  obj : h.get? x = some (PySem.W.instObj C dx)
  ns : h.Ns1 dx mA
  ne : dx ≠ x

theorem lookIn_ns {h : Heap} {dx : Addr} {mA : Str → Option Value} (n : h.Ns1 dx mA) : ∃ od, h.get? dx = some od ∧ ∀ name, PySem.W.lookIn name od = some (mA name) := by
  obtain ⟨o, es, ep, ho, hd, hk, _, hm⟩ := n
  refine ⟨o, ho, fun name => ?_⟩
  have e := hm name
  unfold nsFind findBy at e
  rw [← Array.find?_toList] at e
  unfold PySem.W.lookIn
  rw [hd]
  dsimp only
  split
  · rename_i y q
    rw [q] at e
    exact congrArg some e
  · rename_i q
    rw [q] at e
    have a : es.toList.any (·.refKey) = false := by
      rw [List.any_eq_false]
      intro y hy
      obtain ⟨z, t, hkey⟩ := hk y (Array.mem_toList_iff.mp hy)
      simp [DictEntry.refKey, hkey]
    have a' : ¬ es.toList.any (·.refKey) = true := by rw [a]; exact Bool.false_ne_true
    rw [if_neg a']
    exact congrArg some e

theorem ObjM.look {h : Heap} {x dx C : Addr} {mA : Str → Option Value} (I : ObjM h x dx C mA) : ∃ od, PySem.W.InstAt h x (PySem.W.instObj C dx) C (some od) ∧ ∀ name, PySem.W.lookIn name od = some (mA name) :=
  let ⟨od, ho, hl⟩ := lookIn_ns I.ns
  ⟨od, ⟨I.obj, rfl, rfl, ho⟩, hl⟩

section
variable {prog : Program} {w : World} {A : Around} {E : Value → Shared → Prop} {s : Shared} {K : PySem.W.Frag} {x dx C f : Addr} {mA : Str → Option Value} {name : Str} {v : Value}

theorem get_map {expr : Bool} {Q : Value → Shared → Prop} (X : K.In s.heap) (I : ObjM s.heap x dx C mA) (hg : PySem.W.plainGet K C name = true) (hh : PySem.W.hasDictIn K C = true)
    (ha : PySem.W.findIn K (.ref C) name = some none) (hv : mA name = some v) (hv' : PySem.W.handedIn v = true) (h : Q v { s with toks := s.toks + 1 }) :
    wpAny (model prog w) A (getAttr (.ref x) name expr) Q E s := by
  obtain ⟨od, J, hl⟩ := I.look
  exact PySem.W.get_value X J (PySem.W.plainGet_of hg).1 (PySem.W.findObj_own hh ha rfl (by rw [hl, hv])) hv' h

theorem get_meth {pl : Sem Bool} {Q : Value × List Value → Shared → Prop} (X : K.In s.heap) (I : ObjM s.heap x dx C mA) (hg : PySem.W.plainGet K C name = true)
    (hf : PySem.W.findIn K (.ref C) name = some (some (.ref f))) (ht : PySem.W.isFn K (.ref f) = true) (hv : mA name = none) (h : Q (.ref f, [.ref x]) s) :
    wpAny (model prog w) A (getMethod (.ref x) name pl) Q E s := by
  obtain ⟨od, J, hl⟩ := I.look
  exact PySem.W.method_fn X J (PySem.W.plainGet_of hg).1 (PySem.W.plainGet_of hg).2 hf (beq_iff_eq.mp ht) (by show (PySem.W.lookIn name od).map (·.isSome) = some false; rw [hl, hv]; rfl) h

theorem set_map {ns : List Str} {Q : Unit → Shared → Prop} (X : K.In s.heap) (I : ObjM s.heap x dx C mA)
    (hs : PySem.W.findIn K (.ref C) "__setattr__" = some (some (.builtin "object.__setattr__"))) (hp : PySem.W.plainOver K C = true) (ht : PySem.W.takerIn K C name = some none) (hh : PySem.W.hasDictIn K C = true)
    (hw : PySem.Within mA ns) (hsz : ns.length ≤ sizeLine)
    (h : ∀ h', ObjM h' x dx C (fun y => if y = name then some v else mA y) → Heap.SameBut dx s.heap h' → Q () { s with heap := h', toks := s.toks + 2 }) :
    wpAny (model prog w) A (setAttr (.ref x) name v) Q E s := by
  obtain ⟨od, J, hl⟩ := I.look
  refine PySem.W.set_plain X J hs (PySem.W.osa_open (s := { s with toks := s.toks + 1 }) (r := none) X J hp ht fun b => ?_)
  obtain ⟨cd, hc, hd'⟩ := PySem.W.any_some hh
  have hx : s.heap.get? x = some ⟨.ref C, some dx, .plain, #[]⟩ := I.obj
  refine wpAny_bind (wpAny_pure (wpAny_bind (wpAny_bind (wpAny_loadPart hx (wpAny_bind (PySem.W.Looks.here (s := { s with toks := s.toks + 1 }) (PySem.W.looks_clsIn X hc) ?_))))))
  rw [hd']
  refine wpAny_pure (a := some dx) (wpAny_bind (wpAny_pure (wpAny_bind ?_)))
  refine wpAny_nsSet1 (s := { s with toks := s.toks + 1 }) I.ns fun h' hn2 hs2 => ?_
  obtain ⟨oD, esD, epD, hoD, hdD, hcD⟩ := hn2.count (PySem.Within.cons name v hw)
  refine wpAny_bind (wpAny_lookBehind hoD (by rw [hdD]; exact pastItsLine_dict (Nat.le_trans hcD (by rw [List.length_cons]; omega))) ?_)
  exact wpAny_pure (h _ ⟨(hs2.2 _ (Ne.symm I.ne)).trans I.obj, hn2, I.ne⟩ hs2)

/-- C(..): the dict at the heap's end, the instance behind it; then its __init__ -/
theorem make_map {R : Result → Shared → Prop} {vs : List Value} {kw : List (Str × Value)} (X : K.In s.heap) (hm : PySem.W.makesIn K C = true)
    (hi : PySem.W.findIn K (.ref C) "__init__" = some (some (.ref f))) (hf : PySem.W.typeIn K (.ref f) = some (.type "function"))
    (h : codeAny (model prog w) (A.under (.builtin "type.__call__" ⟨.ref C :: vs, kw⟩)) (.call (.ref f) ⟨.ref (s.heap.objs.size + 1) :: vs, kw⟩) (PySem.W.InitBack (s.heap.objs.size + 1) R)
      { s with heap := (s.heap.push PySem.W.emptyDict).push (PySem.W.instObj C s.heap.objs.size) }) :
    codeAny (model prog w) A (.call (.ref C) ⟨vs, kw⟩) R s := by
  obtain ⟨hh, g, d, t, os⟩ := s
  exact PySem.W.make_core (PySem.W.makes_of X hm) (PySem.W.looks_findIn X hi) (fun self => PySem.W.bind_fn X self hf) (.inl rfl) h
end

/-! ### the attributes as a list of pairs -/
def putF (f : Str) (v : V) : List (Str × V) → List (Str × V)
  | [] => [(f, v)]
  | (g, x) :: r => if g = f then (g, v) :: r else (g, x) :: putF f v r
theorem lookup_putF (f g : Str) (v : V) : ∀ fs : List (Str × V), (putF f v fs).lookup g = if g = f then some v else fs.lookup g
  | [] => by
    show List.lookup g [(f, v)] = _
    by_cases h : g = f
    · have hb : (g == f) = true := beq_iff_eq.mpr h
      simp only [List.lookup, hb, if_pos h]
    · have hb : (g == f) = false := beq_eq_false_iff_ne.mpr h
      simp only [List.lookup, hb, if_neg h]
  | (k, x) :: r => by
    have ih := lookup_putF f g v r
    rw [show putF f v ((k, x) :: r) = (if k = f then (k, v) :: r else (k, x) :: putF f v r) from rfl]
    by_cases hk : k = f
    · rw [if_pos hk]
      by_cases h : g = k
      · have hb : (g == k) = true := beq_iff_eq.mpr h
        simp only [List.lookup, hb, if_pos (h.trans hk)]
      · have hb : (g == k) = false := beq_eq_false_iff_ne.mpr h
        simp only [List.lookup, hb, if_neg (fun e : g = f => h (e.trans hk.symm))]
    · rw [if_neg hk]
      by_cases h : g = k
      · have hb : (g == k) = true := beq_iff_eq.mpr h
        simp only [List.lookup, hb, if_neg (fun e : g = f => hk (h.symm.trans e))]
      · have hb : (g == k) = false := beq_eq_false_iff_ne.mpr h
        simp only [List.lookup, hb]
        exact ih
theorem keys_putF (f : Str) (v : V) : ∀ fs : List (Str × V), f ∈ (putF f v fs).map (·.1) ∧ ∀ g, g ∈ fs.map (·.1) → g ∈ (putF f v fs).map (·.1)
  | [] => ⟨by simp [putF], fun g h => by simp at h⟩
  | (k, x) :: r => by
    obtain ⟨i1, i2⟩ := keys_putF f v r
    rw [show putF f v ((k, x) :: r) = (if k = f then (k, v) :: r else (k, x) :: putF f v r) from rfl]
    by_cases hk : k = f
    · rw [if_pos hk]
      subst hk
      exact ⟨by simp, fun g h => by simpa using h⟩
    · rw [if_neg hk]
      refine ⟨?_, fun g h => ?_⟩
      · rw [List.map_cons]
        exact List.mem_cons_of_mem _ i1
      · rw [List.map_cons] at h ⊢
        rcases List.mem_cons.mp h with e | e
        · exact List.mem_cons.mpr (.inl e)
        · exact List.mem_cons_of_mem _ (i2 g e)
theorem length_putF (f : Str) (v : V) : ∀ fs : List (Str × V), (putF f v fs).length ≤ fs.length + 1
  | [] => by simp [putF]
  | (k, x) :: r => by
    have ih := length_putF f v r
    rw [show putF f v ((k, x) :: r) = (if k = f then (k, v) :: r else (k, x) :: putF f v r) from rfl]
    by_cases hk : k = f
    · rw [if_pos hk, List.length_cons, List.length_cons]; omega
    · rw [if_neg hk, List.length_cons, List.length_cons]; omega

theorem RelO.some_of {v : V} {o : Option Value} (r : RelO (some v) o) : ∃ u, o = some u ∧ RelV v u := by
  cases o with
  | none => exact (show False from r).elim
  | some u => exact ⟨u, rfl, r⟩
theorem RelO.none_of {o : Option Value} (r : RelO none o) : o = none := by
  cases o with
  | none => rfl
  | some u => exact (show False from r).elim
theorem handed_of {v : V} {u : Value} (r : RelV v u) : PySem.W.handedIn u = true := by
  cases v with
  | non => cases (show u = Value.none from r); rfl
  | bl b => cases (show u = Value.bool b from r); rfl
  | int i => obtain ⟨t, e⟩ := (show ∃ t, u = Value.int i t from r); cases e; rfl
  | str x => obtain ⟨t, e⟩ := (show ∃ t, u = Value.str x t from r); cases e; rfl
  | byt b => obtain ⟨t, e⟩ := (show ∃ t, u = Value.bytes b t from r); cases e; rfl
  | flt b => obtain ⟨t, e⟩ := (show ∃ t, u = Value.float b t from r); cases e; rfl
  | ref a => cases (show u = Value.ref a from r); rfl
  | ty n => cases (show u = Value.type n from r); rfl

section
variable {P : Program} {w : World} {H H' : Hp} {h h' : Heap} {a C dx : Addr} {fs fs' : List (Str × V)}
theorem ins_get (hok : HOk P w H h) (e : H a = some (.ins C dx fs)) : ∃ mA, ObjM h a dx C mA ∧ (∀ f, RelO (fs.lookup f) (mA f)) ∧ PySem.Within mA (fs.map (·.1)) ∧ fs.length ≤ 1000 ∧ H dx = some (.own a) := by
  obtain ⟨d, z, ne, ob, mA, n, r, q⟩ := (show ObjOk P w H h a (.ins C dx fs) from hok a _ e)
  exact ⟨mA, ⟨ob, n, ne⟩, r, q, z, d⟩
end

/-! ### what of the text a class must have -/
structure Cls (K : PySem.W.Frag) (C : Addr) : Prop where
  pg : PySem.W.plainGet K C Str.empty = true
  hd : PySem.W.hasDictIn K C = true
  po : PySem.W.plainOver K C = true
  sa : PySem.W.findIn K (.ref C) "__setattr__" = some (some (.builtin "object.__setattr__"))
theorem Cls.get {K : PySem.W.Frag} {C : Addr} (c : Cls K C) (f : Str) : PySem.W.plainGet K C f = true := c.pg
/-- no class of it has the name -/
def NoAttr (K : PySem.W.Frag) (C : Addr) (f : Str) : Prop := PySem.W.findIn K (.ref C) f = some none
theorem NoAttr.taker {K : PySem.W.Frag} {C : Addr} {f : Str} (n : NoAttr K C f) : PySem.W.takerIn K C f = some none := by
  unfold PySem.W.takerIn
  rw [show PySem.W.findIn K (.ref C) f = some none from n]
  rfl
/-- a constant of the class -/
structure Con (K : PySem.W.Frag) (C : Addr) (f : Str) (v : V) (u : Value) : Prop where
  at_ : PySem.W.findIn K (.ref C) f = some (some u)
  rel : RelV v u
  get : PySem.W.specialIn K u "__get__" = some none
  cp : PySem.W.copiedNames.contains f = false
/-- a method: a plain def of the class or of one above it -/
structure Meth (K : PySem.W.Frag) (C : Addr) (m : Str) (f : Addr) : Prop where
  at_ : PySem.W.findIn K (.ref C) m = some (some (.ref f))
  fn : PySem.W.isFn K (.ref f) = true
  kp : PySem.W.keepIn K (.ref f) = true

section
variable {X : Cx} {pins : List (Addr × Obj)} {σ : St} {H : Hp} {s : Shared} {a C dx : Addr} {fs : List (Str × V)} {f : Str} {v : V} {A : Around} {E : Value → Shared → Prop}

theorem getattr_ok {b : Bool} {Q : Value → Shared → Prop} (I : Inv X pins σ H s) (e : H a = some (.ins C dx fs)) (c : Cls X.K C) (n : NoAttr X.K C f) (l : fs.lookup f = some v)
    (h : ∀ u s', Inv X pins σ H s' → RelV v u → Q u s') : wpAny (model X.prog X.w) A (getAttr (.ref a) f b) Q E s := by
  obtain ⟨mA, O, r, _, _, _⟩ := ins_get I.hok e
  obtain ⟨u, hu, ru⟩ := RelO.some_of (v := v) (o := mA f) (by rw [← l]; exact r f)
  exact get_map I.kIn O (c.get f) c.hd n hu (handed_of ru) (h u _ (I.tok _) ru)

theorem getmeth_ok {m : Str} {g : Addr} {pl : Sem Bool} {Q : Value × List Value → Shared → Prop} (I : Inv X pins σ H s) (e : H a = some (.ins C dx fs)) (c : Cls X.K C) (k : Meth X.K C m g) (l : fs.lookup m = none)
    (h : Q (.ref g, [.ref a]) s) : wpAny (model X.prog X.w) A (getMethod (.ref a) m pl) Q E s := by
  obtain ⟨mA, O, r, _, _, _⟩ := ins_get I.hok e
  have hn : mA m = none := RelO.none_of (by rw [← l]; exact r m)
  exact get_meth I.kIn O (c.get m) k.at_ k.fn hn h

theorem setattr_ok {y : V} {u : Value} {Q : Unit → Shared → Prop} (I : Inv X pins σ H s) (e : H a = some (.ins C dx fs)) (c : Cls X.K C) (n : NoAttr X.K C f) (hl : fs.length < 1000) (ry : RelV y u)
    (h : ∀ s', Inv X pins σ (upd H a (.ins C dx (putF f y fs))) s' → Q () s') : wpAny (model X.prog X.w) A (setAttr (.ref a) f u) Q E s := by
  obtain ⟨mA, O, r, wi, _, ho⟩ := ins_get I.hok e
  have hz : (fs.map (·.1)).length ≤ sizeLine := by rw [List.length_map, sizeLine_eq]; omega
  refine set_map I.kIn O c.sa c.po n.taker c.hd wi hz fun h' O' sb => h _ ?_
  have hd : ∃ o, h'.get? dx = some o := let ⟨o, _, _, e', _⟩ := O'.ns; ⟨o, e'⟩
  refine I.write (x := a) (e := dx) (by rw [e]; exact True.intro) (.inr ho) (fun b q hb z => (sb.2 b hb).trans z) hd ?_
  refine ⟨by rw [upd_ne O.ne]; exact ho, ?_, O.ne, O'.obj, _, O'.ns, fun g => ?_, fun g hg => ?_⟩
  · have := length_putF f y fs; omega
  · show RelO ((putF f y fs).lookup g) (if g = f then some u else mA g)
    rw [lookup_putF]
    by_cases q : g = f
    · rw [if_pos q, if_pos q]; exact ry
    · rw [if_neg q, if_neg q]; exact r g
  · by_cases q : g = f
    · rw [q]; exact (keys_putF f y fs).1
    · refine (keys_putF f y fs).2 g (wi g fun z => hg ?_)
      show (if g = f then some u else mA g) = none
      rw [if_neg q]; exact z

/-- a new instance, tracked, without attributes -/
theorem Inv.made (I : Inv X pins σ H s) : Inv X pins σ (upd (upd H s.heap.objs.size (.own (s.heap.objs.size + 1))) (s.heap.objs.size + 1) (.ins C s.heap.objs.size []))
    { s with heap := (s.heap.push PySem.W.emptyDict).push (PySem.W.instObj C s.heap.objs.size) } := by
  have e1 : (s.heap.push PySem.W.emptyDict).get? s.heap.objs.size = some PySem.W.emptyDict := Heap.get?_push_size s.heap rfl
  have e2 : ((s.heap.push PySem.W.emptyDict).push (PySem.W.instObj C s.heap.objs.size)).get? (s.heap.objs.size + 1) = some (PySem.W.instObj C s.heap.objs.size) := by
    have := Heap.get?_push_size (s.heap.push PySem.W.emptyDict) (o := PySem.W.instObj C s.heap.objs.size) rfl
    rwa [Heap.size_push] at this
  have e3 : (s.heap.push PySem.W.emptyDict).Ns s.heap.objs.size (fun _ => none) := ⟨PySem.W.emptyDict, #[], _, e1, rfl, (fun e he => absurd he (by simp)), fun _ => rfl⟩
  have I1 := I.laid (a := s.heap.objs.size) (o := .own (s.heap.objs.size + 1)) (h' := s.heap.push PySem.W.emptyDict) (t' := s.toks) (fun b u q => Heap.get?_push_of_some _ q) (Nat.le_refl _) ⟨_, e1⟩
  refine I1.laid (a := s.heap.objs.size + 1) (o := .ins C s.heap.objs.size []) (t' := s.toks) (fun b u q => Heap.get?_push_of_some _ q) (Nat.le_of_eq (Heap.size_push _ _)) ?_
  have ne : s.heap.objs.size ≠ s.heap.objs.size + 1 := Nat.ne_of_lt (Nat.lt_succ_self _)
  refine ⟨by rw [upd_ne ne, upd_same], Nat.zero_le _, ne, e2, fun _ => none, (Heap.Ns1.of_empty e3).at fun o q => Heap.get?_push_of_some _ q, fun _ => True.intro, fun y hy => absurd rfl hy⟩

/-- e.f where nothing but the object is asked: through attributeBase (super) and the last hold -/
theorem attr_of {prog : Program} {w : World} {env : Env} {e : Expr} {f : Str} {pos : Pos} {s : Shared} {Q : Value → Shared → Prop} (hb : attributeBase e f env (eval e env) = eval e env)
    (h : wpAny (model prog w) A (eval e env) (fun o s₁ => wpAny (model prog w) A (getAttr o f true) Q E s₁) E s) : wpAny (model prog w) A (eval (.Attribute e f pos) env) Q E s :=
  Attribute_any_ h (by rw [arm_eval_Attribute, hb])
end

/-! ### readings and rules -/
/-- e.f, an attribute of the instance -/
def tFld (K : PySem.W.Frag) (ta : TE) (f : Str) : TE := fun σ H Q => ta σ H fun x H1 => ∃ a C dx fs v, x = .ref a ∧ H1 a = some (.ins C dx fs) ∧ Cls K C ∧ NoAttr K C f ∧ fs.lookup f = some v ∧ Q v H1
/-- e.f, a constant of the class -/
def tCon (K : PySem.W.Frag) (ta : TE) (f : Str) : TE := fun σ H Q => ta σ H fun x H1 => ∃ a C dx fs v u, x = .ref a ∧ H1 a = some (.ins C dx fs) ∧ Cls K C ∧ Con K C f v u ∧ fs.lookup f = none ∧ Q v H1
/-- e.f = value -/
def sFld (K : PySem.W.Frag) (ta tv : TE) (f : Str) : TS := fun D σ H => tv σ H fun y H1 => ta σ H1 fun x H2 => ∃ a C dx fs, x = .ref a ∧ H2 a = some (.ins C dx fs) ∧ Cls K C ∧ NoAttr K C f ∧ fs.length < 1000 ∧
  D.nx σ (upd H2 a (.ins C dx (putF f y fs)))
/-- an augmented operator on two values -/
def InOp (X : Cx) (op : Operator) (rd : V → V → Hp → VK → Prop) : Prop :=
  ∀ (pins : List (Addr × Obj)) (s : Shared) (σ : St) (H : Hp) (x y : V) (u v : Value) (Q : VK), Inv X pins σ H s → RelV x u → RelV y v → rd x y H Q → wpAny (model X.prog X.w) X.A (inplaceOp op u v) (EP X pins σ Q) X.xe s
/-- e.f op= value -/
def sFldAug (K : PySem.W.Frag) (ta tv : TE) (rd : V → V → Hp → VK → Prop) (f : Str) : TS := fun D σ H => ta σ H fun x H1 => ∃ a C dx fs v, x = .ref a ∧ H1 a = some (.ins C dx fs) ∧ Cls K C ∧ NoAttr K C f ∧ fs.lookup f = some v ∧
  tv σ H1 fun y H2 => rd v y H2 fun z H3 => ∃ dx' fs', H3 a = some (.ins C dx' fs') ∧ fs'.length < 1000 ∧ D.nx σ (upd H3 a (.ins C dx' (putF f z fs')))

section
variable {X : Cx} {o e value : Expr} {f : Str} {pos pos' tpos : Pos} {ta tv : TE}
theorem pe_fld (he : PE X e ta) (hb : attributeBase e f X.env (eval e X.env) = eval e X.env) : PE X (.Attribute e f pos) (tFld X.K ta f) := by
  intro pins s σ H Q I h
  refine attr_of hb (thn (he pins s σ H _ I h) fun u s1 ⟨x, H1, I1, rx, a, C, dx, fs, v, ex, ea, c, n, l, q⟩ => ?_)
  subst ex
  obtain rfl : u = Value.ref a := rx
  exact getattr_ok I1 ea c n l fun u' s2 I2 ru => ⟨v, H1, I2, ru, q⟩
theorem ps_fld (ha : PE X o ta) (hv : PE X value tv) (hs : swapsWith value (some (.Attribute o f pos')) pos.line X.env = pure false) : PS X (.Assign [.Attribute o f pos'] value pos) (sFld X.K ta tv f) := by
  intro pins s σ H D I h
  refine plainObj_wpAny_Assign_Attribute (thn (hv pins s σ H _ I h) fun u s1 ⟨y, H1, I1, ry, q⟩ => thn (ha pins s1 σ H1 _ I1 q) fun ov s2 ⟨x, H2, I2, rx, a, C, dx, fs, ex, ea, c, n, l, q2⟩ => ?_) hs
  subst ex
  obtain rfl : ov = Value.ref a := rx
  exact setattr_ok I2 ea c n l ry fun s3 I3 => ⟨σ, _, I3, q2⟩
def rAdd : V → V → Hp → VK → Prop := fun x y H Q => ∃ i j, x = .int i ∧ y = .int j ∧ Q (.int (i + j)) H
def rSub : V → V → Hp → VK → Prop := fun x y H Q => ∃ i j, x = .int i ∧ y = .int j ∧ Q (.int (i - j)) H
/-- what is between an instance and its method: the tree of a method call -/
theorem methcall_of {pl : Sem Bool} {m : Str} {apos : Pos} {args : List Expr} {pins : List (Addr × Obj)} {s : Shared} {σ : St} {H : Hp} {Q : Value → Shared → Prop} {te : TE} (he : PE X e te) (I : Inv X pins σ H s)
    (h : te σ H fun x H1 => ∃ a C dx fs g, x = .ref a ∧ H1 a = some (.ins C dx fs) ∧ Cls X.K C ∧ Meth X.K C m g ∧ fs.lookup m = none ∧
      ∀ s1, Inv X pins σ H1 s1 → wpAny (model X.prog X.w) X.A (callWith pos (.ref g) [.ref a] (backTo pos (starEach args X.env)) (backToKw pos (keywordEach [] X.env))) Q X.xe s1)
    (ht : eval (.Call (.Attribute e m apos) args [] pos) X.env = (do
      let ov ← eval e X.env
      standAt apos.atName
      let (f, first) ← holding [ov] (getMethod ov m pl)
      callWith pos f first (backTo pos (starEach args X.env)) (backToKw pos (keywordEach [] X.env)))) :
    wpAny (model X.prog X.w) X.A (eval (.Call (.Attribute e m apos) args [] pos) X.env) Q X.xe s := by
  refine PySem.W.methodCall_KW (pl := pl) (thn (he pins s σ H _ I h) fun u s1 ⟨x, H1, I1, rx, a, C, dx, fs, g, ex, ea, c, k, l, q⟩ => ?_) ht
  subst ex
  obtain rfl : u = Value.ref a := rx
  exact getmeth_ok I1 ea c k l (q s1 I1)
end

/-! ### isinstance -/
section
variable {X : Cx} {pins : List (Addr × Obj)} {σ : St} {H : Hp} {s : Shared} {A : Around} {E : Value → Shared → Prop} {Q : Value → Shared → Prop} {c : Value} {b : Bool}
/-- the type of a value, as the fragment's deciders take it; for an instance its class -/
inductive TyOf (K : PySem.W.Frag) (H : Hp) : V → Value → Prop where
  | non : TyOf K H .non (.type "NoneType")
  | bl (x : Bool) : TyOf K H (.bl x) (.type "bool")
  | int (i : Int) : TyOf K H (.int i) (.type "int")
  | str (x : Str) : TyOf K H (.str x) (.type "str")
  | flt (x : UInt64) : TyOf K H (.flt x) (.type "float")
  | lst {a : Addr} {xs : List V} (e : H a = some (.lst xs)) : TyOf K H (.ref a) (.type "list")
  | frz {a : Addr} {o : Obj} {xs : List V} (e : H a = some (.frz o (.lst xs))) : TyOf K H (.ref a) (.type "list")
  | tup {a : Addr} {xs : List V} (e : H a = some (.tup xs)) : TyOf K H (.ref a) (.type "tuple")
  | dK {a : Addr} {kvs : List (Key × V)} (e : H a = some (.dK kvs)) : TyOf K H (.ref a) (.type "dict")
  | dT {a : Addr} {kvs : List (List Key × V)} (e : H a = some (.dT kvs)) : TyOf K H (.ref a) (.type "dict")
  | ins {a C dx : Addr} {fs : List (Str × V)} (e : H a = some (.ins C dx fs)) (cl : Cls K C) (ha : PySem.W.findIn K (.ref C) "__class__" = some (some (.builtin "object.__class__")))
      (hn : PySem.W.specialIn K (.builtin "object.__class__") "__get__" = some (some (.builtin "getset_descriptor.__get__"))) (htk : PySem.W.takesIn K (.builtin "object.__class__") = some true)
      (hm : PySem.W.mroIn K C (.type "object") = some true) : TyOf K H (.ref a) (.ref C)
end
end L2

namespace L2
open PySem PySem.Spec PyProof.Rows

/-! ### room -/
structure Room (k : Nat) (A : Around) : Prop where
  hd : A.handled = none
  dp : A.depth + 3 * k + 5 < recursionLimit
  un : A.units + 16 * k + 200 < cLine
theorem Room.mono {j k : Nat} {A : Around} (r : Room k A) (h : j ≤ k) : Room j A := ⟨r.hd, by have := r.dp; omega, by have := r.un; omega⟩
theorem Room.deeper {k : Nat} {A : Around} (r : Room (k + 1) A) (env : Env) : Room k (A.deeper env) :=
  ⟨r.hd, by have := r.dp; show A.depth + 1 + 3 * k + 5 < _; omega, by have := r.un; show A.units + 3 + 16 * k + 200 < _; omega⟩
theorem Room.in1 {k : Nat} {A : Around} (r : Room (k + 1) A) : Room k A.in1 :=
  ⟨r.hd, by have := r.dp; show A.depth + 3 * k + 5 < _; omega, by have := r.un; show A.units + 1 + 16 * k + 200 < _; omega⟩
theorem make_depth {A : Around} {C : Addr} {us : List Value} {kw : List (Str × Value)} : (A.under (.builtin "type.__call__" ⟨.ref C :: us, kw⟩)).depth = A.depth + 1 := by
  first | rfl | simp [Around.under, Code.weight, Code.isCreation, Code.isGuard, Code.isCaller, Code.frames, Code.isFrame, guardIds]
theorem make_units {A : Around} {C : Addr} {us : List Value} {kw : List (Str × Value)} : (A.under (.builtin "type.__call__" ⟨.ref C :: us, kw⟩)).units = A.units + 1 := by
  first | rfl | simp [Around.under, Code.cUnits, Code.frames, Code.isFrame]
theorem Room.make {k : Nat} {A : Around} (r : Room (k + 1) A) (C : Addr) (us : List Value) (kw : List (Str × Value)) : Room k (A.under (.builtin "type.__call__" ⟨.ref C :: us, kw⟩)) :=
  ⟨r.hd, by have := r.dp; rw [make_depth]; omega, by have := r.un; rw [make_units]; omega⟩
theorem Room.depth {k : Nat} {A : Around} (r : Room k A) : A.depth < recursionLimit := by have := r.dp; omega
theorem Room.units {k : Nat} {A : Around} (r : Room k A) : A.units + 64 < cLine := by have := r.un; omega
/-! ### argument lists and displays -/
def tNil : TA := fun _ H Q => Q [] H
def tCons (ta : TE) (tr : TA) : TA := fun σ H Q => ta σ H fun x H1 => tr σ H1 fun xs H2 => Q (x :: xs) H2
section
variable {X : Cx} {e : Expr} {es : List Expr} {te : TE} {t : TA} {pos : Pos}
theorem pa_nil : PA X [] tNil := fun _ _ _ _ H Q I h => Calls.spliced_nil ⟨[], H, I, .nil, h⟩
theorem pa_cons (ha : PE X e te) (hr : PA X es t) (hs : starEach (e :: es) X.env = (false, eval e X.env) :: starEach es X.env := by rfl) : PA X (e :: es) (tCons te t) := by
  intro pos pins s σ H Q I h
  rw [hs]
  show wpAny _ _ (spliced ((false, eval e X.env) :: backTo pos (starEach es X.env))) _ _ s
  refine Calls.spliced_cons (thn (ha pins s σ H _ I h) fun u s1 ⟨x, H1, I1, r1, q1⟩ => ?_)
  exact thn (hr pos pins s1 σ H1 _ I1 q1) fun us s2 ⟨xs, H2, I2, r2, q2⟩ => ⟨x :: xs, H2, I2, .cons r1 r2, q2⟩

/-- a tuple, a list of written items -/
def tTup (t : TA) : TE := fun σ H Q => t σ H fun xs H1 => xs.length ≤ sizeLine ∧ ∀ p, H1 p = none → Q (.ref p) (upd H1 p (.tup xs))
def tLst (t : TA) : TE := fun σ H Q => t σ H fun xs H1 => xs.length ≤ sizeLine ∧ ∀ p, H1 p = none → Q (.ref p) (upd H1 p (.lst xs))
theorem pe_tup {x1} (h : PA X es t) : PE X (.Tuple es x1 pos) (tTup t) := by
  intro pins s σ H Q I hq
  refine wpAny_Tuple_spliced (thn (h pos pins s σ H _ I hq) fun us s1 ⟨xs, H1, I1, r, z, q⟩ => ⟨by rw [← r.length]; exact z, ?_⟩)
  have hf : H1 s1.heap.objs.size = none := I1.hok.fresh (Nat.le_refl _)
  refine ⟨.ref s1.heap.objs.size, upd H1 s1.heap.objs.size (.tup xs), I1.laid (t' := s1.toks) (fun b u e => Heap.get?_push_of_some _ e) (Nat.le_refl _) ?_, rfl, q _ hf⟩
  exact ⟨z, us, r, ⟨_, Heap.get?_push_size _ rfl, rfl, _, rfl⟩⟩
theorem pe_lst (h : PA X es t) : PE X (.List es pos) (tLst t) := by
  intro pins s σ H Q I hq
  refine wpAny_List_spliced (thn (h pos pins s σ H _ I hq) fun us s1 ⟨xs, H1, I1, r, z, q⟩ => ⟨by rw [← r.length]; exact z, ?_⟩)
  have hf : H1 s1.heap.objs.size = none := I1.hok.fresh (Nat.le_refl _)
  refine ⟨.ref s1.heap.objs.size, upd H1 s1.heap.objs.size (.lst xs), I1.laid (t' := s1.toks) (fun b u e => Heap.get?_push_of_some _ e) (Nat.le_refl _) ?_, rfl, q _ hf⟩
  exact ⟨z, us, 0, r, Heap.get?_push_size _ rfl⟩
end

/-! ### what a def promises -/
/-- a def's promise: the bound arguments in the parameters' order, the heap, the wanted end, the wanted exception -/
abbrev Sp := List V → Hp → VK → XK → Prop
/-- how an exception lies behind a call (file 08 gives it): the callers' frames, abstract heap and state ahead of the call, the wish, the exception, the state -/
abbrev CXT := List Env → Hp → Shared → XK → Value → Shared → Prop

/-- the state at a call -/
structure Env0 (P : Program) (w : World) (K : PySem.W.Frag) (mg : Str → Option Value) (base : Heap) (A : Around) (outer : List Env) (s : Shared) (H : Hp) : Prop where
  frames : A.frames = some outer
  mod : Mod K mg base
  bs : ∀ b o, base.get? b = some o → s.heap.get? b = some o ∧ H b = none
  bsz : base.objs.size ≤ s.heap.objs.size
  funs : s.heap.FunFrames base outer
  frf : ∀ b ∈ frs outer, H b = none
  hok : HOk P w H s.heap
  bare : AllBare s.gens
/-- a call's end -/
def CE (outer : List Env) (P : Program) (w : World) (H : Hp) (s : Shared) (Q : VK) (u : Value) (s' : Shared) : Prop :=
  ∃ v H', s'.os = s.os ∧ AllBare s'.gens ∧ Un (frs outer) [] H H' s.heap s'.heap ∧ HOk P w H' s'.heap ∧ RelV v u ∧ Q v H'
def CR (CX : CXT) (outer : List Env) (P : Program) (w : World) (H : Hp) (s : Shared) (Q : VK) (E : XK) (r : Result) (s' : Shared) : Prop :=
  match r with
  | .ok (.ret u) => CE outer P w H s Q u s'
  | .ok _ => False
  | .error e => CX outer H s E e s'
structure FnOk (P : Program) (w : World) (K : PySem.W.Frag) (mg : Str → Option Value) (base : Heap) (CX : CXT) (k : Nat) (f : Addr) (fd : FuncData) (ps : List Str) (sp : Sp) : Prop where
  len : ∀ vs H Q E, sp vs H Q E → vs.length = ps.length
  run : ∀ (A : Around) (outer : List Env) (s : Shared) (H : Hp) (args : Args) (us : List Value) (vs : List V) (Q : VK) (E : XK), Room k A → Env0 P w K mg base A outer s H → BindsTo s fd args (ps.zip us) → Vals vs us → sp vs H Q E →
    codeAny (model P w) A (.call (.ref f) args) (CR CX outer P w H s Q E) s
theorem FnOk.mono {P : Program} {w : World} {K : PySem.W.Frag} {mg : Str → Option Value} {base : Heap} {CX : CXT} {j k : Nat} {f : Addr} {fd : FuncData} {ps : List Str} {sp : Sp} (F : FnOk P w K mg base CX j f fd ps sp) (h : j ≤ k) :
    FnOk P w K mg base CX k f fd ps sp := ⟨F.len, fun A outer s H args us vs Q E hr => F.run A outer s H args us vs Q E (hr.mono h)⟩
theorem Env0.make {P : Program} {w : World} {K : PySem.W.Frag} {mg : Str → Option Value} {base : Heap} {A : Around} {outer : List Env} {s : Shared} {H : Hp} (e : Env0 P w K mg base A outer s H) (C : Addr) (us : List Value) (kw : List (Str × Value)) :
    Env0 P w K mg base (A.under (.builtin "type.__call__" ⟨.ref C :: us, kw⟩)) outer s H := ⟨by first | exact e.frames | (simpa [Around.under, Code.envs, Code.isFrame, pushEnvs] using e.frames), e.mod, e.bs, e.bsz, e.funs, e.frf, e.hok, e.bare⟩
theorem Env0.in1 {P : Program} {w : World} {K : PySem.W.Frag} {mg : Str → Option Value} {base : Heap} {A : Around} {outer : List Env} {s : Shared} {H : Hp} (e : Env0 P w K mg base A outer s H) :
    Env0 P w K mg base A.in1 outer s H := ⟨e.frames, e.mod, e.bs, e.bsz, e.funs, e.frf, e.hok, e.bare⟩

section
variable {X : Cx} {pins : List (Addr × Obj)} {σ : St} {H : Hp} {s s' : Shared}
/-- from a body: what a callee wants -/
theorem Inv.env0 (I : Inv X pins σ H s) : Env0 X.prog X.w X.K X.mg X.base X.A X.stack s H :=
  ⟨I.ok.frames, I.ok.mod, I.bs, Nat.le_trans I.ok.bsz I.sz, I.stack, I.stkFree, I.hok, I.bare⟩
/-- behind a call -/
theorem Inv.after {Q : VK} {u : Value} (I : Inv X pins σ H s) (h : CE X.stack X.prog X.w H s Q u s') : EP X pins σ Q u s' := by
  obtain ⟨v, H', os, bare, un, hok, r, q⟩ := h
  obtain ⟨hh, g, d, t, os'⟩ := s'
  obtain rfl : os' = s.os := os
  exact ⟨v, H', I.call (h' := hh) (g' := g) (d' := d) (t' := t) (ch := []) un hok bare (fun b z => absurd z (by simp)), r, q⟩
end

/-! ### calls -/
/-- f(..): the written arguments, then the defaults dvs; E: what is wanted of an exception -/
def tCall (sp : Sp) (dvs : List V) (E : XK) (t : TA) : TE := fun σ H Q => t σ H fun vs H1 => sp (vs ++ dvs) H1 Q E
/-- o.m(..) of an instance of the class at C -/
def tMeth (C : Addr) (m : Str) (sp : Sp) (dvs : List V) (E : XK) (ta : TE) (t : TA) : TE := fun σ H Q => ta σ H fun x H1 => ∃ a dx fs, x = .ref a ∧ H1 a = some (.ins C dx fs) ∧ fs.lookup m = none ∧
  t σ H1 fun vs H2 => sp (x :: (vs ++ dvs)) H2 Q E
/-- C(..): a new instance and its dict, then __init__ -/
def tMake (C : Addr) (sp : Sp) (dvs : List V) (E : XK) (t : TA) : TE := fun σ H Q => t σ H fun vs H1 => ∀ x dx, H1 x = none → H1 dx = none → dx ≠ x →
  sp (.ref x :: (vs ++ dvs)) (upd (upd H1 dx (.own x)) x (.ins C dx [])) (fun v H2 => v = .non ∧ Q (.ref x) H2) E

/-- how the parameters are bound: us the positional arguments, kw the keywords' values by name, ds the defaults that fill up -/
def Binds (K : PySem.W.Frag) (fd : FuncData) (ps : List Str) (ds : List Value) : Prop :=
  ∀ (s : Shared) (us : List Value), K.In s.heap → (us ++ ds).length = ps.length → BindsTo s fd ⟨us, []⟩ (ps.zip (us ++ ds))
/-- every parameter is given -/
theorem Binds.all {K : PySem.W.Frag} {fd : FuncData} {ps : List Str} (h : ∀ us : List Value, us.length = ps.length → bindArgs fd ⟨us, []⟩ = pure (ps.zip us)) : Binds K fd ps [] := fun s us _ hl => by
  rw [List.append_nil] at hl ⊢
  exact .of_eq (h us hl)

/-- an exception of a callee reaches what this body wants of exceptions -/
def Passes (CX : CXT) (X : Cx) (E : XK) : Prop := ∀ (pins : List (Addr × Obj)) (σ : St) (H : Hp) (s : Shared) (e : Value) (s' : Shared), Inv X pins σ H s → CX X.stack H s E e s' → X.xe e s'

section
variable {X : Cx} {CX : CXT} {k : Nat} {f C : Addr} {fd : FuncData} {ps : List Str} {sp : Sp} {dvs : List V} {ds : List Value} {E : XK} {x m : Str} {p pos apos : Pos} {e o : Expr} {es : List Expr} {ta : TE} {t : TA}

/-- the callee runs -/
theorem run_fn {pins : List (Addr × Obj)} {σ : St} {H : Hp} {s : Shared} {Q : VK} {us : List Value} {vs : List V} (F : FnOk X.prog X.w X.K X.mg X.base CX k f fd ps sp) (hr : Room k X.A) (hb : Binds X.K fd ps ds) (hd : Vals dvs ds) (hx : Passes CX X E)
    (I : Inv X pins σ H s) (r : Vals vs us) (h : sp (vs ++ dvs) H Q E) : wpAny (model X.prog X.w) X.A (call (.ref f) us) (EP X pins σ Q) X.xe s := by
  have r2 : Vals (vs ++ dvs) (us ++ ds) := r.append hd
  have hl : (us ++ ds).length = ps.length := by rw [← r2.length]; exact F.len _ _ _ _ h
  refine wpAny_call (codeAny_mono (F.run X.A X.stack s H ⟨us, []⟩ (us ++ ds) (vs ++ dvs) Q E hr I.env0 (hb s us I.kIn hl) r2 h) fun r s' hq => ?_)
  cases r with
  | error e => exact hx pins σ H s e s' I hq
  | ok fl =>
    cases fl with
    | ret u => exact I.after hq
    | next => exact False.elim hq
    | brk => exact False.elim hq
    | cont => exact False.elim hq

theorem pe_call (F : FnOk X.prog X.w X.K X.mg X.base CX k f fd ps sp) (hr : Room k X.A) (hg : Gl X x) (hm : X.mg x = some (.ref f)) (hk : PySem.W.keepIn X.K (.ref f) = true) (hb : Binds X.K fd ps ds) (hd : Vals dvs ds) (hx : Passes CX X E)
    (ha : PA X (e :: es) t) (hdb : (x == ("__debug__" : Str)) = false := by decide) (he : starEach (e :: es) X.env = (false, eval e X.env) :: starEach es X.env := by rfl) (hpl : (backTo pos (starEach es X.env)).any (·.1) = false := by rfl) :
    PE X (.Call (.Name x p) (e :: es) [] pos) (tCall sp dvs E t) := by
  intro pins s σ H Q I h
  refine wpAny_Call_Name_kw (ld_glob I hg hm ?_ hdb)
  refine PySem.W.callWith_K (h₀ := X.base) I.ok.mod.kin hk (thn (ha pos pins s σ H _ I h) fun us s1 ⟨vs, H1, I1, r, q⟩ => ⟨I1.kIn, ?_⟩) he hpl
  exact run_fn F hr hb hd hx I1 r q
/-- o.m() -/
theorem pe_meth0 {pl : Sem Bool} (he : PE X o ta) (c : Cls X.K C) (hm : Meth X.K C m f) (F : FnOk X.prog X.w X.K X.mg X.base CX k f fd ps sp) (hr : Room k X.A) (hb : Binds X.K fd ps ds) (hd : Vals dvs ds) (hx : Passes CX X E)
    (ht : eval (.Call (.Attribute o m apos) [] [] pos) X.env = (do
      let ov ← eval o X.env
      standAt apos.atName
      let (f, first) ← holding [ov] (getMethod ov m pl)
      callWith pos f first (backTo pos (starEach [] X.env)) (backToKw pos (keywordEach [] X.env))) := by rfl) :
    PE X (.Call (.Attribute o m apos) [] [] pos) (tMeth C m sp dvs E ta tNil) := by
  intro pins s σ H Q I h
  refine PySem.W.methodCall_KW (pl := pl) (thn (he pins s σ H _ I h) fun u s1 ⟨x, H1, I1, rx, a, dx, fs, ex, ea, l, q⟩ => ?_) ht
  subst ex
  obtain rfl : u = Value.ref a := rx
  refine getmeth_ok I1 ea c hm l ?_
  exact PySem.W.callWith_K0 (first := [.ref a]) I1.kIn hm.kp (run_fn (us := [.ref a]) (vs := [.ref a]) F hr hb hd hx I1 (.cons rfl .nil) q)

/-- what a class must have to be made -/
structure Mk (K : PySem.W.Frag) (C f : Addr) : Prop where
  makes : PySem.W.makesIn K C = true
  init : PySem.W.findIn K (.ref C) "__init__" = some (some (.ref f))
  fn : PySem.W.isFn K (.ref f) = true
  kp : PySem.W.keepIn K (.ref C) = true

end

/-! ### keywords -/
/-- the values of the keywords, from the left -/
def PK (X : Cx) (kws : List Keyword) (t : TA) : Prop :=
  ∀ (pos : Pos) (pins : List (Addr × Obj)) (s : Shared) (σ : St) (H : Hp) (Q : List V → Hp → Prop), Inv X pins σ H s → t σ H Q → wpAny (model X.prog X.w) X.A (evalAll ((backToKw pos (keywordEach kws X.env)).map (·.2))) (AP X pins σ Q) X.xe s
section
variable {X : Cx} {CX : CXT} {k : Nat} {f C : Addr} {fd : FuncData} {ps ks : List Str} {sp : Sp} {E : XK} {x m : Str} {p pos apos kpos : Pos} {e o : Expr} {es : List Expr} {kws : List Keyword} {te ta : TE} {t tk : TA} {nm : Option Str}
/-- how a call with keywords binds: g puts the positional values us and the keywords' values ws (names ks) in the parameters' order, defaults among them -/
structure KBinds (K : PySem.W.Frag) (fd : FuncData) (ps ks : List Str) (g : List Value → List Value → List Value) (gV : List V → List V → List V) : Prop where
  to : ∀ (s : Shared) (us ws : List Value), K.In s.heap → (g us ws).length = ps.length → BindsTo s fd ⟨us, ks.zip ws⟩ (ps.zip (g us ws))
  rel : ∀ {vs : List V} {us : List Value} {zs : List V} {ws : List Value}, Vals vs us → Vals zs ws → Vals (gV vs zs) (g us ws)
def tCallK (sp : Sp) (gV : List V → List V → List V) (E : XK) (t tk : TA) : TE := fun σ H Q => t σ H fun vs H1 => tk σ H1 fun zs H2 => sp (gV vs zs) H2 Q E
variable {g : List Value → List Value → List Value} {gV : List V → List V → List V}
end

/-! ### a def's body keeps its promise -/
/-- names: the parameters first -/
structure FnScope (N P : List Str) (sc : Scope) : Prop where
  kind : sc.kind = .function
  co : sc.isCoroutine = false
  gen : sc.isGenerator = false
  nd : N.Nodup
  pre : N.take P.length = P
  par : ∀ x ∈ P, sc.names.lookup x = some .local ∨ sc.names.lookup x = some .cell
  nofree : ∀ y ∈ sc.names, y.2 ≠ .free

theorem bindL_out {kindOf : Str → Option NameKind} {x : Str} : ∀ {binds : List (Str × Value)} {m : Str → Option Value}, (∀ v, (x, v) ∉ binds) → bindL kindOf binds m x = m x
  | [], _, _ => rfl
  | (n, v) :: r, m, h => by
    unfold bindL
    rw [bindL_out fun w hw => h w (List.mem_cons_of_mem _ hw)]
    split
    · have : x ≠ n := by rintro rfl; exact h v List.mem_cons_self
      simp [this]
    · rfl
theorem bindC_out {kindOf : Str → Option NameKind} {x : Str} : ∀ {binds : List (Str × Value)} {m : Str → Option Value}, (∀ v, (x, v) ∉ binds) → bindC kindOf binds m x = m x
  | [], _, _ => rfl
  | (n, v) :: r, m, h => by
    unfold bindC
    rw [bindC_out fun w hw => h w (List.mem_cons_of_mem _ hw)]
    split
    · rfl
    · have : x ≠ n := by rintro rfl; exact h v List.mem_cons_self
      simp [this]
theorem bindL_get {kindOf : Str → Option NameKind} {x : Str} {v : Value} : ∀ {P : List Str} {vs : List Value} {i : Nat} {m : Str → Option Value}, P.Nodup → P[i]? = some x → vs[i]? = some v → kindOf x = some .local →
    bindL kindOf (P.zip vs) m x = some v
  | [], _, _, _, _, h, _, _ => by simp at h
  | _ :: _, [], _, _, _, _, h, _ => by simp at h
  | p :: P, w :: vs, 0, m, nd, h1, h2, hk => by
    simp at h1 h2; subst h1; subst h2
    show bindL kindOf ((p, w) :: P.zip vs) m p = _
    unfold bindL
    rw [bindL_out fun v hv => (List.nodup_cons.mp nd).1 (List.of_mem_zip hv).1, if_pos hk]
    simp
  | p :: P, w :: vs, i + 1, m, nd, h1, h2, hk => by
    show bindL kindOf ((p, w) :: P.zip vs) m x = _
    unfold bindL
    exact bindL_get (i := i) (List.nodup_cons.mp nd).2 (by simpa using h1) (by simpa using h2) hk
theorem bindC_get {kindOf : Str → Option NameKind} {x : Str} {v : Value} : ∀ {P : List Str} {vs : List Value} {i : Nat} {m : Str → Option Value}, P.Nodup → P[i]? = some x → vs[i]? = some v → kindOf x ≠ some .local →
    bindC kindOf (P.zip vs) m x = some v
  | [], _, _, _, _, h, _, _ => by simp at h
  | _ :: _, [], _, _, _, _, h, _ => by simp at h
  | p :: P, w :: vs, 0, m, nd, h1, h2, hk => by
    simp at h1 h2; subst h1; subst h2
    show bindC kindOf ((p, w) :: P.zip vs) m p = _
    unfold bindC
    rw [bindC_out fun v hv => (List.nodup_cons.mp nd).1 (List.of_mem_zip hv).1, if_neg hk]
    simp
  | p :: P, w :: vs, i + 1, m, nd, h1, h2, hk => by
    show bindC kindOf ((p, w) :: P.zip vs) m x = _
    unfold bindC
    exact bindC_get (i := i) (List.nodup_cons.mp nd).2 (by simpa using h1) (by simpa using h2) hk

/-- the names' values at the entry -/
def start (N : List Str) (vs : List V) : St := vs.map some ++ List.replicate (N.length - vs.length) none

/-- the context of a def's body, at its entry; an exception leaves the frame, then lies as CX says -/
def cxOf (CX : CXT) (P : Program) (w : World) (K : PySem.W.Frag) (mg : Str → Option Value) (base : Heap) (N : List Str) (qual : Str) (scope : Scope) (f : Addr) (cd : Value) (A : Around) (outer : List Env) (s : Shared) (H : Hp) (E : XK) : Cx where
  prog := P
  w := w
  K := K
  mg := mg
  base := base
  A := A.deeper (envOfC qual scope s.heap.objs.size f cd)
  N := N
  s₀ := s
  H₀ := H
  env := envOfC qual scope s.heap.objs.size f cd
  outer := outer
  stack := envOfC qual scope s.heap.objs.size f cd :: outer
  ex := []
  calm := true
  fn := fun _ => true
  pn := []
  xe := fun e s' => wpAny (model P w) (A.deeper (envOfC qual scope s.heap.objs.size f cd)) (leaving (envOfC qual scope s.heap.objs.size f cd) e) (fun _ s'' => CX outer H s E e s'') (fun e' s'' => CX outer H s E e' s'') s'

theorem cell_has {sc : Scope} {n : Nat} {x : Str} (h : sc.names.lookup x = some .cell) : ∃ c, (cellsFrom n sc.names []).lookup x = some c := by
  have q := PySem.W.cellsFrom_some sc.names n [] (.inl h)
  exact Option.isSome_iff_exists.mp q

theorem inv_start {CX : CXT} {P : Program} {w : World} {K : PySem.W.Frag} {mg : Str → Option Value} {base : Heap} {N ps : List Str} {qual : Str} {scope : Scope} {f : Addr} {cd : Value} {A : Around} {outer : List Env} {s s1 : Shared} {H : Hp} {E : XK} {us : List Value} {vs : List V}
    (S : FnScope N ps scope) (hd : A.handled = none) (e0 : Env0 P w K mg base A outer s H) (hl : vs.length = ps.length) (r : Vals vs us)
    (x : InCallC s s.heap.objs.size (bindL (envOfC qual scope s.heap.objs.size f cd).kindOf (ps.zip us) fun _ => none) (cellsFrom (s.heap.objs.size + 1) scope.names []) (bindC (envOfC qual scope s.heap.objs.size f cd).kindOf (ps.zip us) fun _ => none) s1) :
    Inv (cxOf CX P w K mg base N qual scope f cd A outer s H E) [] (start N vs) H s1 := by
  have hpl : ps.length ≤ N.length := by have := congrArg List.length S.pre; rw [List.length_take] at this; omega
  obtain ⟨h1, tk, rfl, hk⟩ := x.done
  have noA : ∀ b : Addr, b ∉ (cxOf CX P w K mg base N qual scope f cd A outer s H E).ex := fun b z => absurd (show b ∈ ([] : List Addr) from z) (by simp)
  refine ⟨⟨e0.mod, S.kind, rfl, rfl, Nat.le_refl _, fun y z c h1 h2 => ?_, fun y hy => ?_, fun y c _ h => ?_, fun _ => hd, Around.frames_deeper e0.frames, .inr ⟨rfl, rfl⟩, fun b z => absurd z (noA b), e0.bs, e0.bsz, fun b _ _ => noA b, fun b z => absurd z (noA b), e0.funs, e0.frf⟩,
    rfl, e0.bare, Un.kept hk, ⟨_, x.toInCall.ns, fun i y v h1 h2 h3 => ?_⟩, fun y c h => ⟨_, x.cell y c h⟩, e0.hok.fresh (Nat.le_refl _), fun y c h => ?_, fun p hp => absurd (show p ∈ ([] : List (Addr × Obj)) from hp) (by simp), e0.hok.kept hk, ?_⟩
  · exact name_of_addr x.apart (PySem.mem_of_lookup h1) (PySem.mem_of_lookup h2)
  · have hy : scope.names.lookup y = some .cell ∨ scope.names.lookup y = some .free := hy
    rcases hy with hy | hy
    · exact cell_has hy
    · exact absurd rfl (S.nofree _ (PySem.mem_of_lookup hy))
  · exact Nat.le_of_lt (x.above y c (PySem.mem_of_lookup h))
  · have hi : i < vs.length := by
      unfold start at h2
      by_cases hi : i < vs.length
      · exact hi
      · rw [List.getElem?_append_right (by simpa using hi)] at h2
        rw [List.getElem?_replicate] at h2
        split at h2 <;> cases h2
    have ha : vs[i]? = some v := by
      unfold start at h2
      rw [List.getElem?_append_left (by simpa using hi), List.getElem?_map] at h2
      cases e : vs[i]? with
      | none => rw [e] at h2; cases h2
      | some a => rw [e] at h2; cases h2; rfl
    obtain ⟨u, hu, rv⟩ := r.get ha
    have hp : ps[i]? = some y := by
      rw [← S.pre, List.getElem?_take_of_lt (by omega)]; exact h1
    have ndP : ps.Nodup := by rw [← S.pre]; exact S.nd.sublist (List.take_sublist _ _)
    refine ⟨u, rv, ?_⟩
    rcases S.par y (List.mem_of_getElem? hp) with k | k
    · exact .inl ⟨k, bindL_get ndP hp hu k⟩
    · obtain ⟨c, e⟩ := cell_has (n := s.heap.objs.size + 1) k
      refine .inr ⟨.inl k, c, e, ?_⟩
      have q := x.cell y c e
      rw [bindC_get ndP hp hu (by show scope.names.lookup y ≠ _; rw [k]; decide)] at q
      exact q
  · exact e0.hok.fresh (Nat.le_of_lt (x.above y c (PySem.mem_of_lookup h)))
  · unfold start
    show _ = N.length
    rw [List.length_append, List.length_map, List.length_replicate]
    omega

/-- THE RULE: a def (or a method) of the text, by its body. The body's reading t is chosen for each entry; it is run at the parameters' values -/
theorem fn_of {CX : CXT} {P : Program} {w : World} {K : PySem.W.Frag} {mg : Str → Option Value} {base : Heap} {k : Nat} {f : Addr} {name qual : Str} {params : Arguments} {body : List Stmt} {scope : Scope} {dV kV doc pm cdv ct oc : Value} {an od : Option Addr}
    {osl : Array (Option Value)} {N ps : List Str} {sp : Sp} (lk : K.lookup f = some ⟨oc, od, .func (PySem.W.fnOf name qual params body scope dV kV doc pm an cdv ct), osl⟩) (hcd : PySem.W.codeIn K cdv qual = true) (S : FnScope N ps scope)
    (len : ∀ vs H Q E, sp vs H Q E → vs.length = ps.length)
    (hbody : ∀ (A : Around) (outer : List Env) (s : Shared) (H : Hp) (vs : List V) (Q : VK) (E : XK), Room k (A.deeper (envOfC qual scope s.heap.objs.size f cdv)) → sp vs H Q E →
      ∃ t, PSs (cxOf CX P w K mg base N qual scope f cdv A outer s H E) body t ∧ t { nx := fun _ H' => Q .non H', rt := Q } (start N vs) H) :
    FnOk P w K mg base CX (k + 1) f (PySem.W.fnOf name qual params body scope dV kV doc pm an cdv ct) ps sp := by
  refine ⟨len, fun A outer s H args us vs Q E hr e0 hb r hsp => ?_⟩
  have hl := len _ _ _ _ hsp
  have KX : K.In s.heap := e0.mod.kin.keeps fun b o e => (e0.bs b o e).1
  have lim : s.heap.NoLimit := e0.mod.nolimit.keeps fun b o e => (e0.bs b o e).1
  have hkind : ∀ y ∈ ps.zip us, scope.names.lookup y.1 = some .local ∨ (scope.names.lookup y.1 = some .cell ∧ ((cellsFrom (s.heap.objs.size + 1) scope.names []).lookup y.1).isSome = true) := fun ⟨n, v⟩ hy => by
    rcases S.par n (List.of_mem_zip hy).1 with q | q
    · exact .inl q
    · exact .inr ⟨q, PySem.W.cellsFrom_some _ _ _ (.inl q)⟩
  refine codeAny_call_function hr.depth (KX _ _ lk) rfl S.co S.gen rfl (PySem.W.codeRec_of KX hcd) (hb _ _ _ _ ?_)
  refine wpAny_newFunctionEnv_cells S.kind hkind fun env he s1 x => ?_
  subst he
  refine ⟨lim.keeps x.toInCall.keep, codeAny_func ?_⟩
  obtain ⟨t, ht, hq⟩ := hbody A outer s H vs Q E (hr.deeper _) hsp
  have I : Inv (cxOf CX P w K mg base N qual scope f cdv A outer s H E) [] (start N vs) H s1 := inv_start S hr.hd e0 hl r x
  refine wpAny_mono (ht [] s1 (start N vs) H _ I hq) (fun fl s' hs => ?_) fun e s' hs => hs
  have fin : ∀ {σ' : St} {H' : Hp} {v : V} {u : Value}, Inv (cxOf CX P w K mg base N qual scope f cdv A outer s H E) [] σ' H' s' → RelV v u → Q v H' → CE outer P w H s Q u s' :=
    fun {σ' H' v u} J rv q => ⟨v, H', J.os, J.bare, J.base, J.hok, rv, q⟩
  cases fl with
  | ret u =>
    obtain ⟨v, σ', H', J, rv, q⟩ := hs
    exact fin J rv q
  | next =>
    obtain ⟨σ', H', J, q⟩ := hs
    exact fin (v := V.non) (u := Value.none) J rfl q
  | brk =>
    obtain ⟨_, _, _, q⟩ := hs
    exact False.elim q
  | cont =>
    obtain ⟨_, _, _, q⟩ := hs
    exact False.elim q
end L2

namespace L2
open PySem PySem.Spec PyProof.Rows
section
variable {X : Cx} {x : Str} {p pos : Pos} {e : Expr} {es : List Expr} {t : TA} {id T : String} {r : List V → Hp → VK → Prop}

def tCB (r : List V → Hp → VK → Prop) (t : TA) : TE := fun σ H Q => t σ H fun vs H1 => r vs H1 Q
/-- f(e, ..), f a built-in function -/
theorem pe_callB (hc : CallR X (.builtin id) r) (hg : Gl X x) (hm : X.mg x = none) (hv : bootBuiltins x = some (.builtin id)) (ha : PA X (e :: es) t) (hn : x ≠ "__name__" := by decide) (hdb : (x == ("__debug__" : Str)) = false := by decide)
    (he : starEach (e :: es) X.env = (false, eval e X.env) :: starEach es X.env := by rfl) (hpl : (backTo pos (starEach es X.env)).any (·.1) = false := by rfl) : PE X (.Call (.Name x p) (e :: es) [] pos) (tCB r t) := by
  intro pins s σ H Q I h
  refine wpAny_Call_Name_kw (ld_blt I hg hm hv ?_ hn hdb)
  exact PyProof.Rows.callWith_builtin1 (thn (ha pos pins s σ H _ I h) fun us s1 ⟨vs, H1, I1, r1, q1⟩ => hc pins s1 σ H1 vs us Q I1 r1 q1) he hpl
/-- T(e, ..), T a built-in type -/
theorem pe_callTy (hc : CallR X (.type T) r) (hg : Gl X x) (hm : X.mg x = none) (hv : bootBuiltins x = some (.type T)) (ha : PA X (e :: es) t) (hn : x ≠ "__name__" := by decide) (hdb : (x == ("__debug__" : Str)) = false := by decide)
    (he : starEach (e :: es) X.env = (false, eval e X.env) :: starEach es X.env := by rfl) (hpl : (backTo pos (starEach es X.env)).any (·.1) = false := by rfl) : PE X (.Call (.Name x p) (e :: es) [] pos) (tCB r t) := by
  intro pins s σ H Q I h
  refine wpAny_Call_Name_kw (ld_blt I hg hm hv ?_ hn hdb)
  exact PyProof.Rows.callWith_type1 (thn (ha pos pins s σ H _ I h) fun us s1 ⟨vs, H1, I1, r1, q1⟩ => hc pins s1 σ H1 vs us Q I1 r1 q1) he hpl
end
end L2

namespace HT
open PySem PyProof.Rows

/-- t < u of tuples of ints -/
def lexLt : List Int → List Int → Bool
  | [], [] => false
  | [], _ :: _ => true
  | _ :: _, [] => false
  | x :: xs, y :: ys => if x = y then lexLt xs ys else decide (x < y)
section
open PySem.SeqAt
open PySem.AutoSeq1 (wpAny_loadPart')
open PySem.MeetsSeq PySem.MeetsSeq2 PySem.MeetsSeq3

end

section
variable {prog : Program} {w : World} {A : Around} {E : Value → Shared → Prop} {s : Shared}

/-! ### t[a:b], not the whole -/
/-- a slice's bound as a place among n (d where it is left out) -/
def sIx (n d : Nat) : Option Int → Nat
  | none => d
  | some v => if v < 0 then (v + (n : Int)).toNat else min v.toNat n
theorem sIx_none (n d : Nat) : sIx n d none = d := rfl
theorem sIx_nat (n d k : Nat) : sIx n d (some (k : Int)) = min k n := by
  show (if (k : Int) < 0 then ((k : Int) + (n : Int)).toNat else min (k : Int).toNat n) = min k n
  rw [if_neg (by omega), Int.toNat_natCast]
theorem clip_eq (v : Int) (n d : Nat) : (if v < 0 then max (v + (n : Int)) 0 else min v (n : Int)) = ((sIx n d (some v) : Nat) : Int) := by
  show (if v < 0 then max (v + (n : Int)) 0 else min v (n : Int)) = (((if v < 0 then (v + (n : Int)).toNat else min v.toNat n) : Nat) : Int)
  by_cases hv : v < 0
  · simp only [if_pos hv]; omega
  · simp only [if_neg hv]; omega
end
end HT

namespace L2
open PySem PySem.Spec PyProof.Rows

/-! ### the parts of a slice -/
abbrev TO := St → Hp → (Option Int → Hp → Prop) → Prop
/-- a slice's part (left out, or an int) -/
def PO (X : Cx) (e : Option Expr) (t : TO) : Prop :=
  ∀ (pins : List (Addr × Obj)) (s : Shared) (σ : St) (H : Hp) (Q : Option Int → Hp → Prop), Inv X pins σ H s → t σ H Q →
    wpAny (model X.prog X.w) X.A (evalPart e X.env) (fun u s' => ∃ o H', Inv X pins σ H' s' ∧ IsPart u o ∧ Q o H') X.xe s
def tNoPart : TO := fun _ H Q => Q none H
def tPart (t : TE) : TO := fun σ H Q => t σ H fun x H1 => ∃ i, x = .int i ∧ Q (some i) H1

theorem intsAre_of {ns : List Int} : ∀ {us : List Value}, Vals (ns.map V.int) us → IntsAre us ns := by
  induction ns with
  | nil => intro us r; rw [List.map_nil] at r; cases r; exact .nil
  | cons n ns ih =>
    intro us r
    rw [List.map_cons] at r
    cases r with
    | cons r1 r2 =>
      obtain ⟨t, e⟩ := r1
      subst e
      exact .cons n t (ih r2)

section
variable {X : Cx} {e : Expr} {te : TE} {lo hi : Option Expr} {tl th : TO} {pos p2 : Pos}

theorem po_none : PO X none tNoPart := by
  intro pins s σ H Q I h
  rw [evalPart_none]
  exact wpAny_pure ⟨none, H, I, .none, h⟩
theorem po_some (h : PE X e te) : PO X (some e) (tPart te) := by
  intro pins s σ H Q I hw
  rw [evalPart_some]
  refine thn (h pins s σ H _ I hw) fun u s1 ⟨x, H1, I1, r1, q1⟩ => ?_
  obtain ⟨i, rfl, q⟩ := q1
  obtain ⟨t, rfl⟩ := r1
  exact ⟨some i, H1, I1, .int i t, q⟩

/-- what a slice of a value is, by values: the slice object stands at sl -/
def SlR (X : Cx) (r : V → Option Int → Option Int → Hp → VK → Prop) : Prop :=
  ∀ (pins : List (Addr × Obj)) (s : Shared) (σ : St) (H : Hp) (x : V) (v vl vu : Value) (lo hi : Option Int) (sl : Addr) (Q : VK), Inv X pins σ H s → RelV x v → s.heap.IsSliceOf sl vl vu .none → IsPart vl lo → IsPart vu hi → r x lo hi H Q →
    ∃ T id, typeLookup (.type T) "__getitem__" = pure (some (.builtin id)) ∧ s.TypeIs v T ∧ wpAny (model X.prog X.w) X.A (getItem v (.ref sl)) (EP X pins σ Q) X.xe s
theorem SlR.or {r r' : V → Option Int → Option Int → Hp → VK → Prop} (h : SlR X r) (h' : SlR X r') : SlR X (fun x lo hi H Q => r x lo hi H Q ∨ r' x lo hi H Q) := by
  intro pins s σ H x v vl vu lo hi sl Q I rx hs pl pu q
  rcases q with q | q
  · exact h pins s σ H x v vl vu lo hi sl Q I rx hs pl pu q
  · exact h' pins s σ H x v vl vu lo hi sl Q I rx hs pl pu q
def tSl (r : V → Option Int → Option Int → Hp → VK → Prop) (te : TE) (tl th : TO) : TE := fun σ H Q => te σ H fun x H1 => tl σ H1 fun l H2 => th σ H2 fun u H3 => r x l u H3 Q
/-- a[lo:hi], any a -/
theorem pe_slice {r : V → Option Int → Option Int → Hp → VK → Prop} (hr : SlR X r) (he : PE X e te) (hl : PO X lo tl) (hu : PO X hi th) : PE X (.Subscript e (.Slice lo hi none p2) pos) (tSl r te tl th) := by
  intro pins s σ H Q I h
  refine Subscript_ (thn (he pins s σ H _ I h) fun v s1 ⟨x, H1, I1, r1, q1⟩ => ?_)
  refine wpAny_Slice (thn (hl pins s1 σ H1 _ I1 q1) fun vl s2 ⟨l, H2, I2, pl, q2⟩ => thn (hu pins s2 σ H2 _ I2 q2) fun vu s3 ⟨u, H3, I3, pu, q3⟩ => ?_)
  rw [evalPart_none]
  refine wpAny_pure ?_
  have I4 : Inv X pins σ H3 { s3 with heap := s3.heap.push { cls := .type "slice", data := .fields #[vl, vu, .none] } } := I3.kept (t' := s3.toks) fun b ob q => Heap.get?_push_of_some _ q
  obtain ⟨T, id, hT, ht, hg⟩ := hr pins { s3 with heap := s3.heap.push { cls := .type "slice", data := .fields #[vl, vu, .none] } } σ H3 x v vl vu l u s3.heap.objs.size Q I4 r1 (Heap.IsSliceOf.new ..) pl pu q3
  show wpAny (model X.prog X.w) X.A (subscriptTail e (.Slice lo hi none p2) v (.ref s3.heap.objs.size)) (EP X pins σ Q) X.xe { s3 with heap := s3.heap.push { cls := .type "slice", data := .fields #[vl, vu, .none] } }
  exact tail_any (ops := [.ref s3.heap.objs.size, v]) ht hT hg (by with_unfolding_all rfl)

/-- the items of xs[lo:hi] -/
def cutV (xs : List V) (lo hi : Option Int) : List V := (xs.drop (HT.sIx xs.length 0 lo)).take (HT.sIx xs.length xs.length hi - HT.sIx xs.length 0 lo)
theorem cutV_length (xs : List V) (lo hi : Option Int) : (cutV xs lo hi).length ≤ xs.length := by
  unfold cutV
  rw [List.length_take, List.length_drop]
  omega
/-- t[lo:hi], not the whole of it (the whole would be t itself) -/
def rSlT (K : PySem.W.Frag) : V → Option Int → Option Int → Hp → VK → Prop := fun x lo hi H Q => ∃ a xs, x = .ref a ∧ SqT K H a xs ∧
  ¬ (HT.sIx xs.length 0 lo = 0 ∧ HT.sIx xs.length xs.length hi = xs.length) ∧ ∀ p, H p = none → Q (.ref p) (upd H p (.tup (cutV xs lo hi)))
/-! ### t < u, t + u -/
def rLtT (K : PySem.W.Frag) : R2 := fun x y H Q => ∃ a b ns ms, x = .ref a ∧ y = .ref b ∧ SqT K H a (ns.map V.int) ∧ SqT K H b (ms.map V.int) ∧ Q (.bl (HT.lexLt ns ms)) H
/-- t + u, t not empty: u empty gives t itself -/
def rCatT (K : PySem.W.Frag) : R2 := fun x y H Q => ∃ a b xs ys, x = .ref a ∧ y = .ref b ∧ SqT K H a xs ∧ SqT K H b ys ∧ xs ≠ [] ∧ xs.length + ys.length ≤ sizeLine ∧
  (ys = [] → Q (.ref a) H) ∧ (ys ≠ [] → ∀ p, H p = none → Q (.ref p) (upd H p (.tup (xs ++ ys))))
end
end L2

namespace L2
open PySem PySem.Spec PyProof.Rows

/-! ### places -/
/-- the place that an index of any sign means -/
def ixN (n : Nat) (i : Int) : Option Nat := if 0 ≤ i then (if i < n then some i.toNat else none) else if -(n : Int) ≤ i then some (i + n).toNat else none
def atI {α : Type} (xs : List α) (i : Int) : Option α := (ixN xs.length i).bind fun j => xs[j]?
theorem ixN_seq {n : Nat} {i : Int} {j : Nat} (h : ixN n i = some j) : seqIndex? i n = some j ∧ j < n ∧ -(n : Int) ≤ i ∧ i < n := by
  unfold ixN at h
  by_cases h0 : 0 ≤ i
  · rw [if_pos h0] at h
    by_cases h1 : i < n
    · rw [if_pos h1] at h
      have e : i.toNat = j := Option.some.inj h
      exact ⟨by rw [seqIndex_of h0 h1, e], by omega, by omega, h1⟩
    · rw [if_neg h1] at h; cases h
  · rw [if_neg h0] at h
    by_cases h1 : -(n : Int) ≤ i
    · rw [if_pos h1] at h
      have e : (i + n).toNat = j := Option.some.inj h
      exact ⟨by rw [seqIndex_neg (by omega) h1, e], by omega, h1, by omega⟩
    · rw [if_neg h1] at h; cases h
theorem atI_get {α : Type} {xs : List α} {i : Int} {v : α} (h : atI xs i = some v) : ∃ j, seqIndex? i xs.length = some j ∧ xs[j]? = some v ∧ j < xs.length ∧ -(xs.length : Int) ≤ i ∧ i < xs.length := by
  unfold atI at h
  cases e : ixN xs.length i with
  | none => rw [e] at h; cases h
  | some j =>
    rw [e] at h
    obtain ⟨h1, h2, h3, h4⟩ := ixN_seq e
    exact ⟨j, h1, h, h2, h3, h4⟩
theorem atI_nat {α : Type} {xs : List α} {j : Nat} {v : α} (h : xs[j]? = some v) : atI xs (j : Int) = some v := by
  have hj : j < xs.length := (List.getElem?_eq_some_iff.mp h).1
  have e : ixN xs.length (j : Int) = some j := by
    unfold ixN
    rw [if_pos (by omega), if_pos (by omega)]; simp
  unfold atI; rw [e]; exact h
theorem atI_last {α : Type} (xs : List α) (v : α) : atI (xs ++ [v]) (-1) = some v := by
  have hl : (xs ++ [v]).length = xs.length + 1 := by simp
  have e : ixN (xs ++ [v]).length (-1) = some xs.length := by
    unfold ixN
    rw [hl, if_neg (by decide), if_pos (by omega)]
    congr 1
    omega
  unfold atI
  rw [e]
  show (xs ++ [v])[xs.length]? = some v
  simp

/-! ### what may be subscripted -/
/-- what stands as an index of a plain subscript -/
def PlainIx (b : Expr) : Prop := ∀ o i, subscripted b false o i = operate [o, i] (getItem o i)
/-- a subscript by values -/
def IxR (X : Cx) (r : R2) : Prop :=
  ∀ (value slice : Expr) (pins : List (Addr × Obj)) (s : Shared) (σ : St) (H : Hp) (x y : V) (v u : Value) (Q : VK), Inv X pins σ H s → RelV x v → RelV y u → r x y H Q →
    subscripted slice false v u = operate [v, u] (getItem v u) → wpAny (model X.prog X.w) X.A (subscriptTail value slice v u) (EP X pins σ Q) X.xe s
/-- a call of a builtin's method by values: the receiver, the arguments -/
def MtR (X : Cx) (id : String) (r : V → List V → Hp → VK → Prop) : Prop :=
  ∀ (pins : List (Addr × Obj)) (s : Shared) (σ : St) (H : Hp) (x : V) (xs : List V) (v : Value) (us : List Value) (Q : VK), Inv X pins σ H s → RelV x v → Vals xs us → r x xs H Q →
    wpAny (model X.prog X.w) X.A (call (.builtin id) (v :: us)) (EP X pins σ Q) X.xe s
section
variable {X : Cx} {a b : Expr} {ta tb : TE} {pos : Pos}
theorem IxR.or {r r' : R2} (h : IxR X r) (h' : IxR X r') : IxR X (fun x y H Q => r x y H Q ∨ r' x y H Q) := by
  intro value slice pins s σ H x y v u Q I rx ry q hs
  rcases q with q | q
  · exact h value slice pins s σ H x y v u Q I rx ry q hs
  · exact h' value slice pins s σ H x y v u Q I rx ry q hs
theorem MtR.or {id : String} {r r' : V → List V → Hp → VK → Prop} (h : MtR X id r) (h' : MtR X id r') : MtR X id (fun x xs H Q => r x xs H Q ∨ r' x xs H Q) := by
  intro pins s σ H x xs v us Q I rx rs q
  rcases q with q | q
  · exact h pins s σ H x xs v us Q I rx rs q
  · exact h' pins s σ H x xs v us Q I rx rs q
/-- a[b] -/
theorem pe_ix {r : R2} (hr : IxR X r) (ha : PE X a ta) (hb : PE X b tb) (hs : PlainIx b) : PE X (.Subscript a b pos) (tOp r ta tb) := by
  intro pins s σ H Q I h
  exact Subscript_ (binT ha hb I h fun v u s2 x y H2 I2 rx ry q => hr a b pins s2 σ H2 x y v u Q I2 rx ry q (hs _ _))

def rIxL (K : PySem.W.Frag) : R2 := fun x y H Q => ∃ p xs i v, x = .ref p ∧ y = .int i ∧ SqL K H p xs ∧ atI xs i = some v ∧ Q v H
def rIxT (K : PySem.W.Frag) : R2 := fun x y H Q => ∃ p xs i v, x = .ref p ∧ y = .int i ∧ SqT K H p xs ∧ atI xs i = some v ∧ Q v H
def rIxS : R2 := fun x y H Q => ∃ z i c, x = .str z ∧ y = .int i ∧ z.length ≤ sizeLine ∧ atI z.cps.toList i = some c ∧ Q (.str ⟨#[c]⟩) H
theorem ix_list : IxR X (rIxL X.K) := by
  intro value slice pins s σ H x y v u Q I rx ry h hs
  obtain ⟨p, xs, i, z, rfl, rfl, hq, he, q⟩ := h
  cases rx
  obtain ⟨t, rfl⟩ := ry
  obtain ⟨its, r, pl, hz⟩ := I.list hq
  obtain ⟨j, h1, h2, h3, h4, h5⟩ := atI_get he
  obtain ⟨w, ew, rw'⟩ := r.get h2
  have hl := r.length
  have hn := line63
  have fin : EP X pins σ Q w s := ⟨z, H, I, rw', q⟩
  by_cases h0 : 0 ≤ i
  · have hj : i.toNat = j := by
      rw [seqIndex_of h0 h5] at h1
      exact Option.some.inj h1
    exact item_listR pl.isList h0 (by omega) (by rw [hj]; simpa using ew) fin hs
  · have hj : (i + (its.toArray.size : Int)).toNat = j := by
      rw [seqIndex_neg (by omega) h4] at h1
      rw [List.size_toArray, ← hl]
      exact Option.some.inj h1
    exact subscriptTail_builtinR (x := w) pl.isList.typeIs slot_list_getitem.lookup
      (wpAny_getItem_list_neg (Q := fun r s' => r = w ∧ EP X pins σ Q r s') pl.isList (by omega) (by rw [List.size_toArray] <;> omega) (by omega) (by rw [hj]; simpa using ew) ⟨rfl, fin⟩) hs
theorem ix_tup : IxR X (rIxT X.K) := by
  intro value slice pins s σ H x y v u Q I rx ry h hs
  obtain ⟨p, xs, i, z, rfl, rfl, hq, he, q⟩ := h
  cases rx
  obtain ⟨t, rfl⟩ := ry
  obtain ⟨its, r, pl, hz⟩ := I.tuple hq
  obtain ⟨j, h1, h2, h3, h4, h5⟩ := atI_get he
  obtain ⟨w, ew, rw'⟩ := r.get h2
  have hl := r.length
  have hn := line63
  have fin : EP X pins σ Q w s := ⟨z, H, I, rw', q⟩
  exact subscriptTail_builtinR (x := w) pl.typeIs slot_tuple_getitem.lookup
    (getItem_tuple (j := j) (Q := fun r s' => r = w ∧ EP X pins σ Q r s') pl (by omega) (by omega) (by rw [List.size_toArray, ← hl]; exact h1) (by simpa using ew) ⟨rfl, fin⟩) hs
theorem ix_str : IxR X rIxS := by
  intro value slice pins s σ H x y v u Q I rx ry h hs
  obtain ⟨z, i, c, rfl, rfl, hz, he, q⟩ := h
  obtain ⟨t, rfl⟩ := rx
  obtain ⟨t', rfl⟩ := ry
  obtain ⟨j, h1, h2, h3, h4, h5⟩ := atI_get he
  have hl : z.cps.toList.length = z.length := by simp [Str.length]
  rw [hl] at h1 h4 h5
  have hn := line63
  exact tail_any (typeIs_str s z t) slot_str_getitem.lookup (getItem_str (c := c) (by
    have e1 : decide (i < -(2 ^ 63 : Int)) = false := decide_eq_false (by omega)
    have e2 : decide (i ≥ 2 ^ 63) = false := decide_eq_false (by omega)
    rw [e1, e2, Bool.or_false]) (by rw [h1]; simpa using h2) ⟨.str ⟨#[c]⟩, H, I.tok _, ⟨_, rfl⟩, q⟩) hs
/-- list, tuple or str -/
def rIx (K : PySem.W.Frag) : R2 := fun x y H Q => rIxL K x y H Q ∨ rIxT K x y H Q ∨ rIxS x y H Q
/-! ### xs[i] = v, any sign -/
/-- the list's object behind a store -/
theorem mapSeq_set (its : List Value) (n j : Nat) (u : Value) : Obj.mapSeq (·.setIfInBounds j u) { cls := .type "list", data := .seq its.toArray n } = { cls := .type "list", data := .seq (its.set j u).toArray n } := by
  simp [Obj.mapSeq]
theorem Inv.lst {pins : List (Addr × Obj)} {σ : St} {H : Hp} {s : Shared} {p : Addr} {xs : List V} (I : Inv X pins σ H s) (h : H p = some (.lst xs)) :
    ∃ (its : List Value) (n : Nat), Vals xs its ∧ s.heap.get? p = some { cls := .type "list", data := .seq its.toArray n } ∧ xs.length ≤ sizeLine := by
  obtain ⟨z, its, n, r, e⟩ := I.hok p _ h
  exact ⟨its, n, r, e, z⟩
/-- the list at p is written by an update of its object -/
theorem Inv.lstUpd {pins : List (Addr × Obj)} {σ : St} {H : Hp} {s : Shared} {p : Addr} {xs ys : List V} {its its' : List Value} {n n' : Nat} {f : Obj → Obj} (I : Inv X pins σ H s) (h : H p = some (.lst xs))
    (ho : s.heap.get? p = some { cls := .type "list", data := .seq its.toArray n }) (hf : f { cls := .type "list", data := .seq its.toArray n } = { cls := .type "list", data := .seq its'.toArray n' }) (r : Vals ys its') (hz : ys.length ≤ sizeLine) (t : Nat) :
    Inv X pins σ (upd H p (.lst ys)) { s with heap := s.heap.update p f, toks := t } := by
  have e : (s.heap.update p f).get? p = some { cls := .type "list", data := .seq its'.toArray n' } := by
    rw [Heap.get?_update_self f ho (by rw [hf] <;> rfl), hf]
  refine I.write (x := p) (e := p) (by rw [h]; trivial) (.inl rfl) (fun b u hb q => (Heap.get?_update_other _ _ (Ne.symm hb)).trans q) ⟨_, e⟩ ?_
  exact ⟨hz, its', n', r, e⟩
def rSetL : V → V → V → Hp → (Hp → Prop) → Prop := fun o i v H Q => ∃ p xs k j, o = .ref p ∧ i = .int k ∧ H p = some (.lst xs) ∧ ixN xs.length k = some j ∧ Q (upd H p (.lst (xs.set j v)))
theorem set_list : PSet X rSetL := by
  intro pins s σ H o i v ov iv u Q I ro ri rv h
  obtain ⟨p, xs, k, j, rfl, rfl, hp, hj, q⟩ := h
  cases ro
  obtain ⟨t, rfl⟩ := ri
  obtain ⟨its, n, r, ho, hz⟩ := I.lst hp
  obtain ⟨h1, h2, h3, h4⟩ := ixN_seq hj
  have hl := r.length
  have hn := line63
  have I' : Inv X pins σ (upd H p (.lst (xs.set j v))) { s with heap := s.heap.update p (Obj.mapSeq (·.setIfInBounds j u)) } :=
    I.lstUpd hp ho (mapSeq_set its n j u) (r.set rv j) (by rw [List.length_set]; exact hz) s.toks
  by_cases h0 : 0 ≤ k
  · have hk : k.toNat = j := by
      rw [seqIndex_of h0 h4] at h1
      exact Option.some.inj h1
    exact PySem.W.ki_setAt ho h0 (by omega) (by rw [List.size_toArray, ← hl]; exact h4) (by rw [hk]; exact ⟨_, I', q⟩)
  · have hk : (k + (its.toArray.size : Int)).toNat = j := by
      rw [seqIndex_neg (by omega) h3] at h1
      rw [List.size_toArray, ← hl]
      exact Option.some.inj h1
    exact PySem.W.ki_setBack ho (by omega) (by rw [List.size_toArray, ← hl]; exact h3) (by omega) (by rw [hk]; exact ⟨_, I', q⟩)

/-! ### slices -/
theorem slice_bounds (lo hi : Option Int) (n : Nat) : (sliceBounds lo hi none n).1 = ((HT.sIx n 0 lo : Nat) : Int) ∧ (sliceBounds lo hi none n).2.1 = ((HT.sIx n n hi : Nat) : Int) ∧ (sliceBounds lo hi none n).2.2 = 1 := by
  refine ⟨?_, ?_, rfl⟩
  · cases lo with
    | none => simp [sliceBounds, HT.sIx]
    | some i =>
      simp only [sliceBounds, HT.sIx, Option.getD_none, show (1 : Int) > 0 by decide, if_true]
      by_cases h : i < 0
      · simp only [h, if_true] <;> omega
      · simp only [h, if_false] <;> omega
  · cases hi with
    | none => simp [sliceBounds, HT.sIx]
    | some i =>
      simp only [sliceBounds, HT.sIx, Option.getD_none, show (1 : Int) > 0 by decide, if_true]
      by_cases h : i < 0
      · simp only [h, if_true] <;> omega
      · simp only [h, if_false] <;> omega
theorem slicePick_cut (its : List Value) (lo hi : Option Int) : slicePick its.toArray lo hi none = ((its.drop (HT.sIx its.length 0 lo)).take (HT.sIx its.length its.length hi - HT.sIx its.length 0 lo)).toArray := by
  obtain ⟨h1, h2, h3⟩ := slice_bounds lo hi its.toArray.size
  unfold slicePick
  rw [h1, h2, h3]
  simp only [sliceRange_one, pick_run, List.size_toArray] <;> rfl
/-- xs[lo:hi] of a list: a new list -/
def rSlL (K : PySem.W.Frag) : V → Option Int → Option Int → Hp → VK → Prop := fun x lo hi H Q => ∃ a xs, x = .ref a ∧ SqL K H a xs ∧ ∀ p, H p = none → Q (.ref p) (upd H p (.lst (cutV xs lo hi)))
theorem sl_list : SlR X (rSlL X.K) := by
  intro pins s σ H x v vl vu lo hi sl Q I rx hs pl pu h
  obtain ⟨a, xs, rfl, hx, q⟩ := h
  cases rx
  obtain ⟨its, r, ht, hz⟩ := I.list hx
  have hlen := r.length
  refine ⟨"list", _, slot_list_getitem.lookup, ht.isList.typeIs, ?_⟩
  refine wpAny_getItem_list_slice ht.isList hs pl pu .none (by simp) ?_ (by rw [List.size_toArray] <;> omega)
  rw [slicePick_cut, ← hlen]
  refine ⟨.ref s.heap.objs.size, _, I.laid (t' := s.toks) (o := .lst (cutV xs lo hi)) (fun b ob q => Heap.get?_push_of_some _ q) (Nat.le_refl _) ?_, rfl, q _ (I.hok.fresh (Nat.le_refl _))⟩
  exact ⟨Nat.le_trans (cutV_length xs lo hi) hz, _, 0, (r.drop (HT.sIx xs.length 0 lo)).take (HT.sIx xs.length xs.length hi - HT.sIx xs.length 0 lo), Heap.get?_push_size _ rfl⟩

/-! ### in, not in: flat items -/
def flatV : V → Bool
  | .non => true
  | .bl _ => true
  | .int _ => true
  | .str _ => true
  | _ => false
/-- == of flat values -/
def eqV : V → V → Bool
  | .non, .non => true
  | .bl a, .bl b => a == b
  | .bl a, .int b => (if a then 1 else 0) == b
  | .int a, .bl b => a == (if b then 1 else 0)
  | .int a, .int b => a == b
  | .str a, .str b => a == b
  | _, _ => false
theorem eqAt_V {A : Around} {s : Shared} {y x : V} {u v : Value} (ry : RelV y u) (rx : RelV x v) (fy : flatV y = true) (fx : flatV x = true) : SeqAt.EqAt A s u v (eqV y x) := by
  cases y with
  | non =>
    cases ry
    cases x with
    | non => cases rx; exact SeqAt.EqAt.same _
    | bl b => cases rx; exact SeqAt.EqAt.none_bool b
    | int b => obtain ⟨t, rfl⟩ := rx; exact SeqAt.EqAt.none_int b t
    | str b => obtain ⟨t, rfl⟩ := rx; exact SeqAt.EqAt.none_str b t
    | _ => exact absurd (show false = true from fx) Bool.false_ne_true
  | bl a =>
    cases ry
    cases x with
    | non => cases rx; exact SeqAt.EqAt.bool_none a
    | bl b => cases rx; exact SeqAt.EqAt.bool_bool a b
    | int b => obtain ⟨t, rfl⟩ := rx; exact SeqAt.EqAt.bool_int a b t
    | str b => obtain ⟨t, rfl⟩ := rx; exact SeqAt.EqAt.bool_str a b t
    | _ => exact absurd (show false = true from fx) Bool.false_ne_true
  | int a =>
    obtain ⟨t', rfl⟩ := ry
    cases x with
    | non => cases rx; exact SeqAt.EqAt.int_none a t'
    | bl b => cases rx; exact SeqAt.EqAt.int_bool a t' b
    | int b => obtain ⟨t, rfl⟩ := rx; exact SeqAt.EqAt.int_int a t' b t
    | str b => obtain ⟨t, rfl⟩ := rx; exact SeqAt.EqAt.int_str a t' b t
    | _ => exact absurd (show false = true from fx) Bool.false_ne_true
  | str a =>
    obtain ⟨t', rfl⟩ := ry
    cases x with
    | non => cases rx; exact SeqAt.EqAt.str_none a t'
    | bl b => cases rx; exact SeqAt.EqAt.str_bool a t' b
    | int b => obtain ⟨t, rfl⟩ := rx; exact SeqAt.EqAt.str_int a t' b t
    | str b => obtain ⟨t, rfl⟩ := rx; exact SeqAt.EqAt.str_str a t' b t
    | _ => exact absurd (show false = true from fx) Bool.false_ne_true
  | _ => exact absurd (show false = true from fy) Bool.false_ne_true
/-- the items' answers, read off the values (a value's own answer does not lean on its token) -/
def eqU (x : V) (u : Value) : Bool := match u with
  | .none => eqV .non x
  | .bool b => eqV (.bl b) x
  | .int i _ => eqV (.int i) x
  | .str z _ => eqV (.str z) x
  | _ => false
theorem eqU_of {x y : V} {u : Value} (r : RelV y u) (f : flatV y = true) : eqU x u = eqV y x := by
  cases y with
  | non => cases r; rfl
  | bl b => cases r; rfl
  | int i => obtain ⟨t, rfl⟩ := r; rfl
  | str z => obtain ⟨t, rfl⟩ := r; rfl
  | _ => exact absurd (show false = true from f) Bool.false_ne_true
theorem any_eqU {x : V} : ∀ {xs : List V} {us : List Value}, Vals xs us → xs.all flatV = true → us.any (eqU x) = xs.any fun y => eqV y x
  | _, _, .nil, _ => rfl
  | y :: xs, u :: us, .cons r t, f => by
    rw [List.all_cons, Bool.and_eq_true] at f
    rw [List.any_cons, List.any_cons, eqU_of r f.1, any_eqU t f.2]
theorem mem_eqAt {A : Around} {s : Shared} {x : V} {v : Value} (rx : RelV x v) (fx : flatV x = true) : ∀ {xs : List V} {us : List Value}, Vals xs us → xs.all flatV = true → ∀ u ∈ us, SeqAt.EqAt A s u v (eqU x u)
  | _, _, .nil, _ => fun u hu => by cases hu
  | y :: xs, u :: us, .cons r t, f => fun u' hu => by
    rw [List.all_cons, Bool.and_eq_true] at f
    rcases List.mem_cons.mp hu with rfl | hu
    · rw [eqU_of r f.1]; exact eqAt_V r rx f.1 fx
    · exact mem_eqAt rx fx t f.2 u' hu
def inV (x : V) (xs : List V) : Bool := xs.any fun y => eqV y x
/-- x in a list or tuple of flat items -/
def rIn (K : PySem.W.Frag) (neg : Bool) : R2 := fun x y H Q => ∃ p xs, y = .ref p ∧ (SqL K H p xs ∨ SqT K H p xs) ∧ flatV x = true ∧ xs.all flatV = true ∧ Q (.bl (if neg then !inV x xs else inV x xs)) H
theorem op_notIn_seq : OpR X (compareOp .NotIn) (rIn X.K true) := by
  intro pins s σ H x y v u Q I rx ry h
  obtain ⟨p, xs, rfl, hq, fx, fs, q⟩ := h
  cases ry
  rcases hq with hq | hq
  · obtain ⟨its, r, pl, hz⟩ := I.list hq
    refine SeqAt.notIn_listAt (eqU x) pl.isList (fun w hw => mem_eqAt rx fx r fs w (by simpa using hw)) ⟨.bl _, H, I, rfl, ?_⟩
    rw [show its.toArray.any (eqU x) = its.any (eqU x) by simp, any_eqU r fs]
    exact q
  · obtain ⟨its, r, pl, hz⟩ := I.tuple hq
    refine SeqAt.notIn_tupleAt (eqU x) pl (fun w hw => mem_eqAt rx fx r fs w (by simpa using hw)) ⟨.bl _, H, I, rfl, ?_⟩
    rw [show its.toArray.any (eqU x) = its.any (eqU x) by simp, any_eqU r fs]
    exact q
/-! ### len, list(x), tuple(x) of any list or tuple that is read -/
theorem call_len_seq : CallR X (.builtin "len") (fun xs H Q => ∃ p ys, xs = [.ref p] ∧ (SqL X.K H p ys ∨ SqT X.K H p ys) ∧ Q (.int ys.length) H) := by
  intro pins s σ H xs us Q I r h
  obtain ⟨p, ys, rfl, hq, q⟩ := h
  obtain ⟨u, rfl, rx⟩ := vals1 r
  cases rx
  have hn := line63
  rcases hq with hq | hq
  · obtain ⟨its, r', pl, hz⟩ := I.list hq
    have hlen := r'.length
    exact Calls.call_len_list pl.isList (by simp only [List.size_toArray] <;> omega) ⟨.int ys.length, H, I.tok _, ⟨s.toks + 1, by rw [List.size_toArray, hlen]⟩, q⟩
  · obtain ⟨its, r', pl, hz⟩ := I.tuple hq
    have hlen := r'.length
    exact len_tuple pl (by simp only [List.size_toArray] <;> omega) ⟨.int ys.length, H, I.tok _, ⟨s.toks + 1, by rw [List.size_toArray, hlen]⟩, q⟩
theorem call_len_str : CallR X (.builtin "len") (fun xs H Q => ∃ z, xs = [.str z] ∧ z.length ≤ sizeLine ∧ Q (.int z.length) H) := by
  intro pins s σ H xs us Q I r h
  obtain ⟨z, rfl, hz, q⟩ := h
  obtain ⟨u, rfl, t, rfl⟩ := vals1 r
  have hn := line63
  exact len_str (by omega) ⟨.int z.length, H, I.tok _, ⟨_, rfl⟩, q⟩
theorem CallR.or {f : Value} {r r' : List V → Hp → VK → Prop} (h : CallR X f r) (h' : CallR X f r') : CallR X f (fun xs H Q => r xs H Q ∨ r' xs H Q) := by
  intro pins s σ H xs us Q I rs q
  rcases q with q | q
  · exact h pins s σ H xs us Q I rs q
  · exact h' pins s σ H xs us Q I rs q
theorem call_list_of : CallR X (.type "list") (fun xs H Q => ∃ p ys, xs = [.ref p] ∧ (SqL X.K H p ys ∨ SqT X.K H p ys) ∧ ∀ l, H l = none → Q (.ref l) (upd H l (.lst ys))) := by
  intro pins s σ H xs us Q I r h
  obtain ⟨p, ys, rfl, hq, q⟩ := h
  obtain ⟨u, rfl, rx⟩ := vals1 r
  cases rx
  have fin : ∀ (its : List Value), Vals ys its → ys.length ≤ sizeLine → ∀ (h' : Heap) (c' : Nat), (∀ b o', s.heap.get? b = some o' → h'.get? b = some o') →
      h'.get? s.heap.objs.size = some { cls := .type "list", dict := none, data := .seq its.toArray c', slots := #[] } → EP X pins σ Q (.ref s.heap.objs.size) { s with heap := h' } := fun its r' hz h' c' kp e =>
    ⟨.ref s.heap.objs.size, _, I.laid (t' := s.toks) kp (Nat.le_refl _) (show ObjOk X.prog X.w _ h' _ (.lst ys) from ⟨hz, its, c', r', e⟩), rfl, q _ (I.hok.fresh (Nat.le_refl _))⟩
  rcases hq with hq | hq
  · obtain ⟨its, r', pl, hz⟩ := I.list hq
    have hlen := r'.length
    obtain ⟨o, ho, hc, n, hd⟩ := pl.isList
    exact call_list_seq p (.inl rfl) ho hc hd (fun h' c' kp e => fin its r' hz h' c' kp e) (by simp only [List.size_toArray] <;> omega)
  · obtain ⟨its, r', pl, hz⟩ := I.tuple hq
    have hlen := r'.length
    obtain ⟨o, ho, hc, n, hd⟩ := pl
    exact call_list_seq p (.inr rfl) ho hc hd (fun h' c' kp e => fin its r' hz h' c' kp e) (by simp only [List.size_toArray] <;> omega)
theorem call_tuple_of : CallR X (.type "tuple") (fun xs H Q => ∃ p ys, xs = [.ref p] ∧ ((SqL X.K H p ys ∧ ∀ l, H l = none → Q (.ref l) (upd H l (.tup ys))) ∨ (SqT X.K H p ys ∧ Q (.ref p) H))) := by
  intro pins s σ H xs us Q I r h
  obtain ⟨p, ys, rfl, h⟩ := h
  obtain ⟨u, rfl, rx⟩ := vals1 r
  cases rx
  rcases h with ⟨hq, q⟩ | ⟨hq, q⟩
  · obtain ⟨its, r', pl, hz⟩ := I.list hq
    have hlen := r'.length
    refine call_tuple_list pl.isList (fun h' kp => ?_) (by simp only [List.size_toArray] <;> omega)
    have I1 : Inv X pins σ H { s with heap := h' } := I.kept (t' := s.toks) kp
    have I2 : Inv X pins σ (upd H h'.objs.size (.tup ys)) { s with heap := h'.push { cls := .type "tuple", data := .seq its.toArray } } :=
      I1.laid (t' := s.toks) (fun b o e => Heap.get?_push_of_some _ e) (Nat.le_refl _) (show ObjOk X.prog X.w _ _ _ (.tup ys) from ⟨hz, its, r', IsTup.new _ _⟩)
    exact ⟨.ref h'.objs.size, _, I2, rfl, q _ (I1.hok.fresh (Nat.le_refl _))⟩
  · obtain ⟨its, r', pl, hz⟩ := I.tuple hq
    exact call_tuple_same pl ⟨.ref p, H, I, rfl, q⟩

/-! ### the call of a builtin's method: o.m(..) -/
/-- the value is of that builtin type -/
def tyV (K : PySem.W.Frag) (T : String) (x : V) (H : Hp) : Prop := match x with
  | .str _ => T = "str"
  | .int _ => T = "int"
  | .ref p => (T = "list" ∧ ∃ xs, SqL K H p xs) ∨ (T = "tuple" ∧ ∃ o, K.lookup p = some o ∧ o.cls = .type "tuple" ∧ o.dict = none) ∨
      (T = "dict" ∧ ((∃ kvs, H p = some (.dK kvs)) ∨ ∃ kvs, H p = some (.dT kvs))) ∨ (T = "set" ∧ ∃ S n, H p = some (.set S n))
  | _ => False
theorem tyV_is {pins : List (Addr × Obj)} {σ : St} {H : Hp} {s : Shared} {T : String} {x : V} {v : Value} (I : Inv X pins σ H s) (r : RelV x v) (ty : tyV X.K T x H) :
    s.TypeIs v T ∧ ∀ a, v = .ref a → ∃ ob, s.heap.get? a = some ob ∧ ob.dict = none := by
  cases x with
  | str z =>
    obtain ⟨t, rfl⟩ := r
    cases (show T = "str" from ty)
    exact ⟨typeIs_str s z t, fun _ e => nomatch e⟩
  | int i =>
    obtain ⟨t, rfl⟩ := r
    cases (show T = "int" from ty)
    exact ⟨typeIs_int s i t, fun _ e => nomatch e⟩
  | ref p =>
    cases r
    rcases ty with ⟨rfl, xs, hq⟩ | ⟨rfl, o, hk, hc, hd⟩ | ⟨rfl, hk⟩ | ⟨rfl, S, n, hk⟩
    · obtain ⟨its, _, pl, _⟩ := I.list hq
      refine ⟨pl.isList.typeIs, fun a e => ?_⟩
      cases e
      obtain ⟨o, n, e, c, hd, _⟩ := pl
      exact ⟨o, e, hd⟩
    · refine ⟨⟨o, I.kIn p o hk, hc⟩, fun a e => ?_⟩
      cases e
      exact ⟨o, I.kIn _ o hk, hd⟩
    · have z : ∃ o, s.heap.get? p = some o ∧ o.ExactDict := by
        rcases hk with ⟨kvs, hk⟩ | ⟨kvs, hk⟩
        · obtain ⟨_, _, _, _, o, _, _, e, ex, _⟩ := I.hok p _ hk
          exact ⟨o, e, ex⟩
        · obtain ⟨_, _, _, _, o, _, _, e, ex, _⟩ := I.hok p _ hk
          exact ⟨o, e, ex⟩
      obtain ⟨o, e, ex⟩ := z
      refine ⟨⟨o, e, ex.1⟩, fun a e2 => ?_⟩
      cases e2
      exact ⟨o, e, ex.2.1⟩
    · obtain ⟨o, _, _, _, e, ex, _⟩ := I.hok p _ hk
      refine ⟨⟨o, e, ex.1⟩, fun a e2 => ?_⟩
      cases e2
      exact ⟨o, e, ex.2.1⟩
  | _ => exact False.elim ty
def tBM0 (K : PySem.W.Frag) (T : String) (r : V → List V → Hp → VK → Prop) (to : TE) : TE := fun σ H Q => to σ H fun x H1 => tyV K T x H1 ∧ r x [] H1 Q
def tBM (K : PySem.W.Frag) (T : String) (r : V → List V → Hp → VK → Prop) (to : TE) (t : TA) : TE := fun σ H Q => to σ H fun x H1 => tyV K T x H1 ∧ t σ H1 fun xs H2 => r x xs H2 Q
variable {o e : Expr} {es : List Expr} {to : TE} {t : TA} {name : Str} {apos cpos : Pos} {T id : String} {r : V → List V → Hp → VK → Prop}
theorem pe_bm (pa : PlainAttrs T) (slot : Slot T name id) (hty : typeOf (.builtin id) = pure (.type "method_descriptor")) (hm : MtR X id r) (ho : PE X o to) (ha : PA X (e :: es) t)
    (hbase : attributeBase o name X.env (eval o X.env) = eval o X.env := by rfl)
    (hfew : ((backTo cpos (starEach (e :: es) X.env)).all (fun x => !x.1) && (backToKw cpos (keywordEach [] X.env)).all (fun x => x.1.isSome)
      && decide ((e :: es).length + ([] : List Keyword).length + (if ([] : List Keyword).isEmpty then 0 else 1) < 30)) = true := by rfl)
    (hline : (apos.endLine == cpos.line) = true := by rfl) (hs : starEach (e :: es) X.env = (false, eval e X.env) :: starEach es X.env := by rfl) (hplain : (backTo cpos (starEach es X.env)).any (·.1) = false := by rfl) :
    PE X (.Call (.Attribute o name apos) (e :: es) [] cpos) (tBM X.K T r to t) := by
  intro pins s σ H Q I h
  refine wpAny_Call_method_late hbase hfew hline rfl (thn (ho pins s σ H _ I h) fun v s1 ⟨x, H1, I1, r1, ty, q1⟩ => ?_)
  obtain ⟨h1, h2⟩ := tyV_is I1 r1 ty
  refine ⟨T, id, pa, slot, hty, h1, h2, ?_⟩
  have hA := ha cpos pins s1 σ H1 _ I1 q1
  rw [hs] at hA ⊢
  refine Calls.callWith_builtin (by show (false || (backTo cpos (starEach es X.env)).any (·.1)) = false; rw [hplain] <;> rfl) (Calls.evalArgs_plain ?_)
  exact thn hA fun us s2 ⟨vs, H2, I2, r2, q2⟩ => hm pins s2 σ H2 x vs v us Q I2 r1 r2 q2
/- xs.append(e), list.index on a module's tuple .. are MtR facts of 06m -/
end
end L2

namespace L2
open PySem PySem.Spec PyProof.Rows

def MtM (X : Cx) (id : String) (r : V → List V → Hp → VK → Prop) : Prop :=
  ∀ (pins : List (Addr × Obj)) (s : Shared) (σ : St) (H : Hp) (x : V) (xs : List V) (v : Value) (us : List Value) (Q : VK), Inv X pins σ H s → RelV x v → Vals xs us → r x xs H Q →
    wpAny (model X.prog X.w) X.A (call (.builtin id) (v :: us)) (EP X pins σ Q) X.xe s

/-! ### lists of values -/
theorem Vals.one : ∀ {x : V} {us : List Value}, Vals [x] us → ∃ u, us = [u] ∧ RelV x u
  | _, _, .cons r .nil => ⟨_, rfl, r⟩
theorem Vals.two : ∀ {x y : V} {us : List Value}, Vals [x, y] us → ∃ u v, us = [u, v] ∧ RelV x u ∧ RelV y v
  | _, _, _, .cons r (.cons q .nil) => ⟨_, _, rfl, r, q⟩
theorem Vals.zero : ∀ {us : List Value}, Vals [] us → us = []
  | _, .nil => rfl
theorem Vals.dropLast {xs : List V} {us : List Value} (h : Vals xs us) : Vals xs.dropLast us.dropLast := by
  induction h with
  | nil => exact .nil
  | cons r t ih =>
    cases t with
    | nil => exact .nil
    | cons q t' => exact .cons r ih
theorem Vals.eraseIdx : ∀ {xs : List V} {us : List Value} (i : Nat), Vals xs us → Vals (xs.eraseIdx i) (us.eraseIdx i)
  | _, _, _, .nil => .nil
  | _, _, 0, .cons _ t => t
  | _, _, i + 1, .cons r t => .cons r (Vals.eraseIdx i t)
theorem Vals.reverse {xs : List V} {us : List Value} (h : Vals xs us) : Vals xs.reverse us.reverse := by
  induction h with
  | nil => exact .nil
  | cons r t ih => rw [List.reverse_cons, List.reverse_cons]; exact Vals.append ih (.cons r .nil)
section
variable {X : Cx} {pins : List (Addr × Obj)} {σ : St} {H : Hp} {s : Shared} {l b : Addr} {xs ys zs : List V}

/-! ### the two steps: a tracked list is rewritten, a new list is laid -/
theorem Inv.lset {its its' : List Value} {n : Nat} {f : Array Value → Array Value} {t' : Nat} (I : Inv X pins σ H s) (hH : H l = some (.lst xs))
    (e : s.heap.get? l = some { cls := .type "list", data := .seq its.toArray n }) (hf : f its.toArray = its'.toArray) (hv : Vals ys its') (hz : ys.length ≤ sizeLine) :
    Inv X pins σ (upd H l (.lst ys)) { s with heap := s.heap.update l (Obj.mapSeq f), toks := t' } := by
  have q := PySem.IsL.update e f
  rw [hf] at q
  refine I.write (x := l) (e := l) (by rw [hH]; exact trivial) (.inl rfl) (fun b' u hb hu => (Heap.get?_update_other s.heap (Obj.mapSeq f) (Ne.symm hb)).trans hu) ⟨_, q⟩ ?_
  exact ⟨hz, its', _, hv, q⟩
theorem Inv.lnew {its : List Value} {t' : Nat} (I : Inv X pins σ H s) (hv : Vals ys its) (hz : ys.length ≤ sizeLine) :
    Inv X pins σ (upd H s.heap.objs.size (.lst ys)) { s with heap := s.heap.push { cls := .type "list", data := .seq its.toArray }, toks := t' } :=
  I.laid (fun _ _ q => Heap.get?_push_of_some _ q) (Nat.le_refl _) ⟨hz, its, 0, hv, Heap.get?_push_size _ rfl⟩
theorem Inv.fresh (I : Inv X pins σ H s) : H s.heap.objs.size = none := I.hok.fresh (Nat.le_refl _)
theorem Inv.lstM (I : Inv X pins σ H s) (hH : H l = some (.lst xs)) : xs.length ≤ sizeLine ∧ ∃ (its : List Value) (n : Nat), Vals xs its ∧ xs.length = its.length ∧ s.heap.get? l = some { cls := .type "list", data := .seq its.toArray n } := by
  obtain ⟨z, its, n, r, e⟩ := I.hok l _ hH
  exact ⟨z, its, n, r, r.length, e⟩

theorem notLongL {n : Nat} (h : n ≤ sizeLine) : Builtin.List.listTooLong n = false := by
  unfold Builtin.List.listTooLong
  exact decide_eq_false (by omega)
end

section
variable {X : Cx}

/-! ### methods -/
def rAppend : V → List V → Hp → VK → Prop := fun x vs H Q => ∃ l xs y, x = .ref l ∧ vs = [y] ∧ H l = some (.lst xs) ∧ xs.length < sizeLine ∧ Q .non (upd H l (.lst (xs ++ [y])))
theorem mt_append : MtM X "list.append" rAppend := by
  intro pins s σ H x vs v us Q I rx rv h
  obtain ⟨l, xs, y, rfl, rfl, hH, hz, q⟩ := h
  cases rx
  obtain ⟨u, rfl, ru⟩ := rv.one
  obtain ⟨z, its, n, r, hl, e⟩ := I.lstM hH
  refine call_meets F.slot_list_append ⟨_, e, rfl⟩ F.entry_list_append (F.args_list_append_2 _ _) (PySem.list_append l its.toArray n u (by rw [List.size_toArray]; omega)) ⟨e, ?_⟩
  refine ⟨.non, _, I.lset (its' := its ++ [u]) hH e (by simp) (r.append (.cons ru .nil)) ?_, rfl, q⟩
  rw [List.length_append, List.length_singleton]
  omega

def rExtend : V → List V → Hp → VK → Prop := fun x vs H Q => ∃ l b xs zs, x = .ref l ∧ vs = [.ref b] ∧ H l = some (.lst xs) ∧ H b = some (.lst zs) ∧ xs.length + zs.length ≤ sizeLine ∧ Q .non (upd H l (.lst (xs ++ zs)))
theorem mt_extend : MtM X "list.extend" rExtend := by
  intro pins s σ H x vs v us Q I rx rv h
  obtain ⟨l, b, xs, zs, rfl, rfl, hH, hB, hz, q⟩ := h
  cases rx
  obtain ⟨u, rfl, ru⟩ := rv.one
  cases ru
  obtain ⟨z, its, n, r, hl, e⟩ := I.lstM hH
  obtain ⟨z2, its2, n2, r2, hl2, e2⟩ := I.lstM hB
  have hsz : its.toArray.size + its2.toArray.size ≤ sizeLine := by rw [List.size_toArray, List.size_toArray]; omega
  have hlong : ¬ (!its.toArray.isEmpty && Builtin.List.listTooLong (its.toArray.size + its2.toArray.size)) = true := by
    rw [notLongL hsz, Bool.and_false]
    exact Bool.false_ne_true
  refine call_meets F.slot_list_extend ⟨_, e, rfl⟩ F.entry_list_extend (F.args_list_extend_2 _ _)
    (AutoSeq1.list_extend_list_list_0 l its.toArray n b its2.toArray n2 hlong (by rw [List.size_toArray]; omega) (by omega)) ⟨e, e2, ?_⟩
  refine ⟨.non, _, I.lset (its' := its ++ its2) hH e (by simp) (r.append r2) ?_, rfl, q⟩
  rw [List.length_append]
  omega

def rPop : V → List V → Hp → VK → Prop := fun x vs H Q => ∃ l xs y, x = .ref l ∧ vs = [] ∧ H l = some (.lst xs) ∧ xs[xs.length - 1]? = some y ∧ Q y (upd H l (.lst xs.dropLast))
def rPopAt : V → List V → Hp → VK → Prop := fun x vs H Q => ∃ l xs i k y, x = .ref l ∧ vs = [.int i] ∧ H l = some (.lst xs) ∧ -(2 ^ 63) ≤ i ∧ i < 2 ^ 63 ∧ seqIndex? i xs.length = some k ∧ xs[k]? = some y ∧ Q y (upd H l (.lst (xs.eraseIdx k)))
def rReverse : V → List V → Hp → VK → Prop := fun x vs H Q => ∃ l xs, x = .ref l ∧ vs = [] ∧ H l = some (.lst xs) ∧ Q .non (upd H l (.lst xs.reverse))
def rClear : V → List V → Hp → VK → Prop := fun x vs H Q => ∃ l xs, x = .ref l ∧ vs = [] ∧ H l = some (.lst xs) ∧ Q .non (upd H l (.lst []))
/-! ### list + list, list += list, list * int -/
def rCat : R2 := fun x y H Q => ∃ l b xs zs, x = .ref l ∧ y = .ref b ∧ H l = some (.lst xs) ∧ H b = some (.lst zs) ∧ xs.length + zs.length ≤ sizeLine ∧ ∀ p, H p = none → Q (.ref p) (upd H p (.lst (xs ++ zs)))
theorem op_cat : OpR X (binaryOp .Add) rCat := by
  intro pins s σ H x y v u Q I rx ry h
  obtain ⟨l, b, xs, zs, rfl, rfl, hH, hB, hz, q⟩ := h
  cases rx
  cases ry
  obtain ⟨z, its, n, r, hl, e⟩ := I.lstM hH
  obtain ⟨z2, its2, n2, r2, hl2, e2⟩ := I.lstM hB
  refine PySem.P.add_list e e2 ?_ (by rw [List.size_toArray, List.size_toArray]; omega)
  have ea : its.toArray ++ its2.toArray = (its ++ its2).toArray := by simp
  rw [ea]
  exact ⟨.ref _, _, I.lnew (t' := s.toks) (r.append r2) (by rw [List.length_append]; omega), rfl, q _ I.fresh⟩
/-- a list times an int (a negative one is nothing) -/
def rRep : R2 := fun x y H Q => ∃ l k xs, x = .ref l ∧ y = .int k ∧ H l = some (.lst xs) ∧ -(2 ^ 63) ≤ k ∧ k < 2 ^ 63 ∧ xs.length * k.toNat ≤ sizeLine ∧
  ∀ p, H p = none → Q (.ref p) (upd H p (.lst (List.replicate k.toNat xs).flatten))
/-! ### del xs[i] -/
end

/-! ### xs[a:b] = ys -/
section
variable {prog : Program} {w : World} {A : Around} {E : Value → Shared → Prop} {s : Shared}
set_option maxRecDepth 100000 in
end

section
variable {X : Cx}
end
end L2

namespace Att
open PySem PySem.W PySem.Calls PyProof.Rows

/-! ### the script -/
theorem ints_of_wellAll {P : Params} {h : Heap} : ∀ (ns : List Int) (vs : List Value), WellAll P h vs (ns.map WData.int) → IntsAre vs ns := by
  intro ns
  induction ns with
  | nil =>
    intro vs w
    rw [List.map_nil] at w
    cases w
    exact .nil
  | cons n ns ih =>
    intro vs w
    rw [List.map_cons] at w
    cases w with
    | cons a b =>
      cases a
      exact .cons _ _ (ih _ b)

theorem script_of {l : OpenLaw} {n : Nat} (hn : l.most = some n) {P : Params} {h : Heap} {args : List WData} {vals : List Value}
    (hpre : l.row.toRowW.claim.pre args = true) (hwl : WellAll P h vals args) :
    ∃ a vs ns, vals = [Value.ref a] ∧ args = [WData.list (ns.map WData.int)] ∧ h.get? a = some { cls := .type "list", data := .seq vs.toArray } ∧ IntsAre vs ns ∧ ns.length ≤ n := by
  have hsh : WShape.hasAll [] args [.list .int] = true := (pre_splitW hpre).1
  have hc : l.pre.holds [] { args := args } = true := (pre_splitW hpre).2
  obtain ⟨d, r, rfl, h1, h2⟩ := hasAllW_cons hsh
  obtain rfl := hasAllW_nil h2
  obtain ⟨xs, rfl, h3⟩ := hasW_list h1
  obtain ⟨ns, rfl⟩ := items_int h3
  have hlen : ns.length ≤ n := by
    unfold OpenLaw.pre at hc
    have h4 : (WTm.not (.lt (.lit (.int (n : Int))) (.len (.arg 0)))).holds [] { args := [.list (ns.map .int)] } = true := by
      have h4 := (holds_andW hc).1
      rw [hn] at h4
      exact h4
    have h5 := condW_of h4 (w_not (w_lt w_lit (w_len_list (w_arg rfl))))
    rw [List.length_map] at h5
    refine Nat.le_of_not_lt fun q => ?_
    have q' : (n : Int) < ((ns.length : Nat) : Int) := by omega
    first
      | (rw [decide_eq_true q'] at h5; exact absurd h5 (by decide))
      | (simp at h5; omega)
  cases hwl with
  | cons w1 w2 =>
    cases w2
    cases w1 with
    | list ho hall => exact ⟨_, _, ns, rfl, rfl, ho, ints_of_wellAll ns _ hall, hlen⟩

theorem post_true (l : OpenLaw) (args : List WData) : l.row.toRowW.claim.post args (.bool true) args = true :=
  postW_of (r := l.row.toRowW) (X := (true == true))
    (show WShape.has [] (.bool true) .bool = true by first | rfl | decide | simp [WShape.has, WShape.arms, WShape.armsAll])
    (show (WTm.eq .res (.lit (.bool true))).value [] { args := args, res := some (.bool true), after := args } = some (.bool (true == true)) from w_eq_bool (w_res rfl) w_lit) rfl

/-! ### the attachment: holds_open's last premise (the goal 'hc' behind k_head) from a wpAny of the law's body -/
/-- the same from a codeAny of the CALL (for a layer whose function contracts speak of calls) -/
theorem attach_call {l : OpenLaw} {n : Nat} {q : Program} {loose : List Str} {XP : (Str → Option Value) → Heap → Prop} {YP : World → Heap → Prop} {d : DefRec}
    (hn : l.most = some n) (hdf : d.params.defaults = [])
    (call : ∀ (w : World) (s₀ s₁ : Shared) (mg mb : Str → Option Value) (fa : Addr) (o : Obj) (pm cd doc : Value) (a : Addr) (vs : List Value) (ns : List Int),
      Ground q loose [] XP w s₀ mg mb s₁.heap → YP w s₁.heap →
      s₁.heap.get? fa = some o → o.data = .func (docDef d.name d.params d.body d.scope pm cd doc) → s₁.heap.CodeRec cd d.name → mg d.name = some (.ref fa) →
      s₁.heap.get? a = some { cls := .type "list", data := .seq vs.toArray } → IntsAre vs ns → ns.length ≤ n → s₁.gens = #[] →
      codeAny (model l.prog w) callerA (.call (.ref fa) ⟨[.ref a], []⟩) (fun r s' => r = .ok (.ret (.bool true)) ∧ OldK s₁.heap s'.heap ∧ s'.os = s₁.os ∧ AllBare s'.gens) s₁) :
    WalkO q loose XP YP l.row.toRowW d [] (fun f vs => PySem.call f vs) := by
  intro w s₀ s₁ mg mb G Y fa o pm cd doc dV kV ho hd hcd hD hmg hg args vals as hpre hlay hrd hwl hlo
  obtain rfl : dV = .none := Dflts.none hD hdf
  obtain rfl : kV = .none := Dflts.noKw hD
  obtain ⟨a, vs, ns, rfl, rfl, hobj, hints, hlen⟩ := script_of hn hpre hwl
  refine enter_call (codeAny_mono (call w s₀ s₁ mg mb fa o pm cd doc a vs ns G Y ho (fd_plain hd) hcd hmg hobj hints hlen hg) fun r s' hq => ?_)
  obtain ⟨rfl, h2, h3, h4⟩ := hq
  exact ⟨.inl ⟨.bool true, .bool true, [], rfl, fun _ => rfl, .bool true, post_true l _, fun _ => ⟨List.Pairwise.nil, fun _ hm => (nomatch hm)⟩⟩, h2, h3, h4⟩

/-! ### rules over ANY heap (no ledger) from facts about the written part K: the library's own take a ledger (News) for what they write -/
section
variable {prog : Program} {w : World} {A : Around} {E : Value → Shared → Prop} {s : Shared} {K : Frag}

/-! the whole heap as the ledger: makes every rule that writes through a ledger a rule over any heap -/
def noObjs (h : Heap) : Heap := { h with objs := #[] }
def ledger (h : Heap) (L d : Addr) : List (Addr × Obj) := (List.range h.objs.size).filterMap fun a => if a = L ∨ a = d then none else (h.get? a).map fun o => (a, o)
end
end Att

namespace L2
open PySem PySem.Spec PyProof.Rows

theorem vals_ints : ∀ {vs : List Value} {ns : List Int}, IntsAre vs ns → Vals (ns.map V.int) vs
  | _, _, .nil => .nil
  | _, _, .cons n t h => .cons ⟨t, rfl⟩ (vals_ints h)

/-- nothing is tracked but the script, known to the object (or it is an object of the module) -/
def Only (H : Hp) : Prop := ∀ b, H b = none ∨ ∃ o xs, H b = some (.frz o (.lst xs))

/-- THE HEAD: the law's promise, at the heap behind the top. F, the promise of the law's def, may use that base is part of the heap (so K.In base, base.Ns mainGlobals mg stand in Mod) -/
theorem law_call {P : Program} {w : World} {K : PySem.W.Frag} {mg mb : Str → Option Value} {CX : CXT} {k : Nat} {fa a : Addr} {fd : FuncData} {x : Str} {sp : Sp} {s₁ : Shared} {vs : List Value} {ns : List Int}
    (KX : K.In s₁.heap) (hns : s₁.heap.Ns mainGlobals mg) (hb : s₁.heap.Ns builtinsNs mb) (hbb : ∀ x : Str, x ≠ "__name__" → mb x = bootBuiltins x) (hlim : s₁.heap.NoLimit) (hg : s₁.gens = #[])
    (ha : s₁.heap.get? a = some { cls := .type "list", data := .seq vs.toArray }) (hi : IntsAre vs ns) (hl : ns.length ≤ sizeLine) (hr : Room k callerA)
    (F : ∀ base : Heap, K.In base → base.Ns mainGlobals mg → FnOk P w K mg base CX k fa fd [x] sp) (hbind : ∀ (s : Shared) (u : Value), BindsTo s fd ⟨[u], []⟩ [(x, u)])
    (hsp : ∀ H : Hp, Only H → SqL K H a (ns.map V.int) → sp [.ref a] H (fun v _ => v = .bl true) fun _ _ _ => False)
    (hCX : ∀ H e s', CX [] H s₁ (fun _ _ _ => False) e s' → False) :
    codeAny (model P w) callerA (.call (.ref fa) ⟨[.ref a], []⟩) (fun r s' => r = .ok (.ret (.bool true)) ∧ OldK s₁.heap s'.heap ∧ s'.os = s₁.os ∧ AllBare s'.gens) s₁ := by
  have rv := vals_ints hi
  have lenV := hi.length
  -- from an abstract heap in which nothing but the script may be tracked
  have core : ∀ H : Hp, Only H → SqL K H a (ns.map V.int) → HOk P w H s₁.heap → (∀ b, H b ≠ none → b = a) → (H a ≠ none → K.lookup a = none) →
      codeAny (model P w) callerA (.call (.ref fa) ⟨[.ref a], []⟩) (fun r s' => r = .ok (.ret (.bool true)) ∧ OldK s₁.heap s'.heap ∧ s'.os = s₁.os ∧ AllBare s'.gens) s₁ := by
    intro H hO hS hok hA hK
    have base_of : ∀ {b : Addr} {o : Obj}, s₁.heap.get? b = some o → H b = none → (hidT s₁.heap H).get? b = some o := fun e n => hidT_get e n
    have noA : ∀ {b : Addr} {o : Obj} {es : Array DictEntry} {ep : Nat}, s₁.heap.get? b = some o → o.data = .dict es ep → H b = none := fun {b o es ep} e d => by
      cases q : H b with
      | none => rfl
      | some u =>
        have e' : b = a := hA b (by rw [q]; simp)
        subst e'
        rw [ha] at e; cases e
        have d' : Data.seq vs.toArray _ = Data.dict es ep := d
        cases d'
    have nsK : ∀ {b : Addr} {m : Str → Option Value}, s₁.heap.Ns b m → (hidT s₁.heap H).Ns b m := fun {b m} ⟨o, es, ep, e, d, r⟩ => ⟨o, es, ep, base_of e (noA e d), d, r⟩
    have hKb : K.In (hidT s₁.heap H) := fun b o e => base_of (KX b o e) (by
      cases q : H b with
      | none => rfl
      | some u =>
        have e' : b = a := hA b (by rw [q]; simp)
        subst e'
        rw [hK (by rw [q]; simp)] at e; cases e)
    have hM : Mod K mg (hidT s₁.heap H) := ⟨hKb, nsK hns, ⟨mb, nsK hb, hbb⟩, let ⟨mc, h1, h2⟩ := hlim; ⟨mc, nsK h1, h2⟩⟩
    have e0 : Env0 P w K mg (hidT s₁.heap H) callerA [] s₁ H := ⟨rfl, hM, fun b o e => of_hidT e, Nat.le_of_eq (hidT_size _ _), trivial, fun b hb => absurd (show b ∈ ([] : List Addr) from hb) (by simp), hok, .of_eq hg⟩
    refine codeAny_mono ((F _ hKb (nsK hns)).run callerA [] s₁ H ⟨[.ref a], []⟩ [.ref a] [.ref a] _ _ hr e0 (hbind s₁ (.ref a)) (.cons rfl .nil) (hsp H hO hS)) fun r s' h => ?_
    cases r with
    | error e => exact (hCX H e s' h).elim
    | ok fl =>
      cases fl with
      | next => exact False.elim h
      | brk => exact False.elim h
      | cont => exact False.elim h
      | ret u =>
        obtain ⟨v, H', os, bare, un, hok', r', q⟩ := h
        have q' : v = .bl true := q
        subst q'
        obtain rfl : u = Value.bool true := r'
        refine ⟨rfl, OldK.of_keep fun b o e => ?_, os, bare⟩
        cases q : H b with
        | none => exact un.keep b o e q (by intro z; exact absurd (show b ∈ ([] : List Addr) from z) (by simp)) (by simp)
        | some u =>
          rcases hO b with z | ⟨ob, xs, z⟩
          · rw [q] at z; cases z
          · have z2 := un.frzs b ob _ z
            obtain ⟨e1, _⟩ := hok b _ z
            obtain ⟨e2, _⟩ := hok' b _ z2
            rw [e] at e1; cases e1
            exact e2
  cases hk : K.lookup a with
  | some o =>
    -- the script is one of the module's own objects
    have e := KX a o hk
    rw [ha] at e
    cases e
    refine core (fun _ => none) (fun _ => .inl rfl) (.inr ⟨_, vs.toArray, _, hk, rfl, rfl, rfl, by rw [List.size_toArray, lenV]; exact hl, by simpa using rv⟩) (fun b u z => by have z' : (none : Option HO) = some u := z; cases z') (fun b z => absurd rfl z) fun z => absurd rfl z
  | none =>
    refine core (fun b => if b = a then some (.frz { cls := .type "list", data := .seq vs.toArray } (.lst (ns.map V.int))) else none) (fun b => ?_) (.inl (.inr ⟨{ cls := .type "list", data := .seq vs.toArray }, if_pos rfl⟩)) (fun b u z => ?_) (fun b z => ?_) fun _ => hk
    · by_cases hb : b = a
      · exact .inr ⟨_, _, if_pos hb⟩
      · exact .inl (if_neg hb)
    · by_cases hb : b = a
      · have z' := (if_pos hb).symm.trans z
        cases z'
        subst hb
        exact ⟨ha, by rw [List.length_map]; exact hl, vs, _, rv, ha⟩
      · have z' := (if_neg hb).symm.trans z
        cases z'
    · by_cases hb : b = a
      · exact hb
      · exact absurd (if_neg hb) z
end L2

namespace L2
open PySem PySem.Spec PyProof.Rows

abbrev KOf {K : PySem.W.Frag} {h : Heap} (_ : K.In h) : PySem.W.Frag := K

/-- the goal that k_head leaves (case hc), from the law's promise. F gives the function object fd (K's own) once, then the promise over every base -/
theorem walk_of {l : PySem.W.OpenLaw} {n k : Nat} {q : Program} {loose : List Str} {XP : (Str → Option Value) → Heap → Prop} {YP : World → Heap → Prop} {d : DefRec} {K : Params → PySem.W.Frag} {CX : World → CXT} {sp : World → Sp} {x : Str}
    (hn : l.most = some n) (hn2 : n ≤ sizeLine) (hdf : d.params.defaults = []) (hr : Room k callerA)
    (hY : ∀ (w : World) (h : Heap), YP w h → (K w.params).In h)
    (F : ∀ (w : World) (mg : Str → Option Value) (fa : Addr) (h : Heap), (K w.params).In h → h.Ns mainGlobals mg → mg d.name = some (.ref fa) →
      ∃ fd : FuncData, (∀ (s : Shared) (u : Value), BindsTo s fd ⟨[u], []⟩ [(x, u)]) ∧
        ∀ base : Heap, (K w.params).In base → base.Ns mainGlobals mg → FnOk l.prog w (K w.params) mg base (CX w) k fa fd [x] (sp w))
    (hsp : ∀ (w : World) (H : Hp) (a : Addr) (ns : List Int), ns.length ≤ n → Only H → SqL (K w.params) H a (ns.map V.int) → sp w [.ref a] H (fun v _ => v = .bl true) fun _ _ _ => False)
    (hCX : ∀ (w : World) (H : Hp) (s : Shared) (e : Value) (s' : Shared), CX w [] H s (fun _ _ _ => False) e s' → False) :
    PySem.W.WalkO q loose XP YP l.row.toRowW d [] (fun f vs => PySem.call f vs) := by
  refine Att.attach_call hn hdf fun w s₀ s₁ mg mb fa o pm cd doc a vs ns G Y ho hd hcd hmg hobj hints hlen hg => ?_
  have KX := hY w _ Y
  obtain ⟨fd, hb, hF⟩ := F w mg fa _ KX G.T.g hmg
  exact law_call KX G.T.g G.T.b G.T.builtins G.T.nolimit hg hobj hints (Nat.le_trans hlen hn2) hr hF hb (fun H hO hS => hsp w H a ns hlen hO hS) fun H e s' => hCX w H s₁ e s'
end L2

/- THE LAST THEOREM (shape; LID, My.* are yours):
   My.Adr: a structure of the addresses that your layer names (classes, functions); My.Txt K t: a structure (Prop) of the equations over K;
   My.txt_mk : {K} {implicit addresses ..} (e1 : nsIn K mainGlobals "law" = some (some (.ref f))) (e2 : K.lookup f = some ⟨oc, od, .func (fnOf "law" "law" params body scope dV kV doc pm an cdv ct), sl⟩) (e3 : codeIn K cdv "law" = true) .. : ∃ t, My.Txt K t

set_option maxRecDepth 100000 in
set_option maxHeartbeats 0 in
theorem PySem.Challenge.cw_LID_holds : PySem.Challenge.rw_LID.Holds := by
  w_on; o_law; k_head; (case hw => w_witness2)
  k_fill
  refine L2.walk_of (l := PySem.Challenge.rw_LID) (n := 63) (k := 40) (x := "script") (CX := fun w => ..) (sp := fun _ => My.sp_law) rfl (by decide) rfl ⟨rfl, by decide, by decide⟩ (fun w h Y => PySem.W.kIn_of Y) ?F ?S ?C
  case F =>
    intro w mg fa h KX G hmg
    have T : ∃ t, My.Txt (L2.KOf KX) t := by
      dsimp only [L2.KOf]                          -- K must stand as «<heap const> w.params» for k_is
      refine' My.txt_mk ?e1 ?e2 ?e3 ..
      (case e1 => PySem.W.k_is)                    -- in the order: a name -> its address -> its object -> its parts
      (case e2 => PySem.W.k_is)
      ..
    obtain ⟨t, T⟩ := T
    have e0 := hmg.symm.trans (PySem.W.mg_of KX G T.law)
    cases e0                                       -- fa is the law's own address
    exact ⟨_, fun s u => .of_eq rfl, fun base kb nb => My.law_fn T kb nb⟩     -- if «.of_eq rfl» comes too early: refine' ⟨_, ?b, fun base kb nb => My.law_fn T kb nb⟩; exact fun s u => .of_eq rfl
  case S => exact fun w H a ns hl hO hS => ..
  case C => exact ..
(the tactic k_is has no namespace: write k_is) -/

/-! SHORT WORDS over the layer: a def of the text, its body, what a loop and a test want. -/
namespace L2
open PySem PySem.Spec PyProof.Rows

/-! ### the text by places -/
/-- the j-th statement of a class's body -/
def inClass (s : Stmt) (j : Nat) : Stmt := match s with
  | .ClassDef _ _ _ body _ _ _ _ _ _ _ => body.getD j (.Pass ⟨0, 0, 0, 0⟩)
  | _ => .Pass ⟨0, 0, 0, 0⟩
def defArgs (s : Stmt) : Arguments := match s with
  | .FunctionDef _ a _ _ _ _ _ _ _ _ => a
  | _ => { posonlyargs := [], args := [], vararg := none, kwonlyargs := [], kw_defaults := [], kwarg := none, defaults := [] }
def defBody (s : Stmt) : List Stmt := match s with
  | .FunctionDef _ _ b _ _ _ _ _ _ _ => b
  | _ => []
def defScope (s : Stmt) : Scope := match s with
  | .FunctionDef _ _ _ _ _ _ sc _ _ _ => sc
  | _ => { kind := .function, names := [], isGenerator := false, isCoroutine := false }

/-! ### no exception leaves a def -/
abbrev CX0 : CXT := fun _ _ _ _ _ _ => False
abbrev E0 : XK := fun _ _ _ => False
theorem pass0 {X : Cx} : Passes CX0 X E0 := fun _ _ _ _ _ _ _ h => h.elim

/-! ### a def (or method) of the text as it stands behind the top -/
structure Fun (K : PySem.W.Frag) (x qual : Str) (st : Stmt) (f : Addr) (fd : FuncData) : Prop where
  ex : ∃ (oc : Value) (od : Option Addr) (kV doc pm : Value) (an : Option Addr) (cdv ct : Value) (osl : Array (Option Value)),
    fd = PySem.W.fnOf x qual (defArgs st) (defBody st) (defScope st) .none kV doc pm an cdv ct ∧ K.lookup f = some ⟨oc, od, .func fd, osl⟩ ∧ PySem.W.codeIn K cdv qual = true
  kp : PySem.W.keepIn K (.ref f) = true
section
variable {P : Program} {w : World} {K : PySem.W.Frag} {mg : Str → Option Value} {base : Heap}
/-- THE RULE for a def: its body as a term of rules, and the reading of that term -/
theorem Fun.ok {x qual : Str} {st : Stmt} {f : Addr} {fd : FuncData} {N ps : List Str} {k : Nat} {sp : Sp} (F : Fun K x qual st f fd) (S : FnScope N ps (defScope st)) (len : ∀ vs H Q E, sp vs H Q E → vs.length = ps.length)
    (hbody : ∀ (cdv : Value) (A : Around) (outer : List Env) (s : Shared) (H : Hp) (vs : List V) (Q : VK) (E : XK), Room k (A.deeper (envOfC qual (defScope st) s.heap.objs.size f cdv)) → sp vs H Q E →
      ∃ t, PSs (cxOf CX0 P w K mg base N qual (defScope st) f cdv A outer s H E).nox (defBody st) t ∧ t { nx := fun _ H' => Q .non H', rt := Q } (start N vs) H) : FnOk P w K mg base CX0 (k + 1) f fd ps sp := by
  obtain ⟨oc, od, kV, doc, pm, an, cdv, ct, osl, rfl, lk, hcd⟩ := F.ex
  refine fn_of lk hcd S len fun A outer s H vs Q E hr hsp => ?_
  obtain ⟨t, h, q⟩ := hbody cdv A outer s H vs Q E hr hsp
  exact ⟨t, h.nox, q⟩
/-- how its arguments bind (no defaults): h is «fun _ _ _ _ _ _ us hl => match us, hl with | [_, _], _ => rfl», one _ a parameter -/
theorem Fun.binds {x qual : Str} {st : Stmt} {f : Addr} {fd : FuncData} {ps : List Str} (F : Fun K x qual st f fd)
    (h : ∀ (kV doc pm : Value) (an : Option Addr) (cdv ct : Value) (us : List Value), us.length = ps.length → bindArgs (PySem.W.fnOf x qual (defArgs st) (defBody st) (defScope st) .none kV doc pm an cdv ct) ⟨us, []⟩ = pure (ps.zip us)) : Binds K fd ps [] := by
  obtain ⟨oc, od, kV, doc, pm, an, cdv, ct, osl, rfl, lk, hcd⟩ := F.ex
  exact .all (h kV doc pm an cdv ct)
theorem fun_mk {x qual : Str} {st : Stmt} {f : Addr} {oc : Value} {od an : Option Addr} {osl : Array (Option Value)} {kV doc pm cdv ct : Value} (l : K.lookup f = some ⟨oc, od, .func (PySem.W.fnOf x qual (defArgs st) (defBody st) (defScope st) .none kV doc pm an cdv ct), osl⟩)
    (c : PySem.W.codeIn K cdv qual = true) (k : PySem.W.keepIn K (.ref f) = true) : Fun K x qual st f (PySem.W.fnOf x qual (defArgs st) (defBody st) (defScope st) .none kV doc pm an cdv ct) := ⟨⟨oc, od, kV, doc, pm, an, cdv, ct, osl, rfl, l, c⟩, k⟩
end
/-! ### expressions in short: the name that stands in the i-th slot -/
section
variable {X : Cx}
theorem pv (i : Nat) {x : Str} {pos : Pos} (hN : X.N[i]? = some x := by rfl) (hv : Vis X.env.scope x := by first | exact Or.inl rfl | exact Or.inr (Or.inl rfl) | exact Or.inr (Or.inr rfl)) (hd : (x == ("__debug__" : Str)) = false := by decide)
    (hcd : (x == ("__classdict__" : Str)) = false := by decide) : PE X (.Name x pos) (tVar i) := pe_var hN hv hd hcd
end

/-! ### tests -/
theorem iteF {A B : Prop} (h : B) : if false = true then A else B := by
  rw [if_neg Bool.false_ne_true]
  exact h
theorem iteT {A B : Prop} (h : A) : if true = true then A else B := by
  rw [if_pos rfl]
  exact h
theorem ite2 {c A B : Prop} [Decidable c] (h1 : c → A) (h2 : ¬ c → B) : if c then A else B := by
  by_cases h : c
  · rw [if_pos h]
    exact h1 h
  · rw [if_neg h]
    exact h2 h
/-! ### heaps -/
/-- all that was tracked is as it was -/
def Same (H H' : Hp) : Prop := ∀ b o, H b = some o → H' b = some o
theorem Same.refl (H : Hp) : Same H H := fun _ _ h => h
theorem Same.trans {H H1 H2 : Hp} (a : Same H H1) (b : Same H1 H2) : Same H H2 := fun c o h => b c o (a c o h)
theorem Same.free {H H' : Hp} (e : Same H H') {l : Addr} (h : H' l = Option.none) : H l = Option.none := by
  cases q : H l with
  | none => rfl
  | some o =>
    rw [e l o q] at h
    cases h
theorem Same.seq {K : PySem.W.Frag} {H H' : Hp} {a : Addr} {xs : List V} (e : Same H H') (h : SqL K H a xs) : SqL K H' a xs := by
  rcases h with (h | ⟨o, h⟩) | h
  · exact .inl (.inl (e _ _ h))
  · exact .inl (.inr ⟨o, e _ _ h⟩)
  · exact .inr h

end L2

set_option Elab.async false
set_option linter.all false
set_option maxRecDepth 100000
set_option maxHeartbeats 4000000
/-! THE COMPREHENSION, over the layer -/
namespace L2
open PySem PySem.Spec PyProof.Rows

/-! ### names of a comprehension's scope -/
theorem lookup_relab {c : Str → NameKind → Bool} : ∀ (names : List (Str × NameKind)) (x : Str),
    (names.map fun (n, k) => if c n k then (n, NameKind.cell) else (n, k)).lookup x = (names.lookup x).map fun k => if c x k then NameKind.cell else k
  | [], _ => rfl
  | (n, k) :: r, x => by
    have ih := lookup_relab (c := c) r x
    show List.lookup x ((if c n k = true then (n, NameKind.cell) else (n, k)) :: _) = _
    cases hx : x == n with
    | true =>
      have e : x = n := eq_of_beq hx
      subst e
      by_cases hc : c x k = true
      · rw [if_pos hc]; simp [List.lookup_cons, hc]
      · rw [if_neg hc]; simp [List.lookup_cons, hc]
    | false =>
      by_cases hc : c n k = true
      · rw [if_pos hc]; simp only [List.lookup_cons, hx]; exact ih
      · rw [if_neg hc]; simp only [List.lookup_cons, hx]; exact ih
theorem kindOf_comp (scope : Scope) (cl : List (Str × Addr)) (C : Addr) (env : Env) (x : Str) :
    (compEnvC scope cl C env).kindOf x = (scope.names.lookup x).map fun k => if (k == .free && env.scope.kind == .function && env.kindOf x == some .cell) then NameKind.cell else k :=
  lookup_relab (c := fun n k => (k == .free && env.scope.kind == .function && env.kindOf n == some .cell)) scope.names x
theorem kindOf_comp_free {scope : Scope} {cl : List (Str × Addr)} {C : Addr} {env : Env} {x : Str} (h : scope.names.lookup x = some .free) : (compEnvC scope cl C env).kindOf x = some .cell ∨ (compEnvC scope cl C env).kindOf x = some .free := by
  rw [kindOf_comp, h]
  show some (if _ then _ else _) = _ ∨ some (if _ then _ else _) = _
  split
  · exact .inl rfl
  · exact .inr rfl
theorem kindOf_comp_inv {scope : Scope} {cl : List (Str × Addr)} {C : Addr} {env : Env} {x : Str} (nc : ∀ y ∈ scope.names, y.2 ≠ .cell) (h : (compEnvC scope cl C env).kindOf x = some .cell ∨ (compEnvC scope cl C env).kindOf x = some .free) : scope.names.lookup x = some .free := by
  rw [kindOf_comp] at h
  cases e : scope.names.lookup x with
  | none => rw [e] at h; rcases h with h | h <;> cases h
  | some k =>
    rw [e] at h
    have hm := nc _ (PySem.mem_of_lookup e)
    cases k with
    | free => rfl
    | cell => exact absurd rfl hm
    | _ => rcases h with h | h <;> cases h

theorem closureFor_ok {scope : Scope} {env : Env} (h : ∀ y ∈ scope.names, y.2 = .free → ∃ c, env.cells.lookup y.1 = some c) :
    ∃ cl, closureFor scope env = pure cl ∧ (∀ x c, cl.lookup x = some c → env.cells.lookup x = some c) ∧ (∀ x, (x, NameKind.free) ∈ scope.names → ∃ c, cl.lookup x = some c) := by
  have go : ∀ (l : List (Str × NameKind)) (acc : List (Str × Addr)), (∀ y ∈ l, y.2 = .free → ∃ c, env.cells.lookup y.1 = some c) → (∀ x c, acc.lookup x = some c → env.cells.lookup x = some c) →
      ∃ cl, (forIn l acc (fun (x : Str × NameKind) (r : List (Str × Addr)) => if (x.2 == NameKind.free) = true then (do let a ← cellOf env x.1; pure (ForInStep.yield ((x.1, a) :: r))) else pure (ForInStep.yield r)) : Sem (List (Str × Addr))) = pure cl ∧
        (∀ x c, cl.lookup x = some c → env.cells.lookup x = some c) ∧ (∀ x, (acc.lookup x).isSome = true ∨ (x, NameKind.free) ∈ l → ∃ c, cl.lookup x = some c) := by
    intro l
    induction l with
    | nil => exact fun acc _ ha => ⟨acc, rfl, ha, fun x hx => by
        rcases hx with hx | hx
        · exact Option.isSome_iff_exists.mp hx
        · cases hx⟩
    | cons y l ih =>
      intro acc hl ha
      obtain ⟨n, k⟩ := y
      by_cases hk : k = .free
      · subst hk
        obtain ⟨c, hc⟩ := hl (n, .free) List.mem_cons_self rfl
        obtain ⟨cl, e1, e2, e3⟩ := ih ((n, c) :: acc) (fun y hy => hl y (List.mem_cons_of_mem _ hy)) (fun x d hd => by
          rw [List.lookup_cons] at hd
          cases q : x == n with
          | true => rw [q] at hd; cases hd; rw [eq_of_beq q]; exact hc
          | false => rw [q] at hd; exact ha x d hd)
        refine ⟨cl, ?_, e2, fun x hx => e3 x ?_⟩
        · rw [List.forIn_cons]
          have ec : cellOf env n = pure c := by unfold cellOf; rw [hc]
          show ((if (NameKind.free == NameKind.free) = true then (do let a ← cellOf env n; pure (ForInStep.yield ((n, a) :: acc))) else pure (ForInStep.yield acc)) >>= _) = _
          rw [if_pos (by decide), ec, pure_bind, pure_bind]
          exact e1
        · rcases hx with hx | hx
          · refine .inl ?_
            rw [List.lookup_cons]
            cases q : x == n with
            | true => rfl
            | false => exact hx
          · rcases List.mem_cons.mp hx with hx | hx
            · cases hx
              exact .inl (by rw [List.lookup_cons, beq_self_eq_true]; rfl)
            · exact .inr hx
      · obtain ⟨cl, e1, e2, e3⟩ := ih acc (fun y hy => hl y (List.mem_cons_of_mem _ hy)) ha
        refine ⟨cl, ?_, e2, fun x hx => e3 x ?_⟩
        · rw [List.forIn_cons]
          show ((if (k == NameKind.free) = true then (do let a ← cellOf env n; pure (ForInStep.yield ((n, a) :: acc))) else pure (ForInStep.yield acc)) >>= _) = _
          rw [if_neg (by simpa using hk), pure_bind]
          exact e1
        · rcases hx with hx | hx
          · exact .inl hx
          · rcases List.mem_cons.mp hx with hx | hx
            · cases hx; exact absurd rfl hk
            · exact .inr hx
  obtain ⟨cl, e1, e2, e3⟩ := go scope.names [] h (fun x c hx => by cases hx)
  refine ⟨cl, ?_, e2, fun x hx => e3 x (.inr hx)⟩
  rw [← e1]
  simp only [closureFor, bind_pure]

/-! ### the loop -/
theorem compLoop_gen {prog : Program} {w : World} {A : Around} {R : Result → Shared → Prop} {s : Shared} {elt target iter : Expr} {ifs : List Expr} {scope : Scope} {pos : Pos} {it acc : Value} {env : Env} (I : Nat → Shared → Prop)
    (turn : ∀ n s, I n s → wpAny (model prog w) A (pyNext it) (fun r s₁ => match r with
      | none => R (.ok .next) s₁
      | some v => wpAny (model prog w) A (letOwnedTupleGo target it v) (fun _ s₁' => wpAny (model prog w) A (assign target env v) (fun _ s₂ =>
          wpAny (model prog w) A (forIn ifs true fun c r => if r = true then do let ok ← isTrue c env (eval c env); pure (ForInStep.yield ok) else pure (ForInStep.yield r)) (fun ok s₃ =>
            if ok = true then wpAny (model prog w) A (eval elt env) (fun x s₄ =>
              wpAny (model prog w) A (call (.builtin "list.append") [acc, x]) (fun _ s₅ => ∃ m, m < n ∧ I m s₅) (fun _ _ => False) s₄) (fun _ _ => False) s₃
            else ∃ m, m < n ∧ I m s₃) (fun _ _ => False) s₂) (fun _ _ => False) s₁') (fun _ _ => False) s₁) (fun _ _ => False) s)
    (n : Nat) (h : I n s) :
    codeAny (model prog w) A (.compLoop (.ListComp elt [⟨target, iter, ifs, 0⟩] scope pos) 0 it acc env) R s := by
  refine codeAny_loop rfl I (fun n s hI => ?_) n h
  show wpAny _ A ((compTurn (.ListComp elt [⟨target, iter, ifs, 0⟩] scope pos) 0 it acc env).onRaise (fun x => do noteFrame x env; theTreesLotGoes x)) _ _ s
  refine wpAny_noted ?_
  rw [compTurn_list]
  refine wpAny_bind (wpAny_standAt (wpAny_bind (wpAny_mono (turn n s hI) (fun r s₁ h₁ => ?_) fun _ _ h' => h'.elim)))
  cases r with
  | none => exact wpAny_pure h₁
  | some v =>
    refine wpAny_bind (wpAny_mono h₁ (fun _ s₁' h₁' => ?_) fun _ _ h' => h'.elim)
    refine wpAny_bind (wpAny_mono h₁' (fun _ s₂ h₂ => wpAny_bind (wpAny_mono h₂ (fun ok s₃ h₃ => ?_) fun _ _ h' => h'.elim)) fun _ _ h' => h'.elim)
    cases ok with
    | false => exact wpAny_pure ⟨rfl, h₃⟩
    | true =>
      exact wpAny_bind (wpAny_bind (wpAny_mono h₃ (fun x s₄ h₄ => wpAny_bind (wpAny_mono h₄ (fun _ s₅ h₅ => wpAny_pure (wpAny_pure ⟨rfl, h₅⟩)) fun _ _ h' => h'.elim)) fun _ _ h' => h'.elim))

/-! ### the block's context -/
structure CP where
  cl : List (Str × Addr)
  C : Addr
  s : Shared
  H : Hp
  fp : List Addr
  pn : List (Addr × Obj)
abbrev Cx.comp (X : Cx) (N' : List Str) (scope : Scope) (p : CP) : Cx where
  prog := X.prog
  w := X.w
  K := X.K
  mg := X.mg
  base := X.base
  A := X.A
  N := N'
  s₀ := p.s
  H₀ := p.H
  env := compEnvC scope p.cl p.C X.env
  outer := X.stack
  stack := X.stack
  ex := p.fp
  fn := fun _ => false
  calm := X.calm
  pn := p.pn
  xe := fun _ _ => False
def PIfs (X : Cx) (ifs : List Expr) (t : TT) : Prop :=
  ∀ (pins : List (Addr × Obj)) (s : Shared) (σ : St) (H : Hp) (Q : Bool → Hp → Prop), Inv X pins σ H s → t σ H Q →
    wpAny (model X.prog X.w) X.A (forIn ifs true fun c r => if r = true then do let ok ← isTrue c X.env (eval c X.env); pure (ForInStep.yield ok) else pure (ForInStep.yield r)) (TP X pins σ Q) X.xe s
def tYes : TT := fun _ H Q => Q true H
theorem pifs_nil {X : Cx} : PIfs X [] tYes := fun _ _ _ H _ I h => wpAny_tests_nil ⟨H, I, h⟩
theorem pifs_one {X : Cx} {c : Expr} {t : TT} (h : PT X c t) : PIfs X [c] t := fun pins s σ H Q I hw => wpAny_tests_one (h pins s σ H Q I hw)

/-- what is to be looked up once: the names of the block (own first), where the captured ones stand in the frame around -/
def compOk (N : List Str) (kinds : List (Str × NameKind)) (N' : List Str) (cap : List (Option Nat)) (names : List (Str × NameKind)) : Bool :=
  names.all (fun y => y.2 != .cell) && names.all (fun y => y.2 != .local || names.lookup y.1 == some .local) &&
  names.all (fun y => y.2 != .free || (kinds.lookup y.1 == some .cell || kinds.lookup y.1 == some .free)) && (cap.length == N'.length) &&
  (N'.zip cap).all (fun q => match q.2 with
    | none => true
    | some j => N[j]? == some q.1 && (kinds.lookup q.1 == some .cell || kinds.lookup q.1 == some .free) && names.lookup q.1 == some .free)
structure CompScope (X : Cx) (N' : List Str) (cap : List (Option Nat)) (scope : Scope) : Prop where
  kind : scope.kind = .function
  ok : compOk X.N X.env.scope.names N' cap scope.names = true
section
variable {X : Cx} {N' : List Str} {cap : List (Option Nat)} {scope : Scope}
theorem CompScope.nocell (S : CompScope X N' cap scope) : ∀ y ∈ scope.names, y.2 ≠ .cell := by
  have h := S.ok
  simp only [compOk, Bool.and_eq_true, List.all_eq_true] at h
  intro y hy
  simpa using h.1.1.1.1 y hy
theorem CompScope.names (S : CompScope X N' cap scope) : ∀ y ∈ scope.names, y.2 = .local → scope.names.lookup y.1 = some .local := by
  have h := S.ok
  simp only [compOk, Bool.and_eq_true, List.all_eq_true] at h
  intro y hy hl
  have q := h.1.1.1.2 y hy
  rw [hl] at q
  simpa using q
theorem CompScope.free (S : CompScope X N' cap scope) : ∀ y ∈ scope.names, y.2 = .free → X.env.kindOf y.1 = some .cell ∨ X.env.kindOf y.1 = some .free := by
  have h := S.ok
  simp only [compOk, Bool.and_eq_true, List.all_eq_true] at h
  intro y hy hl
  have q := h.1.1.2 y hy
  rw [hl] at q
  have q' : X.env.scope.names.lookup y.1 = some .cell ∨ X.env.scope.names.lookup y.1 = some .free := by simpa using q
  exact q'
theorem CompScope.len (S : CompScope X N' cap scope) : cap.length = N'.length := by
  have h := S.ok
  simp only [compOk, Bool.and_eq_true, List.all_eq_true] at h
  simpa using h.1.2
theorem CompScope.capt (S : CompScope X N' cap scope) {i j : Nat} {x : Str} (h1 : N'[i]? = some x) (h2 : cap[i]? = some (some j)) :
    X.N[j]? = some x ∧ (X.env.kindOf x = some .cell ∨ X.env.kindOf x = some .free) ∧ scope.names.lookup x = some .free := by
  have h := S.ok
  simp only [compOk, Bool.and_eq_true, List.all_eq_true] at h
  have hm : (x, some j) ∈ N'.zip cap := List.mem_iff_getElem?.mpr ⟨i, by rw [List.getElem?_zip_eq_some]; exact ⟨h1, h2⟩⟩
  have q := h.2 _ hm
  have q' : X.N[j]? = some x ∧ (X.env.scope.names.lookup x = some .cell ∨ X.env.scope.names.lookup x = some .free) ∧ scope.names.lookup x = some .free := by simpa [and_assoc] using q
  exact q'
end
/-- the values at the block's entry -/
def capσ (cap : List (Option Nat)) (σ : St) : St := cap.map fun o => match o with
  | some j => (σ[j]?).getD none
  | none => none
/-- what the target's store leaves as it was -/
def Keep (σ σ' : St) : Prop := σ'.length = σ.length ∧ ∀ (i : Nat) v, σ[i]? = some (some v) → σ'[i]? = some (some v)
theorem Keep.refl (σ : St) : Keep σ σ := ⟨rfl, fun _ _ h => h⟩
theorem Keep.trans {a b c : St} (h : Keep a b) (h' : Keep b c) : Keep a c := ⟨h'.1.trans h.1, fun i v e => h'.2 i v (h.2 i v e)⟩
theorem Keep.set {σ : St} {i : Nat} {v : Option V} (h : σ[i]? = some none) : Keep σ (σ.set i v) := ⟨List.length_set .., fun j u e => by
  have hj : i ≠ j := fun z => by subst z; rw [h] at e; cases e
  rw [List.getElem?_set_ne hj]; exact e⟩

/-- the block's turns, over what J walks, the list grown at D: n turns, Pv by the turn, the list so far -/
def CompOk (J : It) (D : Addr) (cap : List (Option Nat)) (σ : St) (H1 : Hp) (g : TG) (tc : TT) (te : TE) (Q : VK) : Prop := ∃ (n : Nat) (Pv : Nat → List V → Hp → Prop),
  Pv 0 [] (upd H1 D (.lst [])) ∧ ∀ i xs H2, i ≤ n → Pv i xs H2 → H2 D = some (.lst xs) ∧ ((i = n ∧ J.stop i H2 ∧ Q (.ref D) H2) ∨ (i < n ∧ J.go i H2 ∧ ∀ x H3, J.yld i H2 x H3 → g x (capσ cap σ) H3 fun σ2 H4 => Keep (capσ cap σ) σ2 ∧
    tc σ2 H4 fun b H5 => if b = true then te σ2 H5 fun y H6 => H6 D = some (.lst xs) ∧ xs.length < sizeLine ∧ Pv (i + 1) (xs ++ [y]) (upd H6 D (.lst (xs ++ [y]))) else Pv (i + 1) xs H5))
/-- [elt for tg in iter if c] -/
def tComp (cap : List (Option Nat)) (wi : TI) (g : TG) (tc : TT) (te : TE) : TE := fun σ H Q => wi σ H fun J H1 => ∀ D, H1 D = none → CompOk J D cap σ H1 g tc te Q

section
variable {X : Cx} {pins : List (Addr × Obj)} {σ : St} {H : Hp} {s : Shared} {N' : List Str} {cap : List (Option Nat)} {scope : Scope} {elt iter tg : Expr} {ifs : List Expr} {pos : Pos} {wi : TI} {g : TG} {tc : TT} {te : TE}

theorem comp_core {pos' : Pos} {use : Option (Value → Sem Unit)} {Q : VK} {Qf : Value → Shared → Prop} (hca : X.calm = true) (S : CompScope X N' cap scope) (hi : PI X tg iter wi) (hg : ∀ p, PG (X.comp N' scope p) tg g) (hc : ∀ p, PIfs (X.comp N' scope p) ifs tc) (he : ∀ p, PE (X.comp N' scope p) elt te)
    (hs : ∀ x, foldedSetIterable iter X.env x = pure x) (I : Inv X pins σ H s) (h : tComp cap wi g tc te σ H Q)
    (fin : ∀ D C H' s', Inv X pins σ H' s' → Q (.ref D) H' → (∃ m, s'.heap.Ns C m) → H' C = none → C ≠ X.env.locals → X.s₀.heap.objs.size ≤ C → (∀ x c, X.env.cells.lookup x = some c → c ≠ C) → (∀ p ∈ X.pn ++ pins, p.1 ≠ C) →
      compPost (model X.prog X.w) X.A X.xe use Qf (.ref D) C (.ok .next) s') :
    wpAny (model X.prog X.w) X.A (comprehension (.ListComp elt [⟨tg, iter, ifs, 0⟩] scope pos) scope X.env pos' (newList []) false (eval iter X.env) use) Qf X.xe s := by
  obtain ⟨cl, hcl, cl1, cl2⟩ := closureFor_ok (scope := scope) (env := X.env) fun y hy hf => I.ok.has _ (S.free y hy hf)
  refine wpAny_comprehension_free (g := ⟨tg, iter, ifs, 0⟩) (gs := []) rfl hs hcl S.kind S.names ?_
  refine thn (hi pins s σ H _ I h) fun xv s1 h1 => thn h1 fun itv s2 h2 => ?_
  obtain ⟨it, fp, tn, J, H2, e, I2, T, st2, f2, h2⟩ := h2
  subst e
  refine wpAny_newObj_type ?_ (by size_fits)
  have hD : H2 s2.heap.objs.size = none := I2.hok.fresh (Nat.le_refl _)
  obtain ⟨cnt, Pv, w0, turn⟩ := h2 s2.heap.objs.size hD
  refine wpAny_newFunctionEnv S.nocell (by intro y hy; cases hy) (fun h₁ hns₁ hsb₁ => ?_) S.kind
  dsimp only at hns₁ hsb₁ ⊢
  generalize hA2 : s2.heap.push { cls := .type "list", dict := none, data := .seq ([] : List Value).toArray } = A2 at hns₁ hsb₁ ⊢
  have hC : A2.objs.size = s2.heap.objs.size + 1 := by rw [← hA2, Heap.size_push]
  have old : ∀ b o, s2.heap.get? b = some o → h₁.get? b = some o := fun b o e => by
    have lt : @LT.lt Nat instLTNat b s2.heap.objs.size := Heap.lt_size e
    exact hsb₁.extBut b o (Nat.ne_of_lt (by omega)) (Heap.get?_push_of_some _ (hA2 ▸ Heap.get?_push_of_some _ e))
  have accO : h₁.get? s2.heap.objs.size = some { cls := .type "list", dict := none, data := .seq ([] : List Value).toArray } :=
    hsb₁.extBut _ _ (Nat.ne_of_lt (by omega)) (Heap.get?_push_of_some _ (hA2 ▸ Heap.get?_push_size _ rfl))
  -- the block's context
  have cellLt : ∀ x c, X.env.cells.lookup x = some c → @LT.lt Nat instLTNat c s2.heap.objs.size := fun x c e => by obtain ⟨v, q⟩ := I2.cell x c e; exact q.lt
  have pinLt : ∀ p ∈ X.pn ++ pins, @LT.lt Nat instLTNat p.1 s2.heap.objs.size := fun p hp => Heap.lt_size (I2.pin p hp).1
  have fpNe : ∀ b ∈ fp, @LT.lt Nat instLTNat b s2.heap.objs.size := fun b hb => by obtain ⟨o, e, _⟩ := T.obj 0 _ st2 b hb; exact Heap.lt_size e
  let p : CP := ⟨cl, A2.objs.size, s2, H2, fp, X.pn ++ pins⟩
  have ok : (X.comp N' scope p).Ok := {
    mod := I2.ok.mod
    kind := S.kind
    glob := I2.ok.glob
    blt := I2.ok.blt
    above := by show s2.heap.objs.size ≤ A2.objs.size; omega
    inj := fun x y c h1 h2 => I2.ok.inj x y c (cl1 x c h1) (cl1 y c h2)
    has := fun x hx => cl2 x (PySem.mem_of_lookup (kindOf_comp_inv S.nocell hx))
    cab := fun x c hf _ => by cases hf
    hd := I2.ok.hd
    frames := I2.ok.frames
    stk := .inl rfl
    exf := fun b hb => ⟨Nat.ne_of_lt (show @LT.lt Nat instLTNat b A2.objs.size by have := fpNe b hb; omega), fun x c e => (f2 b hb).2.2.2.2.1 x c (cl1 x c e)⟩
    bs := I2.bs
    bsz := Nat.le_trans I2.ok.bsz I2.sz
    noex := fun b o e hb => by
      rcases (f2 b hb).2.2.2.1 with z | z
      · exact I2.ok.noex b o e z
      · exact absurd (Nat.lt_of_lt_of_le (Nat.lt_of_lt_of_le (Heap.lt_size e) I2.ok.bsz) z) (Nat.lt_irrefl _)
    exfs := fun b hb hf => by
      rcases List.mem_cons.mp (I2.stkSub b hf) with z | z
      · exact (f2 b hb).2.1 z
      · exact (f2 b hb).2.2.1 z
    funs := I2.stack
    frf := I2.stkFree }
  have hlay : Un (frs X.stack) fp H2 (upd H2 s2.heap.objs.size (.lst [])) s2.heap h₁ := Un.laid old (Nat.le_refl _) hD
  have I0 : ∀ tk, Inv (X.comp N' scope p) [] (capσ cap σ) (upd H2 s2.heap.objs.size (.lst [])) { s2 with heap := h₁, toks := tk } := fun tk => {
    ok := ok
    os := rfl
    bare := I2.bare
    base := hlay
    loc := by
      refine ⟨_, hns₁, fun i x v h1 h2 h3 => ?_⟩
      unfold capσ at h2
      rw [List.getElem?_map] at h2
      cases hq : cap[i]? with
      | none => rw [hq] at h2; cases h2
      | some o =>
        rw [hq] at h2
        cases o with
        | none => cases h2
        | some j =>
          have h2' : (σ[j]?).getD none = some v := Option.some.inj h2
          have h2'' : σ[j]? = some (some v) := by
            cases hz : σ[j]? with
            | none => rw [hz] at h2'; cases h2'
            | some z => rw [hz] at h2'; exact congrArg some h2'
          obtain ⟨n1, n2, n3⟩ := S.capt h1 hq
          obtain ⟨m, hn, hl⟩ := I2.loc
          obtain ⟨u, r, l⟩ := hl j x v n1 h2'' (by rcases n2 with z | z; exact .inr (.inl z); exact .inr (.inr z))
          refine ⟨u, r, .inr ⟨kindOf_comp_free n3, ?_⟩⟩
          obtain ⟨c, hc⟩ := cl2 x (PySem.mem_of_lookup n3)
          refine ⟨c, hc, ?_⟩
          rcases l with ⟨z, _⟩ | ⟨_, c', hc', hcell⟩
          · rcases n2 with n2 | n2 <;> (rw [n2] at z; cases z)
          · have := cl1 x c hc
            rw [hc'] at this; cases this
            obtain ⟨o, ho, hd⟩ := hcell
            exact ⟨o, old _ _ ho, hd⟩
    cell := fun x c e => by
      obtain ⟨v, o, ho, hd⟩ := I2.cell x c (cl1 x c e)
      exact ⟨v, o, old _ _ ho, hd⟩
    free := by
      show upd H2 s2.heap.objs.size (.lst []) A2.objs.size = none
      rw [upd_ne (Nat.ne_of_gt (by omega))]
      exact I2.hok.fresh (by omega)
    freeC := fun x c e => by
      have := cellLt x c (cl1 x c e)
      show upd H2 s2.heap.objs.size (.lst []) c = none
      rw [upd_ne (Nat.ne_of_lt this)]
      exact I2.freeC x c (cl1 x c e)
    pin := fun q hq => by
      have hq' : q ∈ X.pn ++ pins := by
        have z : q ∈ (X.pn ++ pins) ++ ([] : List (Addr × Obj)) := hq
        simpa using z
      have lt := pinLt q hq'
      obtain ⟨e, n, ne, nf, d⟩ := I2.pin q hq'
      refine ⟨old _ _ e, by rw [upd_ne (Nat.ne_of_lt lt)]; exact n, Nat.ne_of_lt (show @LT.lt Nat instLTNat q.1 A2.objs.size by omega), fun hf => ?_, d⟩
      rcases List.mem_cons.mp (I2.stkSub _ hf) with z | z
      · exact ne z
      · exact nf z
    hok := I2.hok.laid old (Nat.le_refl _) ⟨Nat.zero_le _, [], _, .nil, accO⟩
    len := by show (capσ cap σ).length = N'.length; unfold capσ; rw [List.length_map, S.len] }
  have fpok : ∀ {H' : Hp}, (∀ b ∈ fp, H' b = none) → ∀ b ∈ fp, FpOk (X.comp N' scope p) [] H' b := fun hn b hb =>
    ⟨hn b hb, (ok.exf b hb).1, ok.exfs b hb, .inl hb, (ok.exf b hb).2, fun q hq => (f2 b hb).2.2.2.2.2 q (by
      have z : q ∈ (X.pn ++ pins) ++ ([] : List (Addr × Obj)) := hq
      simpa using z)⟩
  have hn0 : ∀ b ∈ fp, (upd H2 s2.heap.objs.size (.lst [])) b = none := fun b hb => by
    rw [upd_ne (Nat.ne_of_lt (fpNe b hb))]
    exact (f2 b hb).1
  have loop : ∀ s3 : Shared, (∃ tk, s3 = { s2 with heap := h₁, toks := tk }) → codeAny (model X.prog X.w) X.A (.compLoop (.ListComp elt [⟨tg, iter, ifs, 0⟩] scope pos) 0 (.ref it) (.ref s2.heap.objs.size) (compEnvC scope cl A2.objs.size X.env))
      (compPost (model X.prog X.w) X.A X.xe use Qf (.ref s2.heap.objs.size) A2.objs.size) s3 := by
    rintro s3 ⟨tk, rfl⟩
    refine compLoop_gen (fun n s' => ∃ i xs H', Inv (X.comp N' scope p) [] (capσ cap σ) H' s' ∧ tn i s'.heap ∧ (∀ b ∈ fp, H' b = none) ∧ n = cnt - i ∧ i ≤ cnt ∧ Pv i xs H') ?_ cnt
      ⟨0, [], _, I0 tk, T.keep 0 _ _ st2 (fun b _ o e => old b o e), hn0, rfl, Nat.zero_le _, w0⟩
    rintro n s4 ⟨i, xs, H4, I4, st4, fr4, en, hin, w4⟩
    obtain ⟨acc4, w4⟩ := turn i xs H4 hin w4
    rcases w4 with ⟨_, stop, qn⟩ | ⟨hlt, go, step⟩
    · refine thn (T.done (X.comp N' scope p) rfl rfl rfl hca i [] s4 _ H4 _ I4 (fpok fr4) st4 stop) fun r s5 ⟨hr, I5⟩ => ?_
      subst hr
      -- back in the frame around
      have I6 : Inv X pins σ H4 s5 := I2.call' I5.os I5.base I5.hok I5.bare fun b hb => ⟨(f2 b hb).2.2.2.1, (f2 b hb).2.1, (f2 b hb).2.2.2.2.1, (f2 b hb).2.2.2.2.2⟩
      obtain ⟨m, hm, _⟩ := I5.loc
      refine fin _ _ H4 s5 I6 qn ⟨m, hm⟩ I5.free ?_ ?_ (fun x c e => ?_) fun q hq => ?_
      · exact Nat.ne_of_gt (by have : @LT.lt Nat instLTNat X.env.locals s2.heap.objs.size := I2.lt; omega)
      · have := I2.sz; omega
      · exact Nat.ne_of_lt (by have := cellLt x c e; omega)
      · exact Nat.ne_of_lt (by have := pinLt q hq; omega)
    · refine thn (T.item (X.comp N' scope p) rfl rfl rfl hca i [] s4 _ H4 _ I4 (fpok fr4) st4 go) fun r s5 ⟨u, hr, h5⟩ => ?_
      subst hr
      refine thn h5 fun _ s6 ⟨x, H6, I6, r6, y6, st6, fr6⟩ => ?_
      have I6' := I6.pinned (fpok fr6) (T.obj _ _ st6)
      refine thn (hg p _ s6 _ H6 x u _ I6' r6 (step x H6 y6)) fun _ s7 ⟨σ7, H7, I7, kp7, q7⟩ => ?_
      refine thn (hc p _ s7 σ7 H7 _ I7 q7) fun b s8 ⟨H8, I8, q8⟩ => ?_
      have again : ∀ {H9 : Hp} {s9 : Shared} {zs : List V}, Inv (X.comp N' scope p) ([] ++ pinsAt fp s6.heap) σ7 H9 s9 → Pv (i + 1) zs H9 →
          ∃ m, m < n ∧ ∃ i xs H', Inv (X.comp N' scope p) [] (capσ cap σ) H' s9 ∧ tn i s9.heap ∧ (∀ b ∈ fp, H' b = none) ∧ m = cnt - i ∧ i ≤ cnt ∧ Pv i xs H' := fun {H9 s9 zs} I9 w9 => by
        refine ⟨cnt - (i + 1), by omega, i + 1, zs, H9, I9.unpinned.weak kp7.1.symm (fun i v e => kp7.2 i v e), T.keep _ _ _ st6 fun b hb o e => (I9.pin (b, o) (List.mem_append_right _ (List.mem_append_right _ (mem_pinsAt hb e)))).1, fun b hb => ?_, rfl, hlt, w9⟩
        obtain ⟨o, e, d⟩ := T.obj _ _ st6 b hb
        exact (I9.pin (b, o) (List.mem_append_right _ (List.mem_append_right _ (mem_pinsAt hb e)))).2.1
      cases b with
      | false =>
        exact again I8 q8
      | true =>
        refine thn (he p _ s8 σ7 H8 _ I8 q8) fun yv s9 ⟨y, H9, I9, ry, acc9, hz, w9⟩ => ?_
        refine thn (mt_append (X := X.comp N' scope p) _ s9 σ7 H9 (.ref s2.heap.objs.size) [y] (.ref s2.heap.objs.size) [yv] (fun v H' => v = .non ∧ H' = upd H9 s2.heap.objs.size (.lst (xs ++ [y]))) I9 rfl (.cons ry .nil) ⟨_, xs, y, rfl, rfl, acc9, hz, rfl, rfl⟩) fun _ s10 ⟨_, H10, I10, _, _, e10⟩ => ?_
        subst e10
        exact again I10 w9
  refine codeAny_compStart_list (loop _ ⟨_, rfl⟩) (T.self _ 0 _ _ _ (T.keep 0 _ _ st2 fun b _ o e => old b o e) (loop _ ⟨_, rfl⟩))

theorem pe_comp (hca : X.calm = true) (S : CompScope X N' cap scope) (hi : PI X tg iter wi) (hg : ∀ p, PG (X.comp N' scope p) tg g) (hc : ∀ p, PIfs (X.comp N' scope p) ifs tc) (he : ∀ p, PE (X.comp N' scope p) elt te)
    (hs : ∀ x, foldedSetIterable iter X.env x = pure x := by intro _; rfl) : PE X (.ListComp elt [⟨tg, iter, ifs, 0⟩] scope pos) (tComp cap wi g tc te) := by
  intro pins s σ H Q I h
  rw [eval_ListComp]
  refine comp_core (use := none) (Q := Q) hca S hi hg hc he hs I h ?_
  intro D C H' s' I' q ns hC hL h1 h2 h3
  obtain ⟨m, hm⟩ := ns
  exact ⟨m, hm, fun h'' sb => ⟨.ref D, H', I'.turned (t' := s'.toks) (fun b o hb e => (sb.2 b hb).trans e) hC hL (.inr h1) h2 h3, rfl, q⟩⟩

/-- x = [..] where the stores are exchanged -/
theorem ps_setC {j : Nat} {y : Str} {py spos : Pos} (hca : X.calm = true) (S : CompScope X N' cap scope) (hi : PI X tg iter wi) (hg : ∀ p, PG (X.comp N' scope p) tg g) (hc : ∀ p, PIfs (X.comp N' scope p) ifs tc) (he : ∀ p, PE (X.comp N' scope p) elt te)
    (hN : X.N.Nodup) (hj : X.N[j]? = some y) (hy : X.env.scope.names.lookup y = some .local)
    (hsw : swapsWith (.ListComp elt [⟨tg, iter, ifs, 0⟩] scope pos) (some (.Name y py)) spos.line X.env = pure true)
    (hs : ∀ x, foldedSetIterable iter X.env x = pure x := by intro _; rfl) : PS X (.Assign [.Name y py] (.ListComp elt [⟨tg, iter, ifs, 0⟩] scope pos) spos) (tAsg (tComp cap wi g tc te) (gName j)) := by
  intro pins s σ H D I h
  rw [exec_Assign_Name_used _ _ _ _ hsw]
  refine wpAny_bind (wpAny_standAt (wpAny_bind ?_))
  show wpAny _ X.A (do let _ ← comprehension (.ListComp elt [⟨tg, iter, ifs, 0⟩] scope pos) scope X.env _ (newList []) false (eval iter X.env) (some (assign (.Name y py) X.env))) _ _ s
  refine wpAny_bind (wpAny_mono (comp_core (use := some (assign (.Name y py) X.env)) (Qf := fun _ s' => SP X pins D .next s') hca S hi hg hc he hs I h ?_) (fun _ s' hq => wpAny_pure (wpAny_pure hq)) fun _ _ e => e)
  intro D' C H' s' I' q ns hC hL h1 h2 h3
  obtain ⟨m, hm⟩ := ns
  show wpAny _ X.A (assign (.Name y py) X.env (.ref D')) _ _ _
  refine wpAny_assign_Name (store_ok2 I' hN hj (.inl hy) (v := .ref D') rfl (fun s'' I'' ⟨a, sb, ha⟩ => ?_) (.inr hy))
  have ne : C ≠ a := fun z => by
    rcases ha with e | e
    · exact hL (z.trans e)
    · exact h2 y a e z.symm
  exact ⟨m, hm.sameBut sb ne, fun h'' sb' => ⟨_, H', I''.turned (t' := s''.toks) (fun b o hb e => (sb'.2 b hb).trans e) hC hL (.inr h1) h2 h3, q⟩⟩
end

/-! ### the forms one uses: what stands behind «∀ D, H1 D = none → » -/
section
variable {K : PySem.W.Frag} {cap : List (Option Nat)} {σ : St} {H : Hp} {g : TG} {tc : TT} {te : TE} {Q : VK} {D : Addr}
theorem comp_range {lo : Int} {n : Nat} (Pv : Nat → List V → Hp → Prop) (h0 : Pv 0 [] (upd H D (.lst []))) (hD : ∀ i xs H, i ≤ n → Pv i xs H → H D = some (.lst xs))
    (hs : ∀ i xs H, i < n → Pv i xs H → g (.int (lo + i)) (capσ cap σ) H fun σ2 H4 => Keep (capσ cap σ) σ2 ∧
      tc σ2 H4 fun b H5 => if b = true then te σ2 H5 fun y H6 => H6 D = some (.lst xs) ∧ xs.length < sizeLine ∧ Pv (i + 1) (xs ++ [y]) (upd H6 D (.lst (xs ++ [y]))) else Pv (i + 1) xs H5)
    (hd : ∀ xs H, Pv n xs H → Q (.ref D) H) : CompOk (Itr lo n) D cap σ H g tc te Q := by
  refine ⟨n, Pv, h0, fun i xs H2 hi p => ⟨hD i xs H2 hi p, ?_⟩⟩
  by_cases hlt : i < n
  · refine .inr ⟨hlt, hlt, fun x H' y => ?_⟩
    obtain ⟨e, y⟩ := y
    subst e y
    exact hs i xs _ hlt p
  · have e : i = n := by omega
    subst e
    exact .inl ⟨rfl, Nat.le_refl _, hd xs H2 p⟩
theorem comp_list {a : Addr} {ys : List V} (Pv : Nat → List V → Hp → Prop) (h0 : Pv 0 [] (upd H D (.lst []))) (hD : ∀ i xs H, i ≤ ys.length → Pv i xs H → H D = some (.lst xs) ∧ SqL K H a ys)
    (hs : ∀ i x xs H, ys[i]? = some x → Pv i xs H → g x (capσ cap σ) H fun σ2 H4 => Keep (capσ cap σ) σ2 ∧
      tc σ2 H4 fun b H5 => if b = true then te σ2 H5 fun y H6 => H6 D = some (.lst xs) ∧ xs.length < sizeLine ∧ Pv (i + 1) (xs ++ [y]) (upd H6 D (.lst (xs ++ [y]))) else Pv (i + 1) xs H5)
    (hd : ∀ xs H, Pv ys.length xs H → Q (.ref D) H) : CompOk (Itl K a) D cap σ H g tc te Q := by
  refine ⟨ys.length, Pv, h0, fun i xs H2 hi p => ⟨(hD i xs H2 hi p).1, ?_⟩⟩
  have q := (hD i xs H2 hi p).2
  by_cases hlt : i < ys.length
  · refine .inr ⟨hlt, ⟨ys, ys[i], q, by simp [hlt]⟩, fun x H' y => ?_⟩
    obtain ⟨e, y⟩ := y
    subst e
    exact hs i x xs _ (y ys q) p
  · have e : i = ys.length := by omega
    subst e
    exact .inl ⟨rfl, ⟨ys, q, Nat.le_refl _⟩, hd xs H2 p⟩
end
end L2


set_option Elab.async false
set_option linter.all false
set_option maxRecDepth 100000
set_option maxHeartbeats 4000000
/-! DEEP DATA over the layer; ==, !=, in, not in of it; isinstance; tuple(range(n)) -/
namespace L2
open PySem PySem.Spec PyProof.Rows

mutual
/-- the value v stands for the data d -/
inductive DV (H : Hp) : PyData → V → Prop
  | non : DV H .none .non
  | bl (b : Bool) : DV H (.bool b) (.bl b)
  | int (i : Int) : DV H (.int i) (.int i)
  | str (x : Str) : DV H (.str x) (.str x)
  | lst {a : Addr} {ds : List PyData} {vs : List V} : H a = some (.lst vs) → DVs H ds vs → DV H (.list ds) (.ref a)
  | tup {a : Addr} {ds : List PyData} {vs : List V} : H a = some (.tup vs) → DVs H ds vs → DV H (.tuple ds) (.ref a)
inductive DVs (H : Hp) : List PyData → List V → Prop
  | nil : DVs H [] []
  | cons {d : PyData} {v : V} {ds : List PyData} {vs : List V} : DV H d v → DVs H ds vs → DVs H (d :: ds) (v :: vs)
end
section
variable {H H' : Hp}
mutual
theorem DV.mono (e : Same H H') : ∀ {d : PyData} {v : V}, DV H d v → DV H' d v
  | _, _, .non => .non
  | _, _, .bl b => .bl b
  | _, _, .int i => .int i
  | _, _, .str x => .str x
  | _, _, .lst h t => .lst (e _ _ h) (DVs.mono e t)
  | _, _, .tup h t => .tup (e _ _ h) (DVs.mono e t)
theorem DVs.mono (e : Same H H') : ∀ {ds : List PyData} {vs : List V}, DVs H ds vs → DVs H' ds vs
  | _, _, .nil => .nil
  | _, _, .cons h t => .cons (DV.mono e h) (DVs.mono e t)
end
theorem DVs.length : ∀ {ds : List PyData} {vs : List V}, DVs H ds vs → ds.length = vs.length
  | _, _, .nil => rfl
  | _, _, .cons _ t => congrArg (· + 1) (DVs.length t)
theorem DVs.get : ∀ {ds : List PyData} {vs : List V} {i : Nat} {d : PyData}, DVs H ds vs → ds[i]? = some d → ∃ v, vs[i]? = some v ∧ DV H d v
  | _, _, _, _, .nil, e => by simp at e
  | _, _, 0, _, .cons h _, e => by simp at e; subst e; exact ⟨_, rfl, h⟩
  | _, _, i + 1, d, .cons _ t, e => by
    obtain ⟨v, h1, h2⟩ := DVs.get (i := i) (d := d) t (by simpa using e)
    exact ⟨v, by simpa using h1, h2⟩
theorem DVs.get' : ∀ {ds : List PyData} {vs : List V} {i : Nat} {v : V}, DVs H ds vs → vs[i]? = some v → ∃ d, ds[i]? = some d ∧ DV H d v
  | _, _, _, _, .nil, e => by simp at e
  | _, _, 0, _, .cons h _, e => by simp at e; subst e; exact ⟨_, rfl, h⟩
  | _, _, i + 1, v, .cons _ t, e => by
    obtain ⟨d, h1, h2⟩ := DVs.get' (i := i) (v := v) t (by simpa using e)
    exact ⟨d, by simpa using h1, h2⟩
theorem DVs.append : ∀ {ds es : List PyData} {vs ws : List V}, DVs H ds vs → DVs H es ws → DVs H (ds ++ es) (vs ++ ws)
  | _, _, _, _, .nil, s => s
  | _, _, _, _, .cons h t, s => .cons h (DVs.append t s)
theorem DVs.snoc {ds : List PyData} {vs : List V} {d : PyData} {v : V} (h : DVs H ds vs) (hd : DV H d v) : DVs H (ds ++ [d]) (vs ++ [v]) := h.append (.cons hd .nil)
theorem DVs.take : ∀ {ds : List PyData} {vs : List V} (n : Nat), DVs H ds vs → DVs H (ds.take n) (vs.take n)
  | _, _, 0, _ => .nil
  | _, _, _ + 1, .nil => .nil
  | _, _, n + 1, .cons h t => .cons h (DVs.take n t)
theorem DVs.drop : ∀ {ds : List PyData} {vs : List V} (n : Nat), DVs H ds vs → DVs H (ds.drop n) (vs.drop n)
  | _, _, 0, t => t
  | _, _, _ + 1, .nil => .nil
  | _, _, n + 1, .cons _ t => DVs.drop n t
theorem DVs.ints (ns : List Int) : DVs H (ns.map PyData.int) (ns.map V.int) := by
  induction ns with
  | nil => exact .nil
  | cons n r ih => exact .cons (.int n) ih
theorem DV.int_inv {i : Int} {v : V} (h : DV H (.int i) v) : v = .int i := by cases h; rfl
theorem DV.bl_inv {b : Bool} {v : V} (h : DV H (.bool b) v) : v = .bl b := by cases h; rfl
theorem DV.tup_inv {ds : List PyData} {v : V} (h : DV H (.tuple ds) v) : ∃ a vs, v = .ref a ∧ H a = some (.tup vs) ∧ DVs H ds vs := by cases h with | tup h t => exact ⟨_, _, rfl, h, t⟩
theorem DVs.two_inv {a b : PyData} {vs : List V} (h : DVs H [a, b] vs) : ∃ v w, vs = [v, w] ∧ DV H a v ∧ DV H b w := by
  cases h with
  | cons h t => cases t with
    | cons h' t' => cases t'; exact ⟨_, _, rfl, h, h'⟩
theorem DVs.three_inv {a b c : PyData} {vs : List V} (h : DVs H [a, b, c] vs) : ∃ v w u, vs = [v, w, u] ∧ DV H a v ∧ DV H b w ∧ DV H c u := by
  cases h with
  | cons h t =>
    obtain ⟨v, w, rfl, h1, h2⟩ := DVs.two_inv t
    exact ⟨_, _, _, rfl, h, h1, h2⟩
variable {P : Program} {w : World} {h : Heap}
mutual
theorem DV.reads (ok : HOk P w H h) : ∀ {d : PyData} {v : V} {u : Value}, DV H d v → RelV v u → ∃ as, Reads h u d as
  | _, _, _, .non, r => by cases r; exact ⟨_, .none⟩
  | _, _, _, .bl b, r => by cases r; exact ⟨_, .bool b⟩
  | _, _, _, .int i, r => by obtain ⟨t, rfl⟩ := r; exact ⟨_, .int i t⟩
  | _, _, _, .str x, r => by obtain ⟨t, rfl⟩ := r; exact ⟨_, .str x t⟩
  | _, _, _, .lst e t, r => by
    cases r
    obtain ⟨_, its, n, rv, eo⟩ := ok _ _ e
    obtain ⟨as, q⟩ := DVs.reads ok t rv
    exact ⟨_, .list eo rfl rfl (by simpa using q)⟩
  | _, _, _, .tup e t, r => by
    cases r
    obtain ⟨_, its, rv, o, eo, hc, n, hd⟩ := ok _ _ e
    obtain ⟨as, q⟩ := DVs.reads ok t rv
    exact ⟨_, .tuple eo hc hd (by simpa using q)⟩
theorem DVs.reads (ok : HOk P w H h) : ∀ {ds : List PyData} {vs : List V} {us : List Value}, DVs H ds vs → Vals vs us → ∃ as, ReadsAll h us ds as
  | _, _, _, .nil, r => by cases r; exact ⟨_, .nil⟩
  | _, _, _, .cons e t, r => by
    cases r with
    | cons r rr =>
      obtain ⟨as, q⟩ := DV.reads ok e r
      obtain ⟨bs, q'⟩ := DVs.reads ok t rr
      exact ⟨_, .cons q q'⟩
end
end

/-! ### comparisons of deep data -/
section
variable {X : Cx}
def rEqD (neg : Bool) : R2 := fun x y H Q => ∃ d e, DV H d x ∧ DV H e y ∧ d.canLay0 = true ∧ e.canLay0 = true ∧ min d.depth e.depth ≤ 60 ∧ Q (.bl (if neg then !PyData.eqv d e else PyData.eqv d e)) H
theorem op_eqD (hu : X.A.units + 64 < cLine) : OpR X (compareOp .Eq) (rEqD false) := by
  intro pins s σ H x y v u Q I rx ry h
  obtain ⟨d, e, hd, he, c1, c2, dp, q⟩ := h
  obtain ⟨as, ra⟩ := hd.reads I.hok rx
  obtain ⟨bs, rb⟩ := he.reads I.hok ry
  exact SeqAt.compareEq_reads ra rb c1 c2 (by omega) ⟨.bl _, H, I, rfl, q⟩
theorem op_neD (hu : X.A.units + 64 < cLine) : OpR X (compareOp .NotEq) (rEqD true) := by
  intro pins s σ H x y v u Q I rx ry h
  obtain ⟨d, e, hd, he, c1, c2, dp, q⟩ := h
  obtain ⟨as, ra⟩ := hd.reads I.hok rx
  obtain ⟨bs, rb⟩ := he.reads I.hok ry
  exact SeqAt.compareNe_reads ra rb c1 c2 (by omega) ⟨.bl _, H, I, rfl, q⟩
/-- x in a list or a tuple of deep data -/
def rInD (neg : Bool) : R2 := fun x y H Q => ∃ d es, DV H d x ∧ (DV H (.list es) y ∨ DV H (.tuple es) y) ∧ d.canLay0 = true ∧ PyData.canLayAll0 es = true ∧ d.depth ≤ 60 ∧
  Q (.bl (if neg then !(es.any fun e => PyData.eqv e d) else es.any fun e => PyData.eqv e d)) H
theorem op_inD (hu : X.A.units + 64 < cLine) : OpR X (compareOp .In) (rInD false) := by
  intro pins s σ H x y v u Q I rx ry h
  obtain ⟨d, es, hd, he, c1, c2, dp, q⟩ := h
  obtain ⟨as, ra⟩ := hd.reads I.hok rx
  rcases he with he | he
  · obtain ⟨bs, rb⟩ := he.reads I.hok ry
    exact SeqAt.in_list_reads rb ra c2 c1 (by omega) ⟨.bl _, H, I, rfl, q⟩
  · obtain ⟨bs, rb⟩ := he.reads I.hok ry
    exact SeqAt.in_tuple_reads rb ra c2 c1 (by omega) ⟨.bl _, H, I, rfl, q⟩
/-! ### isinstance -/
end
end L2

/-! ### tuple(range(n)) -/
namespace PySem
open Sem (wp)
open AutoSeq1 (wpAny_loadPart')
section
variable {prog : Program} {w : World} {A : Around} {E : Value → Shared → Prop} {s : Shared}
end
section
variable {prog : Program} {w : World} {A : Around} {E : Value → Shared → Prop} {s : Shared}
end
end PySem

namespace L2
open PySem PySem.Spec PyProof.Rows
/-- 0, 1, .. below n, as ints -/
def till (n : Nat) : List Int := (List.range n).map fun k : Nat => (k : Int)
section
variable {X : Cx}
end
end L2


set_option Elab.async false
set_option linter.all false
set_option maxRecDepth 100000
set_option maxHeartbeats 4000000
namespace PySem
/-- the exception at e stands in no other's context -/
def Heap.Clear (h : Heap) (e : Addr) : Prop := ∃ oe vs, h.get? e = some oe ∧ oe.data = .fields vs ∧ vs[2]? = some .none
section
variable {M : Model} {A : Around} {E : Value → Shared → Prop} {s : Shared}
/-- an entry of the trace is laid and hung to e: what of e's fields stays -/
theorem hang_entry {B : Heap} {env : Env} {outer : List Env} {L e : Addr} {oe : Obj} {vs : Array Value} {head a0 : Value} {hn : Bool} {Q : Unit → Shared → Prop}
    (fr : A.frames = some (env :: outer)) (ff : s.heap.FunFrames B (env :: outer)) (ef : env.frame = some L) (ge : s.heap.get? e = some oe) (kb : B.StaysIn s.heap) (nb : B.get? e = none)
    (de : oe.data = .fields vs) (v0 : vs[0]? = some a0) (sz : 1 < vs.size)
    (k : ∀ h', Heap.NotedW B (env :: outer) e oe.cls a0 (rawInt L) s.heap h' → (vs[2]? = some .none → h'.Clear e) → Q () { s with heap := h' }) :
    wpAny M A (do let a ← frameOf env; let pl ← entryPlaceOf L hn; let b ← EntryCells.newEntry head a .none (rawInt L) .none pl; setField (.ref e) 1 b) Q E s := by
  have ne : e ∉ (env :: outer).filterMap (·.frame) := fun m => by
    obtain ⟨_, o, ho, z⟩ := ff.mem m
    cases ge.symm.trans ho
    exact z vs de
  refine wpAny_bind (wpAny_frameOf_fun fr ff ef fun h1 c1 => wpAny_bind (wpAny_entryPlaceOf fun pl ip => ?_))
  unfold EntryCells.newEntry newFields
  refine wpAny_bind (wpAny_newObj_type ?_ (ip.sizeOk5 _ _ _ _ _))
  have g1 : h1.get? e = some oe := (c1.2.1 e ne).trans ge
  have k1 : B.StaysIn h1 := fun b o q => (c1.2.1 b fun m => by rw [(ff.mem m).1] at q; cases q).trans (kb b o q)
  obtain ⟨ts, hts⟩ : ∃ ts : Array Value, ts = ([head, .ref L, .none, rawInt L, .none] ++ (if pl.isEmpty then List.replicate 6 Value.none else pl)).toArray := ⟨_, rfl⟩
  have t3 : ts[3]? = some (rawInt L) := by
    rw [hts]
    first | (simp; done) | (rcases ip with rfl | ⟨_, _, _, _, _, _, _, rfl⟩ <;> simp)
  rw [← hts]
  have g2 := Heap.get?_push_of_some (h := h1) { cls := .type "traceback", dict := none, data := .fields ts } g1
  refine wpAny_setField g2 de sz (k _ ?_ fun v2 => ?_)
  all_goals have nT : h1.objs.size ≠ e := Nat.ne_of_gt (Heap.lt_size g1)
  all_goals have d3 := Obj.data_mapFields de (·.setIfInBounds 1 (Value.ref h1.objs.size))
  all_goals have g3 := Heap.get?_update_self (Obj.mapFields (·.setIfInBounds 1 (Value.ref h1.objs.size))) g2 (Obj.isFreed_of_fields d3)
  · have q3 := (Heap.get?_update_other (h1.push { cls := .type "traceback", dict := none, data := .fields ts }) (Obj.mapFields (·.setIfInBounds 1 (Value.ref h1.objs.size))) nT.symm).trans (Heap.get?_push_size h1 rfl)
    have kp : ∀ b o, b ≠ e → h1.get? b = some o → ((h1.push { cls := .type "traceback", dict := none, data := .fields ts }).update e (Obj.mapFields (·.setIfInBounds 1 (Value.ref h1.objs.size)))).get? b = some o := fun b o z q =>
      (Heap.get?_update_other _ _ (Ne.symm z)).trans (Heap.get?_push_of_some _ q)
    have nf : ∀ b o, s.heap.get? b = some o → (∀ ws, o.data ≠ .fields ws) → b ≠ e := fun b o q z y => by
      subst y
      cases ge.symm.trans q
      exact z vs de
    refine ⟨fun b o q => kp b o (fun y => by rw [y, nb] at q; cases q) (k1 b o q), ff.of_keeps fun b o q z => ?_, ⟨_, _, h1.objs.size, _, ts, g3, ⟨Obj.cls_mapFields _ _, ?_⟩, d3, by simp [sz], k1.fresh, nT, q3, rfl, t3⟩, fun b o q z => ?_⟩
    · obtain ⟨sl, y⟩ := c1.2.2 b o q
      exact ⟨_, kp b _ (nf b o q z) y, rfl⟩
    · rw [Array.getElem?_setIfInBounds_ne (by decide)]; exact v0
    · obtain ⟨sl, y⟩ := c1.2.2 b o q
      exact ⟨sl, kp b _ (nf b o q z) y⟩
  · exact ⟨_, _, g3, d3, by rw [Array.getElem?_setIfInBounds_ne (by decide)]; exact v2⟩
/-- noteFrame of an exception that was noted nowhere yet -/
theorem note_new {B : Heap} {env : Env} {outer : List Env} {L e : Addr} {oe : Obj} {vs : Array Value} {a0 : Value} {Q : Unit → Shared → Prop}
    (fr : A.frames = some (env :: outer)) (ff : s.heap.FunFrames B (env :: outer)) (ef : env.frame = some L) (ge : s.heap.get? e = some oe) (kb : B.StaysIn s.heap) (nb : B.get? e = none)
    (de : oe.data = .fields vs) (v0 : vs[0]? = some a0) (v1 : vs[1]? = some .none)
    (k : ∀ h', Heap.NotedW B (env :: outer) e oe.cls a0 (rawInt L) s.heap h' → (vs[2]? = some .none → h'.Clear e) → Q () { s with heap := h' }) : wpAny M A (noteFrame (.ref e) env) Q E s := by
  unfold noteFrame
  simp only [ef]
  refine wpAny_bind (wpAny_field ge de v1 ?_)
  rw [if_neg (by decide)]
  exact hang_entry fr ff ef ge kb nb de v0 (Array.getElem?_eq_some_iff.mp v1).1 k
/-- noteFrame of one that flies -/
theorem note_on {B : Heap} {env : Env} {outer : List Env} {L e : Addr} {cls a0 : Value} {Q : Unit → Shared → Prop}
    (fr : A.frames = some (env :: outer)) (ef : env.frame = some L) (fl : Heap.FlyingW B (env :: outer) e cls a0 s.heap)
    (k : ∀ h', Heap.HeldW B (env :: outer) e cls a0 L h' → s.heap.UpToSlots h' → (s.heap.Clear e → h'.Clear e) → Q () { s with heap := h' }) : wpAny M A (noteFrame (.ref e) env) Q E s := by
  obtain ⟨kb, nb, ff, oe, vs, T, oT, ts, ge, ⟨rfl, v0⟩, de, v1, nT, Te, gT, dT, t3⟩ := fl
  unfold noteFrame
  simp only [ef]
  refine wpAny_bind (wpAny_field ge de v1 ?_)
  rw [if_pos (show (Value.ref T != Value.none) = true by simp)]
  refine wpAny_bind (wpAny_field gT dT t3 ?_)
  rw [if_neg (show ¬ ((Value.none == rawInt L) = true) by simp [rawInt])]
  refine wpAny_bind (wpAny_setField gT dT (Array.getElem?_eq_some_iff.mp t3).1 ?_)
  have ot : ∀ b, b ≠ T → (s.heap.update T (Obj.mapFields (·.setIfInBounds 3 Value.none))).get? b = s.heap.get? b := fun b z => Heap.get?_update_other _ _ z.symm
  have nf : ∀ b o, s.heap.get? b = some o → (∀ ws, o.data ≠ .fields ws) → b ≠ T := fun b o q z y => by
    subst y
    cases gT.symm.trans q
    exact z ts dT
  refine hang_entry fr (ff.of_keeps fun b o q z => ⟨o, (ot b (nf b o q z)).trans q, rfl⟩) ef ((ot e Te.symm).trans ge) (fun b o q => (ot b fun y => by rw [y, nT] at q; cases q).trans (kb b o q)) nb de v0
    (Array.getElem?_eq_some_iff.mp v1).1 fun h' ⟨x1, x2, x3, x4⟩ cl => k h' ⟨x1, nb, x2, x3⟩ (fun b o q z => x4 b o ((ot b (nf b o q z)).trans q) z) fun ⟨oe', vs', q1, q2, q3⟩ => cl ?_
  cases ge.symm.trans q1
  cases de.symm.trans q2
  exact q3
/-- setFlight e none -/
theorem land {B : Heap} {l : List Env} {e : Addr} {cls a0 fl : Value} {Q : Unit → Shared → Prop} (kb : B.StaysIn s.heap) (nb : B.get? e = none) (ff : s.heap.FunFrames B l) (tr : s.heap.TracedAtW B e cls a0 fl)
    (k : ∀ h', Heap.FlyingW B l e cls a0 h' → s.heap.UpToSlots h' → (s.heap.Clear e → h'.Clear e) → Q () { s with heap := h' }) : wpAny M A (setFlight (.ref e) none) Q E s := by
  obtain ⟨oe, vs, T, oT, ts, ge, ce, de, v1, nT, Te, gT, dT, t3⟩ := tr
  have z3 : 3 < ts.size := (Array.getElem?_eq_some_iff.mp t3).1
  have ot : ∀ b, b ≠ T → (s.heap.update T (Obj.mapFields (·.setIfInBounds 3 ((none : Option Addr).elim Value.none fun f => rawInt f)))).get? b = s.heap.get? b := fun b z => Heap.get?_update_other _ _ z.symm
  have nf : ∀ b o, s.heap.get? b = some o → (∀ ws, o.data ≠ .fields ws) → b ≠ T := fun b o q z y => by
    subst y
    cases gT.symm.trans q
    exact z ts dT
  unfold setFlight
  refine wpAny_bind (wpAny_field ge de v1 ?_)
  rw [if_pos (show (Value.ref T != Value.none) = true by simp)]
  refine wpAny_setField gT dT z3 (k _ ⟨fun b o q => (ot b fun y => by rw [y, nT] at q; cases q).trans (kb b o q), nb, ff.of_keeps fun b o q z => ⟨o, (ot b (nf b o q z)).trans q, rfl⟩, oe, vs, T, _, _, (ot e Te.symm).trans ge, ce, de, v1, nT, Te,
    Heap.get?_update_self _ gT (Obj.isFreed_of_fields (Obj.data_mapFields dT _)), Obj.data_mapFields dT _, by simp [z3]⟩ (fun b o q z => ⟨o.slots, (ot b (nf b o q z)).trans q⟩) fun ⟨oe', vs', q1, q2, q3⟩ => ⟨oe', vs', (ot e Te.symm).trans q1, q2, q3⟩)
/-- setFlight e (some L) of one that is held at L: held it stays -/
theorem held_again {B : Heap} {l : List Env} {e L : Addr} {cls a0 : Value} {Q : Unit → Shared → Prop} (hd : Heap.HeldW B l e cls a0 L s.heap)
    (k : ∀ h', Heap.HeldW B l e cls a0 L h' → s.heap.UpToSlots h' → Q () { s with heap := h' }) : wpAny M A (setFlight (.ref e) (some L)) Q E s := by
  obtain ⟨kb, nb, ff, oe, vs, T, oT, ts, ge, ce, de, v1, nT, Te, gT, dT, t3⟩ := hd
  have z3 : 3 < ts.size := (Array.getElem?_eq_some_iff.mp t3).1
  have ot : ∀ b, b ≠ T → (s.heap.update T (Obj.mapFields (·.setIfInBounds 3 ((some L : Option Addr).elim Value.none fun f => rawInt f)))).get? b = s.heap.get? b := fun b z => Heap.get?_update_other _ _ z.symm
  have nf : ∀ b o, s.heap.get? b = some o → (∀ ws, o.data ≠ .fields ws) → b ≠ T := fun b o q z y => by
    subst y
    cases gT.symm.trans q
    exact z ts dT
  unfold setFlight
  refine wpAny_bind (wpAny_field ge de v1 ?_)
  rw [if_pos (show (Value.ref T != Value.none) = true by simp)]
  exact wpAny_setField gT dT z3 (k _ ⟨fun b o q => (ot b fun y => by rw [y, nT] at q; cases q).trans (kb b o q), nb, ff.of_keeps fun b o q z => ⟨o, (ot b (nf b o q z)).trans q, rfl⟩, oe, vs, T, _, _, (ot e Te.symm).trans ge, ce, de, v1, nT, Te,
    Heap.get?_update_self _ gT (Obj.isFreed_of_fields (Obj.data_mapFields dT _)), Obj.data_mapFields dT _, by simp [z3]⟩ (fun b o q z => ⟨o.slots, (ot b (nf b o q z)).trans q⟩))
theorem held_field {B : Heap} {l : List Env} {e L : Addr} {cls a0 : Value} {Q : Value → Shared → Prop} (hd : Heap.HeldW B l e cls a0 L s.heap) (k : ∀ T, Q (.ref T) s) : wpAny M A (field (.ref e) 1) Q E s := by
  obtain ⟨_, _, _, oe, vs, T, oT, ts, ge, ce, de, v1, _⟩ := hd
  exact wpAny_field ge de v1 (k T)
/-- leaving, for the first time -/
theorem leave_new {B h : Heap} {env : Env} {outer : List Env} {L e : Addr} {cls : Value} {args : List Value} {Q : Unit → Shared → Prop}
    (fr : A.frames = some (env :: outer)) (ef : env.frame = some L) (kb : B.StaysIn h) (ff : h.FunFrames B (env :: outer)) (hx : Heap.MadeExcOf h s.heap e cls args)
    (k : ∀ h' t, Heap.FlyingW B outer e cls (.ref t) h' → s.heap.UpToSlots h' → h'.Clear e → Q () { s with heap := h' }) : wpAny M A («leaving» env (.ref e)) Q E s := by
  obtain ⟨t, ge, _, _⟩ := hx.there
  have nb : B.get? e = none := by
    cases q : B.get? e with
    | none => rfl
    | some o => have := kb e o q; rw [hx.new] at this; cases this
  unfold «leaving»
  refine wpAny_bind (note_new (a0 := .ref t) fr (ff.of_keeps fun b o q _ => ⟨o, hx.keeps b o q, rfl⟩) ef ge (fun b o q => hx.keeps b o (kb b o q)) nb rfl rfl rfl fun h1 n1 c1 => ?_)
  obtain ⟨x1, x2, x3, x4⟩ := n1
  refine land (s := { s with heap := h1 }) x1 nb x2 x3 fun h2 ⟨y1, y2, ⟨_, _, y3⟩, y4⟩ up cl => k h2 t ⟨y1, y2, y3, y4⟩ (fun b o q z => ?_) (cl (c1 rfl))
  obtain ⟨sl, q1⟩ := x4 b o q z
  obtain ⟨sl', q2⟩ := up b _ q1 z
  exact ⟨sl', q2⟩
/-- leaving, on the way -/
theorem leave_on {B : Heap} {env : Env} {outer : List Env} {L e : Addr} {cls a0 : Value} {Q : Unit → Shared → Prop} (fr : A.frames = some (env :: outer)) (ef : env.frame = some L) (fl : Heap.FlyingW B (env :: outer) e cls a0 s.heap)
    (k : ∀ h', Heap.FlyingW B outer e cls a0 h' → s.heap.UpToSlots h' → (s.heap.Clear e → h'.Clear e) → Q () { s with heap := h' }) : wpAny M A («leaving» env (.ref e)) Q E s := by
  unfold «leaving»
  refine wpAny_bind (note_on fr ef fl fun h1 ⟨x1, x2, x3, x4⟩ u1 c1 => ?_)
  exact land (s := { s with heap := h1 }) x1 x2 x3 x4 fun h2 ⟨y1, y2, ⟨_, _, y3⟩, y4⟩ up cl => k h2 ⟨y1, y2, y3, y4⟩ (u1.trans up) fun c => cl (c1 c)
end
end PySem
/-! EXCEPTIONS over the layer: own classes raised, going through frames -/
namespace L2
open PySem PySem.Spec PyProof.Rows

theorem ObjOk.there {P : Program} {w : World} {H : Hp} {h : Heap} {a : Addr} {o : HO} (x : ObjOk P w H h a o) : ∃ ob, h.get? a = some ob := by
  cases o with
  | lst xs => obtain ⟨_, _, _, _, e⟩ := x; exact ⟨_, e⟩
  | tup xs => obtain ⟨_, _, _, o, e, _⟩ := x; exact ⟨o, e⟩
  | dK kvs => obtain ⟨_, _, _, _, o, _, _, e, _⟩ := x; exact ⟨o, e⟩
  | dT kvs => obtain ⟨_, _, _, _, o, _, _, e, _⟩ := x; exact ⟨o, e⟩
  | set S n => obtain ⟨o, _, _, _, e, _⟩ := x; exact ⟨o, e⟩
  | ins C dx fs => obtain ⟨_, _, _, e, _⟩ := x; exact ⟨_, e⟩
  | own y => exact x
  | xd fs => obtain ⟨_, ⟨o, _, _, e, _⟩, _⟩ := x; exact ⟨o, e⟩
  | rng lo hi => obtain ⟨_, _, _, e⟩ := x; exact ⟨_, e⟩
  | frz ob u => obtain ⟨e, _⟩ := x; exact ⟨_, e⟩
  | tbl ps => exact ⟨_, x⟩
  | met f y => exact ⟨_, x⟩
  | ext φ => obtain ⟨_, e, _⟩ := x; exact e

/-- an exception of an own class has come out of a call -/
def CXB (cl : Bool) (P : Program) (w : World) : CXT := fun outer H s E e s' => ∃ (a C : Addr) (a0 : Value) (B : Heap) (H' : Hp), e = .ref a ∧ s'.os = s.os ∧ AllBare s'.gens ∧ Un (frs outer) [] H H' s.heap s'.heap ∧ HOk P w H' s'.heap ∧
  Heap.FlyingW B outer a (.ref C) a0 s'.heap ∧ (∀ b o, s.heap.get? b = some o → H b = none → b ∉ frs outer → B.get? b = some o) ∧ (∀ b o, s.heap.get? b = some o → b ∉ frs outer → ∃ o', B.get? b = some o') ∧
  (∀ b u, H' b = some u → ∃ ob, s'.heap.get? b = some ob ∧ B.get? b = some ob) ∧ E (.ref C) none H' ∧ (cl = true → s'.heap.Clear a)
abbrev CXF (P : Program) (w : World) : CXT := CXB false P w

section
variable {X : Cx} {pins : List (Addr × Obj)} {σ : St} {H H' : Hp} {s : Shared} {h' : Heap}
/-- from a step over the whole stack to the def's own end -/
theorem un_out (I : Inv X pins σ H s) (hex : X.ex = []) (u : Un (frs X.stack) [] H H' s.heap h') : Un X.fs [] X.H₀ H' X.s₀.heap h' := by
  have nst : ∀ b o, X.s₀.heap.get? b = some o → b ∉ X.fs → b ∉ frs X.stack := fun b o e hb hm => by
    rcases List.mem_cons.mp (I.stkSub b hm) with z | z
    · exact absurd (Nat.lt_of_lt_of_le (Heap.lt_size e) I.ok.above) (by rw [z]; exact Nat.lt_irrefl _)
    · exact hb z
  have nx : ∀ b : Addr, b ∉ X.ex := fun b hb => by rw [hex] at hb; cases hb
  have ne : ∀ b : Addr, b ∉ ([] : List Addr) := fun b hb => by cases hb
  refine ⟨fun b o e n hb _ => ?_, fun b o e n hb _ => ?_, fun b o e n _ => ?_, fun b o e _ => ?_, fun b xs e => u.tups b xs (I.base.tups b xs e), fun b o v e => u.frzs b o v (I.base.frzs b o v e), fun b ps e => ?_⟩
  · exact u.keep b o (I.base.keep b o e n hb (nx b)) (I.base.free b o e n (nx b)) (nst b o e hb) (ne b)
  · obtain ⟨sl, e1⟩ := I.base.slot b o e n hb (nx b)
    obtain ⟨sl', e2⟩ := u.any e1 (I.base.free b o e n (nx b)) (ne b)
    exact ⟨sl', e2⟩
  · obtain ⟨o', e1⟩ := I.base.there b o e (nx b)
    exact u.free b o' e1 (I.base.free b o e n (nx b)) (ne b)
  · obtain ⟨o', e1⟩ := I.base.there b o e (nx b)
    exact u.there b o' e1 (ne b)
  · obtain ⟨m1, e1⟩ := I.base.tbls b ps e
    obtain ⟨m2, e2⟩ := u.tbls b _ e1
    exact ⟨m1 ++ m2, by rw [e2, Array.append_assoc]⟩
theorem out_st (I : Inv X pins σ H s) {b : Addr} {o : Obj} (e : X.s₀.heap.get? b = some o) (hb : b ∉ X.fs) : b ∉ frs X.stack := fun hm => by
  rcases List.mem_cons.mp (I.stkSub b hm) with z | z
  · exact absurd (Nat.lt_of_lt_of_le (Heap.lt_size e) I.ok.above) (by rw [z]; exact Nat.lt_irrefl _)
  · exact hb z
end

/-- an exception that is made here goes the way that E wants -/
def Outs (X : Cx) (E : XK) : Prop := ∀ (pins : List (Addr × Obj)) (σ : St) (H : Hp) (s : Shared) (h' : Heap) (a C : Addr) (vs : List Value), Inv X pins σ H s → Heap.MadeExcOf s.heap h' a (.ref C) vs → E (.ref C) none H → X.xe (.ref a) { s with heap := h' }

section
variable {P : Program} {w : World} {K : PySem.W.Frag} {mg : Str → Option Value} {base : Heap} {N : List Str} {qual : Str} {scope : Scope} {f : Addr} {cd : Value} {A : Around} {outer : List Env} {s₀ : Shared} {H₀ : Hp} {E : XK}
abbrev cxB (cl : Bool) (P : Program) (w : World) (K : PySem.W.Frag) (mg : Str → Option Value) (base : Heap) (N : List Str) (qual : Str) (scope : Scope) (f : Addr) (cd : Value) (A : Around) (outer : List Env) (s₀ : Shared) (H₀ : Hp) (E : XK) : Cx :=
  cxOf (CXB cl P w) P w K mg base N qual scope f cd A outer s₀ H₀ E
abbrev cxF (P : Program) (w : World) (K : PySem.W.Frag) (mg : Str → Option Value) (base : Heap) (N : List Str) (qual : Str) (scope : Scope) (f : Addr) (cd : Value) (A : Around) (outer : List Env) (s₀ : Shared) (H₀ : Hp) (E : XK) : Cx :=
  cxB false P w K mg base N qual scope f cd A outer s₀ H₀ E
variable {cl : Bool}
theorem outs_def : Outs (cxB cl P w K mg base N qual scope f cd A outer s₀ H₀ E) E := by
  intro pins σ H s h' a C vs I hx hE
  have hst : (cxB cl P w K mg base N qual scope f cd A outer s₀ H₀ E).stack = envOfC qual scope s₀.heap.objs.size f cd :: outer := rfl
  have hin : ∀ env ∈ (cxB cl P w K mg base N qual scope f cd A outer s₀ H₀ E).stack, ∀ b, env.frame = some b → b ∈ frs (cxB cl P w K mg base N qual scope f cd A outer s₀ H₀ E).stack := fun env he b hb => List.mem_filterMap.mpr ⟨env, he, hb⟩
  show wpAny (model P w) (A.deeper (envOfC qual scope s₀.heap.objs.size f cd)) («leaving» (envOfC qual scope s₀.heap.objs.size f cd) (.ref a)) _ _ _
  refine leave_new (B := PySem.W.hideAll s.heap (frs (cxB cl P w K mg base N qual scope f cd A outer s₀ H₀ E).stack)) I.ok.frames rfl (fun b o q => PySem.W.of_hideAll _ q) (PySem.W.funFrames_hide I.stack hin) hx fun h2 t fl up clr => ?_
  have gB : ∀ b o, s.heap.get? b = some o → b ∉ frs (cxB cl P w K mg base N qual scope f cd A outer s₀ H₀ E).stack → (PySem.W.hideAll s.heap (frs (cxB cl P w K mg base N qual scope f cd A outer s₀ H₀ E).stack)).get? b = some o := fun b o e hb => PySem.W.hideAll_get _ e hb
  have gF : ∀ b o, s.heap.get? b = some o → b ∈ frs (cxB cl P w K mg base N qual scope f cd A outer s₀ H₀ E).stack → ∃ sl, h2.get? b = some { o with slots := sl } := fun b o e hb => by
    obtain ⟨_, o', e', hd⟩ := I.stack.mem hb
    rw [e] at e'; cases e'
    exact up b o (hx.keeps b o e) hd
  have trk : ∀ b u, H b = some u → b ∉ frs (cxB cl P w K mg base N qual scope f cd A outer s₀ H₀ E).stack := fun b u e hb => by rw [I.stkFree b hb] at e; cases e
  have un : Un (frs (cxB cl P w K mg base N qual scope f cd A outer s₀ H₀ E).stack) [] H H s.heap h2 := by
    refine ⟨fun b o e _ hb _ => fl.1 b o (gB b o e hb), fun b o e _ hb _ => gF b o e hb, fun _ _ _ n _ => n, fun b o e _ => ?_, fun _ _ q => q, fun _ _ _ q => q, fun _ ps q => ⟨#[], by rw [q]; simp⟩⟩
    by_cases hb : b ∈ frs (cxB cl P w K mg base N qual scope f cd A outer s₀ H₀ E).stack
    · obtain ⟨sl, q⟩ := gF b o e hb
      exact ⟨_, q⟩
    · exact ⟨o, fl.1 b o (gB b o e hb)⟩
  have nx : ∀ b : Addr, b ∉ (cxB cl P w K mg base N qual scope f cd A outer s₀ H₀ E).ex := fun b hb => by cases hb
  refine ⟨a, C, .ref t, _, H, rfl, I.os, I.bare, un_out I rfl un, fun b u e => ?_, fl, fun b o e n hb => ?_, fun b o e hb => ?_, fun b u e => ?_, hE, fun _ => clr⟩
  · refine (I.hok b u e).stay (fun c v hc q => ?_) (fun _ q => q) fun _ _ q => q
    have hH : ∃ u', H c = some u' := by
      rcases hc with z | z
      · exact ⟨u, by rw [z]; exact e⟩
      · exact ⟨_, z⟩
    obtain ⟨u', hu'⟩ := hH
    exact fl.1 c v (gB c v q (trk c u' hu'))
  · exact gB b o (I.base.keep b o e n hb (nx b)) (out_st I e hb)
  · obtain ⟨o', e1⟩ := I.base.there b o e (nx b)
    exact ⟨o', gB b o' e1 (out_st I e hb)⟩
  · obtain ⟨ob, q⟩ := (I.hok b u e).there
    have z := gB b ob q (trk b u e)
    exact ⟨ob, fl.1 b ob z, z⟩
theorem passes_def : Passes (CXB cl P w) (cxB cl P w K mg base N qual scope f cd A outer s₀ H₀ E) E := by
  intro pins σ H s e s' I h
  obtain ⟨a, C, a0, B, H', rfl, os, bare, un, hok, fl, inB, thB, tr, hE, clr⟩ := h
  show wpAny (model P w) (A.deeper (envOfC qual scope s₀.heap.objs.size f cd)) («leaving» (envOfC qual scope s₀.heap.objs.size f cd) (.ref a)) _ _ _
  refine leave_on I.ok.frames rfl fl fun h2 fl2 up cl2 => ?_
  have ne : ∀ b : Addr, b ∉ ([] : List Addr) := fun b hb => by cases hb
  have nx : ∀ b : Addr, b ∉ (cxB cl P w K mg base N qual scope f cd A outer s₀ H₀ E).ex := fun b hb => by cases hb
  have gF : ∀ b o, s.heap.get? b = some o → b ∈ frs (cxB cl P w K mg base N qual scope f cd A outer s₀ H₀ E).stack → ∃ sl, h2.get? b = some { o with slots := sl } := fun b o e hb => by
    obtain ⟨_, o', e', hd⟩ := I.stack.mem hb
    rw [e] at e'; cases e'
    obtain ⟨sl, q⟩ := un.slot b o e (I.stkFree b hb) hb (ne b)
    obtain ⟨sl', q'⟩ := up b _ q hd
    exact ⟨sl', q'⟩
  have un2 : Un (frs (cxB cl P w K mg base N qual scope f cd A outer s₀ H₀ E).stack) [] H H' s.heap h2 := by
    refine ⟨fun b o e n hb _ => fl2.1 b o (inB b o e n hb), fun b o e _ hb _ => gF b o e hb, un.free, fun b o e _ => ?_, un.tups, un.frzs, un.tbls⟩
    by_cases hb : b ∈ frs (cxB cl P w K mg base N qual scope f cd A outer s₀ H₀ E).stack
    · obtain ⟨sl, q⟩ := gF b o e hb
      exact ⟨_, q⟩
    · obtain ⟨o', q⟩ := thB b o e hb
      exact ⟨o', fl2.1 b o' q⟩
  refine ⟨a, C, a0, B, H', rfl, os.trans I.os, bare, un_out I rfl un2, fun b u e => ?_, fl2, fun b o e n hb => ?_, fun b o e hb => ?_, fun b u e => ?_, hE, fun z => cl2 (clr z)⟩
  · refine (hok b u e).stay (fun c v hc q => ?_) (fun _ q => q) fun _ _ q => q
    have hH : ∃ u', H' c = some u' := by
      rcases hc with z | z
      · exact ⟨u, by rw [z]; exact e⟩
      · exact ⟨_, z⟩
    obtain ⟨u', hu'⟩ := hH
    obtain ⟨ob, q1, q2⟩ := tr c u' hu'
    rw [q] at q1; cases q1
    exact fl2.1 c v q2
  · exact inB b o (I.base.keep b o e n hb (nx b)) (I.base.free b o e n (nx b)) (out_st I e hb)
  · obtain ⟨o', e1⟩ := I.base.there b o e (nx b)
    exact thB b o' e1 (out_st I e hb)
  · obtain ⟨ob, q1, q2⟩ := tr b u e
    exact ⟨ob, fl2.1 b ob q2, q2⟩
theorem own_def : PassesOwn (model P w) (cxB cl P w K mg base N qual scope f cd A outer s₀ H₀ E).A (cxB cl P w K mg base N qual scope f cd A outer s₀ H₀ E).env (cxB cl P w K mg base N qual scope f cd A outer s₀ H₀ E).xe := PassesOwn.leaving
end

/-! ### raise C(..), C an own class -/
theorem exc_obj {K : PySem.W.Frag} {h : Heap} {C : Addr} {bmB : List Value} {newId : String} (X : K.In h) (q : PySem.W.excIn K C bmB newId = true) : ∃ bm N nm qn bs hdct sn sub ab col dd k0 k1 k2 k3 k5 mN,
    h.get? C = some (excClassObj nm qn C N bs bm hdct sn sub ab col dd k0 k1 k2 k3 k5 newId) ∧ h.Ns N mN ∧ mN "__init__" = none ∧ OwnTail h bmB bm := by
  unfold PySem.W.excIn at q
  split at q
  · rename_i dd cd sl ho
    split at q
    · rename_i C' bm k0 k1 k2 k3 n k5 hm hs
      simp only [Bool.and_eq_true, beq_iff_eq, Bool.not_eq_true'] at q
      obtain ⟨⟨⟨⟨⟨rfl, rfl⟩, hdel⟩, ht⟩, hok⟩, hni⟩ := q
      obtain ⟨nm, bs, mro, ns, qn, hd, sn, sub, ab, col, del⟩ := cd
      dsimp only at hm hdel hok hni
      subst hm hdel
      have hsl : sl = #[k0, k1, k2, k3, some (.builtin n), k5] := by
        obtain ⟨l⟩ := sl
        simp only at hs
        rw [hs]
      subst hsl
      exact ⟨bm, ns, nm, qn, bs, hd, sn, sub, ab, col, dd, k0, k1, k2, k3, k5, _, X _ _ ho, .of_isNs (PySem.W.isNs_of_in X hok), PySem.W.nsMap_none_of_in X hok hni, PySem.W.tail_of_in X ht⟩
    · cases q
  · cases q
section
variable {X : Cx} {E : XK} {x : Str} {C : Addr} {B newId initId : String} {bmB : List Value} {np cpos pos : Pos} {e₀ : Expr} {rest : List Expr} {ta : TA}
def tRaise (C : Addr) (E : XK) (ta : TA) : TS := fun _ σ H => ta σ H fun vs H1 => vs.length ≤ sizeLine ∧ E (.ref C) none H1
theorem ps_raise (ho : Outs X E) (hc : X.calm = true) (hg : Gl X x) (hm : X.mg x = some (.ref C)) (q : PySem.W.excIn X.K C bmB newId = true) (FB : ExcBaseFacts B newId initId bmB) (ha : PA X (e₀ :: rest) ta)
    (he : starEach (e₀ :: rest) X.env = (false, eval e₀ X.env) :: starEach rest X.env := by rfl) (hplain : (backTo cpos (starEach rest X.env)).any (·.1) = false := by rfl) (hd : (x == ("__debug__" : Str)) = false := by decide) :
    PS X (.Raise (some (.Call (.Name x np) (e₀ :: rest) [] cpos)) none pos) (tRaise C E ta) := by
  intro pins s σ H D I h
  obtain ⟨bm, N, nm, qn, bs, hdct, sn, sub, ab, col, dd, k0, k1, k2, k3, k5, mN, hC, hN, hni, T⟩ := exc_obj I.mod.kin q
  refine wpAny_Raise_call_subT (C := C) (nm := nm) (q := qn) (N := N) (bs := bs) (bm := bm) (hdct := hdct) (sn := sn) (sub := sub) (ab := ab) (col := col) (dd := dd) (k0 := k0) (k1 := k1) (k2 := k2) (k3 := k3) (k5 := k5)
    FB (mN := mN) (T.hasType FB.hasBase) (I.ok.hd hc) (by rw [he]; show (false || (backTo cpos (starEach rest X.env)).any (·.1)) = false; rw [hplain]; rfl) hni (ld_glob I hg hm ⟨rfl, ?_⟩ hd)
  have hA := ha cpos pins s σ H _ I h
  rw [he] at hA ⊢
  refine Calls.evalArgs_plain (thn hA fun us s2 ⟨vs, H2, I2, r2, hl, hE⟩ => ⟨rfl, by rw [← r2.length]; exact hl, I2.bk _ _ hC, hN.keeps I2.bk, T.keeps I2.bk, fun h' e hx => ?_⟩)
  exact ho pins σ H2 s2 h' e C us I2 hx hE
end
/-- THE RULE for a def that raises -/
theorem Fun.okX {cl : Bool} {P : Program} {w : World} {K : PySem.W.Frag} {mg : Str → Option Value} {base : Heap} {x qual : Str} {st : Stmt} {f : Addr} {fd : FuncData} {N ps : List Str} {k : Nat} {sp : Sp} (F : Fun K x qual st f fd) (S : FnScope N ps (defScope st)) (len : ∀ vs H Q E, sp vs H Q E → vs.length = ps.length)
    (hbody : ∀ (cdv : Value) (A : Around) (outer : List Env) (s : Shared) (H : Hp) (vs : List V) (Q : VK) (E : XK), Room k (A.deeper (envOfC qual (defScope st) s.heap.objs.size f cdv)) → sp vs H Q E →
      ∃ t, PSs (cxB cl P w K mg base N qual (defScope st) f cdv A outer s H E) (defBody st) t ∧ t { nx := fun _ H' => Q .non H', rt := Q } (start N vs) H) : FnOk P w K mg base (CXB cl P w) (k + 1) f fd ps sp := by
  obtain ⟨oc, od, kV, doc, pm, an, cdv, ct, osl, rfl, lk, hcd⟩ := F.ex
  exact fn_of lk hcd S len fun A outer s H vs Q E hr hsp => hbody cdv A outer s H vs Q E hr hsp
end L2


set_option Elab.async false
set_option linter.all false
set_option maxRecDepth 100000
set_option maxHeartbeats 4000000
/-! MORE OF SEQUENCES: sorted, max, all, any, zip of two tuples, t + u -/
namespace PyProof.Rows
open PySem PySem.W
section
variable {prog : Program} {w : World} {A : Around} {E : Value → Shared → Prop} {s : Shared}
end
/-- a tree of questions, answered by c -/
def ansT {α : Type} (c : Nat → Nat → Bool) : KasT α → α
  | .ret a => a
  | .ask i j k => ansT c (k (c i j))
/-- all questions asked are of places below n -/
def ordOf (c : Nat → Nat → Bool) (n : Nat) : List Nat := if n < 2 then List.range n else (ansT c (kas_sort n)).toList
end PyProof.Rows

namespace PyProof.Rows
open PySem PySem.W
/-! ### the tree of questions: only places below n are asked, what comes is a permutation -/
def FineT {α : Type} (n : Nat) (P : α → Prop) : KasT α → Prop
  | .ret a => P a
  | .ask i j k => i < n ∧ j < n ∧ ∀ b, FineT n P (k b)
theorem FineT.bind {α β : Type} {n : Nat} {P : α → Prop} {P' : β → Prop} {f : α → KasT β} (hf : ∀ a, P a → FineT n P' (f a)) : ∀ {t : KasT α}, FineT n P t → FineT n P' (t.bind f)
  | .ret _, h => hf _ h
  | .ask _ _ _, h => ⟨h.1, h.2.1, fun b => FineT.bind hf (h.2.2 b)⟩
theorem FineT.wp {α : Type} {n : Nat} {P : α → Prop} {cmp : Nat → Nat → (Bool → Shared → Prop) → Shared → Prop} {c : Nat → Nat → Bool} {s : Shared} (hc : ∀ i j (C : Bool → Shared → Prop), i < n → j < n → C (c i j) s → cmp i j C s) {Q : α → Shared → Prop} :
    ∀ {t : KasT α}, FineT n P t → Q (ansT c t) s → t.kasWp cmp Q s
  | .ret _, _, h => h
  | .ask i j k, f, h => hc i j _ f.1 f.2.1 (FineT.wp hc (t := k (c i j)) (f.2.2 (c i j)) h)
abbrev Pm (n : Nat) (p : Array Nat) : Prop := p.Perm (List.range n).toArray
theorem Pm.get {n : Nat} {p : Array Nat} (h : Pm n p) (hn : 0 < n) (k : Nat) : p.getD k 0 < n := by
  by_cases hk : k < p.size
  · have e : p.getD k 0 = p[k] := by simp [Array.getD, hk]
    rw [e]
    have m : p[k] ∈ (List.range n).toArray := h.mem_iff.mp (Array.getElem_mem hk)
    simpa using m
  · have e : p.getD k 0 = 0 := by simp [Array.getD, hk]
    rw [e]; exact hn
section
variable {n : Nat} (hn : 0 < n)
include hn
end
/-- l in the order that c finds -/
def sortBy {α : Type} (c : α → α → Bool) (d : α) (l : List α) : List α := (ordOf (fun i j => c (l.getD i d) (l.getD j d)) l.length).map fun i => l.getD i d
theorem getD_range {α : Type} (d : α) (l : List α) : (List.range l.length).map (fun i => l.getD i d) = l := by
  apply List.ext_getElem?
  intro i
  rw [List.getElem?_map]
  by_cases h : i < l.length
  · rw [List.getElem?_range h, List.getElem?_eq_getElem h]
    simp [h]
  · rw [List.getElem?_eq_none (by simpa using h), List.getElem?_eq_none (by simpa using h)]
    rfl
section
variable {prog : Program} {w : World} {A : Around} {E : Value → Shared → Prop} {s : Shared}
end
end PyProof.Rows

namespace L2
open PySem PySem.Spec PyProof.Rows
/-! ### sorted -/
section
variable {prog : Program} {w : World} {A : Around} {E : Value → Shared → Prop} {s : Shared}
end
section
variable {X : Cx}
/-- sorted(list of groups) -/
def srtT (gs : List (List Int)) : List (List Int) := sortBy HT.lexLt [] gs
end
end L2

namespace L2
open PySem PySem.Spec PyProof.Rows
section
variable {X : Cx}
/-! ### all, any of a list of bools; max of a list of ints -/
theorem bl_at {bs : List Bool} {its : List Value} (rv : Vals (bs.map V.bl) its) {i : Nat} {v : Value} (h : its.toArray[i]? = some v) : v = .bool (bs.getD i false) := by
  have hi : i < its.length := by
    have := (Array.getElem?_eq_some_iff.mp h).1
    simpa using this
  have ln : its.length = bs.length := by rw [← rv.length, List.length_map]
  have hb : bs[i]? = some (bs.getD i false) := by simp [show i < bs.length by omega]
  obtain ⟨u, hu, ru⟩ := rv.get (i := i) (x := .bl (bs.getD i false)) (by rw [List.getElem?_map, hb]; rfl)
  have e : its[i]? = some v := by simpa using h
  rw [e] at hu; cases hu
  exact ru
theorem range_all (bs : List Bool) : (List.range bs.length).all (fun i => bs.getD i false) = bs.all id := by
  have q := List.all_map (f := fun i => bs.getD i false) (p := id) (l := List.range bs.length)
  rw [getD_range] at q
  exact q.symm
theorem truth_bl {prog : Program} {w : World} {A : Around} {bs : List Bool} {its : List Value} (rv : Vals (bs.map V.bl) its) : TruthOf prog w A (fun i v => its.toArray[i]? = some v) (fun i => bs.getD i false) := fun i v s Q E hv q => by
  rw [bl_at rv hv]
  exact wpAny_truthy_bool q
theorem walk_list {prog : Program} {w : World} {A : Around} {E : Value → Shared → Prop} {s : Shared} {l : Addr} {its : Array Value} {Q : Value → Shared → Prop} (hl : s.heap.IsList l its)
    (h : ∀ s₂ : Shared, s₂ = { s with heap := s.heap.push { cls := .type "list_iterator", data := .fields #[.ref l, .int 0 0] } } → (s₂.heap.IsListIter s.heap.objs.size l 0 ∧ s₂.heap.IsList l its) → l ≠ s.heap.objs.size →
      (∀ h' : Heap, (∀ b o, b ∉ [s.heap.objs.size] → s₂.heap.get? b = some o → h'.get? b = some o) → ∀ b o, s.heap.get? b = some o → h'.get? b = some o) → Q (.ref s.heap.objs.size) s₂) : wpAny (model prog w) A (pyIter (.ref l)) Q E s := by
  have lt : l < s.heap.objs.size := by obtain ⟨_, e, _⟩ := hl; exact Heap.lt_size e
  refine wpAny_pyIter_list hl (h _ rfl ⟨⟨_, Heap.get?_push_size _ rfl, rfl, rfl⟩, hl.push _⟩ (Nat.ne_of_lt lt) fun h' hk b o e => hk b o (fun hm => ?_) (Heap.get?_push_of_some _ e))
  exact absurd (Heap.lt_size e) (by rw [List.mem_singleton.mp hm]; exact Nat.lt_irrefl _)
theorem call_all (hc : X.calm = true) : CallR X (.builtin "all") (fun xs H Q => ∃ (p : Addr) (bs : List Bool), xs = [.ref p] ∧ SqL X.K H p (bs.map V.bl) ∧ Q (.bl (bs.all id)) H) := by
  intro pins s σ H xs us Q I r h
  obtain ⟨p, bs, rfl, hp, q⟩ := h
  obtain ⟨u, rfl, ru⟩ := vals1 r
  cases ru
  obtain ⟨its, rv, pl, _⟩ := I.list hp
  have ln : its.toArray.size = bs.length := by rw [List.size_toArray, ← rv.length, List.length_map]
  refine call_all_walk (walk_list pl.isList fun s₂ e st hne old => ?_)
  subst e
  refine ⟨_, _, _, _, _, _, _, rfl, Walks.list (A := X.A.in1) (I.ok.hd hc) _ p hne its.toArray, st, truth_bl rv, fun h' tk hk => ?_⟩
  rw [ln, range_all]
  exact ⟨.bl _, H, I.kept (t' := tk) (old h' hk), rfl, q⟩
/-- the first of the greatest -/
def maxL (ns : List Int) : Int := ns.getD (argBest (fun i j => decide (ns.getD i 0 > ns.getD j 0)) (ns.length - 1)) 0
theorem int_toks : ∀ {ns : List Int} {its : List Value}, Vals (ns.map V.int) its → ∃ ps : List (Int × Tok), its = ps.map (fun p => Value.int p.1 p.2) ∧ ps.map (·.1) = ns
  | [], _, .nil => ⟨[], rfl, rfl⟩
  | n :: ns, _, .cons r rr => by
    obtain ⟨t, rfl⟩ := r
    obtain ⟨ps, e1, e2⟩ := int_toks rr
    exact ⟨(n, t) :: ps, by rw [e1]; rfl, by rw [← e2]; rfl⟩
/-! ### t + u, whatever is empty -/
def rCat0 (K : PySem.W.Frag) : R2 := fun x y H Q => ∃ a b xs ys, x = .ref a ∧ y = .ref b ∧ SqT K H a xs ∧ SqT K H b ys ∧ xs.length + ys.length ≤ sizeLine ∧
  (xs = [] → Q (.ref b) H) ∧ (xs ≠ [] → ys = [] → Q (.ref a) H) ∧ (xs ≠ [] → ys ≠ [] → ∀ p, H p = none → Q (.ref p) (upd H p (.tup (xs ++ ys))))
end
end L2

/-! ### zip of two tuples -/
namespace PySem
open Sem (wp)
open PyProof.Rows
section
variable {prog : Program} {w : World} {A : Around} {E : Value → Shared → Prop} {s : Shared}
/-- a zip over two tuples as it stands at turn k -/
structure ZipT (h : Heap) (z TI TO i1 i2 l1 l2 : Addr) (f0 : Value) (k : Nat) (xs ys : Array Value) : Prop where
  z : IsZip h z TI TO f0
  i : IsPair h TI (.ref i1) (.ref i2)
  o : ∃ a b, IsPair h TO a b
  a : h.IsTupleIter i1 l1 k
  b : h.IsTupleIter i2 l2 k
  xs : h.IsTuple l1 xs
  ys : h.IsTuple l2 ys
end
abbrev zT1 (h : Heap) (l1 : Addr) : Heap := h.push { cls := .type "tuple_iterator", data := .fields #[.ref l1, .int 0 0] }
abbrev zT2 (h : Heap) (l1 l2 : Addr) : Heap := (zT1 h l1).push { cls := .type "tuple_iterator", data := .fields #[.ref l2, .int 0 0] }
abbrev zT3 (h : Heap) (l1 l2 : Addr) : Heap := (zT2 h l1 l2).push { cls := .type "tuple", data := .seq #[.ref h.objs.size, .ref (zT1 h l1).objs.size] }
abbrev zT4 (h : Heap) (l1 l2 : Addr) : Heap := (zT3 h l1 l2).push { cls := .type "tuple", data := .seq #[.none, .none] }
abbrev zT5 (h : Heap) (l1 l2 : Addr) : Heap := (zT4 h l1 l2).push { cls := .type "zip", data := .fields #[.none, .bool false, .bool false, .ref (zT2 h l1 l2).objs.size, .ref (zT3 h l1 l2).objs.size] }
section
variable {prog : Program} {w : World} {A : Around} {E : Value → Shared → Prop} {s : Shared}
end
end PySem

namespace L2
open PySem PySem.Spec PyProof.Rows
section
variable {X : Cx} {pins : List (Addr × Obj)} {σ : St} {H : Hp} {s : Shared}
/-- iterators have turned, a new object is tracked -/
theorem Inv.drawn {h' : Heap} {ch : List Addr} {p : Addr} {o : HO} {t' : Nat} (I : Inv X pins σ H s) (hch : ∀ b ∈ ch, FpOk X pins H b) (k : ∀ b u, b ∉ ch → s.heap.get? b = some u → h'.get? b = some u) (hp : s.heap.objs.size ≤ p)
    (new : ObjOk X.prog X.w (upd H p o) h' p o) : Inv X pins σ (upd H p o) { s with heap := h', toks := t' } := by
  have hn : H p = none := I.hok.fresh hp
  have nch : ∀ b u, H b = some u → b ∉ ch := fun b u e hb => by rw [(hch b hb).1] at e; cases e
  refine I.step (g' := s.gens) (d' := s.drawn) (ch := ch) (fun b hb => ⟨(hch b hb).2.2.2.1, (hch b hb).2.1, (hch b hb).2.2.2.2.1, (hch b hb).2.2.2.2.2⟩) (fun b u _ _ hc e _ => k b u hc e) (fun b u _ _ hc e _ => ⟨u.slots, k b u hc e⟩) (fun b u hc e n => ?_) (fun b u hc e => ⟨u, k b u hc e⟩)
    (fun b xs e => by rw [upd_ne (ne_of_none e hn)]; exact e) (fun b _ _ e => by rw [upd_ne (ne_of_none e hn)]; exact e) (fun b ps e => ⟨#[], by rw [upd_ne (ne_of_none e hn), e]; simp⟩) (fun m hm => ?_) (fun b u e => ?_) I.bare
  · rw [upd_ne (Nat.ne_of_lt (Nat.lt_of_lt_of_le (Heap.lt_size e) hp))]; exact n
  · obtain ⟨ob, es, ep, hob, r⟩ := hm
    exact ⟨ob, es, ep, k _ ob (fun z => (hch _ z).2.1 rfl) hob, r⟩
  · by_cases hb : b = p
    · subst hb; rw [upd_same] at e; cases e; exact new
    · rw [upd_ne hb] at e
      refine (I.hok b u e).stay (fun c v hc q => k c v ?_ q) (fun c q => by rw [upd_ne (ne_of_none q hn)]; exact q) fun c xs q => by rw [upd_ne (ne_of_none q hn)]; exact q
      rcases hc with z | z
      · rw [z]; exact nch b u e
      · exact nch c _ z
end
/-- zip(a, b) of two tuples: a new pair at each turn -/
def Itz (a b : Addr) : It :=
  ⟨fun i H => ∃ xs ys x y, H a = some (.tup xs) ∧ H b = some (.tup ys) ∧ xs[i]? = some x ∧ ys[i]? = some y,
   fun i H v H' => ∃ p x y, v = .ref p ∧ H p = none ∧ H' = upd H p (.tup [x, y]) ∧ ∀ xs ys, H a = some (.tup xs) → H b = some (.tup ys) → xs[i]? = some x ∧ ys[i]? = some y,
   fun i H => ∃ xs ys, H a = some (.tup xs) ∧ H b = some (.tup ys) ∧ (xs.length ≤ i ∨ ys.length ≤ i)⟩
structure Five (z TI TO i1 i2 : Addr) : Prop where
  a1 : TI ≠ z
  a2 : TO ≠ z
  a3 : i1 ≠ z
  a4 : i2 ≠ z
  b2 : TI ≠ TO
  b3 : TI ≠ i1
  b4 : TI ≠ i2
  c3 : TO ≠ i1
  c4 : TO ≠ i2
  d4 : i1 ≠ i2
def tnZ (z TI TO i1 i2 a b : Addr) (f0 : Value) (i : Nat) (h : Heap) : Prop := IsZip h z TI TO f0 ∧ IsPair h TI (.ref i1) (.ref i2) ∧ (∃ x y, IsPair h TO x y) ∧ h.IsTupleIter i1 a i ∧ h.IsTupleIter i2 b i
section
variable {X : Cx}
def iZip (ta : TA) : TI := fun σ H R => ta σ H fun vs H1 => ∃ a b xs ys, vs = [.ref a, .ref b] ∧ H1 a = some (.tup xs) ∧ H1 b = some (.tup ys) ∧ R (Itz a b) H1
end
end L2

/-! ### t[lo:hi], the whole of it: t itself -/
namespace HT
open PySem PySem.Spec PyProof.Rows
section
variable {prog : Program} {w : World} {A : Around} {E : Value → Shared → Prop} {s : Shared}
end
end HT
namespace L2
open PySem PySem.Spec PyProof.Rows
section
variable {X : Cx}
def rSlA (K : PySem.W.Frag) : V → Option Int → Option Int → Hp → VK → Prop := fun x lo hi H Q => ∃ a xs, x = .ref a ∧ SqT K H a xs ∧ (HT.sIx xs.length 0 lo = 0 ∧ HT.sIx xs.length xs.length hi = xs.length) ∧ Q (.ref a) H
end
end L2


set_option Elab.async false
set_option linter.all false
set_option maxRecDepth 100000
set_option maxHeartbeats 4000000
/-! EXCEPTIONS over the layer, part 2: try, except C as e, isinstance of what was caught -/
namespace PySem.W
open PySem PySem.Spec PySem.Calls PyProof.Rows
open Builtin Builtin.ObjectAttr Builtin.Getset_descriptor
/-- what is to be looked up of an own exception class -/
structure ExcK (K : Frag) (D : Addr) : Prop where
  ga : findIn K (.ref D) "__getattribute__" = some (some (.builtin "BaseException.__getattribute__"))
  hk : findIn K (.ref D) "__getattr__" = some none
  ca : findIn K (.ref D) "__class__" = some (some (.builtin "object.__class__"))
  gt : specialIn K (.builtin "object.__class__") "__get__" = some (some (.builtin "getset_descriptor.__get__"))
  tk : takesIn K (.builtin "object.__class__") = some true
  mo : mroIn K D (.type "object") = some true
  mb : mroIn K D (.type "BaseException") = some true
  cl : (clsIn K D).isSome = true
theorem ExcK.cls {K : Frag} {D : Addr} (c : ExcK K D) : ∃ c' d' cd sl', K.lookup D = some ⟨c', d', .cls cd, sl'⟩ := by
  have z := c.cl
  unfold clsIn at z
  split at z
  · rename_i ho; exact ⟨_, _, _, _, ho⟩
  · cases z
theorem bga_kind : builtinKind "BaseException.__getattribute__" = some .slot := by decide +kernel
theorem bga_split : splitId "BaseException.__getattribute__" = some ("BaseException", "__getattribute__") := by decide +kernel
section
variable {prog : Program} {w : World} {A : Around} {E : Value → Shared → Prop} {h : Heap} {g : Array GenState} {d : Drawn} {t : Nat} {os : OsState} {K : Frag} {x D : Addr} {ox : Obj}
theorem exc_find {M : Model} (X : K.In h) (c : ExcK K D) : Looks M h (find (.ref x) (.ref D) "__class__") (.bind (.builtin "getset_descriptor.__get__") (.builtin "object.__class__")) :=
  (looks_findIn X c.ca).andThen ((looks_specialIn X c.gt).andThen ((show Looks M h (dataDescriptor? (some (.builtin "object.__class__")) (some (.builtin "getset_descriptor.__get__"))) (some (.builtin "getset_descriptor.__get__", .builtin "object.__class__")) from (looks_takesIn X c.tk).andThen .now).andThen (Looks.tag .now)))
theorem exc_cget {R : Result → Shared → Prop} {tp : Value} (X : K.In h) (hx : h.get? x = some ox) (hc : ox.cls = .ref D) (c : ExcK K D) (hR : R (.ok (.ret (.ref D))) ⟨h, g, d, t, os⟩) :
    codeAny (model prog w) A (.call (.builtin "getset_descriptor.__get__") ⟨[.builtin "object.__class__", .ref x, tp], []⟩) R ⟨h, g, d, t, os⟩ := by
  have TY : Looks (model prog w) h (typeOf (.ref x)) (.ref D) := hc ▸ (Looks.ld hx).andThen .now
  have SB := looks_mroIn (M := model prog w) X c.mo
  refine codeAny_call_builtin KF.slot_gs.plain KF.entry_gs (KF.slot_gs.check _ _ _ _ _ _ _ _ KF.type_class (KF.args_gs _ _ _) ?body)
  case body =>
    unfold Builtin.«getset_descriptor.__get__» descrGet
    rw [dga_obj]
    refine wpAny_bind (wpAny_pure ?_)
    unfold descrGetter descrCheckInstance descrNameAndClass isInstance; simp only [KF.owner_class]
    repeat lk
    refine ⟨Code.quiet_builtin _ (by decide +kernel), codeAny_builtin KF.entry_class ?own⟩
    case own =>
      unfold Builtin.«object.__class__» shownTypeOf; repeat lk
      exact hR
theorem exc_class {Q : Option Value → Shared → Prop} (X : K.In h) (hx : h.get? x = some ox) (hc : ox.cls = .ref D) (c : ExcK K D) (hQ : Q (some (.ref D)) ⟨h, g, d, t + 1, os⟩) :
    wpAny (model prog w) A (getAttr? (.ref x) "__class__") Q E ⟨h, g, d, t, os⟩ := by
  have TY : Looks (model prog w) h (typeOf (.ref x)) (.ref D) := hc ▸ (Looks.ld hx).andThen .now
  have GA := looks_findIn (M := model prog w) X c.ga
  have HK := looks_findIn (M := model prog w) X c.hk
  have SB := looks_mroIn (M := model prog w) X c.mb
  have IN : Looks (model prog w) h (isInstance (.ref x) (.type "BaseException")) true := TY.andThen SB
  have FD := exc_find (M := model prog w) (x := x) X c
  unfold getAttr? getAttrBy? getAttrBy
  refine wpAny_bind (wpAny_mkText (wpAny_bind (wpAny_attempt (wpAny_holding (wpAny_bind (TY.at (wpAny_bind (GA.at ?_))))))))
  show wpAny _ _ (getAttrByItsOwn _ _ _ _ _ _) _ _ _
  unfold getAttrByItsOwn
  refine wpAny_bind ?_
  show wpAny _ _ (typeLookup (.ref D) "__getattr__") _ _ _
  refine HK.at ?_
  refine wpAny_bind (wpAny_attempt (wpAny_holding ?_))
  show wpAny _ _ (boundAndCalled _ _ _) _ _ _
  unfold boundAndCalled
  rw [F.excAttr_ValueError.ga.bind]
  refine wpAny_bind (wpAny_pure ?_)
  refine wpAny_call (codeAny_call_builtin F.excAttr_ValueError.ga.plain F.entry_bexc_ga ?_)
  have ck : ∀ {Q' : Unit → Shared → Prop} {A' : Around} {E' : Value → Shared → Prop} {t' : Nat} {tk : Tok}, Q' () ⟨h, g, d, t', os⟩ → wpAny (model prog w) A' (checkBuiltinCall "BaseException.__getattribute__" ⟨[.ref x, .str "__class__" tk], []⟩) Q' E' ⟨h, g, d, t', os⟩ := by
    intro Q' A' E' t' tk q
    have ha := F.args_bexc_ga (.ref x) (.str "__class__" tk)
    simp only [checkBuiltinCall, bga_kind, bga_split]
    refine wpAny_bind (IN.at ?_)
    simp only [Bool.not_true, Bool.false_eq_true, if_false]
    unfold argsOk at ha
    generalize hs : Manifest.signature? "BaseException.__getattribute__" = sg at ha ⊢
    cases sg with
    | none => exact wpAny_pure q
    | some sig =>
      have h2 : Bind.checkArgs "BaseException.__getattribute__" sig ⟨[.ref x, .str "__class__" tk], []⟩ = pure () := ha
      show wpAny (model prog w) A' (Bind.checkArgs "BaseException.__getattribute__" sig ⟨[.ref x, .str "__class__" tk], []⟩) Q' E' _
      rw [h2]; exact wpAny_pure q
  refine ck ?_
  refine wpAny_bind (m := slotArgs _ _ _) (wpAny_pure (wpAny_bind (m := attrName _) (wpAny_pure (wpAny_bind (TY.at (wpAny_bind (FD.at ?_)))))))
  show wpAny _ _ (holding [.builtin "object.__class__"] (call (.builtin "getset_descriptor.__get__") [.builtin "object.__class__", .ref x, .ref D]) >>= ret) _ _ _
  refine wpAny_bind (wpAny_holding (wpAny_call (exc_cget X hx hc c (wpAny_pure ?_))))
  exact handed_on rfl (wpAny_pure hQ)
/-- isinstance of an exception of an own class -/
theorem kitx_exc {x D : Addr} {ox : Obj} (c : ExcK K D) (hc : ox.cls = .ref D) : KitX K (.ref x) (.ref D) (fun h => h.get? x = some ox) where
  ty := fun M h _ p => hc ▸ (Looks.ld p).andThen .now
  it := fun _ _ X _ => by
    obtain ⟨c', d', cd, sl', ho⟩ := c.cls
    intro A' Q' E' s' k q
    unfold isType loadHead
    exact wpAny_bind (wpAny_loadPart (k _ _ (X _ _ ho)) (wpAny_pure q))
  ne := fun h tp dd its n sl X htp => by
    obtain ⟨c', d', cd, sl', ho⟩ := c.cls
    refine Bool.eq_false_iff.mpr fun q => ?_
    have e : D = tp := Value.ref.inj (beq_iff_eq.mp q)
    subst e
    have z := (X _ _ ho).symm.trans htp
    cases z
  ca := fun {_ _ _ _ _ s} X p k => by
    obtain ⟨h, g, d, t, os⟩ := s
    exact exc_class X p hc c k
end
end PySem.W

namespace L2
open PySem PySem.Spec PyProof.Rows
theorem boot_ValueError : bootBuiltins "ValueError" = some (.type "ValueError") := by decide +kernel
/-! ### what may raise, and where it is caught -/
abbrev TX := St → Hp → VK → XK → Prop
/-- an exception came out of a call that was made here, the names as they were -/
def XP (cl : Bool) (X : Cx) (pins : List (Addr × Obj)) (σ : St) (E : XK) (e : Value) (s' : Shared) : Prop := ∃ H1 s1, Inv X pins σ H1 s1 ∧ CXB cl X.prog X.w X.stack H1 s1 E e s'
def PX (cl : Bool) (X : Cx) (e : Expr) (t : TX) : Prop :=
  ∀ (pins : List (Addr × Obj)) (s : Shared) (σ : St) (H : Hp) (Q : VK) (E : XK), Inv X pins σ H s → t σ H Q E → wpAny (model X.prog X.w) X.A (eval e X.env) (EP X pins σ Q) (XP cl X pins σ E) s
section
variable {cl : Bool} {X : Cx} {k : Nat} {f C : Addr} {fd : FuncData} {ps : List Str} {sp : Sp} {dvs : List V} {ds : List Value} {x y : Str} {p pos : Pos} {e : Expr} {es : List Expr} {t : TA}
def xCall (sp : Sp) (dvs : List V) (t : TA) : TX := fun σ H Q E => t σ H fun vs H1 => sp (vs ++ dvs) H1 Q E
def xMake (C : Addr) (sp : Sp) (dvs : List V) (t : TA) : TX := fun σ H Q E => t σ H fun vs H1 => ∀ x dx, H1 x = none → H1 dx = none → dx ≠ x →
  sp (.ref x :: (vs ++ dvs)) (upd (upd H1 dx (.own x)) x (.ins C dx [])) (fun v H2 => v = .non ∧ Q (.ref x) H2) E
theorem px_call (F : FnOk X.prog X.w X.K X.mg X.base (CXB cl X.prog X.w) k f fd ps sp) (hr : Room k X.A) (hg : Gl X x) (hm : X.mg x = some (.ref f)) (hk : PySem.W.keepIn X.K (.ref f) = true) (hb : Binds X.K fd ps ds) (hd : Vals dvs ds)
    (ha : PA X.nox (e :: es) t) (hdb : (x == ("__debug__" : Str)) = false := by decide) (he : starEach (e :: es) X.env = (false, eval e X.env) :: starEach es X.env := by rfl) (hpl : (backTo pos (starEach es X.env)).any (·.1) = false := by rfl) :
    PX cl X (.Call (.Name x p) (e :: es) [] pos) (xCall sp dvs t) := by
  intro pins s σ H Q E I h
  refine wpAny_Call_Name_kw (ld_glob I hg hm ?_ hdb)
  refine PySem.W.callWith_K (h₀ := X.base) I.ok.mod.kin hk (wpAny_mono (ha pos pins s σ H _ (I.wish _) h) (fun us s1 z => ?_) fun _ _ z => z.elim) he hpl
  obtain ⟨vs, H1, I1', r, q⟩ := z
  have I1 : Inv X pins σ H1 s1 := I1'.unwish
  have r2 : Vals (vs ++ dvs) (us ++ ds) := r.append hd
  have hl : (us ++ ds).length = ps.length := by rw [← r2.length]; exact F.len _ _ _ _ q
  refine ⟨I1.kIn, wpAny_call (codeAny_mono (F.run X.A X.stack s1 H1 ⟨us, []⟩ (us ++ ds) (vs ++ dvs) Q E hr I1.env0 (hb s1 us I1.kIn hl) r2 q) fun r s' hq => ?_)⟩
  cases r with
  | error e => exact ⟨H1, s1, I1, hq⟩
  | ok fl =>
    cases fl with
    | ret u => exact I1.after hq
    | next => exact False.elim hq
    | brk => exact False.elim hq
    | cont => exact False.elim hq
theorem px_make (M : Mk X.K C f) (F : FnOk X.prog X.w X.K X.mg X.base (CXB cl X.prog X.w) k f fd ps sp) (hr : Room (k + 1) X.A) (hg : Gl X x) (hm : X.mg x = some (.ref C)) (hb : Binds X.K fd ps ds) (hd : Vals dvs ds)
    (ha : PA X.nox (e :: es) t) (hdb : (x == ("__debug__" : Str)) = false := by decide) (he : starEach (e :: es) X.env = (false, eval e X.env) :: starEach es X.env := by rfl) (hpl : (backTo pos (starEach es X.env)).any (·.1) = false := by rfl) :
    PX cl X (.Call (.Name x p) (e :: es) [] pos) (xMake C sp dvs t) := by
  intro pins s σ H Q E I h
  refine wpAny_Call_Name_kw (ld_glob I hg hm ?_ hdb)
  refine PySem.W.callWith_K (h₀ := X.base) I.ok.mod.kin M.kp (wpAny_mono (ha pos pins s σ H _ (I.wish _) h) (fun us s1 z => ?_) fun _ _ z => z.elim) he hpl
  obtain ⟨vs, H1, I1', r, q⟩ := z
  have I1 : Inv X pins σ H1 s1 := I1'.unwish
  have hq := q (s1.heap.objs.size + 1) s1.heap.objs.size (I1.hok.fresh (Nat.le_succ _)) (I1.hok.fresh (Nat.le_refl _)) (Nat.ne_of_lt (Nat.lt_succ_self _))
  have I2 := Inv.made (C := C) I1
  have r2 : Vals (V.ref (s1.heap.objs.size + 1) :: (vs ++ dvs)) (Value.ref (s1.heap.objs.size + 1) :: (us ++ ds)) := .cons rfl (r.append hd)
  have hl : (Value.ref (s1.heap.objs.size + 1) :: us ++ ds).length = ps.length := by
    have e := r2.length; rw [F.len _ _ _ _ hq] at e; exact e.symm
  refine ⟨I1.kIn, wpAny_call (make_map (f := f) I1.kIn M.makes M.init (beq_iff_eq.mp M.fn) (codeAny_mono (F.run _ X.stack _ _ ⟨Value.ref (s1.heap.objs.size + 1) :: us, []⟩ (Value.ref (s1.heap.objs.size + 1) :: (us ++ ds)) _ _ E (hr.make C us [])
    (I2.env0.make C us []) (hb _ (Value.ref (s1.heap.objs.size + 1) :: us) I2.kIn hl) r2 hq) fun r s' hq' => ?_))⟩
  cases r with
  | error e => exact ⟨_, _, I2, hq'⟩
  | ok fl =>
    cases fl with
    | ret u =>
      obtain ⟨v, H', I3, rv, ev, q3⟩ := I2.after hq'
      subst ev
      exact ⟨rv, ⟨V.ref (s1.heap.objs.size + 1), H', I3, rfl, q3⟩⟩
    | next => exact False.elim hq'
    | brk => exact False.elim hq'
    | cont => exact False.elim hq'
/-! the body of a try -/
abbrev TXS := Ends → XK → St → Hp → Prop
def PXs (cl : Bool) (X : Cx) (body : List Stmt) (t : TXS) : Prop :=
  ∀ (pins : List (Addr × Obj)) (s : Shared) (σ : St) (H : Hp) (D : Ends) (E : XK), Inv X pins σ H s → t D E σ H → wpAny (model X.prog X.w) X.A (execs body X.env) (SP X pins D) (XP cl X pins σ E) s
variable {tx : TX} {i : Nat} {rest : List Stmt} {u : TS} {spos pos' : Pos}
def xSet (tx : TX) (i : Nat) (u : TS) : TXS := fun D E σ H => tx σ H (fun v H1 => u D (σ.set i (some v)) H1) E
theorem pxs_set (hN : X.N.Nodup) (hi : X.N[i]? = some y) (hy : Loc X.env.scope y) (he : PX cl X e tx) (hrest : PSs X.nox rest u) (hs : swapsWith e (some (.Name y pos')) spos.line X.env = pure false := by rfl)
    (hf : X.fn y = true ∨ X.env.scope.names.lookup y = some .local := by first | exact .inl rfl | exact .inr rfl | assumption) : PXs cl X (.Assign [.Name y pos'] e spos :: rest) (xSet tx i u) := by
  intro pins s σ H D E I h
  refine wpAny_execs_cons (wpAny_Assign_Name (thn (he pins s σ H _ E I h) fun v s1 ⟨z, H1, I1, r1, q1⟩ => ?_) hs)
  refine store_ok I1 hN hi hy r1 (fun s2 I2 => ?_) hf
  exact wpAny_mono (hrest pins s2 _ H1 D (I2.wish _) q1) (fun _ _ q => q.unwish) fun _ _ z => z.elim
def xExpr (tx : TX) (u : TS) : TXS := fun D E σ H => tx σ H (fun _ H1 => u D σ H1) E
end

/-! ### the suite of an except clause -/
/-- within the suite, the caught exception at a with the object oe -/
abbrev Cx.caught (X : Cx) (a : Addr) (oe : Obj) : Cx := { X with A := X.A.mark (some (.ref a)), calm := false, pn := (a, oe) :: X.pn, xe := fun _ _ => False }
abbrev Cx.marked (X : Cx) (a : Addr) : Cx := { X with A := X.A.mark (some (.ref a)), calm := false, xe := fun _ _ => False }
section
variable {X : Cx} {pins : List (Addr × Obj)} {σ : St} {H H' : Hp} {s s' : Shared} {a C : Addr} {oe : Obj}
theorem Cx.Ok.marked (ok : X.Ok) : (X.marked a).Ok :=
  ⟨ok.mod, ok.kind, ok.glob, ok.blt, ok.above, ok.inj, ok.has, ok.cab, (fun z => by cases z), ok.frames, ok.stk, ok.exf, ok.bs, ok.bsz, ok.noex, ok.exfs, ok.funs, ok.frf⟩
theorem Inv.marked (I : Inv X pins σ H s) : Inv (X.marked a) pins σ H s := ⟨I.ok.marked, I.os, I.bare, I.base, I.loc, I.cell, I.free, I.freeC, I.pin, I.hok, I.len⟩
theorem Cx.Ok.caught (ok : X.Ok) : (X.caught a oe).Ok :=
  ⟨ok.mod, ok.kind, ok.glob, ok.blt, ok.above, ok.inj, ok.has, ok.cab, (fun z => by cases z), ok.frames, ok.stk, ok.exf, ok.bs, ok.bsz, ok.noex, ok.exfs, ok.funs, ok.frf⟩
theorem Inv.caught (I : Inv X pins σ H s) (h1 : s.heap.get? a = some oe) (h2 : H a = none) (h3 : a ≠ X.env.locals) (h4 : a ∉ X.fs) (h5 : ∀ v, oe.data ≠ .cell v) : Inv (X.caught a oe) pins σ H s :=
  ⟨I.ok.caught, I.os, I.bare, I.base, I.loc, I.cell, I.free, I.freeC, fun p hp => by
    rcases List.mem_cons.mp (show p ∈ (a, oe) :: (X.pn ++ pins) from hp) with rfl | z
    · exact ⟨h1, h2, h3, h4, h5⟩
    · exact I.pin p z, I.hok, I.len⟩
/-- what a state of the suite is outside -/
theorem Inv.uncaught (ok : X.Ok) (I : Inv (X.caught a oe) pins σ H s) : Inv X pins σ H s := ⟨ok, I.os, I.bare, I.base, I.loc, I.cell, I.free, I.freeC, fun p hp => I.pin p (List.mem_cons_of_mem _ hp), I.hok, I.len⟩
/-- behind an exception that came out of a call: the frame again -/
theorem inv_back {h' : Heap} {a0 : Value} {B : Heap} (I : Inv X pins σ H s) (hos : s'.os = s.os) (bare : AllBare s'.gens) (un : Un (frs X.stack) [] H H' s.heap s'.heap) (hok : HOk X.prog X.w H' s'.heap)
    (fl : Heap.FlyingW B X.stack a (.ref C) a0 h') (up : s'.heap.UpToSlots h') (inB : ∀ b o, s.heap.get? b = some o → H b = none → b ∉ frs X.stack → B.get? b = some o) (thB : ∀ b o, s.heap.get? b = some o → b ∉ frs X.stack → ∃ o', B.get? b = some o')
    (tr : ∀ b u, H' b = some u → ∃ ob, s'.heap.get? b = some ob ∧ B.get? b = some ob) : Inv X pins σ H' { s' with heap := h' } := by
  have ne : ∀ b : Addr, b ∉ ([] : List Addr) := fun b hb => by cases hb
  have gF : ∀ b o, s.heap.get? b = some o → b ∈ frs X.stack → ∃ sl, h'.get? b = some { o with slots := sl } := fun b o e hb => by
    obtain ⟨_, o', e', hd⟩ := I.stack.mem hb
    rw [e] at e'; cases e'
    obtain ⟨sl, q⟩ := un.slot b o e (I.stkFree b hb) hb (ne b)
    obtain ⟨sl', q'⟩ := up b _ q hd
    exact ⟨sl', q'⟩
  have un2 : Un (frs X.stack) [] H H' s.heap h' := by
    refine ⟨fun b o e n hb _ => fl.1 b o (inB b o e n hb), fun b o e _ hb _ => gF b o e hb, un.free, fun b o e _ => ?_, un.tups, un.frzs, un.tbls⟩
    by_cases hb : b ∈ frs X.stack
    · obtain ⟨sl, q⟩ := gF b o e hb
      exact ⟨_, q⟩
    · obtain ⟨o', q⟩ := thB b o e hb
      exact ⟨o', fl.1 b o' q⟩
  refine I.call' (s' := { s' with heap := h' }) (ch := []) hos un2 (fun b u e => ?_) bare fun b hb => by cases hb
  refine (hok b u e).stay (fun c v hc q => ?_) (fun _ q => q) fun _ _ q => q
  have hH : ∃ u', H' c = some u' := by
    rcases hc with z | z
    · exact ⟨u, by rw [z]; exact e⟩
    · exact ⟨_, z⟩
  obtain ⟨u', hu'⟩ := hH
  obtain ⟨ob, q1, q2⟩ := tr c u' hu'
  rw [q] at q1; cases q1
  exact fl.1 c v q2
end

/-- try: body / except CC as n: suite -/
def tTry (K : PySem.W.Frag) (CC : Addr) (j : Nat) (tb : TXS) (ts : Addr → Addr → TS) : TS := fun D σ H =>
  tb D (fun Cv _ H1 => ∃ C, Cv = .ref C ∧ PySem.W.exmOne K (.ref C) (.ref CC) = some true ∧ ∀ a, H1 a = none →
    ts a C { nx := fun σ' H' => D.nx (σ'.set j none) H', bk := fun σ' H' => D.bk (σ'.set j none) H', ct := fun σ' H' => D.ct (σ'.set j none) H', rt := D.rt } (σ.set j (some (.ref a))) H1) σ H
section
variable {cl : Bool} {X : Cx} {CC : Addr} {j : Nat} {x n : Str} {tb : TXS} {ts : Addr → Addr → TS} {body suite : List Stmt} {b₀ : Stmt} {np hpos pos : Pos} {rest : List ExceptHandler}
/-- behind the suite: the name goes -/
theorem name_goes {pins : List (Addr × Obj)} {σ : St} {H : Hp} {s : Shared} {E : Value → Shared → Prop} {Q : Unit → Shared → Prop} (I : Inv X pins σ H s) (hN : X.N.Nodup) (hj : X.N[j]? = some n) (hn : X.env.scope.names.lookup n = some .local)
    (h : ∀ s', Inv X pins (σ.set j none) H s' → (∀ b, b ≠ X.env.locals → s'.heap.get? b = s.heap.get? b) → Q () s') : wpAny (model X.prog X.w) X.A (do bindName X.env n .none; unbindBehindTheSuite X.env n hpos) Q E s := by
  obtain ⟨m, hm, hl⟩ := I.loc
  have hk : X.env.kindOf n = some .local := hn
  refine wpAny_nameGoes_keeps hk hm (by rw [I.ok.kind]; rfl) fun h' v hns sb => h _ ?_ fun b hb => sb.2 b hb
  have hL : X.env.locals < s.heap.objs.size := I.lt
  have kp : ∀ b o, b ≠ X.env.locals → s.heap.get? b = some o → h'.get? b = some o := fun b o hb e => (sb.2 b hb).trans e
  have keepC : ∀ c v, s.heap.IsCell c v → c ≠ X.env.locals → h'.IsCell c v := fun c v ⟨o, ho, hd⟩ hc => ⟨o, kp c o hc ho, hd⟩
  have atL : ∃ o', h'.get? X.env.locals = some o' := by obtain ⟨o, _, _, e, _⟩ := hns; exact ⟨o, e⟩
  refine ⟨I.ok, I.os, I.bare, ?_, ⟨_, hns, fun i y v' h1 h2 h3 => ?_⟩, fun y c e => ?_, I.free, I.freeC, fun p hp => ?_, ?_, by rw [List.length_set]; exact I.len⟩
  · refine ⟨fun b o e n hb hx => ?_, fun b o e n hb hx => ?_, I.base.free, fun b o e hx => ?_, I.base.tups, I.base.frzs, I.base.tbls⟩
    · refine kp b o (fun z => ?_) (I.base.keep b o e n hb hx)
      exact absurd (Nat.lt_of_lt_of_le (Heap.lt_size e) I.ok.above) (by rw [z]; exact Nat.lt_irrefl _)
    · obtain ⟨sl, q⟩ := I.base.slot b o e n hb hx
      exact ⟨sl, kp b _ (fun z => absurd (Nat.lt_of_lt_of_le (Heap.lt_size e) I.ok.above) (by rw [z]; exact Nat.lt_irrefl _)) q⟩
    · obtain ⟨o', q⟩ := I.base.there b o e hx
      exact ⟨o', kp b _ (fun z => absurd (Nat.lt_of_lt_of_le (Heap.lt_size e) I.ok.above) (by rw [z]; exact Nat.lt_irrefl _)) q⟩
  · have hij : j ≠ i := fun z => by
      subst z
      have : j < σ.length := by rw [I.len]; exact (List.getElem?_eq_some_iff.mp hj).1
      rw [List.getElem?_set_self this] at h2; cases h2
    rw [List.getElem?_set_ne hij] at h2
    have hyn : y ≠ n := fun z => hij (nodup_ix hN hj (by rw [← z]; exact h1))
    obtain ⟨u, r, l⟩ := hl i y v' h1 h2 h3
    refine ⟨u, r, ?_⟩
    rcases l with ⟨k1, k2⟩ | ⟨k1, c, k2, k3⟩
    · exact .inl ⟨k1, by show (if y = n then v else m y) = some u; rw [if_neg hyn]; exact k2⟩
    · exact .inr ⟨k1, c, k2, keepC c _ k3 (I.cne y c k2)⟩
  · obtain ⟨v', q⟩ := I.cell y c e
    exact ⟨v', keepC c v' q (I.cne y c e)⟩
  · obtain ⟨q1, q2, q3, q4, q5⟩ := I.pin p hp
    exact ⟨kp _ _ q3 q1, q2, q3, q4, q5⟩
  · refine fun b u e => (I.hok b u e).stay (fun c v' hc q => kp c v' (fun z => ?_) q) (fun _ q => q) fun _ _ q => q
    have hH : ∃ u', H c = some u' := by
      rcases hc with z' | z'
      · exact ⟨u, by rw [z']; exact e⟩
      · exact ⟨_, z'⟩
    obtain ⟨u', hu'⟩ := hH
    rw [z, I.free] at hu'; cases hu'

theorem ps_try (hst : X.stack = X.env :: X.outer) (hfr : X.env.frame = some X.env.locals) (hN : X.N.Nodup) (hj : X.N[j]? = some n) (hn : X.env.scope.names.lookup n = some .local) (hg : Gl X x) (hm : X.mg x = some (.ref CC))
    (hb : PXs cl X body tb) (hs : ∀ a oe C, oe.cls = .ref C → PSs (X.caught a oe) (b₀ :: suite) (ts a C)) (hd : (x == ("__debug__" : Str)) = false := by decide) :
    PS X (.Try body (.ExceptHandler (some (.Name x np)) (some n) (b₀ :: suite) hpos :: rest) [] [] pos) (tTry X.K CC j tb ts) := by
  intro pins s σ H D I h
  refine wpAny_Try_except (wpAny_mono (hb pins s σ H D _ I h) (fun f s1 q => ?_) fun e s1 q => ?_)
  · cases f with
    | next => exact wpAny_execs_nil q
    | ret v => exact q
    | brk => exact q
    | cont => exact q
  · obtain ⟨H1, s0, I0, a, C, a0, B, H', rfl, os, bare, un, hok, fl, inB, thB, tr, ⟨C1, hC, hex, ht⟩, _⟩ := q
    have eC : C1 = C := (Value.ref.inj hC).symm
    subst eC
    have fr0 : X.A.frames = some (X.env :: X.outer) := by rw [← hst]; exact I.ok.frames
    rw [hst] at fl
    refine wpAny_looks_onW fr0 hfr fl fun h4 held up4 => ?_
    refine wpAny_landsW held fun h5 fl5 up5 => ?_
    have up45 := up4.trans up5
    have I5 : Inv X pins σ H' { s1 with heap := h5 } := inv_back (s' := s1) I0 os bare un hok (by rw [hst]; exact fl5) up45 inB thB tr
    obtain ⟨ob, hob, hobc⟩ := fl5.there
    refine wpAny_handleBy_cons (codeAny_handlers_test (ld_glob (X := X.marked a) I5.marked hg hm ?_ hd)) (by intro z; cases z)
    have LT : PySem.W.Looks (model X.prog X.w) h5 (typeOf (.ref a)) (.ref C1) := hobc ▸ (PySem.W.Looks.ld hob).andThen .now
    refine (PySem.W.exm_one (K := X.K) I5.kIn LT hex).here ?_
    refine codeAny_handlers_suite_as ?_
    refine lands_againW fl5 fun h6 fl6 up6 => ?_
    have I6 : Inv X pins σ H' { s1 with heap := h6 } := inv_back (s' := s1) I0 os bare un hok (by rw [hst]; exact fl6) (up45.trans up6) inB thB tr
    obtain ⟨oe, vs, he, hec, hed, _⟩ := fl6.first
    have hea : H' a = none := by
      cases hq : H' a with
      | none => rfl
      | some u =>
        obtain ⟨ob', _, q2⟩ := tr a u hq
        rw [fl6.2.1] at q2; cases q2
    have hec2 : ∀ v, oe.data ≠ .cell v := fun v z => by rw [hed] at z; cases z
    have nst : a ∉ frs X.stack := fun hm' => by
      rw [hst] at hm'
      obtain ⟨_, o', e', hnf⟩ := fl6.2.2.1.mem hm'
      rw [he] at e'; cases e'
      exact hnf vs hed
    have aL : a ≠ X.env.locals := fun z => nst (by rw [hst]; unfold frs; rw [List.filterMap_cons, hfr, z]; exact List.mem_cons_self)
    have aF : a ∉ X.fs := fun z => nst (by rw [hst]; unfold frs; rw [List.filterMap_cons, hfr]; exact List.mem_cons_of_mem _ z)
    have I7 : Inv (X.caught a oe) pins σ H' { s1 with heap := h6 } := I6.caught he hea aL aF hec2
    refine store_ok (X := X.caught a oe) (v := .ref a) I7 hN hj (.inl hn) rfl (fun s8 I8 => ?_) (.inr hn)
    refine wpAny_mono (hs a oe C1 hec pins s8 _ H' _ I8 (ht a hea)) (fun f s9 q => ?_) fun _ _ z => z.elim
    cases f with
    | next => obtain ⟨σ9, H9, I9, q9⟩ := q; exact name_goes (I9.uncaught I.ok) hN hj hn fun s10 I10 _ => ⟨_, H9, I10, q9⟩
    | brk => obtain ⟨σ9, H9, I9, q9⟩ := q; exact name_goes (I9.uncaught I.ok) hN hj hn fun s10 I10 _ => ⟨_, H9, I10, q9⟩
    | cont => obtain ⟨σ9, H9, I9, q9⟩ := q; exact name_goes (I9.uncaught I.ok) hN hj hn fun s10 I10 _ => ⟨_, H9, I10, q9⟩
    | ret v => obtain ⟨v', σ9, H9, I9, r9, q9⟩ := q; exact name_goes (I9.uncaught I.ok) hN hj hn fun s10 I10 _ => ⟨v', _, H9, I10, r9, q9⟩

/-- isinstance(e, D) in the suite -/
def rIsE (K : PySem.W.Frag) (a C : Addr) : List V → Hp → VK → Prop := fun xs H Q => PySem.W.ExcK K C ∧ ((∃ D b, xs = [.ref a, .ref D] ∧ PySem.W.kitOne K (.ref C) (.ref D) = some b ∧ Q (.bl b) H) ∨ ∃ T b, xs = [.ref a, .ty T] ∧ PySem.W.kitOne K (.ref C) (.type T) = some b ∧ Q (.bl b) H)
theorem call_isE {a C : Addr} {oe : Obj} (hc : oe.cls = .ref C) : CallR (X.caught a oe) (.builtin "isinstance") (rIsE X.K a C) := by
  intro pins s σ H xs us Q I r h
  have at0 : s.heap.get? a = some oe := (I.pin (a, oe) List.mem_cons_self).1
  obtain ⟨c, h⟩ := h
  rcases h with ⟨D, b, rfl, e, q⟩ | ⟨T, b, rfl, e, q⟩
  · obtain ⟨u, w', rfl, r1, r2⟩ := vals2 r
    cases r1; cases r2
    exact PySem.W.kia_one (PySem.W.kitx_exc c hc) I.kIn at0 e (fun z => nomatch z) fun tk => ⟨.bl b, H, I.tok tk, rfl, q⟩
  · obtain ⟨u, w', rfl, r1, r2⟩ := vals2 r
    cases r1; cases r2
    exact PySem.W.kia_one (PySem.W.kitx_exc c hc) I.kIn at0 e (fun z => nomatch z) fun tk => ⟨.bl b, H, I.tok tk, rfl, q⟩
end
end L2


set_option Elab.async false
set_option linter.all false
/-! the rules that speak of the fragment, with the fragment named: for a comprehension's block -/
namespace L2
open PySem PySem.Spec PyProof.Rows
section
variable {X : Cx} {K : PySem.W.Frag} (h : X.K = K)
include h
theorem notInK : OpR X (compareOp .NotIn) (rIn K true) := by subst h; exact op_notIn_seq
end
end L2


set_option Elab.async false
set_option linter.all false
set_option maxRecDepth 100000
set_option maxHeartbeats 4000000
/-! tuple(reversed(t)) -/
namespace PySem
open Sem (wp)
open AutoSeq1 (wpAny_loadPart')
open PyProof.Rows
namespace F
theorem slot_rv_next : Slot "reversed" "__next__" "reversed.__next__" :=
  .of (owner := "reversed") (n := "__next__") (by rw [typeLookup_type, builtinLookup_eq_fast]; kernel_rfl) (by decide +kernel) (by decide +kernel) (by decide +kernel) (by first | exact .inl (by decide +kernel) | exact .inr (by decide +kernel)) (by rw [isSubtype_type]; kernel_rfl)
theorem slot_rv_iter : Slot "reversed" "__iter__" "reversed.__iter__" :=
  .of (owner := "reversed") (n := "__iter__") (by rw [typeLookup_type, builtinLookup_eq_fast]; kernel_rfl) (by decide +kernel) (by decide +kernel) (by decide +kernel) (by first | exact .inl (by decide +kernel) | exact .inr (by decide +kernel)) (by rw [isSubtype_type]; kernel_rfl)
theorem entry_rv_next : entryFor table "reversed.__next__" = some Builtin.«reversed.__next__» := entryFor_of_tree (by kernel_rfl)
theorem entry_rv_iter : entryFor table "reversed.__iter__" = some Builtin.«dict_keyiterator.__iter__» :=
  entryFor_alias (id' := "dict_keyiterator.__iter__") (by kernel_rfl) (by first | rfl | decide +kernel | (unfold String.splitOn; simp +decide [String.splitOnAux])) (by decide +kernel) (by kernel_rfl)
theorem args_rv_next (a : Value) : argsOk "reversed.__next__" ⟨[a], []⟩ := by unfold argsOk; kernel_rfl
theorem args_rv_iter (a : Value) : argsOk "reversed.__iter__" ⟨[a], []⟩ := by unfold argsOk; kernel_rfl
end F
def IsRv (h : Heap) (a t : Addr) (i : Int) : Prop := ∃ o, h.get? a = some o ∧ o.cls = .type "reversed" ∧ o.data = .fields #[.ref t, rawInt i]
theorem IsRv.typeIs {s : Shared} {a t : Addr} {i : Int} (x : IsRv s.heap a t i) : s.TypeIs (.ref a) "reversed" := let ⟨o, ho, hc, _⟩ := x; ⟨o, ho, hc⟩
section
variable {prog : Program} {w : World} {A : Around} {E : Value → Shared → Prop} {s : Shared}
theorem rv_iter {a t : Addr} {i : Int} {Q : Value → Shared → Prop} (x : IsRv s.heap a t i) (h : Q (.ref a) s) : wpAny (model prog w) A (pyIter (.ref a)) Q E s := by
  refine wpAny_pyIter_slot x.typeIs F.slot_rv_iter (wpAny_call_entry F.slot_rv_iter x.typeIs F.entry_rv_iter ?b (F.args_rv_iter _))
  case b => exact show wpAny _ _ (ret (.ref a)) _ _ s from wpAny_pure ⟨_, rfl, "reversed", _, x.typeIs, F.slot_rv_next.lookup, h⟩
theorem rv_item {a t : Addr} {i : Nat} {its : Array Value} {v : Value} {Q : Option Value → Shared → Prop} (x : IsRv s.heap a t (i : Int)) (ht : IsTup s.heap t its) (hv : its[i]? = some v) (hi : (i : Int) < 2 ^ 63)
    (hQ : ∀ h' tk, IsRv h' a t ((i : Int) - 1) → Heap.SameBut a s.heap h' → Q (some v) { s with heap := h', toks := tk }) : wpAny (model prog w) A (pyNext (.ref a)) Q E s := by
  obtain ⟨o, ho, hc, hd⟩ := id x
  have hlt : i < its.size := (Array.getElem?_eq_some_iff.mp hv).1
  unfold pyNext
  refine wpAny_bind (wpAny_attempt (wpAny_callSpecial?_slot (name := Str.ofString "__next__") x.typeIs F.slot_rv_next (wpAny_call_entry F.slot_rv_next x.typeIs F.entry_rv_next ?b (F.args_rv_next _))))
  case b =>
    unfold Builtin.«reversed.__next__»
    refine wpAny_bind (wpAny_of_eq (a := (Value.ref a, [])) rfl ?_); (try dsimp only)
    refine wpAny_bind (wpAny_field ho hd (x := .ref t) rfl (wpAny_bind (wpAny_field ho hd (x := rawInt (i : Int)) rfl ?_)))
    show wpAny _ _ (if (i : Int) < 0 then _ else _) _ _ _; rw [if_neg (by omega)]
    refine wpAny_bind (wpAny_specialOf ht.typeIs PyProof.Rows.slot_tuple_getitem.lookup ?_)
    simp only [Option.isNone_some, Bool.false_eq_true, if_false]
    refine wpAny_bind (wpAny_mkInt ?_)
    refine wpAny_bind (wpAny_attempt (PyProof.Rows.getItem_tuple ht (j := i) (x := v) (by omega) hi (L2.ixN_seq (n := its.size) (i := (i : Int)) (j := i) (by unfold L2.ixN; rw [if_pos (by omega), if_pos (by omega)]; simp)).1 hv ?_))
    refine wpAny_bind (wpAny_field ho hd (x := rawInt (i : Int)) rfl ?_)
    exact wpAny_bind (wpAny_setField ho hd (by simp) (wpAny_pure ⟨v, rfl, wpAny_pure (hQ _ _ ⟨_, Heap.get?_update_self _ ho (Obj.isFreed_of_fields (Obj.data_mapFields hd _)), (Obj.cls_mapFields ..).trans hc, by rw [Obj.data_mapFields hd]; simp⟩ (Heap.SameBut.update ..))⟩))
theorem rv_end {a t : Addr} {Q : Option Value → Shared → Prop} (hh : A.handled = none) (x : IsRv s.heap a t (-1)) (hQ : ∀ h', Heap.ExtBut a s.heap h' → Q none { s with heap := h' }) : wpAny (model prog w) A (pyNext (.ref a)) Q E s := by
  obtain ⟨o, ho, hc, hd⟩ := id x
  unfold pyNext
  refine wpAny_bind (wpAny_attempt (wpAny_callSpecial?_slot (name := Str.ofString "__next__") x.typeIs F.slot_rv_next (wpAny_call_entry F.slot_rv_next x.typeIs F.entry_rv_next ?b (F.args_rv_next _))))
  case b =>
    unfold Builtin.«reversed.__next__»
    refine wpAny_bind (wpAny_of_eq (a := (Value.ref a, [])) rfl ?_); (try dsimp only)
    refine wpAny_bind (wpAny_field ho hd (x := .ref t) rfl (wpAny_bind (wpAny_field ho hd (x := rawInt (-1)) rfl ?_)))
    show wpAny _ _ (if (-1 : Int) < 0 then _ else _) _ _ _; rw [if_pos (by decide)]
    refine wpAny_bind (wpAny_rule ?_)
    show wpAny _ _ ((do setField (.ref a) 1 (rawInt (-1)); setField (.ref a) 0 .none : Sem Unit) >>= _) _ _ _
    have hd1 := Obj.data_mapFields hd (·.setIfInBounds 1 (rawInt (-1)))
    have ho1 := Heap.get?_update_self (Obj.mapFields (·.setIfInBounds 1 (rawInt (-1)))) ho (Obj.isFreed_of_fields hd1)
    refine wpAny_bind (wpAny_bind (wpAny_setField ho hd (by simp) (wpAny_setField ho1 hd1 (by simp) ?_)))
    refine wpAny_bind (show wpAny _ _ (newExc (.type "StopIteration") [] >>= _) _ _ _ from wpAny_bind ?_); simp only [newExc, newTuple]
    refine wpAny_bind (wpAny_newObj_type (wpAny_bind (m := firstArgMember _ _) (wpAny_of_eq (a := Value.none) (by first | rfl | (simp only [firstArgMember]; rfl)) (wpAny_newObj_type ?_ (by size_fits)))) (by size_fits))
    simp only [raiseNew]
    refine wpAny_bind (wpAny_handled ?_)
    first | rw [show A.in1.handled = none from hh] | rw [hh]
    refine wpAny_bind (wpAny_pure (wpAny_throw ?_))
    exact wpAny_bind (wpAny_isInstance (T := "StopIteration") (b := true) ⟨_, Heap.get?_push_size _ rfl, rfl⟩ isSubtype_stop (wpAny_pure (hQ _ ((((Heap.SameBut.update ..).trans (Heap.SameBut.update ..)).extBut.push _).push _))))
theorem Walks.rv (hh : A.handled = none) (I t : Addr) (hne : t ≠ I) (its : Array Value) (hz : its.size ≤ 1000) :
    Walks prog w A I [I, t] [I] its.size (fun i v => its[its.size - 1 - i]? = some v) (fun i h => i ≤ its.size ∧ IsRv h I t ((its.size : Int) - 1 - (i : Int)) ∧ IsTup h t its) where
  sub := fun b hb => by simp at hb; simp [hb]
  frame := fun _ _ _ x hk => ⟨x.1, (let ⟨o, ho, r⟩ := x.2.1; ⟨o, hk I (by simp) o ho, r⟩), (let ⟨o, ho, r⟩ := x.2.2; ⟨o, hk t (by simp) o ho, r⟩)⟩
  item := fun i s Q E hi x hQ => by
    have e : (its.size : Int) - 1 - (i : Int) = ((its.size - 1 - i : Nat) : Int) := by omega
    have hit := x.2.1
    rw [e] at hit
    have hx : its[its.size - 1 - i]? = some (its[its.size - 1 - i]'(by omega)) := Array.getElem?_eq_getElem (by omega)
    refine rv_item hit x.2.2 hx (by omega) fun h' tk hit' hs' => ?_
    have e2 : ((its.size - 1 - i : Nat) : Int) - 1 = (its.size : Int) - 1 - ((i + 1 : Nat) : Int) := by omega
    rw [e2] at hit'
    exact hQ _ h' tk hx ⟨hi, hit', x.2.2.extBut hs'.extBut hne⟩ fun b o hb eo => hs'.extBut b o (fun h => hb (by simp [h])) eo
  done := fun s Q E x hQ => by
    have e : (its.size : Int) - 1 - (its.size : Int) = -1 := by omega
    have hit := x.2.1
    rw [e] at hit
    exact rv_end hh hit fun h' he' => hQ h' s.toks fun b o hb eo => he' b o (fun h => hb (by simp [h])) eo
  self := fun _ _ _ _ x hQ => rv_iter x.2.1 hQ
end
end PySem
namespace L2
open PySem PySem.Spec PyProof.Rows
/-- tuple(reversed(e)) -/
def tRev (K : PySem.W.Frag) (te : TE) : TE := fun σ H Q => te σ H fun x H1 => ∃ (a : Addr) (xs : List V), x = .ref a ∧ SqT K H1 a xs ∧ xs.length ≤ 1000 ∧ ∀ l, H1 l = none → Q (.ref l) (upd H1 l (.tup xs.reverse))
end L2


set_option Elab.async false
set_option linter.all false
set_option maxRecDepth 100000
set_option maxHeartbeats 4000000
namespace L2
open PySem PySem.Spec PyProof.Rows
section
variable {X : Cx} {pins : List (Addr × Obj)} {σ : List (Option V)} {H H' : Hp} {s : Shared} {h' : Heap}
end
section
variable {X : Cx} {e : Expr} {te : TE} {p p2 pos kpos : Pos}
def rSortLen (X : Cx) : List V → Hp → VK → Prop := fun xs H Q => ∃ (p : Addr) (ys : List V), xs = [.ref p] ∧ SqL X.K H p ys ∧ ys.length < 64 ∧ (∀ y ∈ ys, ∃ (q : Addr) (zs : List V), y = .ref q ∧ SqT X.K H q zs) ∧ ∀ (l : Addr) (ys' : List V), H l = none → ys'.Perm ys → Q (.ref l) (upd H l (.lst ys'))
end
end L2


set_option Elab.async false
set_option linter.all false
set_option maxRecDepth 100000
set_option maxHeartbeats 4000000
/-! A COMPREHENSION whose own names a comprehension within captures (and which captures nothing) -/
namespace L2
open PySem PySem.Spec PyProof.Rows
def compOkC (names : List (Str × NameKind)) : Bool := names.all (fun y => y.2 != .free) && names.all (fun y => y.2 != .local || names.lookup y.1 == some .local)
structure CompScopeC (N' : List Str) (scope : Scope) : Prop where
  kind : scope.kind = .function
  ok : compOkC scope.names = true
theorem CompScopeC.nofree {N' : List Str} {scope : Scope} (S : CompScopeC N' scope) : ∀ y ∈ scope.names, y.2 ≠ .free := by
  have h := S.ok
  simp only [compOkC, Bool.and_eq_true, List.all_eq_true] at h
  intro y hy
  simpa using h.1 y hy
theorem CompScopeC.names {N' : List Str} {scope : Scope} (S : CompScopeC N' scope) : ∀ y ∈ scope.names, y.2 = .local → scope.names.lookup y.1 = some .local := by
  have h := S.ok
  simp only [compOkC, Bool.and_eq_true, List.all_eq_true] at h
  intro y hy hl
  have q := h.2 y hy
  rw [hl] at q
  simpa using q
theorem CompScopeC.cellOf {N' : List Str} {scope : Scope} {cl : List (Str × Addr)} {C : Addr} {env : Env} {x : Str} (S : CompScopeC N' scope) (h : (compEnvC scope cl C env).kindOf x = some .cell ∨ (compEnvC scope cl C env).kindOf x = some .free) : scope.names.lookup x = some .cell := by
  rw [kindOf_comp] at h
  cases e : scope.names.lookup x with
  | none => rw [e] at h; rcases h with h | h <;> cases h
  | some k =>
    rw [e] at h
    have hm := S.nofree _ (PySem.mem_of_lookup e)
    cases k with
    | free => exact absurd rfl hm
    | cell => rfl
    | _ => rcases h with h | h <;> cases h
abbrev Cx.compC (X : Cx) (N' : List Str) (scope : Scope) (p : CP) : Cx := { X.comp N' scope p with fn := fun _ => true }
def ownσ (N' : List Str) : St := List.replicate N'.length none
def CompOkC (J : It) (D : Addr) (N' : List Str) (H1 : Hp) (g : TG) (tc : TT) (te : TE) (Q : VK) : Prop := ∃ (n : Nat) (Pv : Nat → List V → Hp → Prop),
  Pv 0 [] (upd H1 D (.lst [])) ∧ ∀ i xs H2, i ≤ n → Pv i xs H2 → H2 D = some (.lst xs) ∧ ((i = n ∧ J.stop i H2 ∧ Q (.ref D) H2) ∨ (i < n ∧ J.go i H2 ∧ ∀ x H3, J.yld i H2 x H3 → g x (ownσ N') H3 fun σ2 H4 => Keep (ownσ N') σ2 ∧
    tc σ2 H4 fun b H5 => if b = true then te σ2 H5 fun y H6 => H6 D = some (.lst xs) ∧ xs.length < sizeLine ∧ Pv (i + 1) (xs ++ [y]) (upd H6 D (.lst (xs ++ [y]))) else Pv (i + 1) xs H5))
def tCompC (N' : List Str) (wi : TI) (g : TG) (tc : TT) (te : TE) : TE := fun σ H Q => wi σ H fun J H1 => ∀ D, H1 D = none → CompOkC J D N' H1 g tc te Q
section
variable {X : Cx} {pins : List (Addr × Obj)} {σ : St} {H : Hp} {s : Shared} {N' : List Str} {scope : Scope} {elt iter tg : Expr} {ifs : List Expr} {pos : Pos} {wi : TI} {g : TG} {tc : TT} {te : TE}
end
section
variable {K : PySem.W.Frag} {N' : List Str} {H : Hp} {g : TG} {tc : TT} {te : TE} {Q : VK} {D : Addr}
end
end L2


set_option Elab.async false
set_option linter.all false
set_option maxRecDepth 100000
set_option maxHeartbeats 4000000
/-! A DEF THAT IS CALLED WITHIN AN EXCEPT SUITE, with the caught exception handed to it -/
namespace L2
open PySem PySem.Spec PyProof.Rows
structure RoomC (k : Nat) (A : Around) : Prop where
  dp : A.depth + 3 * k + 5 < recursionLimit
  un : A.units + 16 * k + 200 < cLine
theorem RoomC.mono {j k : Nat} {A : Around} (r : RoomC k A) (h : j ≤ k) : RoomC j A := ⟨by have := r.dp; omega, by have := r.un; omega⟩
/-- the context of such a def's body: the exception at a is pinned -/
abbrev cxC (P : Program) (w : World) (K : PySem.W.Frag) (mg : Str → Option Value) (base : Heap) (N : List Str) (qual : Str) (scope : Scope) (f : Addr) (cd : Value) (A : Around) (outer : List Env) (s : Shared) (H : Hp) (a : Addr) (oe : Obj) : Cx :=
  { (cxOf CX0 P w K mg base N qual scope f cd A outer s H E0).nox with calm := false, pn := [(a, oe)] }
structure FnOkC (P : Program) (w : World) (K : PySem.W.Frag) (mg : Str → Option Value) (base : Heap) (k : Nat) (f : Addr) (fd : FuncData) (ps : List Str) (sp : Addr → Addr → Sp) : Prop where
  len : ∀ a C vs H Q E, sp a C vs H Q E → vs.length = ps.length
  run : ∀ (A : Around) (outer : List Env) (s : Shared) (H : Hp) (args : Args) (us : List Value) (vs : List V) (Q : VK) (a C : Addr) (oe : Obj), RoomC k A → Env0 P w K mg base A outer s H → BindsTo s fd args (ps.zip us) → Vals vs us →
    s.heap.get? a = some oe → H a = none → a ∉ frs outer → (∀ v, oe.data ≠ .cell v) → oe.cls = .ref C → sp a C vs H Q E0 → codeAny (model P w) A (.call (.ref f) args) (CR CX0 outer P w H s Q E0) s
section
variable {P : Program} {w : World} {K : PySem.W.Frag} {mg : Str → Option Value} {base : Heap}
end
section
variable {X : Cx} {a C : Addr} {oe : Obj}
variable {k : Nat} {f : Addr} {fd : FuncData} {ps : List Str} {sp : Addr → Addr → Sp} {x : Str} {p pos : Pos} {e : Expr} {es : List Expr} {t : TA}
end
end L2


set_option Elab.async false
set_option linter.all false
set_option maxRecDepth 100000
set_option maxHeartbeats 4000000
/-! TEXTS over the layer -/
namespace L2
open PySem PySem.Spec PyProof.Rows
/-- the signs of a text, walked -/
def Its (x : Str) : It := ⟨fun i _ => i < x.cps.size, fun i H v H' => H' = H ∧ ∃ c, x.cps[i]? = some c ∧ v = .str ⟨#[c]⟩, fun i _ => x.cps.size ≤ i⟩
theorem turn_str {P : Program} {w : World} {K : PySem.W.Frag} {tg : Expr} (ty : String) (hty : ty = "str_ascii_iterator" ∨ ty = "str_iterator") (it : Addr) (x : Str) (t : Tok) : Turn P w K tg (Its x) [it] it (fun i h => h.IsStrIter it ty x t i) where
  mem := by simp
  obj := fun i h st b hb => by
    have e : b = it := by simpa using hb
    subst e
    obtain ⟨o, e, c, d⟩ := st
    exact ⟨o, e, fun v z => by rw [d] at z; cases z⟩
  keep := fun i h h' st k => let ⟨o, ho, r⟩ := st; ⟨o, k it (by simp) o ho, r⟩
  item := by
    intro X hP hw hK hc i pins s σ H E I hf st hg
    subst hP hw hK
    obtain ⟨f0, f1, f2, f3, f4, f5⟩ := hf it (by simp)
    have hn : ["enumerate", "zip", "dict_itemiterator", "dict_reverseitemiterator", "odict_iterator", "itertools.zip_longest", "itertools.pairwise"].contains ty = false := by
      rcases hty with rfl | rfl <;> decide
    have W : Walks X.prog X.w X.A it [it] [it] x.cps.size (SignAt x) (fun i h => h.IsStrIter it ty x t i) := by
      rcases hty with rfl | rfl
      · exact Walks.strAscii (I.ok.hd hc) it x t
      · exact Walks.strWide (I.ok.hd hc) it x t
    refine W.item i s _ _ hg st fun v h' tk hv st' kk => ?_
    obtain ⟨c, u, hcu, rfl⟩ := hv
    have I1 : Inv X pins σ H { s with heap := h', toks := tk } := I.turned (fun b o hb e => kk b o (by simpa using hb) e) f0 f1 f3 f4 f5
    obtain ⟨o, e, cc, d⟩ := id st'
    exact ⟨_, rfl, go_of (s := { s with heap := h', toks := tk }) e cc d hn ⟨.str ⟨#[c]⟩, H, I1, ⟨u, rfl⟩, ⟨rfl, c, hcu, rfl⟩, st', fun b hb => (hf b hb).1⟩⟩
  done := by
    intro X hP hw hK hc i pins s σ H E I hf st hg
    subst hP hw hK
    obtain ⟨f0, f1, f2, f3, f4, f5⟩ := hf it (by simp)
    have he : x.cps[i]? = none := by
      have : x.cps.size ≤ i := hg
      simp [this]
    rcases hty with rfl | rfl
    · exact wpAny_pyNext_ascii_end (I.ok.hd hc) st he fun h' eb => ⟨rfl, I.turned (t' := s.toks) (fun b o hb e => eb b o hb e) f0 f1 f3 f4 f5⟩
    · exact wpAny_pyNext_wide_end (I.ok.hd hc) st he fun h' eb => ⟨rfl, I.turned (t' := s.toks) (fun b o hb e => eb b o hb e) f0 f1 f3 f4 f5⟩
  self := fun _ _ _ _ _ st h => by
    rcases hty with rfl | rfl
    · exact wpAny_pyIter_striter_ascii st h
    · exact wpAny_pyIter_striter_wide st h
def iStr (tl : TE) : TI := fun σ H R => tl σ H fun v H1 => ∃ x, v = .str x ∧ R (Its x) H1
section
variable {X : Cx} {tg : Expr}
theorem pi_str {l : Expr} {tl : TE} (hl : PE X l tl) : PI X tg l (iStr tl) := by
  intro pins s σ H R I h
  refine thn (hl pins s σ H _ I h) fun v s1 ⟨x, H1, I1, r1, q1⟩ => ?_
  obtain ⟨z, rfl, q⟩ := q1
  obtain ⟨t, rfl⟩ := r1
  refine wpAny_pyIter_strU ?_
  have ht : strIterType z = "str_ascii_iterator" ∨ strIterType z = "str_iterator" := by
    unfold strIterType
    split
    · exact .inl rfl
    · exact .inr rfl
  refine ⟨s1.heap.objs.size, [s1.heap.objs.size], _, _, H1, rfl, I1.kept (t' := s1.toks) fun b o e => Heap.get?_push_of_some _ e, turn_str _ ht _ z t, ⟨_, Heap.get?_push_size _ rfl, rfl, rfl⟩, fun b hb => ?_, q⟩
  have e : b = s1.heap.objs.size := by simpa using hb
  subst e
  exact I1.fpOk (Nat.le_refl _) (I1.hok.fresh (Nat.le_refl _))
end
section
variable {cap : List (Option Nat)} {σ : St} {H : Hp} {g : TG} {tc : TT} {te : TE} {Q : VK} {D : Addr}
theorem comp_str {x : Str} (Pv : Nat → List V → Hp → Prop) (h0 : Pv 0 [] (upd H D (.lst []))) (hD : ∀ i xs H, i ≤ x.cps.size → Pv i xs H → H D = some (.lst xs))
    (hs : ∀ i c xs H, x.cps[i]? = some c → Pv i xs H → g (.str ⟨#[c]⟩) (capσ cap σ) H fun σ2 H4 => Keep (capσ cap σ) σ2 ∧
      tc σ2 H4 fun b H5 => if b = true then te σ2 H5 fun y H6 => H6 D = some (.lst xs) ∧ xs.length < sizeLine ∧ Pv (i + 1) (xs ++ [y]) (upd H6 D (.lst (xs ++ [y]))) else Pv (i + 1) xs H5)
    (hd : ∀ xs H, Pv x.cps.size xs H → Q (.ref D) H) : CompOk (Its x) D cap σ H g tc te Q := by
  refine ⟨x.cps.size, Pv, h0, fun i xs H2 hi p => ⟨hD i xs H2 hi p, ?_⟩⟩
  by_cases hlt : i < x.cps.size
  · refine .inr ⟨hlt, hlt, fun y H' z => ?_⟩
    obtain ⟨e, c, hc, rfl⟩ := z
    subst e
    exact hs i c xs _ hc p
  · have e : i = x.cps.size := by omega
    subst e
    exact .inl ⟨rfl, Nat.le_refl _, hd xs H2 p⟩
variable {tb : TS} {Dn : Ends}
theorem for_str {x : Str} (Pv : Nat → St → Hp → Prop) (h0 : Pv 0 σ H) (hs : ∀ i c σ H, x.cps[i]? = some c → Pv i σ H → g (.str ⟨#[c]⟩) σ H fun σ2 H2 => tb { Dn with nx := Pv (i + 1), ct := Pv (i + 1), bk := Dn.nx } σ2 H2)
    (hd : ∀ σ H, Pv x.cps.size σ H → Dn.nx σ H) : ∃ W : Nat → Nat → St → Hp → Prop, (∃ m, W 0 m σ H) ∧ ∀ i m σ H, W i m σ H →
      ((Its x).stop i H ∧ Dn.nx σ H) ∨ ((Its x).go i H ∧ ∃ N : St → Hp → Prop, (∀ σ' H', N σ' H' → ∃ m', m' < m ∧ W (i + 1) m' σ' H') ∧ ∀ y H', (Its x).yld i H y H' → g y σ H' fun σ2 H2 => tb { Dn with nx := N, ct := N, bk := Dn.nx } σ2 H2) := by
  refine ⟨fun i m σ H => m = x.cps.size - i ∧ i ≤ x.cps.size ∧ Pv i σ H, ⟨x.cps.size, by simp, Nat.zero_le _, h0⟩, ?_⟩
  rintro i m σ H ⟨rfl, hi, p⟩
  by_cases hlt : i < x.cps.size
  · refine .inr ⟨hlt, Pv (i + 1), fun σ' H' p' => ⟨x.cps.size - (i + 1), by omega, rfl, hlt, p'⟩, fun y H' z => ?_⟩
    obtain ⟨e, c, hc, rfl⟩ := z
    subst e
    exact hs i c σ _ hc p
  · have e : i = x.cps.size := by omega
    subst e
    exact .inl ⟨Nat.le_refl _, hd σ H p⟩
end
section
variable {X : Cx}
theorem vals_strs : ∀ l : List (Str × Tok), Vals ((l.map (·.1)).map V.str) (strValues l)
  | [] => .nil
  | (x, t) :: l => .cons ⟨t, rfl⟩ (vals_strs l)
/-- a list of texts just laid -/
theorem strs_laid {pins : List (Addr × Obj)} {s : Shared} {σ : St} {H : Hp} {Q : VK} {l : List (Str × Tok)} {texts : List Str} {tk : Nat} (I : Inv X pins σ H s) (hl : l.map (·.1) = texts) (hz : texts.length ≤ sizeLine)
    (q : ∀ p, H p = none → Q (.ref p) (upd H p (.lst (texts.map V.str)))) : EP X pins σ Q (.ref s.heap.objs.size) { s with heap := s.heap.push { cls := .type "list", data := .seq (strValues l).toArray }, toks := tk } := by
  subst hl
  refine ⟨.ref s.heap.objs.size, _, I.laid (t' := tk) (o := .lst ((l.map (·.1)).map V.str)) (fun b o e => Heap.get?_push_of_some _ e) (Nat.le_refl _) ⟨?_, strValues l, 0, vals_strs l, Heap.get?_push_size _ rfl⟩, rfl, q _ (I.hok.fresh (Nat.le_refl _))⟩
  rw [List.length_map]; exact hz
/-- x.split(y) -/
theorem mt_split : MtM X "str.split" (fun x xs H Q => ∃ a b, x = .str a ∧ xs = [.str b] ∧ (b.length == 0) = false ∧ a.length ≤ sizeLine ∧ (Txt.split a b).length ≤ sizeLine ∧ ∀ l, H l = none → Q (.ref l) (upd H l (.lst ((Txt.split a b).map V.str)))) := by
  intro pins s σ H x xs v us Q I rx rv h
  obtain ⟨a, b, rfl, rfl, hy, hsz, hsz2, q⟩ := h
  obtain ⟨t, rfl⟩ := rx
  obtain ⟨u, rfl, t', rfl⟩ := vals1 rv
  cases h1 : (decide (a.length < b.length) || decide (Builtin.Str.strKind a < Builtin.Str.strKind b))
  · cases hf : (Builtin.Str.occurrences a b 0 a.length (a.length + 1)).isEmpty
    · have es : Txt.split a b = Builtin.Str.partsBetween a (Builtin.Str.occurrences a b 0 a.length (a.length + 1)) b.length := (if_neg (ne_true_of_eq_false h1)).trans (if_neg (ne_true_of_eq_false hf))
      refine call_meets F.slot_str_split (typeIs_str _ _ _) F.entry_str_split (F.args_str_split_2 _ _) (meets_str_split_sep a b t t' h1 hy hf hsz (by rw [← es]; exact hsz2)) ?_
      show wants _ _ _ { s with toks := _, heap := s.heap.push { cls := .type "list", data := .seq (strsFrom s.toks (Builtin.Str.partsBetween a (Builtin.Str.occurrences a b 0 a.length (a.length + 1)) b.length)).toArray } }
      rw [strsFrom_eq]
      exact strs_laid I ((numbered_texts _ _).trans es.symm) hsz2 q
    · have es : Txt.split a b = [a] := (if_neg (ne_true_of_eq_false h1)).trans (if_pos hf)
      exact call_meets F.slot_str_split (typeIs_str _ _ _) F.entry_str_split (F.args_str_split_2 _ _) (meets_str_split_not_found a b t t' h1 hy hf) (strs_laid (l := [(a, t)]) (tk := s.toks) I es.symm hsz2 q)
  · have es : Txt.split a b = [a] := if_pos h1
    exact call_meets F.slot_str_split (typeIs_str _ _ _) F.entry_str_split (F.args_str_split_2 _ _) (meets_str_split_cannot_occur a b t t' h1) (strs_laid (l := [(a, t)]) (tk := s.toks) I es.symm hsz2 q)
/-- x.join(l) -/
theorem mt_join : MtM X "str.join" (fun x xs H Q => ∃ a p ts, x = .str a ∧ xs = [.ref p] ∧ SqL X.K H p (ts.map V.str) ∧ JoinOk a ts = true ∧ Q (.str (Txt.join a ts)) H) := by
  intro pins s σ H x xs v us Q I rx rv h
  obtain ⟨a, p, ts, rfl, rfl, hp, hj, q⟩ := h
  obtain ⟨t, rfl⟩ := rx
  obtain ⟨u, rfl, ru⟩ := vals1 rv
  cases ru
  obtain ⟨its, rv', pl, hz⟩ := I.list hp
  obtain ⟨l, e1, e2⟩ : ∃ l : List (Str × Tok), its = strValues l ∧ l.map (·.1) = ts := by
    clear pl hz hp hj q
    induction ts generalizing its with
    | nil => cases rv'; exact ⟨[], rfl, rfl⟩
    | cons y ts ih =>
      cases rv' with
      | cons r1 r2 =>
        obtain ⟨t', rfl⟩ := r1
        obtain ⟨l, rfl, rfl⟩ := ih _ r2
        exact ⟨(y, t') :: l, rfl, rfl⟩
  subst e1
  exact SC.join pl.isList e2 hj fun t' k => ⟨.str _, H, I.tok k, ⟨t', rfl⟩, q⟩
/-- int(x), x a text -/
theorem call_int_text : CallR X (.type "int") (fun xs H Q => ∃ x n, xs = [.str x] ∧ PySem.intText? x = some n ∧ x.length ≤ 640 ∧ Q (.int n) H) := by
  intro pins s σ H xs us Q I r h
  obtain ⟨x, n, rfl, hn, hl, q⟩ := h
  obtain ⟨u, rfl, t, rfl⟩ := vals1 r
  exact PySem.W.KIN.call_text hn hl ⟨.int n, H, I.tok _, ⟨_, rfl⟩, q⟩
theorem call_int_bool : CallR X (.type "int") (fun xs H Q => ∃ b : Bool, xs = [.bl b] ∧ Q (.int (if b then 1 else 0)) H) := by
  intro pins s σ H xs us Q I r h
  obtain ⟨b, rfl, q⟩ := h
  obtain ⟨u, rfl, ru⟩ := vals1 r
  cases ru
  exact PySem.call_int_bool ⟨.int _, H, I.tok _, ⟨_, rfl⟩, q⟩
theorem mt_starts : MtM X "str.startswith" (fun x xs H Q => ∃ a b, x = .str a ∧ xs = [.str b] ∧ Q (.bl (Txt.startswith a b)) H) := by
  intro pins s σ H x xs v us Q I rx rv h
  obtain ⟨a, b, rfl, rfl, q⟩ := h
  obtain ⟨t, rfl⟩ := rx
  obtain ⟨u, rfl, t', rfl⟩ := vals1 rv
  exact SC.startswith ⟨.bl _, H, I, rfl, q⟩
theorem mt_ends : MtM X "str.endswith" (fun x xs H Q => ∃ a b, x = .str a ∧ xs = [.str b] ∧ Q (.bl (Txt.endswith a b)) H) := by
  intro pins s σ H x xs v us Q I rx rv h
  obtain ⟨a, b, rfl, rfl, q⟩ := h
  obtain ⟨t, rfl⟩ := rx
  obtain ⟨u, rfl, t', rfl⟩ := vals1 rv
  exact SC.endswith ⟨.bl _, H, I, rfl, q⟩
end
end L2
namespace L2
open PySem PySem.Spec PyProof.Rows
section
variable {X : Cx}
/-- x[lo:hi] of a text -/
def rSlS : V → Option Int → Option Int → Hp → VK → Prop := fun x lo hi H Q => ∃ a, x = .str a ∧ a.length ≤ sizeLine ∧ Q (.str (Txt.slice a lo hi)) H
theorem part_of {v : Value} {o : Option Int} (h : IsPart v o) : ∃ l : Option (Int × Tok), v = partValue l ∧ l.map (·.1) = o := by
  cases h with
  | none => exact ⟨none, rfl, rfl⟩
  | int i t => exact ⟨some (i, t), rfl, rfl⟩
theorem sl_str : SlR X rSlS := by
  intro pins s σ H x v vl vu lo hi sl Q I rx hs pl pu h
  obtain ⟨a, rfl, hz, q⟩ := h
  obtain ⟨t, rfl⟩ := rx
  obtain ⟨l, rfl, rfl⟩ := part_of pl
  obtain ⟨u, rfl, rfl⟩ := part_of pu
  refine ⟨"str", _, F.slot_str_getitem.lookup, typeIs_str s a t, wpAny_getItem_str_slice (l := l) (u := u) (st := none) hs rfl ?_⟩
  have e : sliceMade a t l u none = if ((1 : Int) == 1 && (Builtin.Str.strSliceIndices (l.map (·.1)) (u.map (·.1)) 1 a.length).length == a.length) = true then .val (.str a t) else .str ⟨((Builtin.Str.strSliceIndices (l.map (·.1)) (u.map (·.1)) 1 a.length).filterMap (a.cps[·]?)).toArray⟩ := rfl
  rw [e]
  unfold Txt.slice at q
  split
  · rename_i hc
    rw [if_pos hc] at q
    exact ⟨.str _, H, I, ⟨t, rfl⟩, q⟩
  · rename_i hc
    rw [if_neg hc] at q
    have hle := Txt.slice_le a (l.map (·.1)) (u.map (·.1))
    unfold Txt.slice at hle
    rw [if_neg hc] at hle
    exact ⟨Nat.le_trans hle hz, .str _, H, I.tok _, ⟨_, rfl⟩, q⟩
/-- min of a list of ints -/
theorem call_minL (hc : X.calm = true) : CallR X (.builtin "min") (fun xs H Q => ∃ (p : Addr) (ns : List Int), xs = [.ref p] ∧ SqL X.K H p (ns.map V.int) ∧ ns ≠ [] ∧ ∀ m, m ∈ ns → (∀ n ∈ ns, m ≤ n) → Q (.int m) H) := by
  intro pins s σ H xs us Q I r h
  obtain ⟨p, ns, rfl, hp, hne, q⟩ := h
  obtain ⟨u, rfl, ru⟩ := vals1 r
  cases ru
  obtain ⟨its, rv, pl, _⟩ := I.list hp
  obtain ⟨ps, rfl, e2⟩ := int_toks rv
  have ia : (ps.map fun p => Value.int p.1 p.2).toArray = intItems ps.toArray := by unfold intItems; simp
  have hl2 : ps.toArray.size = ns.length := by rw [← e2]; simp
  have hpos : 0 < ps.toArray.size := by rw [hl2]; exact List.length_pos_iff.mpr hne
  refine min_intList (I.ok.hd hc) (xs := ps.toArray) (by rw [← ia]; exact pl.isList) hpos fun v h' tk hv hk => ?_
  obtain ⟨t, rfl⟩ := intItems_at hv
  obtain ⟨h1, h2⟩ := argBest_lt (numAt ps.toArray) (ps.toArray.size - 1)
  have na : numAt ps.toArray = fun i => ns.getD i 0 := by
    funext i
    rw [← e2]
    unfold numAt
    rw [List.getD_eq_getElem?_getD, List.getElem?_map]
    simp
  refine ⟨.int _, H, I.kept (t' := tk) hk, ⟨t, rfl⟩, q _ ?_ fun n hn => ?_⟩
  · rw [na]
    have hi : argBest (fun i j => decide (numAt ps.toArray i < numAt ps.toArray j)) (ps.toArray.size - 1) < ns.length := by omega
    rw [na] at hi
    show ns.getD _ 0 ∈ ns
    rw [List.getD_eq_getElem?_getD, List.getElem?_eq_getElem hi]
    exact List.getElem_mem hi
  · obtain ⟨j, hj⟩ := List.mem_iff_getElem?.mp hn
    have hjl : j < ns.length := (List.getElem?_eq_some_iff.mp hj).1
    have := h2 j (by omega)
    rw [na] at this ⊢
    have e : ns.getD j 0 = n := by rw [List.getD_eq_getElem?_getD, hj]; rfl
    have this' : ns.getD (argBest (fun i j => decide (ns.getD i 0 < ns.getD j 0)) (ps.toArray.size - 1)) 0 ≤ ns.getD j 0 := this
    rw [e] at this'
    exact this'
/-- set of a list of ints, and its len -/
theorem call_setL (hc : X.calm = true) : CallR X (.type "set") (fun xs H Q => ∃ (p : Addr) (ns : List Int), xs = [.ref p] ∧ SqL X.K H p (ns.map V.int) ∧ ns.length ≤ 1000 ∧ ∀ l, H l = none → Q (.ref l) (upd H l (.set (fun k' => (firstMet (fun i => ns.getD i 0) ns.length).any (· == k')) (firstMet (fun i => ns.getD i 0) ns.length).length))) := by
  intro pins s σ H xs us Q I r h
  obtain ⟨p, ns, rfl, hp, hl, q⟩ := h
  obtain ⟨u, rfl, ru⟩ := vals1 r
  cases ru
  obtain ⟨its, rv, pl, hz⟩ := I.list hp
  have ln : its.length = ns.length := by rw [← rv.length, List.length_map]
  have hI := intsAre_of rv
  refine PySem.call_set_list (items := its.toArray) (ns := ns) (I.ok.hd hc) pl.isList (by simpa using hI) (by rw [List.size_toArray, ln]; show ns.length + 1 < 4096; omega) fun h' tk hS hk => ?_
  rw [show its.toArray.size = ns.length by rw [List.size_toArray, ln]] at hS
  exact ⟨.ref _, _, I.laid (t' := tk) (o := .set _ _) (fun b o e => hk b o (Heap.lt_size e) e) (Nat.le_refl _) hS, rfl, q _ (I.hok.fresh (Nat.le_refl _))⟩
theorem call_len_set : CallR X (.builtin "len") (fun xs H Q => ∃ p S n, xs = [.ref p] ∧ H p = some (.set S n) ∧ Q (.int n) H) := by
  intro pins s σ H xs us Q I r h
  obtain ⟨p, S, n, rfl, hp, q⟩ := h
  obtain ⟨u, rfl, ru⟩ := vals1 r
  cases ru
  obtain ⟨o, es, ep, t, ho, hex, hd, _, _, hsb, hf, hn⟩ := I.hok p _ hp
  refine PySem.call_len_set ho hex hd hf (by have : scanBound = 4096 := rfl; omega) ?_
  rw [hn]
  exact ⟨.int n, H, I.tok _, ⟨_, rfl⟩, q⟩
end
end L2


set_option Elab.async false
set_option linter.all false
set_option maxRecDepth 100000
set_option maxHeartbeats 4000000
namespace PySem
theorem unchain_entry : entryFor table "proto.unchain" = some Builtin.«proto.unchain» := entryFor_of_tree (by kernel_rfl)
section
variable {prog : Program} {w : World} {A : Around} {E : Value → Shared → Prop} {s : Shared} {env : Env}
/-- an exception that was raised while another one was handled: new, and noted nowhere -/
structure Heap.RaisedExc (h h' : Heap) (e : Addr) (cls : Value) : Prop where
  keeps : ∀ b o, h.get? b = some o → h'.get? b = some o
  new : h.get? e = none
  there : ∃ oe vs a0, h'.get? e = some oe ∧ oe.cls = cls ∧ oe.data = .fields vs ∧ vs[0]? = some a0 ∧ vs[1]? = some .none
theorem wpAny_unchain {e a : Addr} {oa : Obj} {va : Array Value} {Q : Value → Shared → Prop} (ga : s.heap.get? a = some oa) (da : oa.data = .fields va) (v2 : va[2]? = some .none) (h : Q .none s) :
    wpAny (model prog w) A (runValue (.builtin "proto.unchain" ⟨[.ref e, .ref a, .ref a, .bool false], []⟩)) Q E s := by
  refine wpAny_runValue (codeAny_builtin unchain_entry ?_)
  unfold Builtin.«proto.unchain»
  refine wpAny_bind (wpAny_field ga da v2 ?_)
  rw [if_pos (show ((Value.none : Value) == Value.none) = true by decide)]
  exact wpAny_pure h
/-- raiseNew e, while a is handled and a stands in no context -/
theorem raiseNew_chained {α : Type} {e a : Addr} {oe oa : Obj} {ve va : Array Value} {Q : α → Shared → Prop} (hh : A.handled = some (.ref a)) (ne : a ≠ e) (ge : s.heap.get? e = some oe) (de : oe.data = .fields ve) (z : 2 < ve.size)
    (ga : s.heap.get? a = some oa) (da : oa.data = .fields va) (v2 : va[2]? = some .none) (h : E (.ref e) { s with heap := s.heap.update e (Obj.mapFields (·.setIfInBounds 2 (.ref a))) }) : wpAny (model prog w) A (raiseNew (.ref e) : Sem α) Q E s := by
  unfold raiseNew
  refine wpAny_bind (wpAny_handled ?_)
  rw [hh]
  dsimp only
  rw [if_pos (show (Value.ref a != Value.ref e) = true by simpa using ne)]
  refine wpAny_bind (wpAny_holding (wpAny_unchain ga da v2 ?_))
  refine wpAny_bind ?_
  show wpAny (model prog w) A (setField (.ref e) 2 (.ref a)) _ _ _
  exact wpAny_setField ge de z (wpAny_throw h)
variable {nm q : Str} {C N : Addr} {bs bm bmB : List Value} {hdct : Bool} {sn : List Str} {sub : List Value} {ab : Bool} {col : Option Bool} {dd : Option Addr} {k0 k1 k2 k3 k5 : Option Value} {B newId initId : String}
theorem raise_from_made {a Ca : Addr} {oa : Obj} {va : Array Value} {x c : Sem Value} {Q : Flow → Shared → Prop} (hbase : bm.contains (.type "BaseException") = true) (hh : A.handled = some (.ref a)) (hca : oa.cls = .ref Ca) (da : oa.data = .fields va) (v2 : va[2]? = some .none)
    (h : wpAny (model prog w) A x (fun v s₁ => ∃ e t, v = .ref e ∧ a ≠ e ∧ s₁.heap.get? C = some (excClassObj nm q C N bs bm hdct sn sub ab col dd k0 k1 k2 k3 k5 newId) ∧ C ≠ e ∧ s₁.heap.get? a = some oa ∧
      s₁.heap.get? e = some { cls := .ref C, data := .fields #[.ref t, .none, .none, .none, .bool false, .none] } ∧ wpAny (model prog w) A c (fun u s₂ => u = .ref a ∧ s₂ = s₁) E s₁ ∧
      (∀ (A' : Around) (E' : Value → Shared → Prop) (Q' : Bool → Shared → Prop), Q' true s₁ → wpAny (model prog w) A' (isSubtype (.ref Ca) (.type "BaseException")) Q' E' s₁) ∧
      ∀ h', (∀ b, b ≠ e → h'.get? b = s₁.heap.get? b) → (∃ oe vs, h'.get? e = some oe ∧ oe.cls = .ref C ∧ oe.data = .fields vs ∧ vs[0]? = some (.ref t) ∧ vs[1]? = some .none) → E (.ref e) { s₁ with heap := h' }) E s) :
    wpAny (model prog w) A (raiseStmt env (some x) (some c)) Q E s := by
  have hcB : (Value.ref C :: bm).contains (.type "BaseException") = true := by rw [List.contains_cons, hbase, Bool.or_true]
  unfold raiseStmt
  refine wpAny_bind (wpAny_mono h (fun v s₁ h₁ => ?_) fun _ _ x => x)
  obtain ⟨e, t, rfl, ne, hC, nC, ga, ge, hc, hsub, hE⟩ := h₁
  refine wpAny_bind (wpAny_holding (wpAny_mono hc (fun u s₂ hu => ?_) fun _ _ x => x))
  obtain ⟨rfl, rfl⟩ := hu
  obtain ⟨hp, g, d, tk, os⟩ := s₂
  refine wpAny_bind (wpAny_pure ?_)
  refine wpAny_bind (wpAny_holding ?_)
  have ex : ∀ {A' : Around} {E' : Value → Shared → Prop} {Q' : Value → Shared → Prop}, Q' (.ref e) ⟨hp, g, d, tk, os⟩ → wpAny (model prog w) A' (excFromValue (.ref e) "exceptions must derive from BaseException") Q' E' ⟨hp, g, d, tk, os⟩ := by
    intro A' E' Q' k
    unfold excFromValue isExcClass isInstance
    repeat (first | with_reducible refine wpAny_loadPart_at ge ?_ | with_reducible refine wpAny_loadPart_at hC ?_ | (with_reducible refine wpAny_isSubtype_exc hC ?_; rw [hcB]) | wp_step)
    exact k
  refine ex ?_
  dsimp only
  rw [if_neg (show ¬ ((Value.ref a == Value.none) = true) by simp)]
  refine wpAny_bind (wpAny_holding ?_)
  have ey : ∀ {A' : Around} {E' : Value → Shared → Prop} {Q' : Value → Shared → Prop}, Q' (.ref a) ⟨hp, g, d, tk, os⟩ → wpAny (model prog w) A' (excFromValue (.ref a) "exception causes must derive from BaseException") Q' E' ⟨hp, g, d, tk, os⟩ := by
    intro A' E' Q' k
    unfold excFromValue isExcClass isInstance isType loadHead
    refine wpAny_bind (wpAny_bind (wpAny_bind (wpAny_loadPart ga (wpAny_pure ?_))))
    rw [da]
    dsimp only
    rw [if_neg Bool.false_ne_true]
    refine wpAny_pure ?_
    rw [if_neg Bool.false_ne_true]
    refine wpAny_bind (wpAny_bind ?_)
    have LT : wpAny (model prog w) A' (typeOf (.ref a)) (fun v s' => v = .ref Ca ∧ s' = ⟨hp, g, d, tk, os⟩) E' ⟨hp, g, d, tk, os⟩ := by
      repeat (first | (with_reducible refine wpAny_loadPart_at ga ?_; rw [hca]) | wp_step)
      exact ⟨rfl, rfl⟩
    refine wpAny_mono LT (fun v s' hv => ?_) fun _ _ x => x
    obtain ⟨rfl, rfl⟩ := hv
    refine hsub _ _ _ ?_
    rw [if_pos rfl]
    exact wpAny_pure k
  refine ey ?_
  refine wpAny_bind (wpAny_setField ge rfl (by simp) ?_)
  have g1 := Heap.get?_update_self (Obj.mapFields (·.setIfInBounds 3 (Value.ref a))) ge rfl
  refine wpAny_bind (wpAny_setField g1 rfl (by simp) ?_)
  have g2 := Heap.get?_update_self (Obj.mapFields (·.setIfInBounds 4 (Value.bool true))) g1 rfl
  have o2 : ∀ b, b ≠ e → ((hp.update e (Obj.mapFields (·.setIfInBounds 3 (Value.ref a)))).update e (Obj.mapFields (·.setIfInBounds 4 (Value.bool true)))).get? b = hp.get? b := fun b hb =>
    (Heap.get?_update_other _ _ hb.symm).trans (Heap.get?_update_other _ _ hb.symm)
  have hC2 := (o2 C nC).trans hC
  have ga2 := (o2 a ne).trans ga
  dsimp only at g2 hC2 ga2 o2 ⊢
  obtain ⟨h2, e2⟩ : ∃ h2, h2 = (hp.update e (Obj.mapFields (·.setIfInBounds 3 (Value.ref a)))).update e (Obj.mapFields (·.setIfInBounds 4 (Value.bool true))) := ⟨_, rfl⟩
  rw [← e2] at g2 hC2 ga2 o2 ⊢
  have g2' : h2.get? e = some { cls := .ref C, data := .fields #[.ref t, .none, .none, .ref a, .bool true, .none] } := g2
  repeat (first | with_reducible refine wpAny_loadPart_at g2' ?_ | with_reducible refine wpAny_loadPart_at hC2 ?_ | wp_step)
  refine raiseNew_chained hh ne g2' rfl (by simp) ga2 da v2 (hE _ (fun b hb => (Heap.get?_update_other _ _ hb.symm).trans (o2 b hb)) ?_)
  exact ⟨_, _, Heap.get?_update_self (Obj.mapFields (·.setIfInBounds 2 (Value.ref a))) g2' rfl, rfl, rfl, rfl, rfl⟩
/-- raise C(..) from n, while the exception that n names is handled -/
theorem raise_from {a Ca : Addr} {oa : Obj} {va : Array Value} (F : ExcBaseFacts B newId initId bmB) {mN : Str → Option Value} {x n : Str} {np mp cpos pos : Pos} {args : List Expr} {Q : Flow → Shared → Prop}
    (hbase : bm.contains (.type "BaseException") = true) (hh : A.handled = some (.ref a)) (hca : oa.cls = .ref Ca) (da : oa.data = .fields va) (v2 : va[2]? = some .none) (hplain : (backTo cpos (starEach args env)).any (·.1) = false) (hni : mN "__init__" = none)
    (h : wpAny (model prog w) A (eval (.Name x np) env) (fun f s₁ => f = .ref C ∧ wpAny (model prog w) A (evalArgs (.ref C) true (backTo cpos (starEach args env)) [])
      (fun v s₂ => v.kw = [] ∧ v.pos.length ≤ sizeLine ∧ s₂.heap.get? C = some (excClassObj nm q C N bs bm hdct sn sub ab col dd k0 k1 k2 k3 k5 newId) ∧ s₂.heap.Ns N mN ∧ OwnTail s₂.heap bmB bm ∧ s₂.heap.get? a = some oa ∧
        ∀ h' e, Heap.MadeExcOf s₂.heap h' e (.ref C) v.pos → wpAny (model prog w) A (eval (.Name n mp) env) (fun u s₃ => u = .ref a ∧ s₃ = { s₂ with heap := h' }) E { s₂ with heap := h' } ∧
          (∀ (A' : Around) (E' : Value → Shared → Prop) (Q' : Bool → Shared → Prop), Q' true { s₂ with heap := h' } → wpAny (model prog w) A' (isSubtype (.ref Ca) (.type "BaseException")) Q' E' { s₂ with heap := h' }) ∧
          ∀ h'', Heap.RaisedExc s₂.heap h'' e (.ref C) → E (.ref e) { s₂ with heap := h'' }) E s₁) E s) :
    wpAny (model prog w) A (exec (.Raise (some (.Call (.Name x np) args [] cpos)) (some (.Name n mp)) pos) env) Q E s := by
  rw [arm_exec_Raise]
  simp only [evalOpt, Option.map]
  refine wpAny_bind (wpAny_standAt (raise_from_made (C := C) (nm := nm) (q := q) (N := N) (bs := bs) (bm := bm) (hdct := hdct) (sn := sn) (sub := sub) (ab := ab) (col := col) (dd := dd) (k0 := k0) (k1 := k1) (k2 := k2) (k3 := k3) (k5 := k5) (newId := newId) hbase hh hca da v2 ?_))
  refine wpAny_bind (wpAny_mono (wpAny_Call_ofName (wpAny_mono h (fun f s₁ h₁ => ?_) fun _ _ y => y)) (fun v s₃ h₃ => wpAny_bind (wpAny_standAt (wpAny_pure h₃))) fun _ _ y => y)
  obtain ⟨rfl, h₁⟩ := h₁
  unfold callWith
  refine wpAny_bind (wpAny_holding (wpAny_mono h₁ (fun v s₂ h₂ => wpAny_bind (wpAny_standAt ?_)) fun _ _ y => y))
  obtain ⟨vp, vk⟩ := v
  obtain ⟨hkw, hlen, hC, hN, T, ga, hk⟩ := h₂
  obtain rfl : vk = [] := hkw
  obtain ⟨hp, g, d, tk, os⟩ := s₂
  simp only [hplain]
  refine wpAny_bind (wpAny_keeperOf_exc hC ?_)
  refine wpAny_bind (wpAny_call_exc_subT (hrest := hlen) F T hC hN hni fun h' e hm => wpAny_bind (wpAny_holding (wpAny_point (wpAny_pure ?_))))
  obtain ⟨t, ht, _, _⟩ := hm.there
  obtain ⟨hc, hs, hE⟩ := hk h' e hm
  have nn : ∀ {b : Addr} {o : Obj}, hp.get? b = some o → b ≠ e := fun {b o} q z => by
    have := hm.new
    rw [← z] at this
    exact absurd (q.symm.trans this) (by simp)
  refine ⟨e, t, rfl, nn ga, hm.keeps _ _ hC, nn hC, hm.keeps _ _ ga, ht, wpAny_bind (wpAny_mono hc (fun u s₃ hu => wpAny_bind (wpAny_standAt (wpAny_pure hu))) fun _ _ y => y), hs, fun h'' ho ⟨oe, vs, z1, z2, z3, z4, z5⟩ => ?_⟩
  exact hE h'' ⟨fun b o q => (ho b (nn q)).trans (hm.keeps b o q), hm.new, oe, vs, _, z1, z2, z3, z4, z5⟩
end
end PySem
namespace L2
open PySem PySem.Spec PyProof.Rows
section
variable {X : Cx} {pins : List (Addr × Obj)} {σ : St} {H : Hp} {s : Shared} {h' : Heap}
/-- the def's own end, from what was kept since one of its states -/
theorem un_out2 (I : Inv X pins σ H s) (hex : X.ex = []) (c1 : ∀ b o, s.heap.get? b = some o → b ∉ frs X.stack → h'.get? b = some o) (c2 : ∀ b o, s.heap.get? b = some o → b ∈ X.fs → ∃ sl, h'.get? b = some { o with slots := sl }) :
    Un X.fs [] X.H₀ H X.s₀.heap h' := by
  have nx : ∀ b : Addr, b ∉ X.ex := fun b hb => by rw [hex] at hb; cases hb
  refine ⟨fun b o e n hb _ => c1 b o (I.base.keep b o e n hb (nx b)) (out_st I e hb), fun b o e n hb _ => ?_, fun b o e n _ => I.base.free b o e n (nx b), fun b o e _ => ?_, I.base.tups, I.base.frzs, I.base.tbls⟩
  · obtain ⟨sl, e1⟩ := I.base.slot b o e n hb (nx b)
    obtain ⟨sl', e2⟩ := c2 b _ e1 hb
    exact ⟨sl', e2⟩
  · obtain ⟨o', e1⟩ := I.base.there b o e (nx b)
    by_cases hb : b ∈ X.fs
    · obtain ⟨sl, e2⟩ := c2 b _ e1 hb
      exact ⟨_, e2⟩
    · exact ⟨_, c1 b _ e1 (out_st I e hb)⟩
/-- a state from which only slots of frames changed, and new objects were laid -/
theorem inv_stay (I : Inv X pins σ H s) (st : (PySem.W.hideAll s.heap (frs X.stack)).StaysIn h') (up : s.heap.UpToSlots h') : Inv X pins σ H { s with heap := h' } := by
  have gB : ∀ b o, s.heap.get? b = some o → b ∉ frs X.stack → h'.get? b = some o := fun b o e hb => st b o (PySem.W.hideAll_get _ e hb)
  have gF : ∀ b o, s.heap.get? b = some o → b ∈ frs X.stack → ∃ sl, h'.get? b = some { o with slots := sl } := fun b o e hb => by
    obtain ⟨_, o', e', hd⟩ := I.stack.mem hb
    cases e.symm.trans e'
    exact up b o e hd
  refine I.call' (s' := { s with heap := h' }) (ch := []) rfl ⟨fun b o e _ hb _ => gB b o e hb, fun b o e _ hb _ => gF b o e hb, fun _ _ _ n _ => n, fun b o e _ => ?_, fun _ _ q => q, fun _ _ _ q => q, fun _ ps q => ⟨#[], by rw [q]; simp⟩⟩ (fun b u e => ?_) I.bare fun b hb => by cases hb
  · by_cases hb : b ∈ frs X.stack
    · obtain ⟨sl, q⟩ := gF b o e hb
      exact ⟨_, q⟩
    · exact ⟨o, gB b o e hb⟩
  · refine (I.hok b u e).stay (fun c v hc q => ?_) (fun _ q => q) fun _ _ q => q
    have hH : ∃ u', H c = some u' := by
      rcases hc with z | z
      · exact ⟨u, by rw [z]; exact e⟩
      · exact ⟨_, z⟩
    obtain ⟨u', hu'⟩ := hH
    exact gB c v q fun hb => by rw [I.stkFree c hb] at hu'; cases hu'
/-- the value of a local name, nothing changed -/
theorem ld_loc {E : Value → Shared → Prop} {Q : Value → Shared → Prop} {i : Nat} {x : Str} {a : Addr} {pos : Pos} (I : Inv X pins σ H s) (hN : X.N[i]? = some x) (hv : X.env.scope.names.lookup x = some .local) (hσ : σ[i]? = some (some (.ref a))) (q : Q (.ref a) s)
    (hd : (x == ("__debug__" : Str)) = false := by decide) (hcd : (x == ("__classdict__" : Str)) = false := by decide) : wpAny (model X.prog X.w) X.A (eval (.Name x pos) X.env) Q E s := by
  obtain ⟨m, hns, hlk⟩ := I.loc
  obtain ⟨u, r, l⟩ := hlk i x _ hN hσ (.inl hv)
  cases r
  rcases l with ⟨y1, y2⟩ | ⟨y1, c, y2, y3⟩
  · exact wpAny_Name (wpAny_loadName_local I.ok.kind y1 hns y2 q) hd
  · rcases y1 with y1 | y1
    · exact wpAny_Name (wpAny_loadName_cell I.ok.kind y1 y2 y3 q) hd
    · exact wpAny_Name (wpAny_loadName_free I.ok.kind y1 y2 y3 q hcd) hd
end
/-- an exception that was raised within a suite and is held at the def's frame goes out -/
def OutsH (X : Cx) (E : XK) : Prop := ∀ (pins : List (Addr × Obj)) (σ : St) (H : Hp) (s s' : Shared) (a C : Addr) (a0 : Value), Inv X pins σ H s → s'.os = s.os → AllBare s'.gens →
  Heap.HeldW (PySem.W.hideAll s.heap (frs X.stack)) X.stack a (.ref C) a0 X.env.locals s'.heap → (∀ b o, s.heap.get? b = some o → b ∈ X.fs → ∃ sl, s'.heap.get? b = some { o with slots := sl }) → E (.ref C) none H → X.xe (.ref a) s'
section
variable {P : Program} {w : World} {K : PySem.W.Frag} {mg : Str → Option Value} {base : Heap} {N : List Str} {qual : Str} {scope : Scope} {f : Addr} {cd : Value} {A : Around} {outer : List Env} {s₀ : Shared} {H₀ : Hp} {E : XK}
theorem outs_held : OutsH (cxF P w K mg base N qual scope f cd A outer s₀ H₀ E) E := by
  intro pins σ H s s' a C a0 I os bare held fs hE
  show wpAny (model P w) (A.deeper (envOfC qual scope s₀.heap.objs.size f cd)) («leaving» (envOfC qual scope s₀.heap.objs.size f cd) (.ref a)) _ _ _
  unfold «leaving»
  refine wpAny_bind (wpAny_noteFrame_againW rfl held.2.2.2 ?_)
  refine land held.1 held.2.1 held.2.2.1 held.2.2.2 fun h2 fl up _ => ?_
  have gB : ∀ b o, s.heap.get? b = some o → b ∉ frs (cxF P w K mg base N qual scope f cd A outer s₀ H₀ E).stack → (PySem.W.hideAll s.heap (frs (cxF P w K mg base N qual scope f cd A outer s₀ H₀ E).stack)).get? b = some o := fun b o e hb => PySem.W.hideAll_get _ e hb
  have trk : ∀ b u, H b = some u → b ∉ frs (cxF P w K mg base N qual scope f cd A outer s₀ H₀ E).stack := fun b u e hb => by rw [I.stkFree b hb] at e; cases e
  have nx : ∀ b : Addr, b ∉ (cxF P w K mg base N qual scope f cd A outer s₀ H₀ E).ex := fun b hb => by cases hb
  obtain ⟨y1, y2, ⟨_, _, y3⟩, y4⟩ := fl
  refine ⟨a, C, a0, _, H, rfl, os.trans I.os, bare, un_out2 I rfl (fun b o e hb => y1 b o (gB b o e hb)) fun b o e hb => ?_, fun b u e => ?_, ⟨y1, y2, y3, y4⟩, fun b o e n hb => ?_, fun b o e hb => ?_, fun b u e => ?_, hE, fun z => by cases z⟩
  · obtain ⟨_, o', e', hd⟩ := I.funs.mem hb
    cases e.symm.trans e'
    obtain ⟨sl, q⟩ := fs b o e hb
    obtain ⟨sl', q'⟩ := up b _ q hd
    exact ⟨sl', q'⟩
  · refine (I.hok b u e).stay (fun c v hc q => ?_) (fun _ q => q) fun _ _ q => q
    have hH : ∃ u', H c = some u' := by
      rcases hc with z | z
      · exact ⟨u, by rw [z]; exact e⟩
      · exact ⟨_, z⟩
    obtain ⟨u', hu'⟩ := hH
    exact y1 c v (gB c v q (trk c u' hu'))
  · exact gB b o (I.base.keep b o e n hb (nx b)) (out_st I e hb)
  · obtain ⟨o', e1⟩ := I.base.there b o e (nx b)
    exact ⟨o', gB b o' e1 (out_st I e hb)⟩
  · obtain ⟨ob, q⟩ := (I.hok b u e).there
    have z := gB b ob q (trk b u e)
    exact ⟨ob, y1 b ob z, z⟩
end
theorem Flying_kept {B h h' : Heap} {l : List Env} {e : Addr} {cls a0 : Value} (x : Heap.FlyingW B l e cls a0 h) (k : ∀ b o, h.get? b = some o → h'.get? b = some o) : Heap.FlyingW B l e cls a0 h' := by
  obtain ⟨y1, y2, y3, oe, vs, T, oT, ts, ge, ce, de, v1, nT, Te, gT, dT, t3⟩ := x
  exact ⟨fun b o q => k b o (y1 b o q), y2, y3.of_keeps fun b o q _ => ⟨o, k b o q, rfl⟩, oe, vs, T, oT, ts, k _ _ ge, ce, de, v1, nT, Te, k _ _ gT, dT, t3⟩
/-- try: body / except (C1, C2, C3) as n: raise CD(..) from n -/
def tTryFrom (K : PySem.W.Frag) (CD C1 C2 C3 : Addr) (j : Nat) (E : XK) (tb : TXS) (ta : TA) : TS := fun D σ H =>
  tb D (fun Cv _ H1 => ∃ C, Cv = .ref C ∧ PySem.W.exmAny K (.ref C) [.ref C1, .ref C2, .ref C3] = some true ∧ PySem.W.mroIn K C (.type "BaseException") = some true ∧ ∀ a, H1 a = none →
    ta (σ.set j (some (.ref a))) H1 fun vs H2 => vs.length ≤ sizeLine ∧ E (.ref CD) none H2) σ H
section
variable {X : Cx} {E : XK} {CD C1 C2 C3 : Addr} {j : Nat} {x1 x2 x3 xD n : Str} {tb : TXS} {ta : TA} {body : List Stmt} {e₀ : Expr} {rest : List Expr} {p1 p2 p3 np mp cpos tpos rpos hpos pos : Pos} {bmB : List Value} {Bn newId initId : String}
theorem ps_tryFrom {ctx} (hst : X.stack = X.env :: X.outer) (hfr : X.env.frame = some X.env.locals) (hN : X.N.Nodup) (hj : X.N[j]? = some n) (hn : X.env.scope.names.lookup n = some .local)
    (hg1 : Gl X x1) (hm1 : X.mg x1 = some (.ref C1)) (hg2 : Gl X x2) (hm2 : X.mg x2 = some (.ref C2)) (hg3 : Gl X x3) (hm3 : X.mg x3 = some (.ref C3)) (hgD : Gl X xD) (hmD : X.mg xD = some (.ref CD))
    (q : PySem.W.excIn X.K CD bmB newId = true) (FB : ExcBaseFacts Bn newId initId bmB) (ho : OutsH X E) (hb : PXs true X body tb) (hs : ∀ a oe, PA (X.caught a oe) (e₀ :: rest) ta)
    (he : starEach (e₀ :: rest) X.env = (false, eval e₀ X.env) :: starEach rest X.env := by rfl) (hplain : (backTo cpos (starEach rest X.env)).any (·.1) = false := by rfl)
    (d1 : (x1 == ("__debug__" : Str)) = false := by decide) (d2 : (x2 == ("__debug__" : Str)) = false := by decide) (d3 : (x3 == ("__debug__" : Str)) = false := by decide) (dD : (xD == ("__debug__" : Str)) = false := by decide)
    (dn : (n == ("__debug__" : Str)) = false := by decide) (dc : (n == ("__classdict__" : Str)) = false := by decide) :
    PS X (.Try body [.ExceptHandler (some (.Tuple [.Name x1 p1, .Name x2 p2, .Name x3 p3] ctx tpos)) (some n) [.Raise (some (.Call (.Name xD np) (e₀ :: rest) [] cpos)) (some (.Name n mp)) rpos] hpos] [] [] pos) (tTryFrom X.K CD C1 C2 C3 j E tb ta) := by
  intro pins s σ H D I h
  refine wpAny_Try_except (wpAny_mono (hb pins s σ H D _ I h) (fun f s1 q => ?_) fun e s1 q1 => ?_)
  · cases f with
    | next => exact wpAny_execs_nil q
    | ret v => exact q
    | brk => exact q
    | cont => exact q
  · obtain ⟨H1, s0, I0, a, C, a0, B, H', rfl, os, bare, un, hok, fl, inB, thB, tr, ⟨Ce, hC, hex, hmro, ht⟩, clr⟩ := q1
    have eC : Ce = C := (Value.ref.inj hC).symm
    subst eC
    have fr0 : X.A.frames = some (X.env :: X.outer) := by rw [← hst]; exact I.ok.frames
    rw [hst] at fl
    refine note_on fr0 hfr fl fun h4 held up4 c4 => ?_
    refine land (s := { s1 with heap := h4 }) held.1 held.2.1 held.2.2.1 held.2.2.2 fun h5 fl5 up5 c5 => ?_
    have cl5 : h5.Clear a := c5 (c4 (clr rfl))
    have up45 := up4.trans up5
    have I5 : Inv X pins σ H' { s1 with heap := h5 } := inv_back (s' := s1) I0 os bare un hok (by rw [hst]; exact fl5) up45 inB thB tr
    obtain ⟨ob, hob, hobc⟩ := fl5.there
    refine wpAny_handleBy_cons (codeAny_handlers_test ?_) (by intro z; cases z)
    refine wpAny_Tuple_spliced ?_
    refine Calls.spliced_cons (ld_glob (X := X.marked a) I5.marked hg1 hm1 ?_ d1)
    refine Calls.spliced_cons (ld_glob (X := X.marked a) I5.marked hg2 hm2 ?_ d2)
    refine Calls.spliced_cons (ld_glob (X := X.marked a) I5.marked hg3 hm3 ?_ d3)
    refine Calls.spliced_nil ⟨by show 3 ≤ sizeLine; decide, ?_⟩
    have kp6 : ∀ b o, h5.get? b = some o → (h5.push { cls := .type "tuple", data := .seq [Value.ref C1, Value.ref C2, Value.ref C3].toArray }).get? b = some o := fun b o e => Heap.get?_push_of_some _ e
    have LT : PySem.W.Looks (model X.prog X.w) (h5.push { cls := .type "tuple", data := .seq [Value.ref C1, Value.ref C2, Value.ref C3].toArray }) (typeOf (.ref a)) (.ref Ce) := hobc ▸ (PySem.W.Looks.ld (kp6 _ _ hob)).andThen .now
    refine (PySem.W.exm_tup3 (K := X.K) (I5.kIn.keeps kp6) LT (Heap.get?_push_size _ rfl) hex).here ?_
    refine codeAny_handlers_suite_as ?_
    have fl6 := Flying_kept fl5 kp6
    have cl6 : (h5.push { cls := .type "tuple", data := .seq [Value.ref C1, Value.ref C2, Value.ref C3].toArray }).Clear a := let ⟨o, vs, z1, z2, z3⟩ := cl5; ⟨o, vs, kp6 _ _ z1, z2, z3⟩
    refine land fl6.1 fl6.2.1 fl6.2.2.1 fl6.2.2.2.at fun h7 fl7 up7 c7 => ?_
    have cl7 := c7 cl6
    have I7 : Inv X pins σ H' { s1 with heap := h7 } := inv_back (s' := s1) I0 os bare un hok (by rw [hst]; exact fl7) ((up45.trans (Heap.UpToSlots.of_keeps kp6)).trans up7) inB thB tr
    obtain ⟨oe, vs, he7, hec, hed, _⟩ := fl7.first
    have v2 : vs[2]? = some .none := by
      obtain ⟨oe', vs', z1, z2, z3⟩ := cl7
      cases he7.symm.trans z1
      cases hed.symm.trans z2
      exact z3
    have hea : H' a = none := by
      cases hq : H' a with
      | none => rfl
      | some u =>
        obtain ⟨ob', _, q2⟩ := tr a u hq
        rw [fl7.2.1] at q2; cases q2
    have hec2 : ∀ v, oe.data ≠ .cell v := fun v z => by rw [hed] at z; cases z
    have nst : a ∉ frs X.stack := fun hm' => by
      rw [hst] at hm'
      obtain ⟨_, o', e', hnf⟩ := fl7.2.2.1.mem hm'
      rw [he7] at e'; cases e'
      exact hnf vs hed
    have aL : a ≠ X.env.locals := fun z => nst (by rw [hst]; unfold frs; rw [List.filterMap_cons, hfr, z]; exact List.mem_cons_self)
    have aF : a ∉ X.fs := fun z => nst (by rw [hst]; unfold frs; rw [List.filterMap_cons, hfr]; exact List.mem_cons_of_mem _ z)
    have I8 : Inv (X.caught a oe) pins σ H' { s1 with heap := h7 } := I7.caught he7 hea aL aF hec2
    refine store_ok (X := X.caught a oe) (v := .ref a) I8 hN hj (.inl hn) rfl (fun s8 I8 => ?_) (.inr hn)
    obtain ⟨bm, Nn, nm, qn, bs, hdct, sn, sub, ab, col, dd, k0, k1, k2, k3, k5, mN, hCD, hNN, hni, T⟩ := exc_obj I8.ok.mod.kin q
    refine wpAny_execs_cons (raise_from (a := a) (Ca := Ce) (oa := oe) (va := vs) (C := CD) (nm := nm) (q := qn) (N := Nn) (bs := bs) (bm := bm) (hdct := hdct) (sn := sn) (sub := sub) (ab := ab) (col := col) (dd := dd) (k0 := k0) (k1 := k1) (k2 := k2) (k3 := k3) (k5 := k5)
      FB (mN := mN) (T.hasType FB.hasBase) rfl hec hed v2 (by rw [he]; show (false || (backTo cpos (starEach rest X.env)).any (·.1)) = false; rw [hplain]; rfl) hni (ld_glob (X := X.caught a oe) I8 hgD hmD ⟨rfl, ?_⟩ dD))
    have hA := hs a oe cpos pins s8 _ H' _ I8 (ht a hea)
    rw [he] at hA ⊢
    refine Calls.evalArgs_plain (wpAny_mono hA (fun us s2 z => ?_) fun _ _ z => z.elim)
    obtain ⟨ws, H2, I2, r2, hl, hE⟩ := z
    refine ⟨rfl, by rw [← r2.length]; exact hl, I2.bk _ _ hCD, hNN.keeps I2.bk, T.keeps I2.bk, (I2.pin (a, oe) List.mem_cons_self).1, fun h' e hm => ⟨?_, ?_, fun h'' hR => ?_⟩⟩
    · have I2' : Inv (X.caught a oe) pins (σ.set j (some (.ref a))) H2 { s2 with heap := h' } := I2.kept (t' := s2.toks) fun b o e => hm.keeps b o e
      have hlt : j < σ.length := by rw [I.len]; exact (List.getElem?_eq_some_iff.mp hj).1
      exact ld_loc (X := X.caught a oe) I2' hj hn (List.getElem?_set_self hlt) ⟨rfl, rfl⟩ dn dc
    · exact fun A' E' Q' k => (PySem.W.looks_mroIn I2.kIn hmro) A' Q' E' _ (fun b o e => hm.keeps b o e) k
    · have I2u := I2.uncaught I.ok
      have hin : ∀ env ∈ X.stack, ∀ b, env.frame = some b → b ∈ frs X.stack := fun env he b hb => List.mem_filterMap.mpr ⟨env, he, hb⟩
      have ff2 : s2.heap.FunFrames (PySem.W.hideAll s2.heap (frs X.stack)) X.stack := PySem.W.funFrames_hide I2u.stack hin
      have kb : (PySem.W.hideAll s2.heap (frs X.stack)).StaysIn h'' := fun b o q => hR.keeps b o (PySem.W.of_hideAll _ q)
      have nb : (PySem.W.hideAll s2.heap (frs X.stack)).get? e = none := by
        cases z : (PySem.W.hideAll s2.heap (frs X.stack)).get? e with
        | none => rfl
        | some o => have := PySem.W.of_hideAll _ z; rw [hR.new] at this; cases this
      obtain ⟨oE, vE, aE, gE, cE, dE, vE0, vE1⟩ := hR.there
      have toS : ∀ B, s2.heap.FunFrames B X.stack → s2.heap.FunFrames B (X.env :: X.outer) := fun B h => by rw [hst] at h; exact h
      have fr2 : (X.A.mark (some (.ref a))).frames = some (X.env :: X.outer) := fr0
      refine note_new (s := { s2 with heap := h'' }) fr2 ((toS _ ff2).of_keeps fun b o q _ => ⟨o, hR.keeps b o q, rfl⟩) hfr gE kb nb dE vE0 vE1 fun h9 n9 _ => ?_
      obtain ⟨x1', x2', x3', x4'⟩ := n9
      have up9 : s2.heap.UpToSlots h9 := fun b o e hn => x4' b o (hR.keeps b o e) hn
      have I9 : Inv (X.caught a oe) pins (σ.set j (some (.ref a))) H2 { s2 with heap := h9 } := inv_stay I2 x1' up9
      refine name_goes (X := X.caught a oe) I9 hN hj hn fun s10 I10 sb => ?_
      have I10u := I10.uncaught I.ok
      have ff10 : s10.heap.FunFrames (PySem.W.hideAll s2.heap (frs X.stack)) X.stack := by
        have key : ∀ l : List Env, (∀ env ∈ l, ∀ b, env.frame = some b → b ∈ frs X.stack) → s10.heap.FunFrames X.base l → s10.heap.FunFrames (PySem.W.hideAll s2.heap (frs X.stack)) l := by
          intro l
          induction l with
          | nil => intro _ _; trivial
          | cons env l ih =>
            intro hi hF
            obtain ⟨f1, ⟨L, o, f2, f3, f4, f5⟩, f6⟩ := hF
            exact ⟨f1, ⟨L, o, f2, PySem.W.hideAll_none _ (hi env List.mem_cons_self L f2), f4, f5⟩, ih (fun e he => hi e (List.mem_cons_of_mem _ he)) f6⟩
        exact key X.stack hin I10u.stack
      have lst : X.env.locals ∈ frs X.stack := by rw [hst]; unfold frs; rw [List.filterMap_cons, hfr]; exact List.mem_cons_self
      obtain ⟨_, oL, gL, dL⟩ := I9.stack.mem lst
      have nL : ∀ {b : Addr} {o : Obj} {ws : Array Value}, h9.get? b = some o → o.data = .fields ws → b ≠ X.env.locals := fun {b o ws} g d z => by
        subst z
        cases g.symm.trans gL
        exact dL ws d
      have held10 : Heap.HeldW (PySem.W.hideAll s2.heap (frs X.stack)) X.stack e (.ref CD) aE X.env.locals s10.heap := by
        refine ⟨fun b o q => (sb b fun z => ?_).trans (x1' b o q), nb, ff10, ?_⟩
        · rw [z, PySem.W.hideAll_none _ lst] at q; cases q
        · obtain ⟨o1, w1, T1, oT, t1, z1, z2, z3, z4, z5, z6, z7, z8, z9⟩ := x3'
          rw [cE] at z2
          exact ⟨o1, w1, T1, oT, t1, (sb e (nL z1 z3)).trans z1, z2, z3, z4, z5, z6, (sb T1 (nL z7 z8)).trans z7, z8, z9⟩
      unfold PySem.passOn
      refine wpAny_bind (held_field held10 fun T1 => ?_)
      rw [if_neg (show ¬ ((Value.ref T1 == Value.none) = true) by simp)]
      rw [hfr]
      refine wpAny_bind (held_again held10 fun h11 held11 up11 => wpAny_throw ?_)
      unfold notedBy
      refine wpAny_noteFrame_againW hfr held11.2.2.2 ?_
      show cameBackBy _ _ _ _ _ _
      unfold cameBackBy
      refine wpAny_bind (held_field (s := { s10 with heap := h11 }) held11 fun T2 => ?_)
      rw [if_neg (show ¬ ((Value.ref T2 == Value.none) = true) by simp)]
      rw [hfr]
      refine held_again (s := { s10 with heap := h11 }) held11 fun h12 held12 up12 => ?_
      refine ho pins _ H2 s2 { s10 with heap := h12 } e CD aE I2u (I10u.os.trans I2u.os.symm) I10u.bare held12 (fun b o e' hb => ?_) hE
      obtain ⟨_, o', e'', hd⟩ := I2u.funs.mem hb
      cases e'.symm.trans e''
      obtain ⟨sl, g9⟩ := up9 b o e' hd
      have bL : b ≠ X.env.locals := fun z => by
        obtain ⟨_, oo, g0, _⟩ := I.ok.funs.mem hb
        exact absurd (Nat.lt_of_lt_of_le (Heap.lt_size g0) I.ok.above) (by rw [z]; exact Nat.lt_irrefl _)
      obtain ⟨sl1, g11⟩ := up11 b _ ((sb b bL).trans g9) hd
      obtain ⟨sl2, g12⟩ := up12 b _ g11 hd
      exact ⟨sl2, g12⟩
end
end L2


set_option Elab.async false
set_option linter.all false
set_option maxRecDepth 100000
set_option maxHeartbeats 4000000
/-! The data of nights, and what every law's proof leans on: no text of a program here -/
namespace FN
open PySem L2

/-! ### small things -/
theorem at0 {α : Type} {x : α} {r : List α} : atI (x :: r) 0 = some x := atI_nat (j := 0) (xs := x :: r) rfl
theorem at1 {α : Type} {x y : α} {r : List α} : atI (x :: y :: r) 1 = some y := atI_nat (j := 1) (xs := x :: y :: r) rfl
theorem at2 {α : Type} {x y z : α} {r : List α} : atI (x :: y :: z :: r) 2 = some z := atI_nat (j := 2) (xs := x :: y :: z :: r) rfl
theorem atI_in {α : Type} {xs : List α} {i : Int} (h0 : 0 ≤ i) (h1 : i < xs.length) : ∃ v, v ∈ xs ∧ atI xs i = some v := by
  have hj : i.toNat < xs.length := by omega
  have e : xs[i.toNat]? = some xs[i.toNat] := List.getElem?_eq_getElem hj
  refine ⟨xs[i.toNat], List.getElem_mem hj, ?_⟩
  have q := atI_nat e
  rwa [show ((i.toNat : Nat) : Int) = i by omega] at q
theorem iteE {c : Bool} {A B : Prop} (h1 : c = true → A) (h2 : c = false → B) : if c = true then A else B := by
  cases c with
  | true => exact h1 rfl
  | false => exact h2 rfl
theorem le_line {n : Nat} (h : n ≤ 1000000) : n ≤ sizeLine := by rw [sizeLine_eq]; omega
theorem lt_line {n : Nat} (h : n ≤ 1000000) : n < sizeLine := by rw [sizeLine_eq]; omega

/-! ### no list inside -/
mutual
def noLst : PyData → Bool
  | .list _ => false
  | .tuple ds => noLsts ds
  | .dict _ => false
  | _ => true
def noLsts : List PyData → Bool
  | [] => true
  | d :: ds => noLst d && noLsts ds
end
theorem noLsts_map {α : Type} {f : α → PyData} (hf : ∀ x, noLst (f x) = true) : ∀ l : List α, noLsts (l.map f) = true
  | [] => rfl
  | x :: r => by
    simp only [List.map_cons, noLsts, Bool.and_eq_true]
    exact ⟨hf x, noLsts_map hf r⟩
section
variable {H : Hp} {D : Addr} {o : HO} {ys : List V}
mutual
theorem dv_upd (hD : H D = some (.lst ys)) : ∀ {d : PyData} {v : V}, DV H d v → noLst d = true → DV (upd H D o) d v
  | _, _, .non, _ => .non
  | _, _, .bl b, _ => .bl b
  | _, _, .int i, _ => .int i
  | _, _, .str x, _ => .str x
  | _, _, .lst _ _, n => by simp [noLst] at n
  | _, _, .tup h t, n => .tup (by rw [upd_ne (ne_of h hD (by intro z; cases z))]; exact h) (dvs_upd hD t (by simpa [noLst] using n))
theorem dvs_upd (hD : H D = some (.lst ys)) : ∀ {ds : List PyData} {vs : List V}, DVs H ds vs → noLsts ds = true → DVs (upd H D o) ds vs
  | _, _, .nil, _ => .nil
  | _, _, .cons h t, n => by
    simp only [noLsts, Bool.and_eq_true] at n
    exact .cons (dv_upd hD h n.1) (dvs_upd hD t n.2)
end
end
section
variable {H H' : Hp}
mutual
/-- all tuples stay -/
theorem dv_but (e : ∀ b vs, H b = some (.tup vs) → H' b = some (.tup vs)) : ∀ {d : PyData} {v : V}, DV H d v → noLst d = true → DV H' d v
  | _, _, .non, _ => .non
  | _, _, .bl b, _ => .bl b
  | _, _, .int i, _ => .int i
  | _, _, .str x, _ => .str x
  | _, _, .lst _ _, n => by simp [noLst] at n
  | _, _, .tup h t, n => .tup (e _ _ h) (dvs_but e t (by simpa [noLst] using n))
theorem dvs_but (e : ∀ b vs, H b = some (.tup vs) → H' b = some (.tup vs)) : ∀ {ds : List PyData} {vs : List V}, DVs H ds vs → noLsts ds = true → DVs H' ds vs
  | _, _, .nil, _ => .nil
  | _, _, .cons h t, n => by
    simp only [noLsts, Bool.and_eq_true] at n
    exact .cons (dv_but e h n.1) (dvs_but e t n.2)
end
end
theorem same_upd {H0 H : Hp} {D : Addr} {o : HO} (e : Same H0 H) (h : H0 D = none) : Same H0 (upd H D o) := fun b u q => by
  rw [upd_ne (ne_of_none q h)]
  exact e b u q
theorem same_new {H : Hp} {D : Addr} {o : HO} (h : H D = none) : Same H (upd H D o) := same_upd (Same.refl H) h

/-! ### laying -/
theorem depthAll_map {α : Type} {f : α → PyData} {n : Nat} (hf : ∀ x, (f x).depth ≤ n) : ∀ l : List α, PyData.depthAll (l.map f) ≤ n
  | [] => by simp [PyData.depthAll]
  | x :: r => by
    simp only [List.map_cons, PyData.depthAll]
    exact Nat.max_le.mpr ⟨hf x, depthAll_map hf r⟩

/-! ### nights -/
abbrev Th := Int × Bool
abbrev Qu := Int × Int × Int
def thD (t : Th) : PyData := .tuple [.int t.1, .bool t.2]
def quD (q : Qu) : PyData := .tuple [.int q.1, .int q.2.1, .int q.2.2]
theorem th_no (t : Th) : noLst (thD t) = true := rfl
theorem qu_no (q : Qu) : noLst (quD q) = true := rfl
theorem th_can (t : Th) : (thD t).canLay0 = true := by simp [thD, PyData.canLay0, PyData.canLayAll0]
theorem qu_can (q : Qu) : (quD q).canLay0 = true := by simp [quD, PyData.canLay0, PyData.canLayAll0]
theorem th_dp (t : Th) : (thD t).depth ≤ 5 := by simp [thD, PyData.depth, PyData.depthAll]
theorem qu_dp (q : Qu) : (quD q).depth ≤ 5 := by simp [quD, PyData.depth, PyData.depthAll]
section
variable {H : Hp}
theorem th_dv {t : Th} {b : Addr} (h : H b = some (.tup [.int t.1, .bl t.2])) : DV H (thD t) (.ref b) := .tup h (.cons (.int _) (.cons (.bl _) .nil))
theorem qu_dv {q : Qu} {b : Addr} (h : H b = some (.tup [.int q.1, .int q.2.1, .int q.2.2])) : DV H (quD q) (.ref b) := .tup h (.cons (.int _) (.cons (.int _) (.cons (.int _) .nil)))
theorem th_inv {t : Th} {v : V} (h : DV H (thD t) v) : ∃ b, v = .ref b ∧ H b = some (.tup [.int t.1, .bl t.2]) := by
  obtain ⟨a, vs, rfl, e, q⟩ := h.tup_inv
  obtain ⟨v, w, rfl, h1, h2⟩ := q.two_inv
  cases h1.int_inv
  cases h2.bl_inv
  exact ⟨a, rfl, e⟩
theorem qu_inv {q : Qu} {v : V} (h : DV H (quD q) v) : ∃ b, v = .ref b ∧ H b = some (.tup [.int q.1, .int q.2.1, .int q.2.2]) := by
  obtain ⟨a, vs, rfl, e, q⟩ := h.tup_inv
  obtain ⟨v, w, u, rfl, h1, h2, h3⟩ := q.three_inv
  cases h1.int_inv
  cases h2.int_inv
  cases h3.int_inv
  exact ⟨a, rfl, e⟩
theorem dvs_get {α : Type} {f : α → PyData} {l : List α} {vs : List V} {i : Nat} {v : V} (h : DVs H (l.map f) vs) (e : vs[i]? = some v) : ∃ x, l[i]? = some x ∧ DV H (f x) v := by
  obtain ⟨d, h1, h2⟩ := h.get' e
  rw [List.getElem?_map] at h1
  cases q : l[i]? with
  | none => rw [q] at h1; cases h1
  | some x =>
    rw [q] at h1
    cases h1
    exact ⟨x, rfl, h2⟩
theorem dvs_len {α : Type} {f : α → PyData} {l : List α} {vs : List V} (h : DVs H (l.map f) vs) : vs.length = l.length := by
  have := h.length
  rw [List.length_map] at this
  exact this.symm
end
/-- what is known of a quarrel in a night of n things -/
structure OkQ (n : Int) (q : Qu) : Prop where
  a0 : 0 ≤ q.1
  a1 : q.1 < n
  b0 : 0 ≤ q.2.1
  b1 : q.2.1 < n
  ab : q.1 ≠ q.2.1
  k : q.2.2 = -1 ∨ (0 ≤ q.2.2 ∧ q.2.2 < n ∧ q.2.2 ≠ q.1 ∧ q.2.2 ≠ q.2.1)
structure OkT (ts : List Th) : Prop where
  l1 : 1 ≤ ts.length
  l6 : ts.length ≤ 6
  p : ∀ t ∈ ts, 1 ≤ t.1 ∧ t.1 ≤ 1000000000
/-- the list at a holds ts (as thD, quD tell) -/
def LstAt {α : Type} (f : α → PyData) (H : Hp) (a : Addr) (l : List α) : Prop := ∃ vs, H a = some (.lst vs) ∧ DVs H (l.map f) vs
def TupAt {α : Type} (f : α → PyData) (H : Hp) (a : Addr) (l : List α) : Prop := ∃ vs, H a = some (.tup vs) ∧ DVs H (l.map f) vs
section
variable {α : Type} {f : α → PyData} {H H' : Hp} {a : Addr} {l : List α}
theorem LstAt.mono (h : LstAt f H a l) (e : Same H H') : LstAt f H' a l := let ⟨vs, h1, h2⟩ := h; ⟨vs, e _ _ h1, h2.mono e⟩
theorem TupAt.mono (h : TupAt f H a l) (e : Same H H') : TupAt f H' a l := let ⟨vs, h1, h2⟩ := h; ⟨vs, e _ _ h1, h2.mono e⟩
theorem LstAt.dv (h : LstAt f H a l) : DV H (.list (l.map f)) (.ref a) := let ⟨_, h1, h2⟩ := h; .lst h1 h2
theorem TupAt.dv (h : TupAt f H a l) : DV H (.tuple (l.map f)) (.ref a) := let ⟨_, h1, h2⟩ := h; .tup h1 h2
end

/-! ### peace -/
def bad (g : List Int) (q : Qu) : Bool := g.contains q.1 && g.contains q.2.1 && !g.contains q.2.2
def peace (qs : List Qu) (g : List Int) : Bool := !(qs.any (bad g))
/-! ### a group by its number -/
def bitsFrom : Nat → Int → Int → List Int
  | 0, _, _ => []
  | k + 1, t, num => (if num % 2 = 1 then [t] else []) ++ bitsFrom k (t + 1) (num / 2)
def bits (n : Nat) (num : Int) : List Int := bitsFrom n 0 num
def groups (n : Nat) : List (List Int) := (till (2 ^ n)).map (bits n)
def grD (g : List Int) : PyData := .tuple (g.map PyData.int)
/-! ### a quarrel drawn -/
theorem drawn_ok (cell : Int) (n : Nat) (h2 : 2 ≤ n) (h6 : n ≤ 6) : 0 ≤ cell % (n : Int) ∧ cell % (n : Int) < n ∧ 0 ≤ (cell % (n : Int) + 1 + cell / (n : Int) % ((n : Int) - 1)) % (n : Int) ∧
    (cell % (n : Int) + 1 + cell / (n : Int) % ((n : Int) - 1)) % (n : Int) < n ∧ cell % (n : Int) ≠ (cell % (n : Int) + 1 + cell / (n : Int) % ((n : Int) - 1)) % (n : Int) := by
  have c : n = 2 ∨ n = 3 ∨ n = 4 ∨ n = 5 ∨ n = 6 := by omega
  rcases c with rfl | rfl | rfl | rfl | rfl <;> omega
theorem prod_ok (n : Nat) (h2 : 2 ≤ n) (h6 : n ≤ 6) : (0 : Int) < (n : Int) * ((n : Int) - 1) ∧ (n : Int) * ((n : Int) - 1) < 1073741824 := by
  have c : n = 2 ∨ n = 3 ∨ n = 4 ∨ n = 5 ∨ n = 6 := by omega
  rcases c with rfl | rfl | rfl | rfl | rfl <;> decide

/-! ### the context of a def's body, what is wanted of it -/
abbrev bX (P : Program) (w : World) (K : PySem.W.Frag) (mg : Str → Option Value) (base : Heap) (N : List Str) (qual : Str) (st : Stmt) (f : Addr) (cdv : Value) (A : Around) (outer : List Env) (s : Shared) (H : Hp) (E : XK) : Cx :=
  (cxOf CX0 P w K mg base N qual (defScope st) f cdv A outer s H E).nox
abbrev bD (Q : VK) : Ends := { nx := fun _ H' => Q .non H', rt := Q }

/-! ### a def of the text by its name in the module -/
structure Fn (K : PySem.W.Frag) (mg : Str → Option Value) (x : Str) (st : Stmt) (f : Addr) (fd : FuncData) (ps : List Str) : Prop where
  fn : Fun K x x st f fd
  b : Binds K fd ps []
  g : mg x = some (.ref f)
/-- a method -/
structure Mt (K : PySem.W.Frag) (x qual : Str) (st : Stmt) (f : Addr) (fd : FuncData) (ps : List Str) : Prop where
  fn : Fun K x qual st f fd
  b : Binds K fd ps []
end FN


set_option Elab.async false
set_option linter.all false
set_option maxRecDepth 100000
/-! TEXTS as words and lines (pure) -/
namespace WD
open PySem
theorem cut_one {c : Nat} : ∀ {t p r s : List Nat}, c ∉ t → c ∉ p → t ++ c :: r = p ++ c :: s → t = p ∧ r = s
  | [], [], r, s, _, _, e => by simpa using e
  | [], y :: p, r, s, _, hp, e => by
    injection e with e1 e2
    exact absurd (List.mem_cons.mpr (.inl e1)) hp
  | x :: t, [], r, s, ht, _, e => by
    injection e with e1 e2
    exact absurd (List.mem_cons.mpr (.inl e1.symm)) ht
  | x :: t, y :: p, r, s, ht, hp, e => by
    injection e with e1 e2
    obtain ⟨h1, h2⟩ := cut_one (fun z => ht (List.mem_cons_of_mem _ z)) (fun z => hp (List.mem_cons_of_mem _ z)) e2
    exact ⟨by rw [e1, h1], h2⟩
theorem list_append (x y : Str) : (x ++ y).cps.toList = x.cps.toList ++ y.cps.toList := by
  show (x.cps ++ y.cps).toList = _
  simp
theorem str_eq {x y : Str} (h : x.cps.toList = y.cps.toList) : x = y := by
  cases x; cases y
  congr
  exact Array.toList_inj.mp h
theorem list_join1 (c : Nat) (p q : Str) (r : List Str) : (Str.join ⟨#[c]⟩ (p :: q :: r)).cps.toList = p.cps.toList ++ c :: (Str.join ⟨#[c]⟩ (q :: r)).cps.toList := by
  show (p ++ ⟨#[c]⟩ ++ Str.join ⟨#[c]⟩ (q :: r)).cps.toList = _
  rw [list_append, list_append]
  simp
theorem split_ne (x y : Str) : Txt.split x y ≠ [] := by
  have h := StrLaws.join_split x y
  unfold Txt.split
  split
  · simp
  · split
    · simp
    · rw [StrLaws.partsBetween_eq]
      intro z
      obtain ⟨p, q, e⟩ := StrLaws.partsFrom_ne x y.length 0 (Builtin.Str.occurrences x y 0 x.length (x.length + 1))
      rw [e] at z
      cases z
theorem starts_iff (x y : Str) : Txt.startswith x y = true ↔ ∃ r, x.cps.toList = y.cps.toList ++ r := by
  unfold Txt.startswith
  rw [StrLaws.subAt_eq]
  have hy : y.cps.toList.length = y.length := Array.length_toList
  have hx : x.cps.toList.length = x.length := Array.length_toList
  simp only [Bool.and_eq_true, decide_eq_true_eq, beq_iff_eq, List.drop_zero, Nat.zero_add]
  constructor
  · rintro ⟨_, h⟩
    exact ⟨x.cps.toList.drop y.length, by rw [← h, List.take_append_drop]⟩
  · rintro ⟨r, e⟩
    refine ⟨?_, by rw [e, ← hy]; simp⟩
    rw [← hx, ← hy, e]; simp
theorem ends_iff (x y : Str) : Txt.endswith x y = true ↔ ∃ r, x.cps.toList = r ++ y.cps.toList := by
  unfold Txt.endswith
  rw [StrLaws.subAt_eq]
  have hy : y.cps.toList.length = y.length := Array.length_toList
  have hx : x.cps.toList.length = x.length := Array.length_toList
  simp only [Bool.and_eq_true, decide_eq_true_eq, beq_iff_eq, Nat.zero_add]
  constructor
  · rintro ⟨hle, h⟩
    refine ⟨x.cps.toList.take (x.length - y.length), ?_⟩
    rw [List.take_of_length_le (by rw [List.length_drop, hx]; omega)] at h
    conv => lhs; rw [← List.take_append_drop (x.length - y.length) x.cps.toList, h]
  · rintro ⟨r, e⟩
    have hl : x.length = r.length + y.length := by rw [← hx, ← hy, e]; simp
    refine ⟨by omega, ?_⟩
    rw [e, show x.length - y.length = r.length by omega, List.drop_left, ← hy, List.take_length]
/-- the first part of a text, and whether there is a second -/
theorem starts_split (x t : Str) (c : Nat) (ht : c ∉ t.cps.toList) : Txt.startswith x (t ++ ⟨#[c]⟩) = true ↔ (Txt.split x ⟨#[c]⟩)[0]? = some t ∧ 2 ≤ (Txt.split x ⟨#[c]⟩).length := by
  have hj := StrLaws.join_split x ⟨#[c]⟩
  have hf := StrLaws.split_free x c
  have hne := split_ne x ⟨#[c]⟩
  rw [starts_iff, list_append]
  generalize Txt.split x ⟨#[c]⟩ = ps at hj hf hne ⊢
  cases ps with
  | nil => exact absurd rfl hne
  | cons p ps =>
    have hp := hf p List.mem_cons_self
    cases ps with
    | nil =>
      have e : p = x := hj
      subst e
      constructor
      · rintro ⟨r, e⟩
        exact absurd (by rw [e]; simp) hp
      · rintro ⟨_, h⟩
        simp at h
    | cons q ps =>
      rw [← hj, list_join1]
      constructor
      · rintro ⟨r, e⟩
        have e' : t.cps.toList ++ c :: r = p.cps.toList ++ c :: (Str.join ⟨#[c]⟩ (q :: ps)).cps.toList := by rw [e]; simp
        obtain ⟨h1, _⟩ := cut_one ht hp e'
        exact ⟨by rw [str_eq h1]; rfl, by simp⟩
      · rintro ⟨h1, _⟩
        have e : p = t := by simpa using h1
        subst e
        exact ⟨(Str.join ⟨#[c]⟩ (q :: ps)).cps.toList, by simp⟩
/-- the last part of a text -/
theorem ends_split (x : Str) (c : Nat) : Txt.endswith x ⟨#[c]⟩ = true ↔ (Txt.split x ⟨#[c]⟩).getLast? = some ⟨#[]⟩ ∧ 2 ≤ (Txt.split x ⟨#[c]⟩).length := by
  have hj := StrLaws.join_split x ⟨#[c]⟩
  have hf := StrLaws.split_free x c
  have hne := split_ne x ⟨#[c]⟩
  rw [ends_iff]
  generalize Txt.split x ⟨#[c]⟩ = ps at hj hf hne ⊢
  subst hj
  have nl : ∀ p : Str, c ∉ p.cps.toList → p ≠ ⟨#[]⟩ → ∀ l r : List Nat, l ++ p.cps.toList ≠ r ++ [c] := fun p hp pe l r e => by
    rcases List.eq_nil_or_concat p.cps.toList with z | ⟨a, b, z⟩
    · exact pe (str_eq z)
    · rw [z, List.concat_eq_append, ← List.append_assoc] at e
      obtain ⟨_, e2⟩ := List.append_inj' e rfl
      injection e2 with e3 _
      apply hp
      rw [z, List.concat_eq_append, e3]; simp
  have key : ∀ ps : List Str, ps ≠ [] → (∀ p ∈ ps, c ∉ p.cps.toList) → ((∃ r, (Str.join ⟨#[c]⟩ ps).cps.toList = r ++ [c]) ↔ ps.getLast? = some ⟨#[]⟩ ∧ 2 ≤ ps.length) ∧ ∀ l, 2 ≤ ps.length → ((∃ r, l ++ (Str.join ⟨#[c]⟩ ps).cps.toList = r ++ [c]) ↔ ps.getLast? = some ⟨#[]⟩) := by
    intro ps
    induction ps with
    | nil => intro h; exact absurd rfl h
    | cons p ps ih =>
      intro _ hf
      cases ps with
      | nil =>
        refine ⟨⟨fun ⟨r, e⟩ => ?_, fun ⟨_, h⟩ => by simp at h⟩, fun l h => by simp at h⟩
        exact absurd (show c ∈ p.cps.toList by rw [show p.cps.toList = r ++ [c] from e]; simp) (hf p List.mem_cons_self)
      | cons q ps =>
        obtain ⟨ih1, ih2⟩ := ih (by simp) fun p hp => hf p (List.mem_cons_of_mem _ hp)
        have gen : ∀ l, (∃ r, l ++ (Str.join ⟨#[c]⟩ (p :: q :: ps)).cps.toList = r ++ [c]) ↔ (p :: q :: ps).getLast? = some ⟨#[]⟩ := by
          intro l
          rw [list_join1, List.getLast?_cons_cons]
          cases ps with
          | nil =>
            show (∃ r, l ++ (p.cps.toList ++ c :: q.cps.toList) = r ++ [c]) ↔ some q = some ⟨#[]⟩
            constructor
            · rintro ⟨r, e⟩
              by_cases z : q = ⟨#[]⟩
              · rw [z]
              · exact absurd (show (l ++ p.cps.toList ++ [c]) ++ q.cps.toList = r ++ [c] by rw [← e]; simp) (nl q (hf q (by simp)) z _ _)
            · intro z
              have : q = ⟨#[]⟩ := by simpa using z
              subst this
              exact ⟨l ++ p.cps.toList, by simp⟩
          | cons q2 ps =>
            rw [← ih2 (l ++ p.cps.toList ++ [c]) (by simp)]
            constructor
            · rintro ⟨r, e⟩; exact ⟨r, by rw [← e]; simp⟩
            · rintro ⟨r, e⟩; exact ⟨r, by rw [← e]; simp⟩
        refine ⟨?_, fun l _ => gen l⟩
        have := gen []
        rw [List.nil_append] at this
        rw [this]
        simp
  exact (key ps hne hf).1
theorem split_empty (x : Str) (c : Nat) : Txt.split x ⟨#[c]⟩ = [⟨#[]⟩] ↔ x = ⟨#[]⟩ := by
  have hj := StrLaws.join_split x ⟨#[c]⟩
  have hne := split_ne x ⟨#[c]⟩
  constructor
  · intro e
    rw [e] at hj
    exact hj.symm
  · intro e
    generalize Txt.split x ⟨#[c]⟩ = ps at hj hne ⊢
    cases ps with
    | nil => exact absurd rfl hne
    | cons p ps =>
      cases ps with
      | nil =>
        have : p = x := hj
        rw [this, e]
      | cons q ps =>
        have h := list_join1 c p q ps
        rw [hj, e] at h
        simp at h
end WD
namespace WD
open PySem FN
def wds (x : Str) : List Str := Txt.split x ⟨#[32]⟩
def lns (x : Str) : List Str := Txt.split x ⟨#[10]⟩
def val (w : Str) : Int := ((w.cps.toList.foldl (fun acc c => acc * 10 + (c - 48)) 0 : Nat) : Int)
theorem val_nn (w : Str) : 0 ≤ val w := Int.natCast_nonneg _
def figs : Str := "0123456789"
def fig (c : Nat) : Bool := !(Builtin.Str.occurrences figs ⟨#[c]⟩ 0 figs.length 1).isEmpty
theorem fig_iff (c : Nat) : fig c = true ↔ 48 ≤ c ∧ c ≤ 57 := by
  unfold fig
  rw [StrLaws.found_iff]
  constructor
  · rintro ⟨i, h⟩
    have h := (StrLaws.subAt_one figs c i).mp h
    have e : figs.cps.toList = [48, 49, 50, 51, 52, 53, 54, 55, 56, 57] := rfl
    rw [e] at h
    have hm := List.mem_of_getElem? h
    simp at hm
    omega
  · intro h
    refine ⟨c - 48, (StrLaws.subAt_one figs c (c - 48)).mpr ?_⟩
    have e : figs.cps.toList = [48, 49, 50, 51, 52, 53, 54, 55, 56, 57] := rfl
    rw [e]
    have : c = 48 ∨ c = 49 ∨ c = 50 ∨ c = 51 ∨ c = 52 ∨ c = 53 ∨ c = 54 ∨ c = 55 ∨ c = 56 ∨ c = 57 := by omega
    rcases this with rfl | rfl | rfl | rfl | rfl | rfl | rfl | rfl | rfl | rfl <;> rfl
/-- a number as the notes write it -/
def isNum (w : Str) : Bool := decide (w = "0") || (decide (1 ≤ w.length) && decide (w.length ≤ 10) && !decide (w.cps.toList[0]? = some 48) && w.cps.toList.all fig)
def lawNum (w : Str) (most : Int) : Int := if isNum w = true ∧ val w ≤ most then val w else -1
theorem len_toList (w : Str) : w.cps.toList.length = w.length := Array.length_toList
theorem isNum_law (w : Str) : isNum w = true ↔ (1 ≤ w.length ∧ w.length ≤ 10 ∧ ¬ (1 < w.length ∧ w.cps.toList[0]? = some 48)) ∧ w.cps.toList.all fig = true := by
  have hl := len_toList w
  unfold isNum
  simp only [Bool.or_eq_true, Bool.and_eq_true, decide_eq_true_eq, Bool.not_eq_true', decide_eq_false_iff_not]
  constructor
  · rintro (e | ⟨⟨⟨h1, h2⟩, h3⟩, h4⟩)
    · subst e
      refine ⟨⟨by decide, by decide, fun h => absurd h.1 (by decide)⟩, ?_⟩
      rw [show (("0" : Str).cps.toList) = [48] from rfl, List.all_cons, (fig_iff 48).mpr ⟨by omega, by omega⟩]
      rfl
    · exact ⟨⟨h1, h2, fun h => h3 h.2⟩, h4⟩
  · rintro ⟨⟨h1, h2, h3⟩, h4⟩
    by_cases h5 : w.cps.toList[0]? = some 48
    · left
      apply str_eq
      have hlen : w.cps.toList.length = 1 := by
        rw [hl]
        have : ¬ 1 < w.length := fun z => h3 ⟨z, h5⟩
        omega
      obtain ⟨x, hx⟩ := List.length_eq_one_iff.mp hlen
      rw [hx] at h5 ⊢
      have : x = 48 := by simpa using h5
      rw [this]
      rfl
    · exact .inr ⟨⟨⟨h1, h2⟩, h5⟩, h4⟩
theorem isNum_digits {w : Str} (h : isNum w = true) : (∀ c ∈ w.cps.toList, 48 ≤ c ∧ c ≤ 57) ∧ w.cps.toList ≠ [] ∧ w.length ≤ 10 := by
  obtain ⟨⟨h1, h2, _⟩, h4⟩ := (isNum_law w).mp h
  refine ⟨fun c hc => (fig_iff c).mp (List.all_eq_true.mp h4 c hc), fun e => ?_, h2⟩
  have := len_toList w
  rw [e] at this
  simp at this
  omega
def boatOf : List Str → Option Int
  | [a, b] => if a = "boat" ∧ isNum b = true then some (val b) else none
  | _ => none
def thingOf : List Str → Option Th
  | [a, b, c] => if a = "thing" ∧ (c = "rows" ∨ c = "sits") ∧ isNum b = true then some (val b, decide (c = "rows")) else none
  | _ => none
def quarrelOf : List Str → Option Qu
  | [a, b, c, d] => if a = "quarrel" ∧ isNum b = true ∧ isNum c = true ∧ (d = "-" ∨ isNum d = true) then some (val b, val c, if d = "-" then -1 else val d) else none
  | _ => none
/-- the lines behind the first, as the program reads them -/
def loop : List (List Str) → List Th → List Qu → Option (List Th × List Qu)
  | [], ts, qs => some (ts, qs)
  | ws :: r, ts, qs => if (ws[0]? = some ("thing" : Str) ∧ 2 ≤ ws.length) ∧ qs = [] then (thingOf ws).bind fun t => loop r (ts ++ [t]) qs else (quarrelOf ws).bind fun q => loop r ts (qs ++ [q])
theorem loop_thing {ws : List Str} {r : List (List Str)} {ts : List Th} {qs : List Qu} (h : (ws[0]? = some ("thing" : Str) ∧ 2 ≤ ws.length) ∧ qs = []) : loop (ws :: r) ts qs = (thingOf ws).bind fun t => loop r (ts ++ [t]) qs := by
  rw [loop, if_pos h]
theorem loop_quarrel {ws : List Str} {r : List (List Str)} {ts : List Th} {qs : List Qu} (h : ¬ ((ws[0]? = some ("thing" : Str) ∧ 2 ≤ ws.length) ∧ qs = [])) : loop (ws :: r) ts qs = (quarrelOf ws).bind fun q => loop r ts (qs ++ [q]) := by
  rw [loop, if_neg h]
structure OkN (n : Int) (ts : List Th) (qs : List Qu) : Prop where
  t : OkT ts
  r1 : 1 ≤ n
  r3 : n ≤ 3
  l : qs.length ≤ 30
  q : ∀ q ∈ qs, OkQ ts.length q
open Classical in
noncomputable def endN (n : Int) (p : List Th × List Qu) : Option (List Th × Int × List Qu) := if OkN n p.1 p.2 then some (p.1, n, p.2) else none
theorem endN_pos {n : Int} {p : List Th × List Qu} (h : OkN n p.1 p.2) : endN n p = some (p.1, n, p.2) := by unfold endN; rw [if_pos h]
theorem endN_neg {n : Int} {p : List Th × List Qu} (h : ¬ OkN n p.1 p.2) : endN n p = none := by unfold endN; rw [if_neg h]
noncomputable def rdL (L : List (List Str)) : Option (List Th × Int × List Qu) :=
  (boatOf (L.getD 0 [])).bind fun n => (loop L.tail [] []).bind fun p => endN n p
noncomputable def rd (text : Str) : Option (List Th × Int × List Qu) := if Txt.endswith text ⟨#[10]⟩ = true then rdL ((lns text).dropLast.map wds) else none
/-! the same, as the law tells it -/
def isTh (ws : List Str) : Bool := decide (ws.length = 3) && decide (ws[0]? = some ("thing" : Str))
def lawThing (ws : List Str) : Option Th :=
  if lawNum (ws.getD 1 "") 1000000000 < 1 ∨ ¬ (ws.getD 2 "" = "rows" ∨ ws.getD 2 "" = "sits") then none else some (lawNum (ws.getD 1 "") 1000000000, decide (ws.getD 2 "" = "rows"))
def num2 (ws : List Str) (m : Int) : Int := if ws.getD 3 "" = "-" then m else lawNum (ws.getD 3 "") (m - 1)
def lawQuarrel (m : Int) (ws : List Str) : Option Qu :=
  if (lawNum (ws.getD 1 "") (m - 1) < 0 ∨ lawNum (ws.getD 2 "") (m - 1) < 0 ∨ num2 ws m < 0) ∨ (lawNum (ws.getD 1 "") (m - 1) = lawNum (ws.getD 2 "") (m - 1) ∨ lawNum (ws.getD 1 "") (m - 1) = num2 ws m ∨ lawNum (ws.getD 2 "") (m - 1) = num2 ws m) then none
  else some (lawNum (ws.getD 1 "") (m - 1), lawNum (ws.getD 2 "") (m - 1), if ws.getD 3 "" = "-" then -1 else num2 ws m)
def isQu (ws : List Str) : Bool := decide (ws.length = 4) && decide (ws[0]? = some ("quarrel" : Str))
def dueR (n : Int) (rest : List (List Str)) : Option (List Th × Int × List Qu) :=
  if ((rest.takeWhile isTh).length < 1 ∨ 6 < (rest.takeWhile isTh).length) ∨ none ∈ (rest.takeWhile isTh).map lawThing ∨ 30 < (rest.dropWhile isTh).length then none else
  if ¬ ((rest.dropWhile isTh).all isQu = true) ∨ none ∈ (rest.dropWhile isTh).map (lawQuarrel ((rest.takeWhile isTh).length : Nat)) then none else
  some ((rest.takeWhile isTh).filterMap lawThing, n, (rest.dropWhile isTh).filterMap (lawQuarrel ((rest.takeWhile isTh).length : Nat)))
def dueL (L : List (List Str)) : Option (List Th × Int × List Qu) :=
  if L.getLast? ≠ some [("" : Str)] ∨ (L.getD 0 []).length ≠ 2 ∨ (L.getD 0 []).getD 0 "" ≠ "boat" ∨ lawNum ((L.getD 0 []).getD 1 "") 3 < 1 then none else dueR (lawNum ((L.getD 0 []).getD 1 "") 3) L.tail.dropLast
def due (text : Str) : Option (List Th × Int × List Qu) := dueL ((lns text).map wds)
theorem tw_take {α : Type} (p : α → Bool) (l : List α) : l.take (l.takeWhile p).length = l.takeWhile p := by
  conv => lhs; arg 2; rw [← List.takeWhile_append_dropWhile (p := p) (l := l)]
  rw [List.take_left]
theorem tw_drop {α : Type} (p : α → Bool) (l : List α) : l.drop (l.takeWhile p).length = l.dropWhile p := by
  conv => lhs; arg 2; rw [← List.takeWhile_append_dropWhile (p := p) (l := l)]
  rw [List.drop_left]
/-! they agree -/
theorem loop_q (r : List (List Str)) : ∀ (ts : List Th) (qs : List Qu), qs ≠ [] → loop r ts qs = if none ∈ r.map quarrelOf then none else some (ts, qs ++ r.filterMap quarrelOf) := by
  induction r with
  | nil => intro ts qs _; simp [loop]
  | cons ws r ih =>
    intro ts qs hq
    unfold loop
    rw [if_neg (fun z => hq z.2)]
    cases e : quarrelOf ws with
    | none => simp [e]
    | some q =>
      rw [Option.bind_some, ih ts (qs ++ [q]) (by simp)]
      simp [e, List.append_assoc]
theorem quarrel_no {ws : List Str} (h : ws[0]? = some ("thing" : Str)) : quarrelOf ws = none := by
  unfold quarrelOf
  split
  · rename_i a b c d
    have e : a = "thing" := by simpa using h
    rw [if_neg]
    rintro ⟨z, _⟩
    rw [e] at z
    exact absurd z (by decide)
  · rfl
theorem thing_no {ws : List Str} (h : ws.length ≠ 3) : thingOf ws = none := by
  unfold thingOf
  split
  · exact absurd rfl h
  · rfl
theorem loop_t (r : List (List Str)) : ∀ (ts : List Th), loop r ts [] = if none ∈ (r.takeWhile isTh).map thingOf ∨ none ∈ (r.dropWhile isTh).map quarrelOf then none else some (ts ++ (r.takeWhile isTh).filterMap thingOf, (r.dropWhile isTh).filterMap quarrelOf) := by
  induction r with
  | nil => intro ts; simp [loop]
  | cons ws r ih =>
    intro ts
    unfold loop
    by_cases h : ws[0]? = some ("thing" : Str) ∧ 2 ≤ ws.length
    · rw [if_pos ⟨h, rfl⟩]
      by_cases h3 : ws.length = 3
      · have ht : isTh ws = true := by unfold isTh; rw [decide_eq_true h3, decide_eq_true h.1]; rfl
        rw [List.takeWhile_cons_of_pos ht, List.dropWhile_cons_of_pos ht]
        cases e : thingOf ws with
        | none => simp [e]
        | some t =>
          rw [Option.bind_some, ih (ts ++ [t])]
          simp [e, List.append_assoc]
      · have ht : ¬ isTh ws = true := by unfold isTh; simp [h3]
        rw [List.takeWhile_cons_of_neg ht, List.dropWhile_cons_of_neg ht, thing_no h3]
        simp [quarrel_no h.1]
    · rw [if_neg (fun z => h z.1)]
      have ht : ¬ isTh ws = true := by
        unfold isTh
        simp only [Bool.and_eq_true, decide_eq_true_eq]
        rintro ⟨z1, z2⟩
        exact h ⟨z2, by omega⟩
      rw [List.takeWhile_cons_of_neg ht, List.dropWhile_cons_of_neg ht]
      cases e : quarrelOf ws with
      | none => simp [e]
      | some q =>
        rw [Option.bind_some, loop_q r ts ([] ++ [q]) (by simp)]
        simp [e]
theorem lawThing_iff {ws : List Str} (h : isTh ws = true) (t : Th) : lawThing ws = some t ↔ thingOf ws = some t ∧ 1 ≤ t.1 ∧ t.1 ≤ 1000000000 := by
  unfold isTh at h
  simp only [Bool.and_eq_true, decide_eq_true_eq] at h
  obtain ⟨h3, h0⟩ := h
  match ws, h3 with
  | [a, b, c], _ =>
    have ha : a = "thing" := by simpa using h0
    have g1 : [a, b, c].getD 1 "" = b := rfl
    have g2 : [a, b, c].getD 2 "" = c := rfl
    have hv := val_nn b
    have L : lawNum b 1000000000 = if isNum b = true ∧ val b ≤ 1000000000 then val b else -1 := rfl
    unfold lawThing
    rw [g1, g2]
    show _ ↔ (if a = "thing" ∧ (c = "rows" ∨ c = "sits") ∧ isNum b = true then some (val b, decide (c = "rows")) else none) = some t ∧ 1 ≤ t.1 ∧ t.1 ≤ 1000000000
    by_cases hb : isNum b = true ∧ val b ≤ 1000000000
    · rw [if_pos hb] at L
      rw [L]
      by_cases hc : c = "rows" ∨ c = "sits"
      · rw [if_pos (⟨ha, hc, hb.1⟩ : a = "thing" ∧ (c = "rows" ∨ c = "sits") ∧ isNum b = true)]
        by_cases h1 : val b < 1
        · rw [if_pos (Or.inl h1)]
          constructor
          · intro e; cases e
          · rintro ⟨e, p, _⟩
            cases e
            exact absurd p (by show ¬ 1 ≤ val b; omega)
        · rw [if_neg (by rintro (z | z); exact h1 z; exact z hc)]
          constructor
          · intro e
            refine ⟨e, ?_⟩
            cases e
            exact ⟨by show 1 ≤ val b; omega, hb.2⟩
          · exact fun h => h.1
      · rw [if_pos (Or.inr hc), if_neg (fun z => hc z.2.1)]
        simp
    · rw [if_neg hb] at L
      rw [L, if_pos (Or.inl (by decide))]
      constructor
      · intro e; cases e
      · rintro ⟨e, p1, p2⟩
        by_cases hx : a = "thing" ∧ (c = "rows" ∨ c = "sits") ∧ isNum b = true
        · rw [if_pos hx] at e
          cases e
          exact absurd ⟨hx.2.2, p2⟩ hb
        · rw [if_neg hx] at e
          cases e
theorem lawQuarrel_iff {ws : List Str} (h : isQu ws = true) (m : Nat) (q : Qu) : lawQuarrel (m : Int) ws = some q ↔ quarrelOf ws = some q ∧ OkQ m q := by
  unfold isQu at h
  simp only [Bool.and_eq_true, decide_eq_true_eq] at h
  obtain ⟨h3, h0⟩ := h
  match ws, h3 with
  | [a, b, c, d], _ =>
    have ha : a = "quarrel" := by simpa using h0
    have g1 : [a, b, c, d].getD 1 "" = b := rfl
    have g2 : [a, b, c, d].getD 2 "" = c := rfl
    have g3 : [a, b, c, d].getD 3 "" = d := rfl
    unfold lawQuarrel num2
    rw [g1, g2, g3]
    show _ ↔ (if a = "quarrel" ∧ isNum b = true ∧ isNum c = true ∧ (d = "-" ∨ isNum d = true) then some (val b, val c, if d = "-" then -1 else val d) else none) = some q ∧ OkQ m q
    have vb := val_nn b
    have vc := val_nn c
    have vd := val_nn d
    have LB : lawNum b ((m : Int) - 1) = if isNum b = true ∧ val b ≤ (m : Int) - 1 then val b else -1 := rfl
    have LC : lawNum c ((m : Int) - 1) = if isNum c = true ∧ val c ≤ (m : Int) - 1 then val c else -1 := rfl
    have LD : lawNum d ((m : Int) - 1) = if isNum d = true ∧ val d ≤ (m : Int) - 1 then val d else -1 := rfl
    have nope : (∀ q', a = "quarrel" ∧ isNum b = true ∧ isNum c = true ∧ (d = "-" ∨ isNum d = true) → q' = (val b, val c, if d = "-" then -1 else val d) → OkQ m q' → False) →
        ((none : Option Qu) = some q ↔ (if a = "quarrel" ∧ isNum b = true ∧ isNum c = true ∧ (d = "-" ∨ isNum d = true) then some (val b, val c, if d = "-" then -1 else val d) else none) = some q ∧ OkQ m q) := by
      intro hno
      constructor
      · intro e; cases e
      · rintro ⟨e, ok⟩
        by_cases hx : a = "quarrel" ∧ isNum b = true ∧ isNum c = true ∧ (d = "-" ∨ isNum d = true)
        · rw [if_pos hx] at e
          exact (hno q hx (Option.some.inj e).symm ok).elim
        · rw [if_neg hx] at e
          cases e
    by_cases hb : isNum b = true ∧ val b ≤ (m : Int) - 1
    · rw [if_pos hb] at LB
      by_cases hc : isNum c = true ∧ val c ≤ (m : Int) - 1
      · rw [if_pos hc] at LC
        rw [LB, LC]
        by_cases hd : d = "-"
        · rw [if_pos hd, if_pos hd]
          by_cases hbc : val b = val c
          · rw [if_pos (by omega)]
            exact nope fun q' _ e ok => ok.ab (by rw [e]; exact hbc)
          · rw [if_neg (by omega), if_pos ⟨ha, hb.1, hc.1, .inl hd⟩, if_pos hd]
            constructor
            · intro e
              refine ⟨e, ?_⟩
              cases e
              exact ⟨vb, by show val b < m; omega, vc, by show val c < m; omega, hbc, .inl rfl⟩
            · exact fun h => h.1
        · rw [if_neg hd, if_neg hd]
          by_cases he : isNum d = true ∧ val d ≤ (m : Int) - 1
          · rw [if_pos he] at LD
            rw [LD]
            by_cases hall : val b = val c ∨ val b = val d ∨ val c = val d
            · rw [if_pos (.inr hall)]
              refine nope fun q' _ e ok => ?_
              rw [if_neg hd] at e
              subst e
              have e1 : val b ≠ val c := ok.ab
              have e2 : val d = -1 ∨ (0 ≤ val d ∧ val d < m ∧ val d ≠ val b ∧ val d ≠ val c) := ok.k
              omega
            · rw [if_neg (by omega), if_pos ⟨ha, hb.1, hc.1, .inr he.1⟩, if_neg hd]
              constructor
              · intro e
                refine ⟨e, ?_⟩
                cases e
                exact ⟨vb, by show val b < m; omega, vc, by show val c < m; omega, by show val b ≠ val c; omega, .inr ⟨vd, by show val d < m; omega, by show val d ≠ val b; omega, by show val d ≠ val c; omega⟩⟩
              · exact fun h => h.1
          · rw [if_neg he] at LD
            rw [LD, if_pos (by omega)]
            refine nope fun q' hx e ok => ?_
            rw [if_neg hd] at e
            subst e
            have e2 : val d = -1 ∨ (0 ≤ val d ∧ val d < m ∧ val d ≠ val b ∧ val d ≠ val c) := ok.k
            exact he ⟨hx.2.2.2.resolve_left hd, by omega⟩
      · rw [if_neg hc] at LC
        rw [LC, if_pos (by omega)]
        refine nope fun q' hx e ok => ?_
        subst e
        have e2 : val c < m := ok.b1
        exact hc ⟨hx.2.2.1, by omega⟩
    · rw [if_neg hb] at LB
      rw [LB, if_pos (by omega)]
      refine nope fun q' hx e ok => ?_
      subst e
      have e2 : val b < m := ok.a1
      exact hb ⟨hx.2.1, by omega⟩
/-- a list whose items all are told, under a test of each -/
theorem all_told {α β : Type} {f g : α → Option β} {p : β → Prop} {l : List α} (h : ∀ x ∈ l, ∀ y, g x = some y ↔ f x = some y ∧ p y) (r : List β) :
    (none ∉ l.map g ∧ l.filterMap g = r) ↔ (none ∉ l.map f ∧ l.filterMap f = r) ∧ ∀ y ∈ r, p y := by
  induction l generalizing r with
  | nil =>
    constructor
    · rintro ⟨_, rfl⟩; simp
    · rintro ⟨⟨_, rfl⟩, _⟩; simp
  | cons x l ih =>
    have ih := ih (fun y hy => h y (List.mem_cons_of_mem _ hy))
    have hx := h x List.mem_cons_self
    constructor
    · rintro ⟨h1, h2⟩
      cases e : g x with
      | none => exact absurd (by simp [e]) h1
      | some y =>
        obtain ⟨e1, e2⟩ := (hx y).mp e
        rw [List.filterMap_cons_some e] at h2
        subst h2
        obtain ⟨⟨i1, i2⟩, i3⟩ := (ih (l.filterMap g)).mp ⟨fun z => h1 (by simp at z ⊢; exact .inr z), rfl⟩
        refine ⟨⟨?_, by rw [List.filterMap_cons_some e1, i2]⟩, fun z hz => ?_⟩
        · rw [List.map_cons, List.mem_cons, e1]
          rintro (z | z)
          · cases z
          · exact i1 z
        · rcases List.mem_cons.mp hz with rfl | hz
          · exact e2
          · exact i3 z hz
    · rintro ⟨⟨h1, h2⟩, h3⟩
      cases e : f x with
      | none => exact absurd (by simp [e]) h1
      | some y =>
        rw [List.filterMap_cons_some e] at h2
        subst h2
        have e1 := (hx y).mpr ⟨e, h3 y List.mem_cons_self⟩
        obtain ⟨i1, i2⟩ := (ih (l.filterMap f)).mpr ⟨⟨fun z => h1 (by simp at z ⊢; exact .inr z), rfl⟩, fun z hz => h3 z (List.mem_cons_of_mem _ hz)⟩
        refine ⟨?_, by rw [List.filterMap_cons_some e1, i2]⟩
        rw [List.map_cons, List.mem_cons, e1]
        rintro (z | z)
        · cases z
        · exact i1 z
theorem told_len {α β : Type} {f : α → Option β} : ∀ {l : List α}, none ∉ l.map f → (l.filterMap f).length = l.length
  | [], _ => rfl
  | x :: l, h => by
    cases e : f x with
    | none => exact absurd (by simp [e]) h
    | some y =>
      rw [List.filterMap_cons_some e, List.length_cons, List.length_cons, told_len (l := l) fun z => h (by simp at z ⊢; exact .inr z)]
theorem not_qu {ws : List Str} (h : ¬ isQu ws = true) : quarrelOf ws = none := by
  unfold quarrelOf
  split
  · rename_i a b c d
    rw [if_neg]
    rintro ⟨z, _⟩
    apply h
    unfold isQu
    simp [z]
  · rfl
theorem mem_tw {α : Type} {p : α → Bool} : ∀ {l : List α} {x : α}, x ∈ l.takeWhile p → p x = true
  | [], _, h => by cases h
  | y :: l, x, h => by
    by_cases hp : p y = true
    · rw [List.takeWhile_cons_of_pos hp] at h
      rcases List.mem_cons.mp h with rfl | h
      · exact hp
      · exact mem_tw h
    · rw [List.takeWhile_cons_of_neg hp] at h
      cases h
theorem dueR_iff (n : Int) (rest : List (List Str)) (h1 : 1 ≤ n) (h3 : n ≤ 3) (y : List Th × Int × List Qu) : dueR n rest = some y ↔ ∃ p, loop rest [] [] = some p ∧ OkN n p.1 p.2 ∧ (p.1, n, p.2) = y := by
  rw [loop_t rest []]
  have at1 := fun r => all_told (f := thingOf) (g := lawThing) (p := fun t : Th => 1 ≤ t.1 ∧ t.1 ≤ 1000000000) (l := rest.takeWhile isTh) (fun ws hw t => lawThing_iff (mem_tw hw) t) r
  constructor
  · intro e
    unfold dueR at e
    split at e
    · cases e
    · rename_i c1
      split at e
      · cases e
      · rename_i c2
        cases e
        have hq : (rest.dropWhile isTh).all isQu = true := Classical.byContradiction fun z => c2 (.inl z)
        have at2 := fun r => all_told (f := quarrelOf) (g := lawQuarrel ((rest.takeWhile isTh).length : Nat)) (p := fun q => OkQ ((rest.takeWhile isTh).length : Nat) q) (l := rest.dropWhile isTh) (fun ws hw q => lawQuarrel_iff (List.all_eq_true.mp hq ws hw) _ q) r
        obtain ⟨⟨t1, t2⟩, t3⟩ := (at1 _).mp ⟨fun z => c1 (.inr (.inl z)), rfl⟩
        obtain ⟨⟨q1, q2⟩, q3⟩ := (at2 _).mp ⟨fun z => c2 (.inr z), rfl⟩
        have lt := told_len t1
        have lq := told_len q1
        refine ⟨_, by rw [if_neg (fun z => z.elim t1 q1)], ⟨⟨?_, ?_, ?_⟩, h1, h3, ?_, ?_⟩, ?_⟩
        · show 1 ≤ ([] ++ (rest.takeWhile isTh).filterMap thingOf).length
          rw [List.nil_append, lt]; omega
        · show ([] ++ (rest.takeWhile isTh).filterMap thingOf).length ≤ 6
          rw [List.nil_append, lt]; omega
        · intro t ht
          rw [List.nil_append, t2] at ht
          exact t3 t ht
        · show ((rest.dropWhile isTh).filterMap quarrelOf).length ≤ 30
          rw [lq]; omega
        · intro q hq'
          show OkQ (([] ++ (rest.takeWhile isTh).filterMap thingOf).length : Nat) q
          rw [List.nil_append, lt]
          rw [q2] at hq'
          exact q3 q hq'
        · show ([] ++ (rest.takeWhile isTh).filterMap thingOf, n, (rest.dropWhile isTh).filterMap quarrelOf) = _
          rw [List.nil_append, t2, q2]
  · rintro ⟨p, e, ok, rfl⟩
    split at e
    · cases e
    · rename_i c
      cases e
      have t1 : none ∉ (rest.takeWhile isTh).map thingOf := fun z => c (.inl z)
      have q1 : none ∉ (rest.dropWhile isTh).map quarrelOf := fun z => c (.inr z)
      have lt := told_len t1
      have lq := told_len q1
      obtain ⟨⟨o1, o2, o3⟩, _, _, o4, o5⟩ := ok
      simp only [List.nil_append] at o1 o2 o3 o4 o5 ⊢
      have hq : (rest.dropWhile isTh).all isQu = true := by
        rw [List.all_eq_true]
        intro ws hw
        refine Classical.byContradiction fun z => q1 ?_
        rw [← not_qu z]
        exact List.mem_map_of_mem hw
      have at2 := fun r => all_told (f := quarrelOf) (g := lawQuarrel ((rest.takeWhile isTh).length : Nat)) (p := fun q => OkQ ((rest.takeWhile isTh).length : Nat) q) (l := rest.dropWhile isTh) (fun ws hw q => lawQuarrel_iff (List.all_eq_true.mp hq ws hw) _ q) r
      obtain ⟨g1, g2⟩ := (at1 _).mpr ⟨⟨t1, rfl⟩, o3⟩
      rw [lt] at o5
      obtain ⟨g3, g4⟩ := (at2 _).mpr ⟨⟨q1, rfl⟩, o5⟩
      unfold dueR
      rw [if_neg (by rintro (z | z | z) <;> first | (rw [lt] at o1 o2; omega) | exact g1 z | (rw [lq] at o4; omega)), if_neg (by rintro (z | z) <;> first | exact z hq | exact g3 z), g2, g4]
theorem boat_iff (ws : List Str) (n : Int) : (boatOf ws = some n ∧ 1 ≤ n ∧ n ≤ 3) ↔ ¬ (ws.length ≠ 2 ∨ ws.getD 0 "" ≠ "boat" ∨ lawNum (ws.getD 1 "") 3 < 1) ∧ lawNum (ws.getD 1 "") 3 = n := by
  unfold boatOf
  split
  · rename_i a b
    have g1 : [a, b].getD 0 "" = a := rfl
    have g2 : [a, b].getD 1 "" = b := rfl
    rw [g1, g2]
    unfold lawNum
    constructor
    · rintro ⟨e, p1, p2⟩
      split at e
      · rename_i hc
        cases e
        rw [if_pos ⟨hc.2, p2⟩]
        refine ⟨?_, rfl⟩
        rintro (z | z | z)
        · exact z rfl
        · exact z hc.1
        · omega
      · cases e
    · rintro ⟨hn, e⟩
      by_cases hb : isNum b = true ∧ val b ≤ 3
      · rw [if_pos hb] at hn e
        subst e
        have ha : a = "boat" := Classical.byContradiction fun z => hn (.inr (.inl z))
        rw [if_pos ⟨ha, hb.1⟩]
        exact ⟨rfl, by omega, hb.2⟩
      · rw [if_neg hb] at hn
        exact absurd (.inr (.inr (by decide))) hn
  · rename_i hw
    constructor
    · rintro ⟨e, _⟩; cases e
    · rintro ⟨hn, _⟩
      refine absurd (.inl fun z => ?_) hn
      match ws, z with
      | [a, b], _ => exact hw a b rfl
theorem due_rd (text : Str) : due text = rd text := by
  have hE := ends_split text 10
  unfold due rd
  have hne := split_ne text ⟨#[10]⟩
  show dueL ((lns text).map wds) = if Txt.endswith text ⟨#[10]⟩ = true then rdL ((lns text).dropLast.map wds) else none
  have hE' : Txt.endswith text ⟨#[10]⟩ = true ↔ (lns text).getLast? = some ⟨#[]⟩ ∧ 2 ≤ (lns text).length := hE
  have hne' : lns text ≠ [] := hne
  generalize Txt.endswith text ⟨#[10]⟩ = b at hE' ⊢
  generalize lns text = ps at hE' hne' ⊢
  have hlast : (ps.map wds).getLast? = some [("" : Str)] ↔ ps.getLast? = some ⟨#[]⟩ := by
    rw [List.getLast?_map]
    cases e : ps.getLast? with
    | none => simp
    | some p =>
      show some (wds p) = some [("" : Str)] ↔ some p = some ⟨#[]⟩
      rw [Option.some.injEq, Option.some.injEq]
      exact split_empty p 32
  by_cases hb : b = true
  · rw [if_pos hb]
    obtain ⟨l1, l2⟩ := hE'.mp hb
    match ps, l2 with
    | p :: q :: r, _ =>
      have g0 : ((p :: q :: r).map wds).getD 0 [] = wds p := rfl
      have g1 : ((p :: q :: r).dropLast.map wds) = wds p :: (((q :: r).map wds).dropLast) := by
        rw [List.dropLast_cons_of_ne_nil (by simp), List.map_cons, List.map_dropLast]
      unfold dueL rdL
      rw [g0, g1]
      have g2 : (wds p :: ((q :: r).map wds).dropLast).getD 0 [] = wds p := rfl
      have g3 : (wds p :: ((q :: r).map wds).dropLast).tail = ((q :: r).map wds).dropLast := rfl
      have g4 : ((p :: q :: r).map wds).tail.dropLast = ((q :: r).map wds).dropLast := rfl
      rw [g2, g3, g4]
      generalize ((q :: r).map wds).dropLast = rest
      apply Option.ext
      intro y
      constructor
      · intro e
        split at e
        · cases e
        · rename_i hc
          have hn : ¬ ((wds p).length ≠ 2 ∨ (wds p).getD 0 "" ≠ "boat" ∨ lawNum ((wds p).getD 1 "") 3 < 1) := fun z => hc (.inr z)
          obtain ⟨b1, b2, b3⟩ := (boat_iff (wds p) _).mpr ⟨hn, rfl⟩
          obtain ⟨pp, k1, k2, k3⟩ := (dueR_iff _ rest b2 b3 y).mp e
          rw [b1, Option.bind_some, k1, Option.bind_some, endN_pos k2, k3]
      · intro e
        obtain ⟨n, e1, e2⟩ := Option.bind_eq_some_iff.mp e
        obtain ⟨pp, e3, e4⟩ := Option.bind_eq_some_iff.mp e2
        by_cases ok : OkN n pp.1 pp.2
        · rw [endN_pos ok] at e4
          obtain ⟨b1, b2⟩ := (boat_iff (wds p) n).mp ⟨e1, ok.r1, ok.r3⟩
          rw [if_neg (by rintro (z | z); exact z (hlast.mpr l1); exact b1 z), b2]
          exact (dueR_iff n rest ok.r1 ok.r3 y).mpr ⟨pp, e3, ok, Option.some.inj e4⟩
        · rw [endN_neg ok] at e4
          cases e4
  · rw [if_neg hb]
    unfold dueL
    rw [if_pos]
    by_cases l1 : ps.getLast? = some ⟨#[]⟩
    · right; left
      have l2 : ¬ 2 ≤ ps.length := fun z => hb (hE'.mpr ⟨l1, z⟩)
      match ps, hne' with
      | [p], _ =>
        have e : p = ⟨#[]⟩ := by simpa using l1
        subst e
        show (wds ⟨#[]⟩).length ≠ 2
        rw [show wds ⟨#[]⟩ = [⟨#[]⟩] from (split_empty _ 32).mpr rfl]
        decide
      | p :: q :: r, _ => exact absurd (by simp) l2
    · left
      intro z
      exact l1 (hlast.mp z)
end WD
namespace WD
open PySem FN
/-! signs that a text may have -/
def okS (x : Str) : Prop := ∀ c ∈ x.cps.toList, c < 1114112
theorem okS_ok {x : Str} (h : okS x) : PyData.strOk x = true := by
  unfold PyData.strOk
  rw [Array.all_eq_true']
  intro c hc
  exact decide_eq_true (h c (Array.mem_toList_iff.mpr hc))
theorem okS_of (s : String) : okS (Str.ofString s) := by
  intro c hc
  rw [PyProof.Rows.signs_ofString] at hc
  obtain ⟨ch, _, rfl⟩ := List.mem_map.mp hc
  have := ch.valid
  unfold UInt32.isValidChar Nat.isValidChar at this
  show ch.val.toNat < _
  omega
theorem okS_append {x y : Str} (hx : okS x) (hy : okS y) : okS (x ++ y) := fun c hc => by
  rw [list_append] at hc
  rcases List.mem_append.mp hc with z | z
  · exact hx c z
  · exact hy c z
theorem okS_join {y : Str} (hy : okS y) : ∀ {l : List Str}, (∀ x ∈ l, okS x) → okS (Str.join y l)
  | [], _ => fun c hc => by cases hc
  | [x], h => h x (by simp)
  | a :: b :: r, h => okS_append (okS_append (h a (by simp)) hy) (okS_join hy fun x hx => h x (List.mem_cons_of_mem _ hx))
theorem join_part {c : Nat} {s : Str} : ∀ {l : List Str} {x : Str}, x ∈ l → c ∈ x.cps.toList → c ∈ (Str.join s l).cps.toList
  | [a], x, h, hc => by
    rw [List.mem_singleton.mp h] at hc
    exact hc
  | a :: b :: r, x, h, hc => by
    show c ∈ (a ++ s ++ Str.join s (b :: r)).cps.toList
    rw [list_append, list_append]
    rcases List.mem_cons.mp h with rfl | h
    · exact List.mem_append_left _ (List.mem_append_left _ hc)
    · exact List.mem_append_right _ (join_part h hc)
theorem okS_split {x y p : Str} (h : okS x) (hp : p ∈ Txt.split x y) : okS p := fun c hc => by
  have := join_part (s := y) hp hc
  rw [StrLaws.join_split] at this
  exact h c this
theorem okS_one {c : Nat} (h : c < 1114112) : okS ⟨#[c]⟩ := fun d hd => by
  have : d = c := by simpa using hd
  omega
end WD
namespace WD
open PySem FN
theorem okS_slice {x : Str} (h : okS x) (lo hi : Option Int) : okS (Txt.slice x lo hi) := by
  unfold Txt.slice
  split
  · exact h
  · intro c hc
    obtain ⟨i, _, hi⟩ := List.mem_filterMap.mp (show c ∈ List.filterMap (fun i => x.cps[i]?) _ from by simpa using hc)
    refine h c ?_
    rw [← Array.getElem?_toList] at hi
    exact List.mem_of_getElem? hi
/-! first-met of three -/
theorem three_len (a b c : Int) : (PyProof.Rows.firstMet (fun i => [a, b, c].getD i 0) 3).length < 3 ↔ a = b ∨ a = c ∨ b = c := by
  have e : PyProof.Rows.firstMet (fun i => [a, b, c].getD i 0) 3 = PyProof.Rows.step_dedup (PyProof.Rows.step_dedup (PyProof.Rows.step_dedup [] a) b) c := rfl
  rw [e]
  unfold PyProof.Rows.step_dedup
  by_cases h1 : a = b <;> by_cases h2 : a = c <;> by_cases h3 : b = c <;> simp_all
def optTh (o : Option Th) : PyData := o.elim .none thD
def optQu (o : Option Qu) : PyData := o.elim .none quD
theorem any_none {α : Type} {f : α → PyData} (hf : ∀ a, PyData.eqv (f a) .none = false) : ∀ l : List (Option α), ((l.map fun o => o.elim PyData.none f).any fun e => PyData.eqv e .none) = true ↔ none ∈ l
  | [] => by simp
  | none :: l => by simp [PyData.eqv]
  | some a :: l => by
    have ih := any_none hf l
    rw [List.map_cons, List.any_cons, show ((some a : Option α).elim PyData.none f) = f a from rfl, hf a, Bool.false_or, ih, List.mem_cons]
    simp
theorem all_some {α β : Type} {g : α → Option β} {f : β → PyData} : ∀ {l : List α}, none ∉ l.map g → l.map (fun x => (g x).elim PyData.none f) = (l.filterMap g).map f
  | [], _ => rfl
  | x :: l, h => by
    cases e : g x with
    | none => exact absurd (by simp [e]) h
    | some y =>
      rw [List.filterMap_cons_some e, List.map_cons, List.map_cons, e, all_some (l := l) fun z => h (by simp at z ⊢; exact .inr z)]
      rfl
def dueD (o : Option (List Th × Int × List Qu)) : PyData := match o with
  | none => .none
  | some (ts, r, qs) => .tuple [.list (ts.map thD), .int r, .list (qs.map quD)]
theorem eqv_strs (ws : List Str) : PyData.eqv (.list (ws.map PyData.str)) (.list [.str ""]) = true ↔ ws = [("" : Str)] := by
  match ws with
  | [] => simp [PyData.eqv, PyData.eqvAll]
  | [a] => simp [PyData.eqv, PyData.eqvAll]
  | a :: b :: r => simp [PyData.eqv, PyData.eqvAll]
/-! how far the things go -/
theorem tw_lt {α : Type} {p : α → Bool} : ∀ {l : List α} {i : Nat} {x : α}, i ≤ (l.takeWhile p).length → l[i]? = some x → p x = true → i + 1 ≤ (l.takeWhile p).length
  | [], i, x, _, h, _ => by simp at h
  | y :: l, i, x, hi, h, hp => by
    by_cases hy : p y = true
    · rw [List.takeWhile_cons_of_pos hy, List.length_cons] at hi ⊢
      cases i with
      | zero => omega
      | succ i =>
        have := tw_lt (l := l) (i := i) (x := x) (by omega) (by simpa using h) hp
        omega
    · rw [List.takeWhile_cons_of_neg hy] at hi
      have : i = 0 := by simpa using hi
      subst this
      have : y = x := by simpa using h
      subst this
      exact absurd hp hy
theorem tw_eq {α : Type} {p : α → Bool} : ∀ {l : List α} {i : Nat}, i ≤ (l.takeWhile p).length → (∀ x, l[i]? = some x → p x = false) → i = (l.takeWhile p).length
  | [], i, hi, _ => by simpa using hi
  | y :: l, i, hi, h => by
    by_cases hy : p y = true
    · rw [List.takeWhile_cons_of_pos hy, List.length_cons] at hi ⊢
      cases i with
      | zero => rw [h y rfl] at hy; cases hy
      | succ i => rw [tw_eq (l := l) (i := i) (by omega) fun x hx => h x (by simpa using hx)]
    · rw [List.takeWhile_cons_of_neg hy] at hi ⊢
      simpa using hi
end WD


set_option Elab.async false
set_option linter.all false
set_option maxRecDepth 100000
set_option maxHeartbeats 4000000
namespace FN
open PySem L2 PyProof.Rows
/-! ### the text by places -/
def top (i : Nat) : Stmt := PySem.Challenge.pw_ferrynight_k09_texts_read.main.body.getD i (.Pass ⟨0, 0, 0, 0⟩)
abbrev s__wall : Stmt := top 0
abbrev s_check_things : Stmt := top 16
abbrev s_check_room : Stmt := top 17
abbrev s_is_thing : Stmt := top 18
abbrev s_is_pair : Stmt := top 19
abbrev s_is_keeper : Stmt := top 20
abbrev s_check_quarrels : Stmt := top 21
abbrev s_Night___init__ : Stmt := inClass (top 22) 0
abbrev s_Night_things : Stmt := inClass (top 22) 1
abbrev s_Night_room : Stmt := inClass (top 22) 2
abbrev s_Night_quarrels : Stmt := inClass (top 22) 3
abbrev s_Night_begins : Stmt := inClass (top 22) 4
abbrev s_Night_ends : Stmt := inClass (top 22) 5
abbrev s_Night_peace : Stmt := inClass (top 22) 6
abbrev s_is_number : Stmt := top 26
abbrev s_read_number : Stmt := top 27
abbrev s_read_words : Stmt := top 28
abbrev s_read_boat : Stmt := top 29
abbrev s_read_thing : Stmt := top 30
abbrev s_read_quarrel : Stmt := top 31
abbrev s_read : Stmt := top 32
abbrev s__law_cell_at : Stmt := top 34
abbrev s__law_quarrel : Stmt := top 35
abbrev s__law_quarrels : Stmt := top 36
abbrev s__law_things : Stmt := top 37
abbrev s__law_night : Stmt := top 38
abbrev s__law_lines : Stmt := top 39
abbrev s__law_spoiled : Stmt := top 40
abbrev s__law_odd : Stmt := top 41
abbrev s__law_number : Stmt := top 42
abbrev s__law_thing : Stmt := top 43
abbrev s__law_told_quarrel : Stmt := top 44
abbrev s__law_due : Stmt := top 45
abbrev s__law_told : Stmt := top 46
abbrev s_law : Stmt := top 47
/-! ### what the top has written -/
/-- the addresses and marks that the top has laid -/
structure Ad where
  k1 : Tok
  k2 : Tok
  k3 : Tok
  k4 : Tok
  k5 : Tok
  k6 : Tok
  k7 : Tok
  FerryError : Addr
  BadThing : Addr
  BadRoom : Addr
  BadQuarrel : Addr
  NoStanding : Addr
  BadStart : Addr
  NoCrew : Addr
  BadNote : Addr
abbrev bmV : List Value := [.type "ValueError", .type "Exception", .type "BaseException", .type "object"]
/-- what is asked of a refusal's class -/
structure Ref (K : PySem.W.Frag) (mg : Str → Option Value) (Z : Ad) (x : Str) (D : Addr) : Prop where
  g : mg x = some (.ref D)
  x : PySem.W.excIn K D bmV "ValueError.__new__" = true
  k : PySem.W.ExcK K D
  m : PySem.W.exmOne K (.ref D) (.ref Z.FerryError) = some true
  v : PySem.W.kitOne K (.ref D) (.type "ValueError") = some true
structure Txt (K : PySem.W.Frag) (mg : Str → Option Value) (C : Addr) (Z : Ad) : Prop where
  n_len : mg "len" = none
  n_list : mg "list" = none
  n_tuple : mg "tuple" = none
  n_range : mg "range" = none
  n_isinstance : mg "isinstance" = none
  n_int : mg "int" = none
  n_bool : mg "bool" = none
  n_zip : mg "zip" = none
  n_all : mg "all" = none
  n_any : mg "any" = none
  n_max : mg "max" = none
  n_sorted : mg "sorted" = none
  n_ValueError : mg "ValueError" = none
  n_reversed : mg "reversed" = none
  n_str : mg "str" = none
  n_min : mg "min" = none
  n_set : mg "set" = none
  c_FIGURES : mg "FIGURES" = some (.str "0123456789" Z.k6)
  c_MOST_FIGURES : mg "MOST_FIGURES" = some (.int 10 Z.k7)
  c_MOST_THINGS : mg "MOST_THINGS" = some (.int 6 Z.k1)
  c_MOST_MINUTES : mg "MOST_MINUTES" = some (.int 1000000000 Z.k2)
  c_MOST_ROOM : mg "MOST_ROOM" = some (.int 3 Z.k3)
  c_MOST_QUARRELS : mg "MOST_QUARRELS" = some (.int 30 Z.k4)
  c_NO_KEEPER : mg "NO_KEEPER" = some (.int (-1) Z.k5)
  g_Night : mg "Night" = some (.ref C)
  cl_Night : Cls K C
  a_things : NoAttr K C "kept_things"
  a_room : NoAttr K C "kept_room"
  a_quarrels : NoAttr K C "kept_quarrels"
  g_FerryError : mg "FerryError" = some (.ref Z.FerryError)
  g_BadThing : mg "BadThing" = some (.ref Z.BadThing)
  g_BadRoom : mg "BadRoom" = some (.ref Z.BadRoom)
  g_BadQuarrel : mg "BadQuarrel" = some (.ref Z.BadQuarrel)
  r_BadNote : Ref K mg Z "BadNote" Z.BadNote
  r_NoStanding : Ref K mg Z "NoStanding" Z.NoStanding
  r_BadStart : Ref K mg Z "BadStart" Z.BadStart
  r_NoCrew : Ref K mg Z "NoCrew" Z.NoCrew
  r_BadThing : Ref K mg Z "BadThing" Z.BadThing
  r_BadRoom : Ref K mg Z "BadRoom" Z.BadRoom
  r_BadQuarrel : Ref K mg Z "BadQuarrel" Z.BadQuarrel
section
variable {K : PySem.W.Frag} {mg : Str → Option Value} {C : Addr} {Z : Ad}
theorem Txt.g_BadNote (T : Txt K mg C Z) : mg "BadNote" = some (.ref Z.BadNote) := T.r_BadNote.g
theorem Txt.x_BadNote (T : Txt K mg C Z) : PySem.W.excIn K Z.BadNote bmV "ValueError.__new__" = true := T.r_BadNote.x
theorem Txt.g_NoStanding (T : Txt K mg C Z) : mg "NoStanding" = some (.ref Z.NoStanding) := T.r_NoStanding.g
theorem Txt.g_BadStart (T : Txt K mg C Z) : mg "BadStart" = some (.ref Z.BadStart) := T.r_BadStart.g
theorem Txt.g_NoCrew (T : Txt K mg C Z) : mg "NoCrew" = some (.ref Z.NoCrew) := T.r_NoCrew.g
theorem Txt.x_BadThing (T : Txt K mg C Z) : PySem.W.excIn K Z.BadThing bmV "ValueError.__new__" = true := T.r_BadThing.x
theorem Txt.x_BadRoom (T : Txt K mg C Z) : PySem.W.excIn K Z.BadRoom bmV "ValueError.__new__" = true := T.r_BadRoom.x
theorem Txt.x_BadQuarrel (T : Txt K mg C Z) : PySem.W.excIn K Z.BadQuarrel bmV "ValueError.__new__" = true := T.r_BadQuarrel.x
end

/-! ### a night's object -/
def flds (t : Addr) (r : Int) (q : Addr) : List (Str × V) := putF "kept_quarrels" (.ref q) (putF "kept_room" (.int r) (putF "kept_things" (.ref t) []))
theorem n_rt : ¬ (("kept_room" : Str) = "kept_things") := by decide +kernel
theorem n_qt : ¬ (("kept_quarrels" : Str) = "kept_things") := by decide +kernel
theorem n_qr : ¬ (("kept_quarrels" : Str) = "kept_room") := by decide +kernel
theorem flds_t (t : Addr) (r : Int) (q : Addr) : (flds t r q).lookup ("kept_things" : Str) = some (.ref t) := by
  unfold flds
  rw [lookup_putF, if_neg (Ne.symm n_qt), lookup_putF, if_neg (Ne.symm n_rt), lookup_putF, if_pos rfl]
theorem flds_r (t : Addr) (r : Int) (q : Addr) : (flds t r q).lookup ("kept_room" : Str) = some (.int r) := by
  unfold flds
  rw [lookup_putF, if_neg (Ne.symm n_qr), lookup_putF, if_pos rfl]
theorem flds_q (t : Addr) (r : Int) (q : Addr) : (flds t r q).lookup ("kept_quarrels" : Str) = some (.ref q) := by
  unfold flds
  rw [lookup_putF, if_pos rfl]
theorem flds_no (t : Addr) (r : Int) (q : Addr) {m : Str} (h1 : ¬ m = "kept_quarrels") (h2 : ¬ m = "kept_room") (h3 : ¬ m = "kept_things") : (flds t r q).lookup m = none := by
  unfold flds
  rw [lookup_putF, if_neg h1, lookup_putF, if_neg h2, lookup_putF, if_neg h3]
  all_goals rfl
structure NightAt (C : Addr) (H : Hp) (p : Addr) (ts : List Th) (r : Int) (qs : List Qu) : Prop where
  ex : ∃ dx t q, H p = some (.ins C dx (flds t r q)) ∧ TupAt thD H t ts ∧ TupAt quD H q qs
theorem NightAt.mono {C : Addr} {H H' : Hp} {p : Addr} {ts : List Th} {r : Int} {qs : List Qu} (h : NightAt C H p ts r qs) (e : Same H H') : NightAt C H' p ts r qs :=
  let ⟨dx, t, q, h1, h2, h3⟩ := h.ex
  ⟨dx, t, q, e _ _ h1, h2.mono e, h3.mono e⟩
theorem NightAt.upd {C : Addr} {H : Hp} {p : Addr} {ts : List Th} {r : Int} {qs : List Qu} {D : Addr} {o : HO} {ys : List V} (h : NightAt C H p ts r qs) (hD : H D = some (.lst ys)) : NightAt C (L2.upd H D o) p ts r qs := by
  obtain ⟨dx, t, q, h1, ⟨vt, h2, h2'⟩, ⟨vq, h3, h3'⟩⟩ := h.ex
  refine ⟨dx, t, q, ?_, ⟨vt, ?_, dvs_upd hD h2' (noLsts_map th_no ts)⟩, ⟨vq, ?_, dvs_upd hD h3' (noLsts_map qu_no qs)⟩⟩
  · rw [upd_ne (ne_of h1 hD (by intro z; cases z))]; exact h1
  · rw [upd_ne (ne_of h2 hD (by intro z; cases z))]; exact h2
  · rw [upd_ne (ne_of h3 hD (by intro z; cases z))]; exact h3

section
variable {P : Program} {w : World} {K : PySem.W.Frag} {mg : Str → Option Value} {base : Heap} {C : Addr} {Z : Ad}

/-! ### _law_cell_at -/
def sp_cell_at (K : PySem.W.Frag) : Sp := fun vs H Q _ => ∃ (a : Addr) (ns : List Int) (k : Nat), vs = [.ref a, .int k] ∧ SqL K H a (ns.map V.int) ∧ Q (.int (ns.getD k 0)) H
theorem sc__law_cell_at : FnScope ["script", "k"] ["script", "k"] (defScope s__law_cell_at) := ⟨rfl, rfl, rfl, by decide +kernel, rfl, by decide +kernel, by decide +kernel⟩
theorem ok_cell_at {f : Addr} {fd : FuncData} (F : Fn K mg "_law_cell_at" s__law_cell_at f fd ["script", "k"]) (T : Txt K mg C Z) : FnOk P w K mg base CX0 1 f fd ["script", "k"] (sp_cell_at K) := by
  refine F.fn.ok sc__law_cell_at (fun vs H Q E h => ?_) (fun cdv A outer s H vs Q E hr h => ?_)
  · obtain ⟨a, ns, k, rfl, _⟩ := h
    rfl
  · obtain ⟨a, ns, k, rfl, hS, q⟩ := h
    refine ⟨_, (pss_cons (ps_if (pt_cmpR op_lt (pv 1) (pe_callB call_len_seq (by rfl) T.n_len PySem.boot_len (pa_cons (pv 0) pa_nil)) (nomark _))
      (pss_one (ps_ret (pe_ix ix_list (pv 0) (pv 1) (fun _ _ => rfl))))
      pss_nil)
      (pss_one (ps_ret pe_int))), ?_⟩
    refine ⟨_, rfl, _, rfl, a, _, rfl, .inl hS, _, _, rfl, rfl, _, rfl, ?_⟩
    refine ite2 (fun h => ?_) (fun h => ?_)
    · have hk : k < ns.length := by
        have := of_decide_eq_true h
        rw [List.length_map] at this
        omega
      refine ⟨_, rfl, _, rfl, a, _, _, _, rfl, rfl, hS, atI_nat (v := V.int (ns.getD k 0)) ?_, q⟩
      rw [List.getElem?_map, List.getD_eq_getElem?_getD, List.getElem?_eq_getElem hk]
      rfl
    · have hk : ¬ k < ns.length := fun z => h (decide_eq_true (by rw [List.length_map]; omega))
      have e : ns.getD k 0 = 0 := by
        rw [List.getD_eq_getElem?_getD, List.getElem?_eq_none_iff.mpr (by omega)]
        rfl
      rw [e] at q
      exact q

end
end FN


set_option Elab.async false
set_option linter.all false
set_option maxRecDepth 100000
set_option maxHeartbeats 4000000
namespace FN
open PySem L2 PyProof.Rows
section
variable {P : Program} {w : World} {K : PySem.W.Frag} {mg : Str → Option Value} {base : Heap} {C : Addr} {Z : Ad}

/-! ### _law_quarrel -/
def sp_quarrel : Sp := fun vs H Q _ => ∃ (cell : Int) (n : Nat), vs = [.int cell, .int n] ∧ 2 ≤ n ∧ n ≤ 6 ∧ ∀ (q : Qu) (p : Addr) (H' : Hp), OkQ n q → Same H H' → H' p = some (.tup [.int q.1, .int q.2.1, .int q.2.2]) → Q (.ref p) H'
theorem sc__law_quarrel : FnScope ["cell", "many", "one", "other", "left", "keeper"] ["cell", "many"] (defScope s__law_quarrel) := ⟨rfl, rfl, rfl, by decide +kernel, rfl, by decide +kernel, by decide +kernel⟩
theorem ok_quarrel {f : Addr} {fd : FuncData} (F : Fn K mg "_law_quarrel" s__law_quarrel f fd ["cell", "many"]) (T : Txt K mg C Z) : FnOk P w K mg base CX0 1 f fd ["cell", "many"] sp_quarrel := by
  refine F.fn.ok sc__law_quarrel (fun vs H Q E h => ?_) (fun cdv A outer s H vs Q E hr h => ?_)
  · obtain ⟨cell, n, rfl, _⟩ := h
    rfl
  · obtain ⟨cell, n, rfl, h2, h6, k⟩ := h
    refine ⟨_, (pss_cons (ps_set (i := 2) sc__law_quarrel.nd (by rfl) (by first | exact Or.inl rfl | exact Or.inr rfl) (pe_op op_mod (pv 0) (pv 1)))
      (pss_cons (ps_set (i := 3) sc__law_quarrel.nd (by rfl) (by first | exact Or.inl rfl | exact Or.inr rfl) (pe_op op_mod (pe_op op_add (pe_op op_add (pv 2) pe_int) (pe_op op_mod (pe_op op_fdiv (pv 0) (pv 1)) (pe_op op_sub (pv 1) pe_int))) (pv 1)))
      (pss_cons (ps_setC (j := 4) rfl (N' := ["thing", "one", "other"]) (cap := [none, some 2, some 3]) ⟨rfl, by with_unfolding_all rfl⟩ (pi_range1 (by rfl) T.n_range (pa_cons (pv 1) pa_nil)) (fun _ => (pg_name (i := 0) (show (["thing", "one", "other"] : List Str).Nodup by decide +kernel) (by rfl) (by first | exact Or.inl rfl | exact Or.inr rfl))) (fun _ => (pifs_one (PW.pt (pw_and (pt_cmpR op_ne (pv 0) (pv 1) (nomark _)) (pw_and1 (pt_cmpR op_ne (pv 0) (pv 2) (nomark _))))))) (fun _ => (pv 0)) sc__law_quarrel.nd (by rfl) (by rfl) (by with_unfolding_all rfl))
      (pss_cons (ps_set (i := 0) sc__law_quarrel.nd (by rfl) (by first | exact Or.inl rfl | exact Or.inr rfl) (pe_op op_fdiv (pv 0) (pe_op op_mul (pv 1) (pe_op op_sub (pv 1) pe_int))))
      (pss_cons (ps_set (i := 5) sc__law_quarrel.nd (by rfl) (by first | exact Or.inl rfl | exact Or.inr rfl) (pe_un un_neg pe_int))
      (pss_cons (ps_if (PW.pt (pw_and (pt_cmpR op_gt (pe_op op_mod (pv 0) pe_int) pe_int (nomark _)) (pw_and1 (pt_cmpR op_gt (pe_callB call_len_seq (by rfl) T.n_len PySem.boot_len (pa_cons (pv 4) pa_nil)) pe_int (nomark _)))))
      (pss_one (ps_set (i := 5) sc__law_quarrel.nd (by rfl) (by first | exact Or.inl rfl | exact Or.inr rfl) (pe_ix ix_list (pv 4) (pe_op op_mod (pe_op op_fdiv (pv 0) pe_int) (pe_callB call_len_seq (by rfl) T.n_len PySem.boot_len (pa_cons (pv 4) pa_nil))) (fun _ _ => rfl))))
      pss_nil)
      (pss_one (ps_ret (pe_tup (pa_cons (pv 2) (pa_cons (pv 3) (pa_cons (pv 5) pa_nil)))))))))))), ?_⟩
    have hn : (0 : Int) < n := by omega
    have hn1 : (0 : Int) < (n : Int) - 1 := by omega
    obtain ⟨p1, p2⟩ := prod_ok n h2 h6
    obtain ⟨o1, o2, o3, o4, o5⟩ := drawn_ok cell n h2 h6
    refine ⟨_, rfl, _, rfl, _, _, rfl, rfl, hn, ?_⟩
    refine ⟨_, rfl, _, _, rfl, rfl, _, rfl, _, rfl, _, _, rfl, rfl, ⟨hn, by omega⟩, _, rfl, _, _, rfl, rfl, _, _, rfl, rfl, hn1, _, _, rfl, rfl, _, rfl, _, _, rfl, rfl, hn, ?_⟩
    dsimp only
    generalize cell % (n : Int) = one at o1 o2 o3 o4 o5 ⊢
    generalize (one + 1 + cell / (n : Int) % ((n : Int) - 1)) % (n : Int) = other at o3 o4 o5 ⊢
    refine ⟨_, rfl, (n : Int), rfl, by omega, by omega, fun D hD => ?_⟩
    refine comp_range (fun i xs H' => ∃ L : List Int, xs = L.map V.int ∧ L.length ≤ i ∧ (∀ t ∈ L, 0 ≤ t ∧ t < n ∧ t ≠ one ∧ t ≠ other) ∧ Same H H' ∧ H' D = some (.lst xs))
      ⟨[], rfl, Nat.le_refl _, (fun t ht => by cases ht), same_new hD, upd_same⟩ (fun i xs H' _ ⟨L, _, _, _, _, h⟩ => h) ?_ ?_
    · rintro i xs H' hi ⟨L, rfl, hL, hm, sm, hD'⟩
      have go : ∀ {H5 : Hp}, H5 = H' → (((0 : Int) + i) ≠ one ∧ ((0 : Int) + i) ≠ other) → ∃ L' : List Int, (L.map V.int ++ [V.int ((0 : Int) + i)]) = L'.map V.int ∧ L'.length ≤ i + 1 ∧ (∀ t ∈ L', 0 ≤ t ∧ t < n ∧ t ≠ one ∧ t ≠ other) ∧ Same H (L2.upd H5 D (.lst (L.map V.int ++ [V.int ((0 : Int) + i)]))) ∧ (L2.upd H5 D (.lst (L.map V.int ++ [V.int ((0 : Int) + i)]))) D = some (.lst (L.map V.int ++ [V.int ((0 : Int) + i)])) := by
        rintro H5 rfl ⟨e1, e2⟩
        refine ⟨L ++ [(0 : Int) + i], by simp, by simp; omega, fun t ht => ?_, same_upd sm hD, upd_same⟩
        rcases List.mem_append.mp ht with z | z
        · exact hm t z
        · rw [List.mem_singleton.mp z]
          exact ⟨by omega, by omega, e1, e2⟩
      have stay : ∃ L' : List Int, L.map V.int = L'.map V.int ∧ L'.length ≤ i + 1 ∧ (∀ t ∈ L', 0 ≤ t ∧ t < n ∧ t ≠ one ∧ t ≠ other) ∧ Same H H' ∧ H' D = some (.lst (L.map V.int)) := ⟨L, rfl, by omega, hm, sm, hD'⟩
      refine ⟨Keep.set rfl, ?_⟩
      refine ⟨_, rfl, _, rfl, rfl, _, rfl, ?_⟩
      refine iteE (fun h1 => ?_) (fun h1 => ?_)
      · refine ⟨_, rfl, _, rfl, rfl, _, rfl, ?_⟩
        refine iteE (fun h2 => ?_) (fun h2 => ?_)
        · refine ⟨_, rfl, hD', ?_, go rfl ⟨fun z => ?_, fun z => ?_⟩⟩
          · rw [List.length_map]; exact lt_line (by omega)
          · rw [z] at h1; simp at h1
          · rw [z] at h2; simp at h2
        · exact stay
      · exact iteF stay
    · rintro xs H1 ⟨L, rfl, hL, hm, sm, hD1⟩
      refine ⟨_, rfl, _, rfl, _, rfl, _, _, rfl, rfl, _, _, rfl, rfl, .inl ⟨by omega, by omega⟩, _, _, rfl, rfl, ⟨p1, p2⟩, ?_⟩
      dsimp only
      generalize cell / ((n : Int) * ((n : Int) - 1)) = c2
      refine ⟨_, rfl, ?_⟩
      have fin : ∀ kp : Int, (kp = -1 ∨ (0 ≤ kp ∧ kp < n ∧ kp ≠ one ∧ kp ≠ other)) → ∀ p, H1 p = none → Q (.ref p) (L2.upd H1 p (.tup [.int one, .int other, .int kp])) := fun kp hk p hp =>
        k (one, other, kp) p _ ⟨o1, o2, o3, o4, o5, hk⟩ (same_upd sm (sm.free hp)) upd_same
      refine ⟨_, rfl, _, _, rfl, rfl, (by show (0 : Int) < 3; decide), _, _, rfl, rfl, _, rfl, ?_⟩
      refine iteE (fun h1 => ?_) (fun h1 => ?_)
      · refine ⟨_, rfl, D, _, rfl, .inl (SqL.of hD1), _, _, rfl, rfl, _, rfl, ?_⟩
        refine iteE (fun h2 => ?_) (fun h2 => ?_)
        · have hl : 0 < (L.map V.int).length := by
            have := of_decide_eq_true h2
            omega
          have hl' : (0 : Int) < ((L.map V.int).length : Int) := by omega
          obtain ⟨v, hv, hat⟩ := atI_in (xs := L.map V.int) (i := c2 / 3 % ((L.map V.int).length : Int)) (Int.emod_nonneg _ (by omega)) (Int.emod_lt_of_pos _ hl')
          obtain ⟨kp, hkp, rfl⟩ := List.mem_map.mp hv
          refine ⟨_, rfl, _, rfl, _, _, rfl, rfl, ⟨by decide, by decide⟩, _, rfl, D, _, rfl, .inl (SqL.of hD1), _, _, rfl, rfl, hl', D, _, _, _, rfl, rfl, SqL.of hD1, hat, ?_⟩
          refine ⟨_, rfl, _, rfl, _, rfl, le_line (by show 3 ≤ _; decide), fin kp (.inr (hm kp hkp))⟩
        · refine ⟨_, rfl, _, rfl, _, rfl, le_line (by show 3 ≤ _; decide), fin (-1) (.inl rfl)⟩
      · refine iteF ?_
        refine ⟨_, rfl, _, rfl, _, rfl, le_line (by show 3 ≤ _; decide), fin (-1) (.inl rfl)⟩

/-! ### _law_quarrels -/
def sp_quarrels (K : PySem.W.Frag) : Sp := fun vs H Q _ => ∃ (a : Addr) (ns : List Int) (st n : Nat), vs = [.ref a, .int st, .int n] ∧ SqL K H a (ns.map V.int) ∧ 1 ≤ n ∧ n ≤ 6 ∧
  ∀ (qs : List Qu) (p : Addr) (H' : Hp), qs.length ≤ 4 → (∀ q ∈ qs, OkQ n q) → Same H H' → LstAt quD H' p qs → Q (.ref p) H'
theorem sc__law_quarrels : FnScope ["script", "start", "many", "count"] ["script", "start", "many"] (defScope s__law_quarrels) := ⟨rfl, rfl, rfl, by decide +kernel, rfl, by decide +kernel, by decide +kernel⟩
theorem ok_quarrels {f f1 f2 : Addr} {fd fd1 fd2 : FuncData} (F : Fn K mg "_law_quarrels" s__law_quarrels f fd ["script", "start", "many"]) (T : Txt K mg C Z)
    (F__law_cell_at : Fn K mg "_law_cell_at" s__law_cell_at f1 fd1 ["script", "k"]) (F__law_quarrel : Fn K mg "_law_quarrel" s__law_quarrel f2 fd2 ["cell", "many"]) : FnOk P w K mg base CX0 2 f fd ["script", "start", "many"] (sp_quarrels K) := by
  have G__law_cell_at : FnOk P w K mg base CX0 1 f1 fd1 ["script", "k"] (sp_cell_at K) := ok_cell_at F__law_cell_at T
  have G__law_quarrel : FnOk P w K mg base CX0 1 f2 fd2 ["cell", "many"] sp_quarrel := ok_quarrel F__law_quarrel T
  refine F.fn.ok sc__law_quarrels (fun vs H Q E h => ?_) (fun cdv A outer s H vs Q E hr h => ?_)
  · obtain ⟨a, ns, st, n, rfl, _⟩ := h
    rfl
  · obtain ⟨a, ns, st, n, rfl, hS, h1, h6, k⟩ := h
    refine ⟨_, (pss_cons (ps_if (pt_cmpR op_eq (pv 2) pe_int (nomark _))
      (pss_one (ps_ret (pe_lst pa_nil)))
      pss_nil)
      (pss_cons (ps_set (i := 3) sc__law_quarrels.nd (by rfl) (by first | exact Or.inl rfl | exact Or.inr rfl) (pe_op op_mod (pe_call G__law_cell_at (hr.mono (by decide)) (by rfl) F__law_cell_at.g F__law_cell_at.fn.kp F__law_cell_at.b .nil pass0 (pa_cons (pv 0) (pa_cons (pv 1) pa_nil))) pe_int))
      (pss_one (ps_ret (pe_comp rfl (N' := ["k", "script", "start", "many"]) (cap := [none, some 0, some 1, some 2]) ⟨rfl, by with_unfolding_all rfl⟩ (pi_range1 (by rfl) T.n_range (pa_cons (pv 3) pa_nil)) (fun _ => (pg_name (i := 0) (show (["k", "script", "start", "many"] : List Str).Nodup by decide +kernel) (by rfl) (by first | exact Or.inl rfl | exact Or.inr rfl))) (fun _ => pifs_nil) (fun _ => (pe_call G__law_quarrel (hr.mono (by decide)) (by rfl) F__law_quarrel.g F__law_quarrel.fn.kp F__law_quarrel.b .nil pass0 (pa_cons (pe_op op_mod (pe_call G__law_cell_at (hr.mono (by decide)) (by rfl) F__law_cell_at.g F__law_cell_at.fn.kp F__law_cell_at.b .nil pass0 (pa_cons (pv 1) (pa_cons (pe_op op_add (pe_op op_add (pv 2) pe_int) (pv 0)) pa_nil))) (pe_op op_pow pe_int pe_int)) (pa_cons (pv 3) pa_nil))))))))), ?_⟩
    refine ⟨_, rfl, rfl, _, rfl, ?_⟩
    refine ite2 (fun h => ?_) (fun h => ?_)
    · exact ⟨Nat.zero_le _, fun l hl => k [] l _ (Nat.zero_le _) (fun q hq => by cases hq) (same_new hl) ⟨[], upd_same, .nil⟩⟩
    · have h2 : 2 ≤ n := by
        have z : ¬ V.int (n : Int) = V.int 1 := fun z => h (decide_eq_true z)
        have : n ≠ 1 := fun e => z (by rw [e]; rfl)
        omega
      refine ⟨_, rfl, _, rfl, a, ns, st, rfl, hS, _, _, rfl, rfl, (by show (0 : Int) < 5; decide), ?_⟩
      have c0 : 0 ≤ ns.getD st 0 % 5 := Int.emod_nonneg _ (by decide)
      have c5 : ns.getD st 0 % 5 < 5 := Int.emod_lt_of_pos _ (by decide)
      dsimp only
      generalize ns.getD st 0 % 5 = cnt at c0 c5 ⊢
      refine ⟨_, rfl, cnt, rfl, by omega, by omega, fun D hD => ?_⟩
      refine comp_range (fun i xs H' => ∃ qs : List Qu, qs.length = i ∧ (∀ q ∈ qs, OkQ n q) ∧ Same H H' ∧ H' D = some (.lst xs) ∧ DVs H' (qs.map quD) xs)
        ⟨[], rfl, (fun q hq => by cases hq), same_new hD, upd_same, .nil⟩ (fun i xs H' _ ⟨_, _, _, _, h, _⟩ => h) ?_ ?_
      · rintro i xs H' hi ⟨qs, hq, ok, sm, hD', dv⟩
        refine ⟨Keep.set rfl, ?_⟩
        have e1 : (st : Int) + 1 + (0 + (i : Int)) = ((st + 1 + i : Nat) : Int) := by omega
        refine ⟨_, rfl, _, rfl, _, _, rfl, rfl, _, rfl, _, _, rfl, rfl, a, ns, st + 1 + i, (by show [V.ref a, V.int ((st : Int) + 1 + (0 + (i : Int)))] = _; rw [e1]), sm.seq hS, ?_⟩
        refine ⟨_, _, rfl, rfl, ⟨by decide, by decide, by decide⟩, _, _, rfl, rfl, (by show (0 : Int) < (10 : Int) ^ (9 : Int).toNat; decide), _, rfl, _, n, rfl, h2, h6, fun q p H2 okq sm2 hp => ?_⟩
        have hD2 := sm2 _ _ hD'
        have dl : xs.length = qs.length := dvs_len dv
        refine ⟨hD2, lt_line (by omega), qs ++ [q], by simp [hq], fun q' hq' => ?_, same_upd (sm.trans sm2) hD, upd_same, ?_⟩
        · rcases List.mem_append.mp hq' with z | z
          · exact ok q' z
          · rw [List.mem_singleton.mp z]; exact okq
        · rw [List.map_append]
          exact (dvs_upd hD2 (dv.mono sm2) (noLsts_map qu_no qs)).snoc (dv_upd hD2 (qu_dv hp) (qu_no q))
      · rintro xs H1 ⟨qs, hq, ok, sm, hD1, dv⟩
        exact k qs D H1 (by omega) ok sm ⟨xs, hD1, dv⟩

/-! ### _law_things -/
def sp_things (K : PySem.W.Frag) : Sp := fun vs H Q _ => ∃ (a : Addr) (ns : List Int) (st n : Nat), vs = [.ref a, .int st, .int n] ∧ SqL K H a (ns.map V.int) ∧ n ≤ 6 ∧
  ∀ (ts : List Th) (p : Addr) (H' : Hp), ts.length = n → (∀ t ∈ ts, 1 ≤ t.1 ∧ t.1 ≤ 1000000000) → Same H H' → LstAt thD H' p ts → Q (.ref p) H'
theorem sc__law_things : FnScope ["script", "start", "many", "most", "things", "k", "cell"] ["script", "start", "many"] (defScope s__law_things) := ⟨rfl, rfl, rfl, by decide +kernel, rfl, by decide +kernel, by decide +kernel⟩
theorem ok_things {f f1 : Addr} {fd fd1 : FuncData} (F : Fn K mg "_law_things" s__law_things f fd ["script", "start", "many"]) (T : Txt K mg C Z)
    (F__law_cell_at : Fn K mg "_law_cell_at" s__law_cell_at f1 fd1 ["script", "k"]) : FnOk P w K mg base CX0 2 f fd ["script", "start", "many"] (sp_things K) := by
  have G__law_cell_at : FnOk P w K mg base CX0 1 f1 fd1 ["script", "k"] (sp_cell_at K) := ok_cell_at F__law_cell_at T
  refine F.fn.ok sc__law_things (fun vs H Q E h => ?_) (fun cdv A outer s H vs Q E hr h => ?_)
  · obtain ⟨a, ns, st, n, rfl, _⟩ := h
    rfl
  · obtain ⟨a, ns, st, n, rfl, hS, h6, k⟩ := h
    refine ⟨_, (pss_cons (ps_set (i := 3) sc__law_things.nd (by rfl) (by first | exact Or.inl rfl | exact Or.inr rfl) (pe_ix ix_list (pe_lst (pa_cons pe_int (pa_cons pe_int (pa_cons (pe_op op_pow pe_int pe_int) pa_nil)))) (pe_op op_mod (pe_call G__law_cell_at (hr.mono (by decide)) (by rfl) F__law_cell_at.g F__law_cell_at.fn.kp F__law_cell_at.b .nil pass0 (pa_cons (pv 0) (pa_cons (pv 1) pa_nil))) pe_int) (fun _ _ => rfl)))
      (pss_cons (ps_set (i := 4) sc__law_things.nd (by rfl) (by first | exact Or.inl rfl | exact Or.inr rfl) (pe_lst pa_nil))
      (pss_cons (ps_for PassesOwn.never rfl (pi_range1 (by rfl) T.n_range (pa_cons (pv 2) pa_nil)) (pg_name (i := 5) sc__law_things.nd (by rfl) (by first | exact Or.inl rfl | exact Or.inr rfl))
      (pss_cons (ps_set (i := 6) sc__law_things.nd (by rfl) (by first | exact Or.inl rfl | exact Or.inr rfl) (pe_call G__law_cell_at (hr.mono (by decide)) (by rfl) F__law_cell_at.g F__law_cell_at.fn.kp F__law_cell_at.b .nil pass0 (pa_cons (pv 0) (pa_cons (pe_op op_add (pe_op op_add (pv 1) pe_int) (pv 5)) pa_nil))))
      (pss_one (ps_expr (pe_bm PySem.F.plainAttrs_list PySem.F.slot_list_append PySem.F.type_list_append mt_append (pv 4) (pa_cons (pe_tup (pa_cons (pe_op op_add pe_int (pe_op op_mod (pe_op op_fdiv (pv 6) pe_int) (pv 3))) (pa_cons (pe_cmpR op_lt (pe_op op_mod (pv 6) pe_int) pe_int (nomark _)) pa_nil))) pa_nil))))))
      (pss_one (ps_ret (pv 4)))))), ?_⟩
    refine ⟨_, _, rfl, rfl, ⟨by decide, by decide, by decide⟩, le_line (by show 3 ≤ _; decide), fun l0 hl0 => ?_⟩
    have s0 : Same H (L2.upd H l0 (.lst [V.int 20, V.int 4, V.int ((10 : Int) ^ (9 : Int).toNat)])) := same_new hl0
    have c0 : 0 ≤ ns.getD st 0 % 3 := Int.emod_nonneg _ (by decide)
    have c3 : ns.getD st 0 % 3 < 3 := Int.emod_lt_of_pos _ (by decide)
    obtain ⟨v, hv, hat⟩ := atI_in (xs := [V.int 20, V.int 4, V.int ((10 : Int) ^ (9 : Int).toNat)]) c0 (by show _ < ((3 : Nat) : Int); omega)
    obtain ⟨most, rfl, m1, m2⟩ : ∃ most : Int, v = V.int most ∧ 1 ≤ most ∧ most ≤ 1000000000 := by
      rcases List.mem_cons.mp hv with rfl | hv
      · exact ⟨20, rfl, by decide, by decide⟩
      rcases List.mem_cons.mp hv with rfl | hv
      · exact ⟨4, rfl, by decide, by decide⟩
      rw [List.mem_singleton.mp hv]
      exact ⟨_, rfl, by decide, by decide⟩
    refine ⟨_, rfl, _, rfl, a, ns, st, rfl, s0.seq hS, _, _, rfl, rfl, (by show (0 : Int) < 3; decide), l0, _, _, _, rfl, rfl, SqL.of upd_same, hat, ?_⟩
    refine ⟨Nat.zero_le _, fun l hl => ?_⟩
    have hHl : H l = none := s0.free hl
    refine ⟨_, rfl, (n : Int), rfl, by omega, by omega, for_range (fun i σ H' => ∃ (ts : List Th) (vs : List V) (v5 v6 : Option V), σ = [some (.ref a), some (.int st), some (.int n), some (.int most), some (.ref l), v5, v6] ∧ ts.length = i ∧ (∀ t ∈ ts, 1 ≤ t.1 ∧ t.1 ≤ 1000000000) ∧ Same H H' ∧ H' l = some (.lst vs) ∧ DVs H' (ts.map thD) vs)
      ⟨[], [], _, _, rfl, rfl, (fun t ht => by cases ht), same_upd s0 hHl, upd_same, .nil⟩ ?_ ?_⟩
    · rintro i σ H' hi ⟨ts, vs, v5, v6, rfl, ht, ok, sm, hl', dv⟩
      have e1 : (st : Int) + 1 + (0 + (i : Int)) = ((st + 1 + i : Nat) : Int) := by omega
      refine ⟨_, rfl, _, rfl, _, _, rfl, rfl, _, rfl, _, _, rfl, rfl, a, ns, st + 1 + i, (by show [V.ref a, V.int ((st : Int) + 1 + (0 + (i : Int)))] = _; rw [e1]), sm.seq hS, ?_⟩
      generalize ns.getD (st + 1 + i) 0 = cell
      refine ⟨_, rfl, .inl ⟨rfl, _, SqL.of hl'⟩, _, rfl, _, _, rfl, rfl, ⟨by decide, by decide⟩, _, rfl, _, _, rfl, rfl, (by show (0 : Int) < most; omega), _, _, rfl, rfl, _, rfl, _, _, rfl, rfl, (by show (0 : Int) < 3; decide), _, _, rfl, rfl, le_line (by show 2 ≤ _; decide), fun p hp => ?_⟩
      have nlp : l ≠ p := ne_of_none hl' hp
      have hl2 : (L2.upd H' p (.tup [V.int (1 + cell / 3 % most), V.bl (decide (cell % 3 < 2))])) l = some (.lst vs) := by rw [upd_ne nlp]; exact hl'
      have dl : vs.length = ts.length := dvs_len dv
      refine ⟨l, vs, _, rfl, rfl, hl2, lt_line (by omega), ?_⟩
      refine ⟨ts ++ [(1 + cell / 3 % most, decide (cell % 3 < 2))], _, _, _, rfl, by simp [ht], fun t ht' => ?_, same_upd (same_upd sm (sm.free hp)) hHl, upd_same, ?_⟩
      · rcases List.mem_append.mp ht' with z | z
        · exact ok t z
        · rw [List.mem_singleton.mp z]
          have q0 : 0 ≤ cell / 3 % most := Int.emod_nonneg _ (by omega)
          have q1 : cell / 3 % most < most := Int.emod_lt_of_pos _ (by omega)
          exact ⟨by show 1 ≤ 1 + cell / 3 % most; omega, by show 1 + cell / 3 % most ≤ 1000000000; omega⟩
      · rw [List.map_append]
        exact (dvs_upd hl2 (dv.mono (same_new hp)) (noLsts_map th_no ts)).snoc (dv_upd hl2 (th_dv upd_same) (th_no _))
    · rintro σ H' ⟨ts, vs, v5, v6, rfl, ht, ok, sm, hl', dv⟩
      exact ⟨_, rfl, k ts l H' (by omega) ok sm ⟨vs, hl', dv⟩⟩

/-! ### _law_night -/
structure NightD (H : Hp) (p : Addr) (m : Nat) (ts : List Th) (r : Int) (qs : List Qu) : Prop where
  t : OkT ts
  m : ts.length ≤ m
  r1 : 1 ≤ r
  r3 : r ≤ 3
  q : ∀ q ∈ qs, OkQ ts.length q
  ex : ∃ a b, H p = some (.tup [.ref a, .int r, .ref b]) ∧ LstAt thD H a ts ∧ LstAt quD H b qs
theorem NightD.mono {H H' : Hp} {p : Addr} {m : Nat} {ts : List Th} {r : Int} {qs : List Qu} (h : NightD H p m ts r qs) (e : Same H H') : NightD H' p m ts r qs :=
  let ⟨a, b, h1, h2, h3⟩ := h.ex
  ⟨h.t, h.m, h.r1, h.r3, h.q, a, b, e _ _ h1, h2.mono e, h3.mono e⟩
def sp_night (K : PySem.W.Frag) : Sp := fun vs H Q _ => ∃ (a : Addr) (ns : List Int) (m : Nat), vs = [.ref a, .int m] ∧ SqL K H a (ns.map V.int) ∧ 1 ≤ m ∧ m ≤ 6 ∧
  ∀ (ts : List Th) (r : Int) (qs : List Qu) (p : Addr) (H' : Hp), NightD H' p m ts r qs → qs.length ≤ 4 → Same H H' → Q (.ref p) H'
theorem sc__law_night : FnScope ["script", "most", "many", "room"] ["script", "most"] (defScope s__law_night) := ⟨rfl, rfl, rfl, by decide +kernel, rfl, by decide +kernel, by decide +kernel⟩
theorem ok_night {f f1 f2 f3 f4 : Addr} {fd fd1 fd2 fd3 fd4 : FuncData} (F : Fn K mg "_law_night" s__law_night f fd ["script", "most"]) (T : Txt K mg C Z)
    (F__law_cell_at : Fn K mg "_law_cell_at" s__law_cell_at f1 fd1 ["script", "k"]) (F__law_quarrel : Fn K mg "_law_quarrel" s__law_quarrel f2 fd2 ["cell", "many"])
    (F__law_quarrels : Fn K mg "_law_quarrels" s__law_quarrels f3 fd3 ["script", "start", "many"]) (F__law_things : Fn K mg "_law_things" s__law_things f4 fd4 ["script", "start", "many"]) : FnOk P w K mg base CX0 3 f fd ["script", "most"] (sp_night K) := by
  have G__law_cell_at : FnOk P w K mg base CX0 1 f1 fd1 ["script", "k"] (sp_cell_at K) := ok_cell_at F__law_cell_at T
  have G__law_quarrels : FnOk P w K mg base CX0 2 f3 fd3 ["script", "start", "many"] (sp_quarrels K) := ok_quarrels F__law_quarrels T F__law_cell_at F__law_quarrel
  have G__law_things : FnOk P w K mg base CX0 2 f4 fd4 ["script", "start", "many"] (sp_things K) := ok_things F__law_things T F__law_cell_at
  refine F.fn.ok sc__law_night (fun vs H Q E h => ?_) (fun cdv A outer s H vs Q E hr h => ?_)
  · obtain ⟨a, ns, m, rfl, _⟩ := h
    rfl
  · obtain ⟨a, ns, m, rfl, hS, h1, h6, k⟩ := h
    have hm : (0 : Int) < m := by omega
    obtain ⟨tl, htl, rtl⟩ : ∃ t, PSs (bX P w K mg base ["script", "most", "many", "room"] "_law_night" s__law_night f cdv A outer s H E) ((defBody s__law_night).drop 2) t ∧ ∀ n : Nat, 1 ≤ n → n ≤ m → t (bD Q) [some (.ref a), some (.int m), some (.int n), none] H := by
      refine ⟨_, (pss_cons (ps_set (i := 3) sc__law_night.nd (by rfl) (by first | exact Or.inl rfl | exact Or.inr rfl) (pe_ix ix_list (pe_lst (pa_cons pe_int (pa_cons pe_int (pa_cons pe_int (pa_cons pe_int pa_nil))))) (pe_op op_mod (pe_call G__law_cell_at (hr.mono (by decide)) (by rfl) F__law_cell_at.g F__law_cell_at.fn.kp F__law_cell_at.b .nil pass0 (pa_cons (pv 0) (pa_cons pe_int pa_nil))) pe_int) (fun _ _ => rfl)))
      (pss_one (ps_ret (pe_tup (pa_cons (pe_call G__law_things (hr.mono (by decide)) (by rfl) F__law_things.g F__law_things.fn.kp F__law_things.b .nil pass0 (pa_cons (pv 0) (pa_cons pe_int (pa_cons (pv 2) pa_nil)))) (pa_cons (pv 3) (pa_cons (pe_call G__law_quarrels (hr.mono (by decide)) (by rfl) F__law_quarrels.g F__law_quarrels.fn.kp F__law_quarrels.b .nil pass0 (pa_cons (pv 0) (pa_cons pe_int (pa_cons (pv 2) pa_nil)))) pa_nil))))))), fun n n1 nm => ?_⟩
      have d0 : 0 ≤ ns.getD 1 0 % 4 := Int.emod_nonneg _ (by decide)
      have d4 : ns.getD 1 0 % 4 < 4 := Int.emod_lt_of_pos _ (by decide)
      obtain ⟨v, hv, hat⟩ := atI_in (xs := [V.int 2, V.int 3, V.int 2, V.int 1]) d0 (by show _ < ((4 : Nat) : Int); omega)
      obtain ⟨r, rfl, r1, r3⟩ : ∃ r : Int, v = V.int r ∧ 1 ≤ r ∧ r ≤ 3 := by
        rcases List.mem_cons.mp hv with rfl | hv
        · exact ⟨2, rfl, by decide, by decide⟩
        rcases List.mem_cons.mp hv with rfl | hv
        · exact ⟨3, rfl, by decide, by decide⟩
        rcases List.mem_cons.mp hv with rfl | hv
        · exact ⟨2, rfl, by decide, by decide⟩
        rw [List.mem_singleton.mp hv]
        exact ⟨1, rfl, by decide, by decide⟩
      refine ⟨le_line (by show 4 ≤ _; decide), fun l0 hl0 => ?_⟩
      have s0 : Same H (L2.upd H l0 (.lst [V.int 2, V.int 3, V.int 2, V.int 1])) := same_new hl0
      refine ⟨_, rfl, a, ns, 1, rfl, s0.seq hS, _, _, rfl, rfl, (by show (0 : Int) < 4; decide), l0, _, _, _, rfl, rfl, SqL.of upd_same, hat, ?_⟩
      refine ⟨_, rfl, _, rfl, a, ns, 2, n, rfl, s0.seq hS, by omega, fun ts pt H1 ht okt s1 lt => ?_⟩
      refine ⟨_, rfl, _, rfl, _, rfl, a, ns, 10, n, rfl, (s0.trans s1).seq hS, n1, by omega, fun qs pq H2 hq okq s2 lq => ?_⟩
      refine ⟨le_line (by show 3 ≤ _; decide), fun p hp => ?_⟩
      exact k ts r qs p _ ⟨⟨by omega, by omega, okt⟩, by omega, r1, r3, by rw [ht]; exact okq, pt, pq, upd_same, (lt.mono s2).mono (same_new hp), lq.mono (same_new hp)⟩ hq ((s0.trans s1).trans (s2.trans (same_new hp)))
    refine ⟨_, (pss_cons (ps_set (i := 2) sc__law_night.nd (by rfl) (by first | exact Or.inl rfl | exact Or.inr rfl) (pe_op op_add pe_int (pe_op op_mod (pe_call G__law_cell_at (hr.mono (by decide)) (by rfl) F__law_cell_at.g F__law_cell_at.fn.kp F__law_cell_at.b .nil pass0 (pa_cons (pv 0) (pa_cons pe_int pa_nil))) (pv 1))))
      (pss_cons (ps_if (pt_cmpR op_eq (pe_op op_mod (pe_op op_fdiv (pe_call G__law_cell_at (hr.mono (by decide)) (by rfl) F__law_cell_at.g F__law_cell_at.fn.kp F__law_cell_at.b .nil pass0 (pa_cons (pv 0) (pa_cons pe_int pa_nil))) pe_int) pe_int) pe_int (nomark _))
      (pss_one (ps_set (i := 2) sc__law_night.nd (by rfl) (by first | exact Or.inl rfl | exact Or.inr rfl) (pv 1)))
      pss_nil)
      htl)), ?_⟩
    refine ⟨_, rfl, a, ns, 0, rfl, hS, _, rfl, _, _, rfl, rfl, hm, _, _, rfl, rfl, ?_⟩
    have c0 : 0 ≤ ns.getD 0 0 % (m : Int) := Int.emod_nonneg _ (by omega)
    have c1 : ns.getD 0 0 % (m : Int) < m := Int.emod_lt_of_pos _ hm
    refine ⟨_, rfl, a, ns, 0, rfl, hS, _, _, rfl, rfl, ⟨by decide, by decide⟩, _, _, rfl, rfl, (by show (0 : Int) < 2; decide), rfl, _, rfl, ?_⟩
    refine ite2 (fun h => ?_) (fun h => ?_)
    · refine ⟨_, rfl, ?_⟩
      exact rtl m h1 (Nat.le_refl _)
    · have e : (1 : Int) + ns.getD 0 0 % (m : Int) = (((1 + ns.getD 0 0 % (m : Int)).toNat : Nat) : Int) := by omega
      have z := rtl (1 + ns.getD 0 0 % (m : Int)).toNat (by omega) (by omega)
      rw [← e] at z
      exact z

end
end FN


set_option Elab.async false
set_option linter.all false
set_option maxRecDepth 100000
set_option maxHeartbeats 4000000
namespace FN
open PySem L2 PyProof.Rows
section
variable {P : Program} {w : World} {K : PySem.W.Frag} {mg : Str → Option Value} {base : Heap} {C : Addr} {Z : Ad}

/-! ### the checks, where all is well -/
def sp_check_things : Sp := fun vs H Q _ => ∃ (a : Addr) (ts : List Th), vs = [.ref a] ∧ LstAt thD H a ts ∧ OkT ts ∧ Q .non H
theorem sc_check_things : FnScope ["things", "pace", "rows"] ["things"] (defScope s_check_things) := ⟨rfl, rfl, rfl, by decide +kernel, rfl, by decide +kernel, by decide +kernel⟩
def sp_check_room : Sp := fun vs H Q _ => ∃ (r : Int), vs = [.int r] ∧ 1 ≤ r ∧ r ≤ 3 ∧ Q .non H
theorem sc_check_room : FnScope ["room"] ["room"] (defScope s_check_room) := ⟨rfl, rfl, rfl, by decide +kernel, rfl, by decide +kernel, by decide +kernel⟩
def sp_is_thing : Sp := fun vs H Q _ => ∃ (n c : Int), vs = [.int n, .int c] ∧ Q (.bl (decide (0 ≤ n ∧ n < c))) H
theorem sc_is_thing : FnScope ["number", "count"] ["number", "count"] (defScope s_is_thing) := ⟨rfl, rfl, rfl, by decide +kernel, rfl, by decide +kernel, by decide +kernel⟩
theorem ok_is_thing {f : Addr} {fd : FuncData} (F : Fn K mg "is_thing" s_is_thing f fd ["number", "count"]) : FnOk P w K mg base CX0 1 f fd ["number", "count"] sp_is_thing := by
  refine F.fn.ok sc_is_thing (fun vs H Q E h => ?_) (fun cdv A outer s H vs Q E hr h => ?_)
  · obtain ⟨n, c, rfl, _⟩ := h
    rfl
  · obtain ⟨n, c, rfl, k⟩ := h
    refine ⟨_, (pss_one (ps_ret (pe_chain op_le op_lt pe_int (pv 0) (pv 1)))), ?_⟩
    refine ⟨_, rfl, _, _, rfl, rfl, _, rfl, ?_⟩
    refine ite2 (fun h => ?_) (fun h => ?_)
    · have h0 : 0 ≤ n := of_decide_eq_true h
      refine ⟨_, rfl, _, _, rfl, rfl, ?_⟩
      have e : decide (n < c) = decide (0 ≤ n ∧ n < c) := by rw [Bool.eq_iff_iff]; simp [h0]
      show Q (V.bl (decide (n < c))) H
      rw [e]
      exact k
    · have h0 : ¬ 0 ≤ n := fun z => h (decide_eq_true z)
      have e : decide (0 ≤ n ∧ n < c) = false := decide_eq_false (fun z => h0 z.1)
      rw [e] at k
      exact k

def sp_is_pair : Sp := fun vs H Q _ => ∃ (a b c : Int), vs = [.int a, .int b, .int c] ∧ Q (.bl (decide (0 ≤ a ∧ a < c) && (decide (0 ≤ b ∧ b < c) && !decide (V.int a = V.int b)))) H
theorem sc_is_pair : FnScope ["one", "other", "count"] ["one", "other", "count"] (defScope s_is_pair) := ⟨rfl, rfl, rfl, by decide +kernel, rfl, by decide +kernel, by decide +kernel⟩
theorem ok_is_pair {f f1 : Addr} {fd fd1 : FuncData} (F : Fn K mg "is_pair" s_is_pair f fd ["one", "other", "count"]) (F_is_thing : Fn K mg "is_thing" s_is_thing f1 fd1 ["number", "count"]) : FnOk P w K mg base CX0 2 f fd ["one", "other", "count"] sp_is_pair := by
  have G_is_thing : FnOk P w K mg base CX0 1 f1 fd1 ["number", "count"] sp_is_thing := ok_is_thing F_is_thing
  refine F.fn.ok sc_is_pair (fun vs H Q E h => ?_) (fun cdv A outer s H vs Q E hr h => ?_)
  · obtain ⟨a, b, c, rfl, _⟩ := h
    rfl
  · obtain ⟨a, b, c, rfl, k⟩ := h
    refine ⟨_, (pss_one (ps_ret (pe_and (pe_call G_is_thing (hr.mono (by decide)) (by rfl) F_is_thing.g F_is_thing.fn.kp F_is_thing.b .nil pass0 (pa_cons (pv 0) (pa_cons (pv 2) pa_nil))) (pe_and (pe_call G_is_thing (hr.mono (by decide)) (by rfl) F_is_thing.g F_is_thing.fn.kp F_is_thing.b .nil pass0 (pa_cons (pv 1) (pa_cons (pv 2) pa_nil))) (pe_one (pe_cmpR op_ne (pv 0) (pv 1) (nomark _))))))), ?_⟩
    refine ⟨_, rfl, _, rfl, _, _, rfl, _, rfl, ?_⟩
    refine iteE (fun h1 => ?_) (fun h1 => ?_)
    · refine ⟨_, rfl, _, rfl, _, _, rfl, _, rfl, ?_⟩
      refine iteE (fun h2 => ?_) (fun h2 => ?_)
      · refine ⟨_, rfl, _, rfl, rfl, ?_⟩
        rw [h1, h2] at k
        exact k
      · rw [h1, h2] at k
        exact k
    · rw [h1] at k
      exact k

def sp_is_keeper : Sp := fun vs H Q _ => ∃ (kp a b c : Int), vs = [.int kp, .int a, .int b, .int c] ∧ Q (.bl (decide (V.int kp = V.int (-1)) || (decide (0 ≤ kp ∧ kp < c) && (!decide (V.int kp = V.int a) && !decide (V.int kp = V.int b))))) H
theorem sc_is_keeper : FnScope ["keeper", "one", "other", "count"] ["keeper", "one", "other", "count"] (defScope s_is_keeper) := ⟨rfl, rfl, rfl, by decide +kernel, rfl, by decide +kernel, by decide +kernel⟩
theorem ok_is_keeper {f f1 : Addr} {fd fd1 : FuncData} (F : Fn K mg "is_keeper" s_is_keeper f fd ["keeper", "one", "other", "count"]) (T : Txt K mg C Z) (F_is_thing : Fn K mg "is_thing" s_is_thing f1 fd1 ["number", "count"]) : FnOk P w K mg base CX0 2 f fd ["keeper", "one", "other", "count"] sp_is_keeper := by
  have G_is_thing : FnOk P w K mg base CX0 1 f1 fd1 ["number", "count"] sp_is_thing := ok_is_thing F_is_thing
  refine F.fn.ok sc_is_keeper (fun vs H Q E h => ?_) (fun cdv A outer s H vs Q E hr h => ?_)
  · obtain ⟨kp, a, b, c, rfl, _⟩ := h
    rfl
  · obtain ⟨kp, a, b, c, rfl, k⟩ := h
    refine ⟨_, (pss_cons (ps_if (pt_cmpR op_eq (pv 0) (pe_glob (v := .int (-1)) (by rfl) T.c_NO_KEEPER ⟨_, rfl⟩) (nomark _))
      (pss_one (ps_ret pe_bl))
      pss_nil)
      (pss_one (ps_ret (pe_and (pe_call G_is_thing (hr.mono (by decide)) (by rfl) F_is_thing.g F_is_thing.fn.kp F_is_thing.b .nil pass0 (pa_cons (pv 0) (pa_cons (pv 3) pa_nil))) (pe_and (pe_cmpR op_ne (pv 0) (pv 1) (nomark _)) (pe_one (pe_cmpR op_ne (pv 0) (pv 2) (nomark _)))))))), ?_⟩
    refine ⟨_, rfl, rfl, _, rfl, ?_⟩
    refine iteE (fun h0 => ?_) (fun h0 => ?_)
    · rw [h0] at k
      exact k
    · rw [h0] at k
      refine ⟨_, rfl, _, rfl, _, _, rfl, _, rfl, ?_⟩
      refine iteE (fun h1 => ?_) (fun h1 => ?_)
      · rw [h1] at k
        refine ⟨_, rfl, _, rfl, rfl, _, rfl, ?_⟩
        refine iteE (fun h2 => ?_) (fun h2 => ?_)
        · rw [h2] at k
          refine ⟨_, rfl, _, rfl, rfl, ?_⟩
          exact k
        · rw [h2] at k
          exact k
      · rw [h1] at k
        exact k

def sp_check_quarrels : Sp := fun vs H Q _ => ∃ (a : Addr) (n : Nat) (qs : List Qu), vs = [.ref a, .int n] ∧ LstAt quD H a qs ∧ qs.length ≤ 30 ∧ (∀ q ∈ qs, OkQ n q) ∧ Q .non H
theorem sc_check_quarrels : FnScope ["quarrels", "count", "one", "other", "keeper"] ["quarrels", "count"] (defScope s_check_quarrels) := ⟨rfl, rfl, rfl, by decide +kernel, rfl, by decide +kernel, by decide +kernel⟩
/-! ### Night -/
def sp_init (C : Addr) : Sp := fun vs H Q _ => ∃ (p dx a b : Addr) (ts : List Th) (r : Int) (qs : List Qu), vs = [.ref p, .ref a, .int r, .ref b] ∧ H p = some (.ins C dx []) ∧ LstAt thD H a ts ∧ OkT ts ∧ 1 ≤ r ∧ r ≤ 3 ∧ LstAt quD H b qs ∧ qs.length ≤ 30 ∧ (∀ q ∈ qs, OkQ ts.length q) ∧
  ∀ H', NightAt C H' p ts r qs → (∀ b o, H b = some o → b ≠ p → H' b = some o) → Q .non H'
theorem sc_Night___init__ : FnScope ["self", "things", "room", "quarrels"] ["self", "things", "room", "quarrels"] (defScope s_Night___init__) := ⟨rfl, rfl, rfl, by decide +kernel, rfl, by decide +kernel, by decide +kernel⟩
def sp_nthings (C : Addr) : Sp := fun vs H Q _ => ∃ (p : Addr) (ts : List Th) (r : Int) (qs : List Qu), vs = [.ref p] ∧ NightAt C H p ts r qs ∧ ∀ l vs, H l = none → DVs H (ts.map thD) vs → Q (.ref l) (L2.upd H l (.lst vs))
theorem sc_Night_things : FnScope ["self"] ["self"] (defScope s_Night_things) := ⟨rfl, rfl, rfl, by decide +kernel, rfl, by decide +kernel, by decide +kernel⟩
theorem ok_nthings {f : Addr} {fd : FuncData} (F : Mt K "things" "Night.things" s_Night_things f fd ["self"]) (T : Txt K mg C Z) : FnOk P w K mg base CX0 1 f fd ["self"] (sp_nthings C) := by
  refine F.fn.ok sc_Night_things (fun vs H Q E h => ?_) (fun cdv A outer s H vs Q E hr h => ?_)
  · obtain ⟨p, ts, r, qs, rfl, _⟩ := h
    rfl
  · obtain ⟨p, ts, r, qs, rfl, N, k⟩ := h
    obtain ⟨dx, t, q, hp, ⟨vt, ht, dt⟩, _⟩ := N.ex
    refine ⟨_, (pss_one (ps_ret (pe_callTy call_list_of (by rfl) T.n_list boot_list (pa_cons (pe_fld (pv 0) rfl) pa_nil)))), ?_⟩
    exact ⟨_, rfl, p, C, dx, _, _, rfl, hp, T.cl_Night, T.a_things, flds_t _ _ _, t, _, rfl, .inr (SqT.of ht), fun l hl => k l vt hl dt⟩
def sp_nquarrels (C : Addr) : Sp := fun vs H Q _ => ∃ (p : Addr) (ts : List Th) (r : Int) (qs : List Qu), vs = [.ref p] ∧ NightAt C H p ts r qs ∧ ∀ l vs, H l = none → DVs H (qs.map quD) vs → Q (.ref l) (L2.upd H l (.lst vs))
theorem sc_Night_quarrels : FnScope ["self"] ["self"] (defScope s_Night_quarrels) := ⟨rfl, rfl, rfl, by decide +kernel, rfl, by decide +kernel, by decide +kernel⟩
theorem ok_nquarrels {f : Addr} {fd : FuncData} (F : Mt K "quarrels" "Night.quarrels" s_Night_quarrels f fd ["self"]) (T : Txt K mg C Z) : FnOk P w K mg base CX0 1 f fd ["self"] (sp_nquarrels C) := by
  refine F.fn.ok sc_Night_quarrels (fun vs H Q E h => ?_) (fun cdv A outer s H vs Q E hr h => ?_)
  · obtain ⟨p, ts, r, qs, rfl, _⟩ := h
    rfl
  · obtain ⟨p, ts, r, qs, rfl, N, k⟩ := h
    obtain ⟨dx, t, q, hp, _, ⟨vq, hq, dq⟩⟩ := N.ex
    refine ⟨_, (pss_one (ps_ret (pe_callTy call_list_of (by rfl) T.n_list boot_list (pa_cons (pe_fld (pv 0) rfl) pa_nil)))), ?_⟩
    exact ⟨_, rfl, p, C, dx, _, _, rfl, hp, T.cl_Night, T.a_quarrels, flds_q _ _ _, q, _, rfl, .inr (SqT.of hq), fun l hl => k l vq hl dq⟩
def sp_nroom (C : Addr) : Sp := fun vs H Q _ => ∃ (p : Addr) (ts : List Th) (r : Int) (qs : List Qu), vs = [.ref p] ∧ NightAt C H p ts r qs ∧ Q (.int r) H
theorem sc_Night_room : FnScope ["self"] ["self"] (defScope s_Night_room) := ⟨rfl, rfl, rfl, by decide +kernel, rfl, by decide +kernel, by decide +kernel⟩
theorem ok_nroom {f : Addr} {fd : FuncData} (F : Mt K "room" "Night.room" s_Night_room f fd ["self"]) (T : Txt K mg C Z) : FnOk P w K mg base CX0 1 f fd ["self"] (sp_nroom C) := by
  refine F.fn.ok sc_Night_room (fun vs H Q E h => ?_) (fun cdv A outer s H vs Q E hr h => ?_)
  · obtain ⟨p, ts, r, qs, rfl, _⟩ := h
    rfl
  · obtain ⟨p, ts, r, qs, rfl, N, k⟩ := h
    obtain ⟨dx, t, q, hp, _, _⟩ := N.ex
    refine ⟨_, (pss_one (ps_ret (pe_fld (pv 0) rfl))), ?_⟩
    exact ⟨_, rfl, p, C, dx, _, _, rfl, hp, T.cl_Night, T.a_room, flds_r _ _ _, k⟩
end
end FN


set_option Elab.async false
set_option linter.all false
set_option maxRecDepth 100000
set_option maxHeartbeats 4000000
namespace FN
open PySem L2 PyProof.Rows
structure OkQs (n : Nat) (qs : List Qu) : Prop where
  l : qs.length ≤ 30
  q : ∀ q ∈ qs, OkQ n q
section
variable {P : Program} {w : World} {K : PySem.W.Frag} {mg : Str → Option Value} {base : Heap} {C : Addr} {Z : Ad}
/-! ### the checks, whatever they are handed -/
def sp_check_thingsX (Z : Ad) : Sp := fun vs H Q E => ∃ (a : Addr) (ts : List Th), vs = [.ref a] ∧ LstAt thD H a ts ∧ (OkT ts → Q .non H) ∧ (¬ OkT ts → E (.ref Z.BadThing) none H)
theorem ok_check_thingsX {f : Addr} {fd : FuncData} (F : Fn K mg "check_things" s_check_things f fd ["things"]) (T : Txt K mg C Z) : FnOk P w K mg base (CXB true P w) 1 f fd ["things"] (sp_check_thingsX Z) := by
  refine F.fn.okX sc_check_things (fun vs H Q E h => ?_) (fun cdv A outer s H vs Q E hr h => ?_)
  · obtain ⟨a, ts, rfl, _⟩ := h
    rfl
  · obtain ⟨a, ts, rfl, ⟨va, ha, dv⟩, k, kx⟩ := h
    refine ⟨_, (pss_cons (ps_if (pt_not (pt_chain op_le op_le pe_int (pe_callB call_len_seq (by rfl) T.n_len PySem.boot_len (pa_cons (pv 0) pa_nil)) (pe_glob (v := .int (6)) (by rfl) T.c_MOST_THINGS ⟨_, rfl⟩)))
      (pss_one (ps_raise outs_def rfl (by rfl) T.g_BadThing T.x_BadThing PySem.F.excBase_ValueError (pa_cons pe_str pa_nil)))
      pss_nil)
      (pss_one (ps_for own_def rfl (pi_list (pv 0)) (pg_tup rfl (pgs_cons (pg_name (i := 1) sc_check_things.nd (by rfl) (by first | exact Or.inl rfl | exact Or.inr rfl)) (pgs_cons (pg_name (i := 2) sc_check_things.nd (by rfl) (by first | exact Or.inl rfl | exact Or.inr rfl)) pgs_nil)))
      (pss_one (ps_if (pt_not (pt_chain op_le op_le pe_int (pv 1) (pe_glob (v := .int (1000000000)) (by rfl) T.c_MOST_MINUTES ⟨_, rfl⟩)))
      (pss_one (ps_raise outs_def rfl (by rfl) T.g_BadThing T.x_BadThing PySem.F.excBase_ValueError (pa_cons pe_str pa_nil)))
      pss_nil))))), ?_⟩
    have hl := dvs_len dv
    refine ⟨_, rfl, a, _, rfl, .inl (SqL.of ha), _, _, rfl, rfl, _, rfl, ?_⟩
    have bad : ¬ (1 ≤ (va.length : Int) ∧ (va.length : Int) ≤ 6) → E (.ref Z.BadThing) none H := fun hn => kx fun ok => hn (by have := ok.l1; have := ok.l6; omega)
    refine iteE (fun h1 => ?_) (fun h1 => ?_)
    rotate_left
    · exact ⟨_, rfl, iteT ⟨le_line (by show 1 ≤ _; decide), bad fun z => by rw [decide_eq_true z.1] at h1; cases h1⟩⟩
    refine ⟨_, _, rfl, rfl, _, rfl, ?_⟩
    refine iteE (fun h2 => ?_) (fun h2 => ?_)
    · exact ⟨le_line (by show 1 ≤ _; decide), bad fun z => by have h2' : (!decide ((va.length : Int) ≤ 6)) = true := h2; rw [decide_eq_true z.2] at h2'; cases h2'⟩
    have h1' : (1 : Int) ≤ (va.length : Int) := of_decide_eq_true h1
    have h2' : (va.length : Int) ≤ 6 := by
      have z : (!decide ((va.length : Int) ≤ 6)) = false := h2
      simpa using z
    refine ⟨_, rfl, a, rfl, ⟨_, SqL.of ha⟩, for_list (K := K) (a := a) (xs := va) (fun i σ H' => H' = H ∧ (∃ v1 v2, σ = [some (.ref a), v1, v2]) ∧ ∀ t ∈ ts.take i, 1 ≤ t.1 ∧ t.1 ≤ 1000000000) ⟨rfl, ⟨_, _, rfl⟩, by simp⟩ (fun i σ H' _ ⟨e, _⟩ => by rw [e]; exact SqL.of ha) ?_ ?_⟩
    · rintro i x σ H' hi ⟨rfl, ⟨v1, v2, rfl⟩, hin⟩
      obtain ⟨t, ht, dt⟩ := dvs_get dv hi
      obtain ⟨b, rfl, hb⟩ := th_inv dt
      have bad2 : ¬ (1 ≤ t.1 ∧ t.1 ≤ 1000000000) → E (.ref Z.BadThing) none H' := fun hn => kx fun ok => hn (ok.p t (List.mem_of_getElem? ht))
      refine ⟨b, _, rfl, SqT.of hb, rfl, _, _, rfl, _, _, rfl, rfl, ?_⟩
      refine ⟨_, rfl, _, _, rfl, rfl, _, rfl, ?_⟩
      refine iteE (fun h3 => ?_) (fun h3 => ?_)
      rotate_left
      · exact ⟨_, rfl, iteT ⟨le_line (by show 1 ≤ _; decide), bad2 fun z => by rw [decide_eq_true z.1] at h3; cases h3⟩⟩
      refine ⟨_, _, rfl, rfl, _, rfl, ?_⟩
      refine iteE (fun h4 => ?_) (fun h4 => ?_)
      · exact ⟨le_line (by show 1 ≤ _; decide), bad2 fun z => by have h4' : (!decide (t.1 ≤ (1000000000 : Int))) = true := h4; rw [decide_eq_true z.2] at h4'; cases h4'⟩
      · refine ⟨rfl, ⟨_, _, rfl⟩, fun y hy => ?_⟩
        rw [List.take_add_one, ht] at hy
        rcases List.mem_append.mp hy with z | z
        · exact hin y z
        · have e : y = t := by simpa using z
          rw [e]
          have z4 : (!decide (t.1 ≤ (1000000000 : Int))) = false := h4
          exact ⟨of_decide_eq_true h3, by simpa using z4⟩
    · rintro σ H' ⟨rfl, ⟨v1, v2, rfl⟩, hin⟩
      rw [hl, List.take_length] at hin
      exact k ⟨by omega, by omega, hin⟩
def sp_check_roomX (Z : Ad) : Sp := fun vs H Q E => ∃ (r : Int), vs = [.int r] ∧ (1 ≤ r ∧ r ≤ 3 → Q .non H) ∧ (¬ (1 ≤ r ∧ r ≤ 3) → E (.ref Z.BadRoom) none H)
theorem ok_check_roomX {f : Addr} {fd : FuncData} (F : Fn K mg "check_room" s_check_room f fd ["room"]) (T : Txt K mg C Z) : FnOk P w K mg base (CXB true P w) 1 f fd ["room"] (sp_check_roomX Z) := by
  refine F.fn.okX sc_check_room (fun vs H Q E h => ?_) (fun cdv A outer s H vs Q E hr h => ?_)
  · obtain ⟨r, rfl, _⟩ := h
    rfl
  · obtain ⟨r, rfl, k, kx⟩ := h
    refine ⟨_, (pss_one (ps_if (pt_not (pt_chain op_le op_le pe_int (pv 0) (pe_glob (v := .int (3)) (by rfl) T.c_MOST_ROOM ⟨_, rfl⟩)))
      (pss_one (ps_raise outs_def rfl (by rfl) T.g_BadRoom T.x_BadRoom PySem.F.excBase_ValueError (pa_cons pe_str pa_nil)))
      pss_nil)), ?_⟩
    refine ⟨_, rfl, _, _, rfl, rfl, _, rfl, ?_⟩
    refine iteE (fun h1 => ?_) (fun h1 => ?_)
    rotate_left
    · exact ⟨_, rfl, iteT ⟨le_line (by show 1 ≤ _; decide), kx fun z => by rw [decide_eq_true z.1] at h1; cases h1⟩⟩
    refine ⟨_, _, rfl, rfl, _, rfl, ?_⟩
    refine iteE (fun h2 => ?_) (fun h2 => ?_)
    · exact ⟨le_line (by show 1 ≤ _; decide), kx fun z => by have h2' : (!decide (r ≤ (3 : Int))) = true := h2; rw [decide_eq_true z.2] at h2'; cases h2'⟩
    · have z2 : (!decide (r ≤ (3 : Int))) = false := h2
      exact k ⟨of_decide_eq_true h1, by simpa using z2⟩
def sp_check_quarrelsX (Z : Ad) : Sp := fun vs H Q E => ∃ (a : Addr) (n : Nat) (qs : List Qu), vs = [.ref a, .int n] ∧ LstAt quD H a qs ∧ (OkQs n qs → Q .non H) ∧ (¬ OkQs n qs → E (.ref Z.BadQuarrel) none H)
theorem ok_check_quarrelsX {f f1 f2 f3 : Addr} {fd fd1 fd2 fd3 : FuncData} (F : Fn K mg "check_quarrels" s_check_quarrels f fd ["quarrels", "count"]) (T : Txt K mg C Z) (F_is_thing : Fn K mg "is_thing" s_is_thing f1 fd1 ["number", "count"])
    (F_is_pair : Fn K mg "is_pair" s_is_pair f2 fd2 ["one", "other", "count"]) (F_is_keeper : Fn K mg "is_keeper" s_is_keeper f3 fd3 ["keeper", "one", "other", "count"]) : FnOk P w K mg base (CXB true P w) 3 f fd ["quarrels", "count"] (sp_check_quarrelsX Z) := by
  have G_is_pair : FnOk P w K mg base CX0 2 f2 fd2 ["one", "other", "count"] sp_is_pair := ok_is_pair F_is_pair F_is_thing
  have G_is_keeper : FnOk P w K mg base CX0 2 f3 fd3 ["keeper", "one", "other", "count"] sp_is_keeper := ok_is_keeper F_is_keeper T F_is_thing
  refine F.fn.okX sc_check_quarrels (fun vs H Q E h => ?_) (fun cdv A outer s H vs Q E hr h => ?_)
  · obtain ⟨a, n, qs, rfl, _⟩ := h
    rfl
  · obtain ⟨a, n, qs, rfl, ⟨va, ha, dv⟩, k, kx⟩ := h
    refine ⟨_, (pss_cons (ps_if (pt_cmpR op_gt (pe_callB call_len_seq (by rfl) T.n_len PySem.boot_len (pa_cons (pv 0) pa_nil)) (pe_glob (v := .int (30)) (by rfl) T.c_MOST_QUARRELS ⟨_, rfl⟩) (nomark _))
      (pss_one (ps_raise outs_def rfl (by rfl) T.g_BadQuarrel T.x_BadQuarrel PySem.F.excBase_ValueError (pa_cons pe_str pa_nil)))
      pss_nil)
      (pss_one (ps_for own_def rfl (pi_list (pv 0)) (pg_tup rfl (pgs_cons (pg_name (i := 2) sc_check_quarrels.nd (by rfl) (by first | exact Or.inl rfl | exact Or.inr rfl)) (pgs_cons (pg_name (i := 3) sc_check_quarrels.nd (by rfl) (by first | exact Or.inl rfl | exact Or.inr rfl)) (pgs_cons (pg_name (i := 4) sc_check_quarrels.nd (by rfl) (by first | exact Or.inl rfl | exact Or.inr rfl)) pgs_nil))))
      (pss_cons (ps_if (pt_not (pt_val (pe_call G_is_pair (hr.mono (by decide)) (by rfl) F_is_pair.g F_is_pair.fn.kp F_is_pair.b .nil pass0 (pa_cons (pv 2) (pa_cons (pv 3) (pa_cons (pv 1) pa_nil))))))
      (pss_one (ps_raise outs_def rfl (by rfl) T.g_BadQuarrel T.x_BadQuarrel PySem.F.excBase_ValueError (pa_cons pe_str pa_nil)))
      pss_nil)
      (pss_one (ps_if (pt_not (pt_val (pe_call G_is_keeper (hr.mono (by decide)) (by rfl) F_is_keeper.g F_is_keeper.fn.kp F_is_keeper.b .nil pass0 (pa_cons (pv 4) (pa_cons (pv 2) (pa_cons (pv 3) (pa_cons (pv 1) pa_nil)))))))
      (pss_one (ps_raise outs_def rfl (by rfl) T.g_BadQuarrel T.x_BadQuarrel PySem.F.excBase_ValueError (pa_cons pe_str pa_nil)))
      pss_nil)))))), ?_⟩
    have hl := dvs_len dv
    refine ⟨_, rfl, a, _, rfl, .inl (SqL.of ha), _, _, rfl, rfl, _, rfl, ?_⟩
    refine iteE (fun h1 => ?_) (fun h1 => ?_)
    · exact ⟨le_line (by show 1 ≤ _; decide), kx fun ok => by have := ok.l; have := of_decide_eq_true h1; omega⟩
    have h1' : qs.length ≤ 30 := by
      have := of_decide_eq_false h1
      omega
    refine ⟨_, rfl, a, rfl, ⟨_, SqL.of ha⟩, for_list (K := K) (a := a) (xs := va) (fun i σ H' => H' = H ∧ (∃ v1 v2 v3, σ = [some (.ref a), some (.int n), v1, v2, v3]) ∧ ∀ q ∈ qs.take i, OkQ n q) ⟨rfl, ⟨_, _, _, rfl⟩, by simp⟩ (fun i σ H' _ ⟨e, _⟩ => by rw [e]; exact SqL.of ha) ?_ ?_⟩
    · rintro i x σ H' hi ⟨rfl, ⟨v1, v2, v3, rfl⟩, hin⟩
      obtain ⟨q, hq, dq⟩ := dvs_get dv hi
      obtain ⟨b, rfl, hb⟩ := qu_inv dq
      have bad : ¬ OkQ n q → E (.ref Z.BadQuarrel) none H' := fun hn => kx fun ok => hn (ok.q q (List.mem_of_getElem? hq))
      refine ⟨b, _, rfl, SqT.of hb, rfl, _, _, rfl, _, _, rfl, _, _, rfl, rfl, ?_⟩
      refine ⟨_, rfl, _, rfl, _, rfl, _, _, _, rfl, _, rfl, ?_⟩
      refine iteE (fun h2 => ?_) (fun h2 => ?_)
      · refine ⟨le_line (by show 1 ≤ _; decide), bad fun o => ?_⟩
        have e1 : decide (0 ≤ q.1 ∧ q.1 < (n : Int)) = true := decide_eq_true ⟨o.a0, o.a1⟩
        have e2 : decide (0 ≤ q.2.1 ∧ q.2.1 < (n : Int)) = true := decide_eq_true ⟨o.b0, o.b1⟩
        have e3 : decide (V.int q.1 = V.int q.2.1) = false := decide_eq_false fun z => o.ab (by injection z)
        rw [e1, e2, e3] at h2
        cases h2
      have h2' : (decide (0 ≤ q.1 ∧ q.1 < (n : Int)) && (decide (0 ≤ q.2.1 ∧ q.2.1 < (n : Int)) && !decide (V.int q.1 = V.int q.2.1))) = true := by
        have z : (!(decide (0 ≤ q.1 ∧ q.1 < (n : Int)) && (decide (0 ≤ q.2.1 ∧ q.2.1 < (n : Int)) && !decide (V.int q.1 = V.int q.2.1)))) = false := h2
        rw [Bool.not_eq_false'] at z
        exact z
      simp only [Bool.and_eq_true, decide_eq_true_eq, Bool.not_eq_true', decide_eq_false_iff_not] at h2'
      obtain ⟨⟨a0, a1⟩, ⟨b0, b1⟩, ab⟩ := h2'
      refine ⟨_, rfl, _, rfl, _, rfl, _, rfl, _, _, _, _, rfl, _, rfl, ?_⟩
      refine iteE (fun h3 => ?_) (fun h3 => ?_)
      · refine ⟨le_line (by show 1 ≤ _; decide), bad fun o => ?_⟩
        have e4 : (decide (V.int q.2.2 = V.int (-1)) || (decide (0 ≤ q.2.2 ∧ q.2.2 < (n : Int)) && (!decide (V.int q.2.2 = V.int q.1) && !decide (V.int q.2.2 = V.int q.2.1)))) = true := by
          rcases o.k with z | ⟨z1, z2, z3, z4⟩
          · rw [decide_eq_true (show V.int q.2.2 = V.int (-1) by rw [z])]
            rfl
          · rw [decide_eq_true (show 0 ≤ q.2.2 ∧ q.2.2 < (n : Int) from ⟨z1, z2⟩), decide_eq_false (show ¬ V.int q.2.2 = V.int q.1 from fun z => z3 (by injection z)), decide_eq_false (show ¬ V.int q.2.2 = V.int q.2.1 from fun z => z4 (by injection z))]
            simp
        rw [e4] at h3
        cases h3
      have h3' : (decide (V.int q.2.2 = V.int (-1)) || (decide (0 ≤ q.2.2 ∧ q.2.2 < (n : Int)) && (!decide (V.int q.2.2 = V.int q.1) && !decide (V.int q.2.2 = V.int q.2.1)))) = true := by
        have z : (!(decide (V.int q.2.2 = V.int (-1)) || (decide (0 ≤ q.2.2 ∧ q.2.2 < (n : Int)) && (!decide (V.int q.2.2 = V.int q.1) && !decide (V.int q.2.2 = V.int q.2.1))))) = false := h3
        rw [Bool.not_eq_false'] at z
        exact z
      simp only [Bool.or_eq_true, Bool.and_eq_true, decide_eq_true_eq, Bool.not_eq_true', decide_eq_false_iff_not] at h3'
      refine ⟨rfl, ⟨_, _, _, rfl⟩, fun y hy => ?_⟩
      rw [List.take_add_one, hq] at hy
      rcases List.mem_append.mp hy with z | z
      · exact hin y z
      · have e : y = q := by simpa using z
        rw [e]
        refine ⟨a0, a1, b0, b1, fun z => ab (by rw [z]), ?_⟩
        rcases h3' with z | ⟨⟨z1, z2⟩, z3, z4⟩
        · exact .inl (by injection z)
        · exact .inr ⟨z1, z2, fun z => z3 (by rw [z]), fun z => z4 (by rw [z])⟩
    · rintro σ H' ⟨rfl, ⟨v1, v2, v3, rfl⟩, hin⟩
      rw [hl, List.take_length] at hin
      exact k ⟨h1', hin⟩
/-! ### Night -/
def sp_initX (C : Addr) (Z : Ad) : Sp := fun vs H Q E => ∃ (p dx a b : Addr) (ts : List Th) (r : Int) (qs : List Qu), vs = [.ref p, .ref a, .int r, .ref b] ∧ H p = some (.ins C dx []) ∧ LstAt thD H a ts ∧ LstAt quD H b qs ∧
  (OkT ts → 1 ≤ r → r ≤ 3 → OkQs ts.length qs → ∀ H', NightAt C H' p ts r qs → (∀ b o, H b = some o → b ≠ p → H' b = some o) → Q .non H') ∧ (¬ OkT ts → E (.ref Z.BadThing) none H) ∧ (OkT ts → ¬ (1 ≤ r ∧ r ≤ 3) → E (.ref Z.BadRoom) none H) ∧
  (OkT ts → 1 ≤ r ∧ r ≤ 3 → ¬ OkQs ts.length qs → E (.ref Z.BadQuarrel) none H)
theorem ok_initX {f f1 f2 f3 f4 f5 f6 : Addr} {fd fd1 fd2 fd3 fd4 fd5 fd6 : FuncData} (F : Mt K "__init__" "Night.__init__" s_Night___init__ f fd ["self", "things", "room", "quarrels"]) (T : Txt K mg C Z) (F_is_thing : Fn K mg "is_thing" s_is_thing f1 fd1 ["number", "count"])
    (F_is_pair : Fn K mg "is_pair" s_is_pair f2 fd2 ["one", "other", "count"]) (F_is_keeper : Fn K mg "is_keeper" s_is_keeper f3 fd3 ["keeper", "one", "other", "count"])
    (F_check_things : Fn K mg "check_things" s_check_things f4 fd4 ["things"]) (F_check_room : Fn K mg "check_room" s_check_room f5 fd5 ["room"]) (F_check_quarrels : Fn K mg "check_quarrels" s_check_quarrels f6 fd6 ["quarrels", "count"]) :
    FnOk P w K mg base (CXB true P w) 4 f fd ["self", "things", "room", "quarrels"] (sp_initX C Z) := by
  have G_check_things : FnOk P w K mg base (CXB true P w) 1 f4 fd4 ["things"] (sp_check_thingsX Z) := ok_check_thingsX F_check_things T
  have G_check_room : FnOk P w K mg base (CXB true P w) 1 f5 fd5 ["room"] (sp_check_roomX Z) := ok_check_roomX F_check_room T
  have G_check_quarrels : FnOk P w K mg base (CXB true P w) 3 f6 fd6 ["quarrels", "count"] (sp_check_quarrelsX Z) := ok_check_quarrelsX F_check_quarrels T F_is_thing F_is_pair F_is_keeper
  refine F.fn.okX sc_Night___init__ (fun vs H Q E h => ?_) (fun cdv A outer s H vs Q E hr h => ?_)
  · obtain ⟨p, dx, a, b, ts, r, qs, rfl, _⟩ := h
    rfl
  · obtain ⟨p, dx, a, b, ts, r, qs, rfl, hp, lt, lq, k', kt, kr, kq⟩ := h
    refine ⟨_, (pss_cons (ps_expr (pe_call G_check_things (hr.mono (by decide)) (by rfl) F_check_things.g F_check_things.fn.kp F_check_things.b .nil passes_def (pa_cons (pv 1) pa_nil)))
      (pss_cons (ps_expr (pe_call G_check_room (hr.mono (by decide)) (by rfl) F_check_room.g F_check_room.fn.kp F_check_room.b .nil passes_def (pa_cons (pv 2) pa_nil)))
      (pss_cons (ps_expr (pe_call G_check_quarrels (hr.mono (by decide)) (by rfl) F_check_quarrels.g F_check_quarrels.fn.kp F_check_quarrels.b .nil passes_def (pa_cons (pv 3) (pa_cons (pe_callB call_len_seq (by rfl) T.n_len PySem.boot_len (pa_cons (pv 1) pa_nil)) pa_nil))))
      (pss_cons (ps_fld (pv 0) (pe_callTy call_tuple_of (by rfl) T.n_tuple boot_tuple (pa_cons (pv 1) pa_nil)) rfl)
      (pss_cons (ps_fld (pv 0) (pv 2) rfl)
      (pss_one (ps_fld (pv 0) (pe_callTy call_tuple_of (by rfl) T.n_tuple boot_tuple (pa_cons (pv 3) pa_nil)) rfl))))))), ?_⟩
    obtain ⟨va, ha, dva⟩ := id lt
    obtain ⟨vb, hb, dvb⟩ := id lq
    have hl := dvs_len dva
    refine ⟨_, rfl, a, ts, rfl, lt, fun okt => ?_, kt⟩
    refine ⟨_, rfl, r, rfl, fun hr13 => ?_, fun hn => kr okt hn⟩
    refine ⟨_, rfl, _, rfl, a, _, rfl, .inl (SqL.of ha), b, va.length, qs, rfl, lq, fun okq' => ?_, fun hn => kq okt hr13 (fun z => hn (by rw [hl]; exact z))⟩
    have okq : OkQs ts.length qs := by rw [hl] at okq'; exact okq'
    have k := k' okt hr13.1 hr13.2 okq
    refine ⟨_, rfl, a, _, rfl, .inl ⟨SqL.of ha, fun t ht => ?_⟩⟩
    have npt : p ≠ t := ne_of_none hp ht
    have nbt : b ≠ t := ne_of_none hb ht
    refine ⟨_, rfl, p, C, dx, [], rfl, (by rw [upd_ne npt]; exact hp), T.cl_Night, T.a_things, (by show 0 < 1000; decide), ?_⟩
    refine ⟨_, rfl, _, rfl, p, C, dx, _, rfl, upd_same, T.cl_Night, T.a_room, (by show 1 < 1000; decide), ?_⟩
    have nbp : b ≠ p := ne_of hb hp (by intro z; cases z)
    have hb2 : ∀ o o', (L2.upd (L2.upd (L2.upd H t (.tup va)) p o) p o') b = some (.lst vb) := fun o o' => by rw [upd_ne nbp, upd_ne nbp, upd_ne nbt]; exact hb
    refine ⟨_, rfl, b, _, rfl, .inl ⟨SqL.of (hb2 _ _), fun q hq' => ?_⟩⟩
    have npq : p ≠ q := ne_of_none (H := L2.upd (L2.upd (L2.upd H t (.tup va)) p _) p _) upd_same hq'
    refine ⟨_, rfl, p, C, dx, _, rfl, (by rw [upd_ne npq]; exact upd_same), T.cl_Night, T.a_quarrels, (by show 2 < 1000; decide), ?_⟩
    have old : ∀ b o, H b = some o → b ≠ p → (L2.upd (L2.upd (L2.upd (L2.upd (L2.upd H t (.tup va)) p (.ins C dx (putF "kept_things" (.ref t) []))) p (.ins C dx (putF "kept_room" (.int r) (putF "kept_things" (.ref t) [])))) q (.tup vb)) p (.ins C dx (flds t r q))) b = some o := fun c o hc hcp => by
      have nct : c ≠ t := ne_of_none hc ht
      have h1 : (L2.upd (L2.upd (L2.upd H t (.tup va)) p (.ins C dx (putF "kept_things" (.ref t) []))) p (.ins C dx (putF "kept_room" (.int r) (putF "kept_things" (.ref t) [])))) c = some o := by rw [upd_ne hcp, upd_ne hcp, upd_ne nct]; exact hc
      have ncq : c ≠ q := ne_of_none h1 hq'
      rw [upd_ne hcp, upd_ne ncq]
      exact h1
    have ntp : t ≠ p := fun e => npt e.symm
    have ht1 : (L2.upd (L2.upd (L2.upd H t (.tup va)) p (.ins C dx (putF "kept_things" (.ref t) []))) p (.ins C dx (putF "kept_room" (.int r) (putF "kept_things" (.ref t) [])))) t = some (.tup va) := by rw [upd_ne ntp, upd_ne ntp]; exact upd_same
    have ntq : t ≠ q := ne_of_none ht1 hq'
    -- the inner tuples stand apart from p
    have sm : ∀ {α : Type} {f : α → PyData} {l : List α} {vs : List V}, (∀ x, noLst (f x) = true) → DVs H (l.map f) vs → DVs (L2.upd (L2.upd (L2.upd (L2.upd (L2.upd H t (.tup va)) p (.ins C dx (putF "kept_things" (.ref t) []))) p (.ins C dx (putF "kept_room" (.int r) (putF "kept_things" (.ref t) [])))) q (.tup vb)) p (.ins C dx (flds t r q))) (l.map f) vs := fun {α f l vs} hf h => dvs_but (fun b ws hb => old b _ hb (by
        intro z
        rw [z, hp] at hb
        cases hb)) h (noLsts_map hf l)
    refine k _ ⟨dx, t, q, upd_same, ⟨va, ?_, sm th_no dva⟩, ⟨vb, ?_, sm qu_no dvb⟩⟩ old
    · rw [upd_ne ntp, upd_ne ntq]; exact ht1
    · rw [upd_ne (fun e => npq e.symm)]; exact upd_same
end
end FN


set_option Elab.async false
set_option linter.all false
set_option maxRecDepth 100000
set_option maxHeartbeats 4000000
namespace FN
open PySem L2 PyProof.Rows WD
abbrev most : Nat := 1000000
theorem most_line {n : Nat} (h : n ≤ most) : n ≤ sizeLine := Nat.le_trans h (by decide)
theorem isNum_zero {x : Str} (e : x = "0") : isNum x = true := by unfold isNum; rw [decide_eq_true e]; rfl
theorem isNum_else {x : Str} (e : x ≠ "0") : isNum x = (decide (1 ≤ x.length) && decide (x.length ≤ 10) && !decide (x.cps.toList[0]? = some 48) && x.cps.toList.all fig) := by unfold isNum; rw [decide_eq_false e]; rfl
theorem num_reads {x : Str} (h : isNum x = true) : PySem.intText? x = some (val x) ∧ x.length ≤ 640 := by
  obtain ⟨h1, h2, h3⟩ := isNum_digits h
  exact ⟨PySem.intText_digits h1 h2 (by omega), by omega⟩
theorem sign_eq {c : Nat} : decide (V.str ⟨#[c]⟩ = V.str "0") = decide (c = 48) := by
  by_cases e : c = 48
  · subst e; rw [decide_eq_true rfl]; exact decide_eq_true rfl
  · rw [decide_eq_false e, decide_eq_false]
    intro z
    injection z with z
    have : (⟨#[c]⟩ : Str).cps.toList = [48] := by rw [z]; rfl
    exact e (by simpa using this)
theorem dec_strs {a b : Str} : decide (V.str a = V.str b) = decide (a = b) := by
  by_cases e : a = b
  · rw [decide_eq_true e, decide_eq_true (by rw [e])]
  · rw [decide_eq_false e, decide_eq_false (fun z => e (by injection z))]
theorem ne_str {a b : Str} (h : (!decide (V.str a = V.str b)) = true) : ¬ a = b := fun e => by rw [e, decide_eq_true rfl] at h; cases h
theorem eq_str {a b : Str} (h : (!decide (V.str a = V.str b)) = false) : a = b := by
  rw [dec_strs] at h
  exact of_decide_eq_true (by simpa using h)
theorem cut_last (xs : List V) : cutV xs none (some (-1)) = xs.dropLast := by
  unfold cutV
  have e : HT.sIx xs.length xs.length (some (-1)) = xs.length - 1 := by
    have h := HT.clip_eq (-1) xs.length xs.length
    rw [if_pos (by decide)] at h
    omega
  rw [e, HT.sIx_none, List.drop_zero, Nat.sub_zero, List.dropLast_eq_take]
theorem cut_tail (xs : List V) : cutV xs (some 1) none = xs.tail := by
  unfold cutV
  rw [show (1 : Int) = ((1 : Nat) : Int) from rfl, HT.sIx_nat, HT.sIx_none]
  cases xs with
  | nil => rfl
  | cons x xs =>
    rw [show min 1 (x :: xs).length = 1 by simp]
    exact List.take_of_length_le (by simp)
theorem boat2 (a b : Str) : boatOf [a, b] = if a = "boat" ∧ isNum b = true then some (val b) else none := rfl
theorem thing3 (a b c : Str) : thingOf [a, b, c] = if a = "thing" ∧ (c = "rows" ∨ c = "sits") ∧ isNum b = true then some (val b, decide (c = "rows")) else none := rfl
theorem quarrel4 (a b c d : Str) : quarrelOf [a, b, c, d] = if a = "quarrel" ∧ isNum b = true ∧ isNum c = true ∧ (d = "-" ∨ isNum d = true) then some (val b, val c, if d = "-" then -1 else val d) else none := rfl
section
variable {P : Program} {w : World} {K : PySem.W.Frag} {mg : Str → Option Value} {base : Heap} {C : Addr} {Z : Ad}
/-! ### is_number, read_number -/
def sp_is_number : Sp := fun vs H Q _ => ∃ (x : Str), vs = [.str x] ∧ x.length ≤ most ∧ ∀ H', Same H H' → Q (.bl (isNum x)) H'
theorem sc_is_number : FnScope ["word"] ["word"] (defScope s_is_number) := ⟨rfl, rfl, rfl, by decide +kernel, rfl, by decide +kernel, by decide +kernel⟩
theorem ok_is_number {f : Addr} {fd : FuncData} (F : Fn K mg "is_number" s_is_number f fd ["word"]) (T : Txt K mg C Z) : FnOk P w K mg base CX0 1 f fd ["word"] sp_is_number := by
  refine F.fn.ok sc_is_number (fun vs H Q E h => ?_) (fun cdv A outer s H vs Q E hr h => ?_)
  · obtain ⟨x, rfl, _⟩ := h
    rfl
  · obtain ⟨x, rfl, hz, k⟩ := h
    refine ⟨_, (pss_cons (ps_if (pt_cmpR op_eq (pv 0) pe_str (nomark _))
      (pss_one (ps_ret pe_bl))
      pss_nil)
      (pss_cons (ps_if (PW.pt (pw_or (pt_not (pt_chain op_le op_le pe_int (pe_callB call_len_str (by rfl) T.n_len PySem.boot_len (pa_cons (pv 0) pa_nil)) (pe_glob (v := .int (10)) (by rfl) T.c_MOST_FIGURES ⟨_, rfl⟩))) (pw_or1 (pt_cmpR op_eq (pe_ix ix_str (pv 0) pe_int (fun _ _ => rfl)) pe_str (nomark _)))))
      (pss_one (ps_ret pe_bl))
      pss_nil)
      (pss_one (ps_ret (pe_callB (call_all rfl) (by rfl) T.n_all boot_all (pa_cons (pe_comp rfl (N' := ["sign"]) (cap := [none]) ⟨rfl, by with_unfolding_all rfl⟩ (pi_str (pv 0)) (fun _ => (pg_name (i := 0) (show (["sign"] : List Str).Nodup by decide +kernel) (by rfl) (by first | exact Or.inl rfl | exact Or.inr rfl))) (fun _ => pifs_nil) (fun _ => (pe_cmpR op_in_str (pv 0) (pe_glob (v := .str "0123456789") (by rfl) T.c_FIGURES ⟨_, rfl⟩) (by with_unfolding_all rfl)))) pa_nil)))))), ?_⟩
    have kb : ∀ b, isNum x = b → ∀ H', Same H H' → Q (.bl b) H' := fun b e H' sm => by rw [← e]; exact k H' sm
    have hl := len_toList x
    refine ⟨_, rfl, rfl, _, rfl, ?_⟩
    refine iteE (fun h0 => ?_) (fun h0 => ?_)
    · exact kb true (isNum_zero (by have := of_decide_eq_true h0; injection this)) H fun _ _ e => e
    have e0 : x ≠ "0" := fun z => by have := of_decide_eq_false h0; exact this (by rw [z])
    have e1 := isNum_else e0
    refine ⟨_, rfl, x, rfl, most_line hz, _, _, rfl, rfl, _, rfl, ?_⟩
    refine iteE (fun h1 => ?_) (fun h1 => ?_)
    rotate_left
    · refine ⟨_, rfl, iteT (iteT ?_)⟩
      refine kb false ?_ H fun _ _ e => e
      rw [e1, decide_eq_false (show ¬ 1 ≤ x.length from fun z => of_decide_eq_false h1 (by omega))]
      rfl
    have h1' : (1 : Int) ≤ (x.length : Int) := of_decide_eq_true h1
    refine ⟨_, _, rfl, rfl, _, rfl, ?_⟩
    refine iteE (fun h2 => ?_) (fun h2 => ?_)
    · refine iteT ?_
      have h2' : (!decide ((x.length : Int) ≤ 10)) = true := h2
      refine kb false ?_ H fun _ _ e => e
      rw [e1, decide_eq_false (show ¬ x.length ≤ 10 from fun z => by rw [decide_eq_true (by omega)] at h2'; cases h2')]
      simp
    have h2' : (x.length : Int) ≤ 10 := by
      have z : (!decide ((x.length : Int) ≤ 10)) = false := h2
      simpa using z
    obtain ⟨c, hc⟩ : ∃ c, x.cps.toList[0]? = some c := ⟨x.cps.toList[0]'(by omega), List.getElem?_eq_getElem (by omega)⟩
    refine ⟨_, rfl, x, 0, c, rfl, rfl, most_line hz, atI_nat (j := 0) hc, rfl, _, rfl, ?_⟩
    refine iteE (fun h3 => ?_) (fun h3 => ?_)
    · have h3' : decide (V.str ⟨#[c]⟩ = V.str "0") = true := h3
      rw [sign_eq] at h3'
      refine kb false ?_ H fun _ _ e => e
      rw [e1, hc, decide_eq_true (show some c = some 48 by rw [of_decide_eq_true h3'])]
      simp
    have h3' : decide (V.str ⟨#[c]⟩ = V.str "0") = false := h3
    rw [sign_eq] at h3'
    have e2 : isNum x = x.cps.toList.all fig := by
      rw [e1, hc, decide_eq_true (show 1 ≤ x.length by omega), decide_eq_true (show x.length ≤ 10 by omega), decide_eq_false (show ¬ some c = some 48 from fun z => of_decide_eq_false h3' (Option.some.inj z))]
      rfl
    refine ⟨_, rfl, x, rfl, fun D hD => ?_⟩
    refine comp_str (x := x) (fun i xs H' => Same H H' ∧ H' D = some (.lst xs) ∧ xs = (x.cps.toList.take i).map fun c => V.bl (fig c)) ⟨same_new hD, upd_same, rfl⟩ (fun i xs H' _ ⟨_, h, _⟩ => h) ?_ ?_
    · rintro i c xs H' hi ⟨sm, hD', rfl⟩
      refine ⟨Keep.set rfl, ?_⟩
      have hi' : x.cps.toList[i]? = some c := by rw [← hi]; simp
      have hlt : i < x.cps.toList.length := (List.getElem?_eq_some_iff.mp hi').1
      refine ⟨_, rfl, _, _, rfl, rfl, hD', lt_line (by rw [List.length_map, List.length_take]; omega), same_upd sm hD, upd_same, ?_⟩
      rw [List.take_add_one, hi']
      simp only [Option.toList, List.map_append]
      rfl
    · rintro xs H' ⟨sm, hD', rfl⟩
      refine ⟨D, x.cps.toList.map fig, rfl, SqL.of ?_, ?_⟩
      · rw [hD', show x.cps.size = x.cps.toList.length by simp, List.take_length, List.map_map]
        rfl
      · refine kb _ ?_ H' sm
        rw [e2, List.all_map]
        rfl
def sp_read_number (Z : Ad) : Sp := fun vs H Q E => ∃ (x : Str), vs = [.str x] ∧ x.length ≤ most ∧ (isNum x = true → ∀ H', Same H H' → Q (.int (val x)) H') ∧ (isNum x = false → ∀ H', Same H H' → E (.ref Z.BadNote) none H')
theorem sc_read_number : FnScope ["word"] ["word"] (defScope s_read_number) := ⟨rfl, rfl, rfl, by decide +kernel, rfl, by decide +kernel, by decide +kernel⟩
theorem ok_read_number {f f1 : Addr} {fd fd1 : FuncData} (F : Fn K mg "read_number" s_read_number f fd ["word"]) (T : Txt K mg C Z) (F_is_number : Fn K mg "is_number" s_is_number f1 fd1 ["word"]) : FnOk P w K mg base (CXF P w) 2 f fd ["word"] (sp_read_number Z) := by
  have G_is_number : FnOk P w K mg base CX0 1 f1 fd1 ["word"] sp_is_number := ok_is_number F_is_number T
  refine F.fn.okX sc_read_number (fun vs H Q E h => ?_) (fun cdv A outer s H vs Q E hr h => ?_)
  · obtain ⟨x, rfl, _⟩ := h
    rfl
  · obtain ⟨x, rfl, hz, k, kx⟩ := h
    refine ⟨_, (pss_cons (ps_if (pt_not (pt_val (pe_call G_is_number (hr.mono (by decide)) (by rfl) F_is_number.g F_is_number.fn.kp F_is_number.b .nil pass0 (pa_cons (pv 0) pa_nil))))
      (pss_one (ps_raise outs_def rfl (by rfl) T.g_BadNote T.x_BadNote PySem.F.excBase_ValueError (pa_cons pe_str pa_nil)))
      pss_nil)
      (pss_one (ps_ret (pe_callTy call_int_text (by rfl) T.n_int boot_int (pa_cons (pv 0) pa_nil))))), ?_⟩
    refine ⟨_, rfl, x, rfl, hz, fun H1 s1 => ⟨_, rfl, ?_⟩⟩
    refine iteE (fun h0 => ?_) (fun h0 => ?_)
    · have e : isNum x = false := by have z : (!isNum x) = true := h0; simpa using z
      exact ⟨le_line (by show 1 ≤ _; decide), kx e H1 s1⟩
    · have e : isNum x = true := by have z : (!isNum x) = false := h0; simpa using z
      obtain ⟨r1, r2⟩ := num_reads e
      exact ⟨_, rfl, x, _, rfl, r1, r2, k e H1 s1⟩
/-! ### read_words -/
def sp_read_words (Z : Ad) : Sp := fun vs H Q E => ∃ (x y : Str) (n : Nat), vs = [.str x, .str y, .int n] ∧ x.length ≤ most ∧ ((wds x)[0]? = some y ∧ (wds x).length = n → ∀ l H', Same H H' → H' l = some (.lst ((wds x).map V.str)) → Q (.ref l) H') ∧
  (¬ ((wds x)[0]? = some y ∧ (wds x).length = n) → ∀ H', Same H H' → E (.ref Z.BadNote) none H')
theorem wds_len (x : Str) (h : x.length ≤ most) : (wds x).length ≤ sizeLine := Nat.le_trans (split_le x ⟨#[32]⟩) (Nat.le_trans (Nat.add_le_add_right h 2) (by decide))
theorem lns_len (x : Str) (h : x.length ≤ most) : (lns x).length ≤ sizeLine := Nat.le_trans (split_le x ⟨#[10]⟩) (Nat.le_trans (Nat.add_le_add_right h 2) (by decide))
theorem lns_len' (x : Str) (h : x.length ≤ most) : (lns x).length ≤ most + 2 := Nat.le_trans (split_le x ⟨#[10]⟩) (by omega)
theorem wds_pos (x : Str) : ∃ y r, wds x = y :: r := by
  cases e : wds x with
  | nil => exact absurd e (split_ne x ⟨#[32]⟩)
  | cons y r => exact ⟨y, r, rfl⟩
theorem wd_short {x y : Str} (h : y ∈ wds x) (hz : x.length ≤ most) : y.length ≤ most := Nat.le_trans (part_short h) hz
theorem sc_read_words : FnScope ["line", "first", "count", "words"] ["line", "first", "count"] (defScope s_read_words) := ⟨rfl, rfl, rfl, by decide +kernel, rfl, by decide +kernel, by decide +kernel⟩
theorem ok_read_words {f : Addr} {fd : FuncData} (F : Fn K mg "read_words" s_read_words f fd ["line", "first", "count"]) (T : Txt K mg C Z) : FnOk P w K mg base (CXF P w) 1 f fd ["line", "first", "count"] (sp_read_words Z) := by
  refine F.fn.okX sc_read_words (fun vs H Q E h => ?_) (fun cdv A outer s H vs Q E hr h => ?_)
  · obtain ⟨x, y, n, rfl, _⟩ := h
    rfl
  · obtain ⟨x, y, n, rfl, hz, k, kx⟩ := h
    refine ⟨_, (pss_cons (ps_set (i := 3) sc_read_words.nd (by rfl) (by first | exact Or.inl rfl | exact Or.inr rfl) (pe_bm PySem.F.plainAttrs_str PySem.F.slot_str_split PySem.F.type_str_split mt_split (pv 0) (pa_cons pe_str pa_nil)))
      (pss_cons (ps_if (PW.pt (pw_or (pt_cmpR op_ne (pe_ix ix_list (pv 3) pe_int (fun _ _ => rfl)) (pv 1) (nomark _)) (pw_or1 (pt_cmpR op_ne (pe_callB call_len_seq (by rfl) T.n_len PySem.boot_len (pa_cons (pv 3) pa_nil)) (pv 2) (nomark _)))))
      (pss_one (ps_raise outs_def rfl (by rfl) T.g_BadNote T.x_BadNote PySem.F.excBase_ValueError (pa_cons pe_str pa_nil)))
      pss_nil)
      (pss_one (ps_ret (pv 3))))), ?_⟩
    refine ⟨_, rfl, rfl, x, " ", rfl, rfl, rfl, most_line hz, wds_len x hz, fun l hl => ?_⟩
    show _
    have hl' : (L2.upd H l (.lst ((wds x).map V.str))) l = some (.lst ((wds x).map V.str)) := upd_same
    have s1 : Same H (L2.upd H l (.lst ((wds x).map V.str))) := same_new hl
    obtain ⟨y0, r, ew⟩ := wds_pos x
    refine ⟨_, rfl, l, _, 0, .str y0, rfl, rfl, SqL.of hl', atI_nat (j := 0) (by rw [ew]; rfl), _, rfl, rfl, _, rfl, ?_⟩
    refine iteE (fun h0 => ?_) (fun h0 => ?_)
    · have h0' : (!decide (V.str y0 = V.str y)) = true := h0
      refine iteT ⟨le_line (by show 1 ≤ _; decide), kx (fun z => ?_) _ s1⟩
      have : y0 = y := by have := z.1; rw [ew] at this; simpa using this
      rw [this, decide_eq_true rfl] at h0'
      cases h0'
    have h0' : (!decide (V.str y0 = V.str y)) = false := h0
    have ey : y0 = y := by
      have : decide (V.str y0 = V.str y) = true := by simpa using h0'
      have := of_decide_eq_true this
      injection this
    refine ⟨_, rfl, l, _, rfl, .inl (SqL.of hl'), _, rfl, rfl, _, rfl, ?_⟩
    rw [List.length_map]
    refine iteE (fun h1 => ?_) (fun h1 => ?_)
    · have h1' : (!decide (V.int ((wds x).length : Nat) = V.int n)) = true := h1
      refine ⟨le_line (by show 1 ≤ _; decide), kx (fun z => ?_) _ s1⟩
      rw [z.2, decide_eq_true rfl] at h1'
      cases h1'
    · have h1' : (!decide (V.int ((wds x).length : Nat) = V.int n)) = false := h1
      have en : (wds x).length = n := by
        have : decide (V.int ((wds x).length : Nat) = V.int n) = true := by simpa using h1'
        have := of_decide_eq_true this
        injection this with this
        omega
      exact ⟨_, rfl, k ⟨by rw [ew, ey]; rfl, en⟩ l _ s1 hl'⟩
/-! ### read_boat, read_thing, read_quarrel -/
def sp_read_boat (Z : Ad) : Sp := fun vs H Q E => ∃ (x : Str), vs = [.str x] ∧ x.length ≤ most ∧ (∀ n, boatOf (wds x) = some n → ∀ H', Same H H' → Q (.int n) H') ∧ (boatOf (wds x) = none → ∀ H', Same H H' → E (.ref Z.BadNote) none H')
theorem sc_read_boat : FnScope ["line", "words"] ["line"] (defScope s_read_boat) := ⟨rfl, rfl, rfl, by decide +kernel, rfl, by decide +kernel, by decide +kernel⟩
theorem ok_read_boat {f f1 f2 f3 : Addr} {fd fd1 fd2 fd3 : FuncData} (F : Fn K mg "read_boat" s_read_boat f fd ["line"]) (T : Txt K mg C Z) (F_is_number : Fn K mg "is_number" s_is_number f1 fd1 ["word"]) (F_read_number : Fn K mg "read_number" s_read_number f2 fd2 ["word"])
    (F_read_words : Fn K mg "read_words" s_read_words f3 fd3 ["line", "first", "count"]) : FnOk P w K mg base (CXF P w) 3 f fd ["line"] (sp_read_boat Z) := by
  have G_read_number : FnOk P w K mg base (CXF P w) 2 f2 fd2 ["word"] (sp_read_number Z) := ok_read_number F_read_number T F_is_number
  have G_read_words : FnOk P w K mg base (CXF P w) 1 f3 fd3 ["line", "first", "count"] (sp_read_words Z) := ok_read_words F_read_words T
  refine F.fn.okX sc_read_boat (fun vs H Q E h => ?_) (fun cdv A outer s H vs Q E hr h => ?_)
  · obtain ⟨x, rfl, _⟩ := h
    rfl
  · obtain ⟨x, rfl, hz, k, kx⟩ := h
    refine ⟨_, (pss_cons (ps_set (i := 1) sc_read_boat.nd (by rfl) (by first | exact Or.inl rfl | exact Or.inr rfl) (pe_call G_read_words (hr.mono (by decide)) (by rfl) F_read_words.g F_read_words.fn.kp F_read_words.b .nil passes_def (pa_cons (pv 0) (pa_cons pe_str (pa_cons pe_int pa_nil)))))
      (pss_one (ps_ret (pe_call G_read_number (hr.mono (by decide)) (by rfl) F_read_number.g F_read_number.fn.kp F_read_number.b .nil passes_def (pa_cons (pe_ix ix_list (pv 1) pe_int (fun _ _ => rfl)) pa_nil))))), ?_⟩
    refine ⟨_, rfl, x, "boat", 2, rfl, hz, fun hw l H1 s1 h1 => ?_, fun hn => kx ?_⟩
    · obtain ⟨hw0, hw2⟩ := hw
      match e : wds x, hw2 with
      | [a, b], _ =>
        rw [e] at hw0 h1
        have ea : a = "boat" := by simpa using hw0
        have mb : b.length ≤ most := wd_short (by rw [e]; simp) hz
        refine ⟨_, rfl, l, _, 1, .str b, rfl, rfl, SqL.of h1, rfl, b, rfl, mb, fun hb H2 s2 => k (val b) ?_ H2 (s1.trans s2), fun hb H2 s2 => kx ?_ H2 (s1.trans s2)⟩
        · rw [e, boat2]; rw [if_pos ⟨ea, hb⟩]
        · rw [e, boat2]; rw [if_neg]; rintro ⟨_, z⟩; rw [hb] at z; cases z
    · unfold boatOf
      split
      · rename_i a b e
        rw [if_neg]
        rintro ⟨z, _⟩
        exact hn (by rw [e, z]; exact ⟨rfl, rfl⟩)
      · rfl
def sp_read_thing (Z : Ad) : Sp := fun vs H Q E => ∃ (x : Str), vs = [.str x] ∧ x.length ≤ most ∧ (∀ t : Th, thingOf (wds x) = some t → ∀ p H', Same H H' → H' p = some (.tup [.int t.1, .bl t.2]) → Q (.ref p) H') ∧ (thingOf (wds x) = none → ∀ H', Same H H' → E (.ref Z.BadNote) none H')
theorem sc_read_thing : FnScope ["line", "words"] ["line"] (defScope s_read_thing) := ⟨rfl, rfl, rfl, by decide +kernel, rfl, by decide +kernel, by decide +kernel⟩
theorem ok_read_thing {f f1 f2 f3 : Addr} {fd fd1 fd2 fd3 : FuncData} (F : Fn K mg "read_thing" s_read_thing f fd ["line"]) (T : Txt K mg C Z) (F_is_number : Fn K mg "is_number" s_is_number f1 fd1 ["word"]) (F_read_number : Fn K mg "read_number" s_read_number f2 fd2 ["word"])
    (F_read_words : Fn K mg "read_words" s_read_words f3 fd3 ["line", "first", "count"]) : FnOk P w K mg base (CXF P w) 3 f fd ["line"] (sp_read_thing Z) := by
  have G_read_number : FnOk P w K mg base (CXF P w) 2 f2 fd2 ["word"] (sp_read_number Z) := ok_read_number F_read_number T F_is_number
  have G_read_words : FnOk P w K mg base (CXF P w) 1 f3 fd3 ["line", "first", "count"] (sp_read_words Z) := ok_read_words F_read_words T
  refine F.fn.okX sc_read_thing (fun vs H Q E h => ?_) (fun cdv A outer s H vs Q E hr h => ?_)
  · obtain ⟨x, rfl, _⟩ := h
    rfl
  · obtain ⟨x, rfl, hz, k, kx⟩ := h
    refine ⟨_, (pss_cons (ps_set (i := 1) sc_read_thing.nd (by rfl) (by first | exact Or.inl rfl | exact Or.inr rfl) (pe_call G_read_words (hr.mono (by decide)) (by rfl) F_read_words.g F_read_words.fn.kp F_read_words.b .nil passes_def (pa_cons (pv 0) (pa_cons pe_str (pa_cons pe_int pa_nil)))))
      (pss_cons (ps_if (PW.pt (pw_and (pt_cmpR op_ne (pe_ix ix_list (pv 1) pe_int (fun _ _ => rfl)) pe_str (nomark _)) (pw_and1 (pt_cmpR op_ne (pe_ix ix_list (pv 1) pe_int (fun _ _ => rfl)) pe_str (nomark _)))))
      (pss_one (ps_raise outs_def rfl (by rfl) T.g_BadNote T.x_BadNote PySem.F.excBase_ValueError (pa_cons pe_str pa_nil)))
      pss_nil)
      (pss_one (ps_ret (pe_tup (pa_cons (pe_call G_read_number (hr.mono (by decide)) (by rfl) F_read_number.g F_read_number.fn.kp F_read_number.b .nil passes_def (pa_cons (pe_ix ix_list (pv 1) pe_int (fun _ _ => rfl)) pa_nil)) (pa_cons (pe_cmpR op_eq (pe_ix ix_list (pv 1) pe_int (fun _ _ => rfl)) pe_str (nomark _)) pa_nil))))))), ?_⟩
    refine ⟨_, rfl, x, "thing", 3, rfl, hz, fun hw l H1 s1 h1 => ?_, fun hn => kx ?_⟩
    · obtain ⟨hw0, hw2⟩ := hw
      match e : wds x, hw2 with
      | [a, b, c], _ =>
        rw [e] at hw0 h1
        have ea : a = "thing" := by simpa using hw0
        have mb : b.length ≤ most := wd_short (by rw [e]; simp) hz
        have no : ¬ (c = "rows" ∨ c = "sits") → thingOf (wds x) = none := fun z => by rw [e, thing3]; rw [if_neg (fun y => z y.2.1)]
        have yes : (c = "rows" ∨ c = "sits") → isNum b = true → thingOf (wds x) = some (val b, decide (c = "rows")) := fun hc hb => by rw [e, thing3]; rw [if_pos ⟨ea, hc, hb⟩]
        have nob : isNum b = false → thingOf (wds x) = none := fun hb => by rw [e, thing3]; rw [if_neg]; rintro ⟨_, _, z⟩; rw [hb] at z; cases z
        refine ⟨_, rfl, l, _, 2, .str c, rfl, rfl, SqL.of h1, rfl, rfl, _, rfl, ?_⟩
        refine iteE (fun c1 => ?_) (fun c1 => ?_)
        · refine ⟨_, rfl, l, _, 2, .str c, rfl, rfl, SqL.of h1, rfl, rfl, _, rfl, ?_⟩
          refine iteE (fun c2 => ?_) (fun c2 => ?_)
          · have n1 : ¬ c = "rows" := ne_str c1
            have n2 : ¬ c = "sits" := ne_str c2
            exact ⟨le_line (by show 1 ≤ _; decide), kx (no fun z => z.elim n1 n2) _ s1⟩
          · have n2 : c = "sits" := eq_str c2
            refine ⟨_, rfl, l, _, 1, .str b, rfl, rfl, SqL.of h1, rfl, b, rfl, mb, fun hb H2 s2 => ?_, fun hb H2 s2 => kx (nob hb) H2 (s1.trans s2)⟩
            refine ⟨_, rfl, l, _, 2, .str c, rfl, rfl, SqL.of (s2 _ _ h1), rfl, rfl, le_line (by show 2 ≤ _; decide), fun p hp => ?_⟩
            rw [dec_strs]
            exact k _ (yes (.inr n2) hb) p _ (s1.trans (s2.trans (same_new hp))) upd_same
        · have n1 : c = "rows" := eq_str c1
          refine iteF ?_
          refine ⟨_, rfl, l, _, 1, .str b, rfl, rfl, SqL.of h1, rfl, b, rfl, mb, fun hb H2 s2 => ?_, fun hb H2 s2 => kx (nob hb) H2 (s1.trans s2)⟩
          refine ⟨_, rfl, l, _, 2, .str c, rfl, rfl, SqL.of (s2 _ _ h1), rfl, rfl, le_line (by show 2 ≤ _; decide), fun p hp => ?_⟩
          rw [dec_strs]
          exact k _ (yes (.inl n1) hb) p _ (s1.trans (s2.trans (same_new hp))) upd_same
    · unfold thingOf
      split
      · rename_i a b c e
        rw [if_neg]
        rintro ⟨z, _⟩
        exact hn (by rw [e, z]; exact ⟨rfl, rfl⟩)
      · rfl
def sp_read_quarrel (Z : Ad) : Sp := fun vs H Q E => ∃ (x : Str), vs = [.str x] ∧ x.length ≤ most ∧ (∀ q : Qu, quarrelOf (wds x) = some q → ∀ p H', Same H H' → H' p = some (.tup [.int q.1, .int q.2.1, .int q.2.2]) → Q (.ref p) H') ∧ (quarrelOf (wds x) = none → ∀ H', Same H H' → E (.ref Z.BadNote) none H')
theorem sc_read_quarrel : FnScope ["line", "words", "keeper"] ["line"] (defScope s_read_quarrel) := ⟨rfl, rfl, rfl, by decide +kernel, rfl, by decide +kernel, by decide +kernel⟩
theorem ok_read_quarrel {f f1 f2 f3 : Addr} {fd fd1 fd2 fd3 : FuncData} (F : Fn K mg "read_quarrel" s_read_quarrel f fd ["line"]) (T : Txt K mg C Z) (F_is_number : Fn K mg "is_number" s_is_number f1 fd1 ["word"]) (F_read_number : Fn K mg "read_number" s_read_number f2 fd2 ["word"])
    (F_read_words : Fn K mg "read_words" s_read_words f3 fd3 ["line", "first", "count"]) : FnOk P w K mg base (CXF P w) 3 f fd ["line"] (sp_read_quarrel Z) := by
  have G_read_number : FnOk P w K mg base (CXF P w) 2 f2 fd2 ["word"] (sp_read_number Z) := ok_read_number F_read_number T F_is_number
  have G_read_words : FnOk P w K mg base (CXF P w) 1 f3 fd3 ["line", "first", "count"] (sp_read_words Z) := ok_read_words F_read_words T
  refine F.fn.okX sc_read_quarrel (fun vs H Q E h => ?_) (fun cdv A outer s H vs Q E hr h => ?_)
  · obtain ⟨x, rfl, _⟩ := h
    rfl
  · obtain ⟨x, rfl, hz, k, kx⟩ := h
    refine ⟨_, (pss_cons (ps_set (i := 1) sc_read_quarrel.nd (by rfl) (by first | exact Or.inl rfl | exact Or.inr rfl) (pe_call G_read_words (hr.mono (by decide)) (by rfl) F_read_words.g F_read_words.fn.kp F_read_words.b .nil passes_def (pa_cons (pv 0) (pa_cons pe_str (pa_cons pe_int pa_nil)))))
      (pss_cons (ps_set (i := 2) sc_read_quarrel.nd (by rfl) (by first | exact Or.inl rfl | exact Or.inr rfl) (pe_ifExp (pt_cmpR op_eq (pe_ix ix_list (pv 1) pe_int (fun _ _ => rfl)) pe_str (nomark _)) (pe_glob (v := .int (-1)) (by rfl) T.c_NO_KEEPER ⟨_, rfl⟩) (pe_call G_read_number (hr.mono (by decide)) (by rfl) F_read_number.g F_read_number.fn.kp F_read_number.b .nil passes_def (pa_cons (pe_ix ix_list (pv 1) pe_int (fun _ _ => rfl)) pa_nil))))
      (pss_one (ps_ret (pe_tup (pa_cons (pe_call G_read_number (hr.mono (by decide)) (by rfl) F_read_number.g F_read_number.fn.kp F_read_number.b .nil passes_def (pa_cons (pe_ix ix_list (pv 1) pe_int (fun _ _ => rfl)) pa_nil)) (pa_cons (pe_call G_read_number (hr.mono (by decide)) (by rfl) F_read_number.g F_read_number.fn.kp F_read_number.b .nil passes_def (pa_cons (pe_ix ix_list (pv 1) pe_int (fun _ _ => rfl)) pa_nil)) (pa_cons (pv 2) pa_nil)))))))), ?_⟩
    refine ⟨_, rfl, x, "quarrel", 4, rfl, hz, fun hw l H1 s1 h1 => ?_, fun hn => kx ?_⟩
    · obtain ⟨hw0, hw2⟩ := hw
      match e : wds x, hw2 with
      | [a, b, c, d], _ =>
        rw [e] at hw0 h1
        have ea : a = "quarrel" := by simpa using hw0
        have mb : b.length ≤ most := wd_short (by rw [e]; simp) hz
        have mc : c.length ≤ most := wd_short (by rw [e]; simp) hz
        have md : d.length ≤ most := wd_short (by rw [e]; simp) hz
        have yes : (d = "-" ∨ isNum d = true) → isNum b = true → isNum c = true → quarrelOf (wds x) = some (val b, val c, if d = "-" then -1 else val d) := fun hd hb hc => by rw [e, quarrel4]; rw [if_pos ⟨ea, hb, hc, hd⟩]
        have no : ¬ (isNum b = true ∧ isNum c = true ∧ (d = "-" ∨ isNum d = true)) → quarrelOf (wds x) = none := fun z => by rw [e, quarrel4]; rw [if_neg (fun y => z y.2)]
        refine ⟨_, rfl, l, _, 3, .str d, rfl, rfl, SqL.of h1, rfl, rfl, _, rfl, ?_⟩
        refine iteE (fun c1 => ?_) (fun c1 => ?_)
        · have hd : d = "-" := by rw [dec_strs] at c1; exact of_decide_eq_true c1
          refine ⟨_, rfl, l, _, 1, .str b, rfl, rfl, SqL.of h1, rfl, b, rfl, mb, fun hb H2 s2 => ?_, fun hb H2 s2 => kx (no fun z => by rw [hb] at z; cases z.1) H2 (s1.trans s2)⟩
          refine ⟨_, rfl, l, _, 2, .str c, rfl, rfl, SqL.of (s2 _ _ h1), rfl, c, rfl, mc, fun hc H3 s3 => ?_, fun hc H3 s3 => kx (no fun z => by rw [hc] at z; cases z.2.1) H3 (s1.trans (s2.trans s3))⟩
          refine ⟨_, rfl, le_line (by show 3 ≤ _; decide), fun p hp => ?_⟩
          have y := yes (.inl hd) hb hc
          rw [if_pos hd] at y
          exact k _ y p _ (s1.trans (s2.trans (s3.trans (same_new hp)))) upd_same
        · have hd : ¬ d = "-" := by rw [dec_strs] at c1; exact of_decide_eq_false c1
          refine ⟨_, rfl, l, _, 3, .str d, rfl, rfl, SqL.of h1, rfl, d, rfl, md, fun hd' H0 s0 => ?_, fun hd' H0 s0 => kx (no fun z => z.2.2.elim hd fun y => by rw [hd'] at y; cases y) H0 (s1.trans s0)⟩
          refine ⟨_, rfl, l, _, 1, .str b, rfl, rfl, SqL.of (s0 _ _ h1), rfl, b, rfl, mb, fun hb H2 s2 => ?_, fun hb H2 s2 => kx (no fun z => by rw [hb] at z; cases z.1) H2 (s1.trans (s0.trans s2))⟩
          refine ⟨_, rfl, l, _, 2, .str c, rfl, rfl, SqL.of (s2 _ _ (s0 _ _ h1)), rfl, c, rfl, mc, fun hc H3 s3 => ?_, fun hc H3 s3 => kx (no fun z => by rw [hc] at z; cases z.2.1) H3 (s1.trans (s0.trans (s2.trans s3)))⟩
          refine ⟨_, rfl, le_line (by show 3 ≤ _; decide), fun p hp => ?_⟩
          have y := yes (.inr hd') hb hc
          rw [if_neg hd] at y
          exact k _ y p _ (s1.trans (s0.trans (s2.trans (s3.trans (same_new hp))))) upd_same
    · unfold quarrelOf
      split
      · rename_i a b c d e
        rw [if_neg]
        rintro ⟨z, _⟩
        exact hn (by rw [e, z]; exact ⟨rfl, rfl⟩)
      · rfl
/-! ### read -/
/-- what the classes of a night's refusals are to the reading's except clause -/
structure Three (K : PySem.W.Frag) (Z : Ad) (D : Addr) : Prop where
  m : PySem.W.exmAny K (.ref D) [.ref Z.BadThing, .ref Z.BadRoom, .ref Z.BadQuarrel] = some true
  b : PySem.W.mroIn K D (.type "BaseException") = some true
def sp_read (C : Addr) (Z : Ad) : Sp := fun vs H Q E => ∃ (x : Str), vs = [.str x] ∧ x.length ≤ most ∧ (∀ ts r qs, rd x = some (ts, r, qs) → ∀ p H', Same H H' → NightAt C H' p ts r qs → Q (.ref p) H') ∧ (rd x = none → ∀ H', Same H H' → E (.ref Z.BadNote) none H')
theorem starts_thing (x : Str) : Txt.startswith x "thing " = true ↔ (wds x)[0]? = some ("thing" : Str) ∧ 2 ≤ (wds x).length := starts_split x "thing" 32 (by decide)
theorem ln_short {x y : Str} (h : y ∈ lns x) (hz : x.length ≤ most) : y.length ≤ most := Nat.le_trans (part_short h) hz
theorem sc_read : FnScope ["text", "lines", "room", "things", "quarrels", "line", "night", "bad"] ["text"] (defScope s_read) := ⟨rfl, rfl, rfl, by decide +kernel, rfl, by decide +kernel, by decide +kernel⟩
theorem ok_read {f f1 f2 f3 f4 f5 f6 f7 f8 f9 g1 g2 g3 : Addr} {fd fd1 fd2 fd3 fd4 fd5 fd6 fd7 fd8 fd9 gd1 gd2 gd3 : FuncData} (F : Fn K mg "read" s_read f fd ["text"]) (T : Txt K mg C Z) (F_is_number : Fn K mg "is_number" s_is_number f1 fd1 ["word"])
    (F_read_number : Fn K mg "read_number" s_read_number f2 fd2 ["word"]) (F_read_words : Fn K mg "read_words" s_read_words f3 fd3 ["line", "first", "count"]) (F_read_boat : Fn K mg "read_boat" s_read_boat f4 fd4 ["line"]) (F_read_thing : Fn K mg "read_thing" s_read_thing f5 fd5 ["line"])
    (F_read_quarrel : Fn K mg "read_quarrel" s_read_quarrel f6 fd6 ["line"]) (M_Night : Mk K C f7) (F_Night___init__ : Mt K "__init__" "Night.__init__" s_Night___init__ f7 fd7 ["self", "things", "room", "quarrels"]) (F_is_thing : Fn K mg "is_thing" s_is_thing f8 fd8 ["number", "count"])
    (F_is_pair : Fn K mg "is_pair" s_is_pair f9 fd9 ["one", "other", "count"]) (F_is_keeper : Fn K mg "is_keeper" s_is_keeper g1 gd1 ["keeper", "one", "other", "count"]) (F_check_things : Fn K mg "check_things" s_check_things g2 gd2 ["things"])
    {g4 : Addr} {gd4 : FuncData} (F_check_room : Fn K mg "check_room" s_check_room g3 gd3 ["room"]) (F_check_quarrels : Fn K mg "check_quarrels" s_check_quarrels g4 gd4 ["quarrels", "count"])
    (t1 : Three K Z Z.BadThing) (t2 : Three K Z Z.BadRoom) (t3 : Three K Z Z.BadQuarrel) : FnOk P w K mg base (CXF P w) 6 f fd ["text"] (sp_read C Z) := by
  have G_read_boat : FnOk P w K mg base (CXF P w) 3 f4 fd4 ["line"] (sp_read_boat Z) := ok_read_boat F_read_boat T F_is_number F_read_number F_read_words
  have G_read_thing : FnOk P w K mg base (CXF P w) 3 f5 fd5 ["line"] (sp_read_thing Z) := ok_read_thing F_read_thing T F_is_number F_read_number F_read_words
  have G_read_quarrel : FnOk P w K mg base (CXF P w) 3 f6 fd6 ["line"] (sp_read_quarrel Z) := ok_read_quarrel F_read_quarrel T F_is_number F_read_number F_read_words
  have G_Night___init__ : FnOk P w K mg base (CXB true P w) 4 f7 fd7 ["self", "things", "room", "quarrels"] (sp_initX C Z) := ok_initX F_Night___init__ T F_is_thing F_is_pair F_is_keeper F_check_things F_check_room F_check_quarrels
  refine F.fn.okX sc_read (fun vs H Q E h => ?_) (fun cdv A outer s H vs Q E hr h => ?_)
  · obtain ⟨x, rfl, _⟩ := h
    rfl
  · obtain ⟨x, rfl, hz, k, kx⟩ := h
    refine ⟨_, (pss_cons (ps_if (pt_not (pt_val (pe_bm PySem.F.plainAttrs_str PySem.F.slot_str_endswith PySem.F.type_str_endswith mt_ends (pv 0) (pa_cons pe_str pa_nil))))
      (pss_one (ps_raise outs_def rfl (by rfl) T.g_BadNote T.x_BadNote PySem.F.excBase_ValueError (pa_cons pe_str pa_nil)))
      pss_nil)
      (pss_cons (ps_set (i := 1) sc_read.nd (by rfl) (by first | exact Or.inl rfl | exact Or.inr rfl) (pe_slice sl_list (pe_bm PySem.F.plainAttrs_str PySem.F.slot_str_split PySem.F.type_str_split mt_split (pv 0) (pa_cons pe_str pa_nil)) po_none (po_some (pe_un un_neg pe_int))))
      (pss_cons (ps_set (i := 2) sc_read.nd (by rfl) (by first | exact Or.inl rfl | exact Or.inr rfl) (pe_call G_read_boat (hr.mono (by decide)) (by rfl) F_read_boat.g F_read_boat.fn.kp F_read_boat.b .nil passes_def (pa_cons (pe_ix ix_list (pv 1) pe_int (fun _ _ => rfl)) pa_nil)))
      (pss_cons (ps_set (i := 3) sc_read.nd (by rfl) (by first | exact Or.inl rfl | exact Or.inr rfl) (pe_lst pa_nil))
      (pss_cons (ps_set (i := 4) sc_read.nd (by rfl) (by first | exact Or.inl rfl | exact Or.inr rfl) (pe_lst pa_nil))
      (pss_cons (ps_for own_def rfl (pi_list (pe_slice sl_list (pv 1) (po_some pe_int) po_none)) (pg_name (i := 5) sc_read.nd (by rfl) (by first | exact Or.inl rfl | exact Or.inr rfl))
      (pss_one (ps_if (PW.pt (pw_and (pt_val (pe_bm PySem.F.plainAttrs_str PySem.F.slot_str_startswith PySem.F.type_str_startswith mt_starts (pv 5) (pa_cons pe_str pa_nil))) (pw_and1 (pt_not (pt_truth (pv 4) (by intro _; rfl))))))
      (pss_one (ps_expr (pe_bm PySem.F.plainAttrs_list PySem.F.slot_list_append PySem.F.type_list_append mt_append (pv 3) (pa_cons (pe_call G_read_thing (hr.mono (by decide)) (by rfl) F_read_thing.g F_read_thing.fn.kp F_read_thing.b .nil passes_def (pa_cons (pv 5) pa_nil)) pa_nil))))
      (pss_one (ps_expr (pe_bm PySem.F.plainAttrs_list PySem.F.slot_list_append PySem.F.type_list_append mt_append (pv 4) (pa_cons (pe_call G_read_quarrel (hr.mono (by decide)) (by rfl) F_read_quarrel.g F_read_quarrel.fn.kp F_read_quarrel.b .nil passes_def (pa_cons (pv 5) pa_nil)) pa_nil)))))))
      (pss_cons (ps_tryFrom (j := 7) rfl rfl sc_read.nd (by rfl) (by rfl) (by rfl) T.g_BadThing (by rfl) T.g_BadRoom (by rfl) T.g_BadQuarrel (by rfl) T.g_BadNote T.x_BadNote PySem.F.excBase_ValueError outs_held (pxs_set (i := 6) sc_read.nd (by rfl) (by first | exact Or.inl rfl | exact Or.inr rfl) (px_make M_Night G_Night___init__ (hr.mono (by decide)) (by rfl) T.g_Night F_Night___init__.b .nil (pa_cons (pv 3) (pa_cons (pv 2) (pa_cons (pv 4) pa_nil)))) pss_nil) (fun a oe => (pa_cons pe_str pa_nil)))
      (pss_one (ps_ret (pv 6)))))))))), ?_⟩
    refine ⟨_, rfl, rfl, x, "\n", rfl, rfl, _, rfl, ?_⟩
    refine iteE (fun h0 => ?_) (fun h0 => ?_)
    · refine ⟨le_line (by show 1 ≤ _; decide), kx ?_ H fun _ _ e => e⟩
      have z : (!Txt.endswith x "\n") = true := h0
      unfold rd
      rw [if_neg]
      intro y
      have y' : Txt.endswith x "\n" = true := y
      rw [y'] at z
      cases z
    have he : Txt.endswith x ⟨#[10]⟩ = true := by
      have z : (!Txt.endswith x "\n") = false := h0
      have z' : Txt.endswith x "\n" = true := by simpa using z
      exact z'
    have hE := (ends_split x 10).mp he
    have hne : lns x ≠ [] := split_ne x ⟨#[10]⟩
    obtain ⟨y0, lr, els⟩ : ∃ y0 lr, (lns x).dropLast = y0 :: lr := by
      have h2 : 2 ≤ (lns x).length := hE.2
      match lns x, h2 with
      | a :: b :: r, _ => exact ⟨a, (b :: r).dropLast, by rw [List.dropLast_cons_of_ne_nil (by simp)]⟩
    have mem : ∀ y ∈ y0 :: lr, y.length ≤ most := fun y hy => ln_short (List.dropLast_subset _ (by rw [els]; exact hy)) hz
    have hrd : rd x = (boatOf (wds y0)).bind fun n => (loop (lr.map wds) [] []).bind fun p => endN n p := by
      unfold rd
      rw [if_pos he, els]
      rfl
    refine ⟨_, rfl, rfl, x, "\n", rfl, rfl, rfl, most_line hz, lns_len x hz, fun l0 hl0 => ?_⟩
    have s0 := same_new (o := .lst ((Txt.split x "\n").map V.str)) hl0
    refine ⟨_, rfl, _, rfl, l0, _, rfl, SqL.of upd_same, fun l1 hl1 => ?_⟩
    have ec : cutV ((Txt.split x "\n").map V.str) none (some (-1)) = (y0 :: lr).map V.str := by
      rw [cut_last, ← List.map_dropLast]
      exact congrArg (List.map V.str) els
    rw [ec]
    have s1 := s0.trans (same_new (o := .lst ((y0 :: lr).map V.str)) hl1)
    have h1 : (L2.upd (L2.upd H l0 (.lst ((Txt.split x "\n").map V.str))) l1 (.lst ((y0 :: lr).map V.str))) l1 = some (.lst ((y0 :: lr).map V.str)) := upd_same
    generalize L2.upd (L2.upd H l0 (.lst ((Txt.split x "\n").map V.str))) l1 (.lst ((y0 :: lr).map V.str)) = H1 at s1 h1 ⊢
    refine ⟨_, rfl, l1, _, 0, .str y0, rfl, rfl, SqL.of h1, atI_nat (j := 0) rfl, y0, rfl, mem y0 (by simp), fun n en H2 s2 => ?_, fun en H2 s2 => kx (by rw [hrd, en]; rfl) H2 (s1.trans s2)⟩
    have sb := s1.trans s2
    have hB := s2 _ _ h1
    rw [en, Option.bind_some] at hrd
    refine ⟨le_line (Nat.zero_le _), fun lt hlt => ?_⟩
    refine ⟨le_line (Nat.zero_le _), fun lq hlq => ?_⟩
    have nlt : H2 lt = none := hlt
    have s3 : Same H2 (L2.upd H2 lt (.lst [])) := same_new hlt
    have ntq : lt ≠ lq := ne_of_none (H := L2.upd H2 lt (.lst [])) upd_same hlq
    have nlq : H2 lq = none := s3.free hlq
    have s4 : Same H2 (L2.upd (L2.upd H2 lt (.lst [])) lq (.lst [])) := s3.trans (same_new hlq)
    refine ⟨_, rfl, _, rfl, l1, _, rfl, SqL.of (s4 _ _ hB), fun l2 hl2 => ?_⟩
    rw [cut_tail]
    have et : ((y0 :: lr).map V.str).tail = lr.map V.str := rfl
    rw [et]
    have nl2t : lt ≠ l2 := ne_of_none (H := L2.upd (L2.upd H2 lt (.lst [])) lq (.lst [])) (by rw [upd_ne ntq]; exact upd_same) hl2
    have nl2q : lq ≠ l2 := ne_of_none (H := L2.upd (L2.upd H2 lt (.lst [])) lq (.lst [])) upd_same hl2
    refine ⟨l2, rfl, ⟨_, SqL.of upd_same⟩, for_list (K := K) (a := l2) (xs := lr.map V.str) (fun i σ H' => ∃ (ts : List Th) (qs : List Qu) (vt vq : List V) (v5 : Option V), σ = [some (.str x), some (.ref l1), some (.int n), some (.ref lt), some (.ref lq), v5, none, none] ∧ Same H2 H' ∧ H' l2 = some (.lst (lr.map V.str)) ∧
      loop (lr.map wds) [] [] = loop ((lr.drop i).map wds) ts qs ∧ H' lt = some (.lst vt) ∧ DVs H' (ts.map thD) vt ∧ H' lq = some (.lst vq) ∧ DVs H' (qs.map quD) vq ∧ vt.length ≤ i ∧ vq.length ≤ i) ?_ (fun i σ H' _ ⟨_, _, _, _, _, _, _, h, _⟩ => SqL.of h) ?_ ?_⟩
    · refine ⟨[], [], [], [], _, rfl, s4.trans (same_new hl2), upd_same, rfl, ?_, .nil, ?_, .nil, Nat.zero_le _, Nat.zero_le _⟩
      · rw [upd_ne nl2t, upd_ne ntq]; exact upd_same
      · rw [upd_ne nl2q]; exact upd_same
    · rintro i v σ H' hi ⟨ts, qs, vt, vq, v5, rfl, sm, hl2', hlp, ht', dt, hq', dq, bt, bq⟩
      rw [List.getElem?_map, Option.map_eq_some_iff] at hi
      obtain ⟨y, hy, rfl⟩ := hi
      have my : y.length ≤ most := mem y (List.mem_cons_of_mem _ (List.mem_of_getElem? hy))
      have hdrop : lr.drop i = y :: lr.drop (i + 1) := List.drop_eq_getElem?_toList_append.trans (by rw [hy]; rfl)
      have ilen : i < lr.length := (List.getElem?_eq_some_iff.mp hy).1
      have lrl : lr.length ≤ 10000000 := by
        have := lns_len' x hz
        have h2 : (lns x).dropLast.length = (y0 :: lr).length := by rw [els]
        rw [List.length_dropLast] at h2
        simp at h2
        have em : most = 1000000 := rfl
        omega
      have big : ∀ n, n ≤ lr.length → n < sizeLine := fun n h => Nat.lt_of_le_of_lt (Nat.le_trans h lrl) (by decide)
      have eqs : vq.isEmpty = true ↔ qs = [] := by
        have := dvs_len dq
        cases vq <;> cases qs <;> simp_all
      refine ⟨_, rfl, rfl, y, "thing ", rfl, rfl, _, rfl, ?_⟩
      refine iteE (fun a1 => ?_) (fun a1 => ?_)
      · have w1 := (starts_thing y).mp a1
        refine ⟨_, rfl, _, .inl ⟨vq, SqL.of hq', rfl⟩, ?_⟩
        refine iteE (fun a2 => ?_) (fun a2 => ?_)
        · have z : (!(!vq.isEmpty)) = true := a2
          have eq0 : qs = [] := eqs.mp (by simpa using z)
          have ht0 : loop ((lr.drop i).map wds) ts qs = (thingOf (wds y)).bind fun t => loop ((lr.drop (i + 1)).map wds) (ts ++ [t]) qs := by
            rw [hdrop, List.map_cons, loop_thing ⟨w1, eq0⟩]
          refine ⟨_, rfl, .inl ⟨rfl, _, SqL.of ht'⟩, _, rfl, y, rfl, my, fun t eq p H4 s4 hp => ?_, fun en H4 s4 => kx ?_ H4 (sb.trans (sm.trans s4))⟩
          rotate_left
          · rw [hrd, hlp, ht0, en]; rfl
          refine ⟨lt, vt, _, rfl, rfl, s4 _ _ ht', big _ (by omega), ?_⟩
          have ht4 := s4 _ _ ht'
          refine ⟨ts ++ [t], qs, vt ++ [.ref p], vq, _, rfl, same_upd (sm.trans s4) nlt, ?_, by rw [hlp, ht0, eq]; rfl, upd_same, ?_, ?_, dvs_upd ht4 (dq.mono s4) (noLsts_map qu_no qs), by rw [List.length_append]; simp; omega, by omega⟩
          · rw [upd_ne (fun z => nl2t z.symm)]; exact s4 _ _ hl2'
          · rw [List.map_append]
            exact (dvs_upd ht4 (dt.mono s4) (noLsts_map th_no ts)).snoc (dv_upd ht4 (th_dv hp) (th_no _))
          · rw [upd_ne (fun z => ntq z.symm)]; exact s4 _ _ hq'
        · have z : (!(!vq.isEmpty)) = false := a2
          have eq0 : ¬ qs = [] := fun e => by rw [eqs.mpr e] at z; cases z
          have hq0 : loop ((lr.drop i).map wds) ts qs = (quarrelOf (wds y)).bind fun q => loop ((lr.drop (i + 1)).map wds) ts (qs ++ [q]) := by
            rw [hdrop, List.map_cons, loop_quarrel (fun z => eq0 z.2)]
          refine ⟨_, rfl, .inl ⟨rfl, _, SqL.of hq'⟩, _, rfl, y, rfl, my, fun q eq p H4 s4 hp => ?_, fun en H4 s4 => kx ?_ H4 (sb.trans (sm.trans s4))⟩
          rotate_left
          · rw [hrd, hlp, hq0, en]; rfl
          refine ⟨lq, vq, _, rfl, rfl, s4 _ _ hq', big _ (by omega), ?_⟩
          have hq4 := s4 _ _ hq'
          refine ⟨ts, qs ++ [q], vt, vq ++ [.ref p], _, rfl, same_upd (sm.trans s4) nlq, ?_, by rw [hlp, hq0, eq]; rfl, ?_, dvs_upd hq4 (dt.mono s4) (noLsts_map th_no ts), upd_same, ?_, by omega, by rw [List.length_append]; simp; omega⟩
          · rw [upd_ne (fun z => nl2q z.symm)]; exact s4 _ _ hl2'
          · rw [upd_ne ntq]; exact s4 _ _ ht'
          · rw [List.map_append]
            exact (dvs_upd hq4 (dq.mono s4) (noLsts_map qu_no qs)).snoc (dv_upd hq4 (qu_dv hp) (qu_no _))
      · refine iteF ?_
        have w1 : ¬ ((wds y)[0]? = some ("thing" : Str) ∧ 2 ≤ (wds y).length) := fun z => by rw [(starts_thing y).mpr z] at a1; cases a1
        have hq0 : loop ((lr.drop i).map wds) ts qs = (quarrelOf (wds y)).bind fun q => loop ((lr.drop (i + 1)).map wds) ts (qs ++ [q]) := by
          rw [hdrop, List.map_cons, loop_quarrel (fun z => w1 z.1)]
        refine ⟨_, rfl, .inl ⟨rfl, _, SqL.of hq'⟩, _, rfl, y, rfl, my, fun q eq p H4 s4 hp => ?_, fun en H4 s4 => kx ?_ H4 (sb.trans (sm.trans s4))⟩
        rotate_left
        · rw [hrd, hlp, hq0, en]; rfl
        refine ⟨lq, vq, _, rfl, rfl, s4 _ _ hq', big _ (by omega), ?_⟩
        have hq4 := s4 _ _ hq'
        refine ⟨ts, qs ++ [q], vt, vq ++ [.ref p], _, rfl, same_upd (sm.trans s4) nlq, ?_, by rw [hlp, hq0, eq]; rfl, ?_, dvs_upd hq4 (dt.mono s4) (noLsts_map th_no ts), upd_same, ?_, by omega, by rw [List.length_append]; simp; omega⟩
        · rw [upd_ne (fun z => nl2q z.symm)]; exact s4 _ _ hl2'
        · rw [upd_ne ntq]; exact s4 _ _ ht'
        · rw [List.map_append]
          exact (dvs_upd hq4 (dq.mono s4) (noLsts_map qu_no qs)).snoc (dv_upd hq4 (qu_dv hp) (qu_no _))
    · rintro σ H' ⟨ts, qs, vt, vq, v5, rfl, sm, hl2', hlp, ht', dt, hq', dq, bt, bq⟩
      rw [List.length_map, List.drop_length] at hlp
      have hlp' : loop (lr.map wds) [] [] = some (ts, qs) := hlp
      rw [hlp', Option.bind_some] at hrd
      have bad : ¬ OkN n ts qs → rd x = none := fun z => by rw [hrd, endN_neg z]
      refine ⟨_, rfl, _, rfl, _, rfl, fun pm dx nx ndx nex => ?_⟩
      have sp : Same H' (L2.upd (L2.upd H' dx (.own pm)) pm (.ins C dx [])) := same_upd (same_new ndx) nx
      have st := (sb.trans sm).trans sp
      refine ⟨pm, dx, lt, lq, ts, n, qs, rfl, upd_same, ⟨vt, sp _ _ ht', dt.mono sp⟩, ⟨vq, sp _ _ hq', dq.mono sp⟩, fun okt r1 r3 okq H7 NA kp => ⟨rfl, ?_⟩, fun hn => ?_, fun okt hn => ?_, fun okt hr13 hn => ?_⟩
      · have s7 : Same H' H7 := fun b o e => kp b o (sp b o e) (ne_of_none e nx)
        exact ⟨_, rfl, k ts n qs (by rw [hrd, endN_pos ⟨okt, r1, r3, okq.l, okq.q⟩]) pm H7 ((sb.trans sm).trans s7) NA⟩
      · exact ⟨_, rfl, t1.m, t1.b, fun a ha => ⟨le_line (by show 1 ≤ _; decide), kx (bad fun z => hn z.t) _ st⟩⟩
      · exact ⟨_, rfl, t2.m, t2.b, fun a ha => ⟨le_line (by show 1 ≤ _; decide), kx (bad fun z => hn ⟨z.r1, z.r3⟩) _ st⟩⟩
      · exact ⟨_, rfl, t3.m, t3.b, fun a ha => ⟨le_line (by show 1 ≤ _; decide), kx (bad fun z => hn ⟨z.l, z.q⟩) _ st⟩⟩
end
end FN


set_option Elab.async false
set_option linter.all false
set_option maxRecDepth 100000
set_option maxHeartbeats 4000000
namespace FN
open PySem L2 PyProof.Rows WD
section
variable {P : Program} {w : World} {K : PySem.W.Frag} {mg : Str → Option Value} {base : Heap} {C : Addr} {Z : Ad}
/-! ### _law_number -/
def sp_num : Sp := fun vs H Q _ => ∃ (x : Str) (m : Int), vs = [.str x, .int m] ∧ x.length ≤ most ∧ Q (.int (lawNum x m)) H
theorem sc__law_number : FnScope ["word", "most", "sign"] ["word", "most"] (defScope s__law_number) := ⟨rfl, rfl, rfl, by decide +kernel, rfl, by decide +kernel, by decide +kernel⟩
theorem ok_num {f : Addr} {fd : FuncData} (F : Fn K mg "_law_number" s__law_number f fd ["word", "most"]) (T : Txt K mg C Z) : FnOk P w K mg base CX0 1 f fd ["word", "most"] sp_num := by
  refine F.fn.ok sc__law_number (fun vs H Q E h => ?_) (fun cdv A outer s H vs Q E hr h => ?_)
  · obtain ⟨x, m, rfl, _⟩ := h
    rfl
  · obtain ⟨x, m, rfl, hz, q⟩ := h
    have ml := most_line hz
    have hl := len_toList x
    have kb : ∀ v, lawNum x m = v → Q (.int v) H := fun v e => by rw [← e]; exact q
    have no : isNum x = false → lawNum x m = -1 := fun e => by unfold lawNum; rw [if_neg]; rintro ⟨z, _⟩; rw [e] at z; cases z
    have nf : ¬ (isNum x = true) → isNum x = false := by simp
    obtain ⟨tl, htl, rtl⟩ : ∃ t, PSs (bX P w K mg base ["word", "most", "sign"] "_law_number" s__law_number f cdv A outer s H E) ((defBody s__law_number).drop 1) t ∧ ((1 ≤ x.length ∧ x.length ≤ 10 ∧ ¬ (1 < x.length ∧ x.cps.toList[0]? = some 48)) → t (bD Q) [some (.str x), some (.int m), none] H) := by
      refine ⟨_, (pss_cons (ps_for PassesOwn.never rfl (pi_str (pv 0)) (pg_name (i := 2) sc__law_number.nd (by rfl) (by first | exact Or.inl rfl | exact Or.inr rfl))
      (pss_one (ps_if (pt_cmpR op_notin_str (pv 2) pe_str (by with_unfolding_all rfl))
      (pss_one (ps_ret (pe_un un_neg pe_int)))
      pss_nil)))
      (pss_cons (ps_if (pt_cmpR op_gt (pe_callTy call_int_text (by rfl) T.n_int boot_int (pa_cons (pv 0) pa_nil)) (pv 1) (nomark _))
      (pss_one (ps_ret (pe_un un_neg pe_int)))
      pss_nil)
      (pss_one (ps_ret (pe_callTy call_int_text (by rfl) T.n_int boot_int (pa_cons (pv 0) pa_nil)))))), fun hc => ?_⟩
      refine ⟨_, rfl, x, rfl, for_str (x := x) (fun i σ H' => H' = H ∧ (∃ v2, σ = [some (.str x), some (.int m), v2]) ∧ ∀ c ∈ x.cps.toList.take i, fig c = true) ⟨rfl, ⟨_, rfl⟩, by simp⟩ ?_ ?_⟩
      · rintro i c σ H' hi ⟨rfl, ⟨v2, rfl⟩, ih⟩
        have hi' : x.cps.toList[i]? = some c := by rw [← hi]; simp
        refine ⟨_, rfl, _, _, rfl, rfl, _, rfl, ?_⟩
        refine iteE (fun a => ?_) (fun a => ?_)
        · have a' : (!fig c) = true := a
          refine ⟨_, rfl, kb _ (no (nf fun z => ?_))⟩
          have := List.all_eq_true.mp ((isNum_law x).mp z).2 c (List.mem_of_getElem? hi')
          rw [this] at a'
          cases a'
        · have a' : (!fig c) = false := a
          refine ⟨rfl, ⟨_, rfl⟩, fun y hy => ?_⟩
          rw [List.take_add_one, hi'] at hy
          rcases List.mem_append.mp hy with z | z
          · exact ih y z
          · have e : y = c := by simpa using z
            rw [e]
            simpa using a'
      · rintro σ H' ⟨rfl, ⟨v2, rfl⟩, ih⟩
        have ok : isNum x = true := (isNum_law x).mpr ⟨hc, List.all_eq_true.mpr fun c hc' => ih c (by rw [show x.cps.size = x.cps.toList.length by simp, List.take_length]; exact hc')⟩
        obtain ⟨r1, r2⟩ := num_reads ok
        refine ⟨_, rfl, x, _, rfl, r1, r2, _, rfl, _, _, rfl, rfl, _, rfl, ?_⟩
        refine iteE (fun a => ?_) (fun a => ?_)
        · have a' : m < val x := of_decide_eq_true a
          refine ⟨_, rfl, kb _ ?_⟩
          unfold lawNum
          rw [if_neg (fun z => by have := z.2; omega)]
        · have a' : ¬ m < val x := of_decide_eq_false a
          refine ⟨_, rfl, x, _, rfl, r1, r2, kb _ ?_⟩
          unfold lawNum
          rw [if_pos ⟨ok, by omega⟩]
    refine ⟨_, (pss_cons (ps_if (PW.pt (pw_or (pt_cmpR op_lt (pe_callB call_len_str (by rfl) T.n_len PySem.boot_len (pa_cons (pv 0) pa_nil)) pe_int (nomark _)) (pw_or (pt_cmpR op_gt (pe_callB call_len_str (by rfl) T.n_len PySem.boot_len (pa_cons (pv 0) pa_nil)) pe_int (nomark _)) (pw_or1 (PW.pt (pw_and (pt_cmpR op_gt (pe_callB call_len_str (by rfl) T.n_len PySem.boot_len (pa_cons (pv 0) pa_nil)) pe_int (nomark _)) (pw_and1 (pt_cmpR op_eq (pe_ix ix_str (pv 0) pe_int (fun _ _ => rfl)) pe_str (nomark _)))))))))
      (pss_one (ps_ret (pe_un un_neg pe_int)))
      pss_nil)
      htl), ?_⟩
    refine ⟨_, rfl, x, rfl, ml, _, _, rfl, rfl, _, rfl, ?_⟩
    refine iteE (fun a1 => ?_) (fun a1 => ?_)
    · refine iteT ⟨_, rfl, kb _ (no (nf fun z => ?_))⟩
      have := ((isNum_law x).mp z).1.1
      have a1' : (x.length : Int) < 1 := of_decide_eq_true a1
      omega
    have b1 : ¬ (x.length : Int) < 1 := of_decide_eq_false a1
    refine ⟨_, rfl, x, rfl, ml, _, _, rfl, rfl, _, rfl, ?_⟩
    refine iteE (fun a2 => ?_) (fun a2 => ?_)
    · refine iteT ⟨_, rfl, kb _ (no (nf fun z => ?_))⟩
      have := ((isNum_law x).mp z).1.2.1
      have a2' : (10 : Int) < (x.length : Int) := of_decide_eq_true a2
      omega
    have b2 : ¬ (10 : Int) < (x.length : Int) := of_decide_eq_false a2
    refine ⟨_, rfl, x, rfl, ml, _, _, rfl, rfl, _, rfl, ?_⟩
    refine iteE (fun a3 => ?_) (fun a3 => ?_)
    · have b3 : (1 : Int) < (x.length : Int) := of_decide_eq_true a3
      obtain ⟨c, hc⟩ : ∃ c, x.cps.toList[0]? = some c := ⟨x.cps.toList[0]'(by omega), List.getElem?_eq_getElem (by omega)⟩
      refine ⟨_, rfl, x, 0, c, rfl, rfl, ml, atI_nat (j := 0) hc, rfl, _, rfl, ?_⟩
      refine iteE (fun a4 => ?_) (fun a4 => ?_)
      · have a4' : decide (V.str ⟨#[c]⟩ = V.str "0") = true := a4
        rw [sign_eq] at a4'
        refine ⟨_, rfl, kb _ (no (nf fun z => ?_))⟩
        exact ((isNum_law x).mp z).1.2.2 ⟨by omega, by rw [hc, of_decide_eq_true a4']⟩
      · have a4' : decide (V.str ⟨#[c]⟩ = V.str "0") = false := a4
        rw [sign_eq] at a4'
        refine rtl ⟨by omega, by omega, fun z => ?_⟩
        rw [hc] at z
        exact of_decide_eq_false a4' (Option.some.inj z.2)
    · have b3 : ¬ (1 : Int) < (x.length : Int) := of_decide_eq_false a3
      exact iteF (rtl ⟨by omega, by omega, fun z => by have := z.1; omega⟩)
/-! ### _law_thing -/
def sp_lthing : Sp := fun vs H Q _ => ∃ (l : Addr) (ws : List Str), vs = [.ref l] ∧ H l = some (.lst (ws.map V.str)) ∧ ws.length = 3 ∧ (∀ y ∈ ws, y.length ≤ most) ∧ (lawThing ws = none → ∀ H', Same H H' → Q .non H') ∧
  (∀ t : Th, lawThing ws = some t → ∀ p H', Same H H' → H' p = some (.tup [.int t.1, .bl t.2]) → Q (.ref p) H')
theorem inV_two (c a b : Str) : inV (V.str c) [V.str a, V.str b] = decide (c = a ∨ c = b) := by
  unfold inV
  rw [List.any_cons, List.any_cons, List.any_nil, Bool.or_false]
  have e : ∀ y : Str, eqV (V.str y) (V.str c) = decide (c = y) := fun y => by
    unfold eqV
    by_cases h : c = y
    · subst h; simp
    · rw [decide_eq_false h]; simp; exact fun z => h z.symm
  rw [e, e, Bool.decide_or]
theorem sc__law_thing : FnScope ["words", "pace"] ["words"] (defScope s__law_thing) := ⟨rfl, rfl, rfl, by decide +kernel, rfl, by decide +kernel, by decide +kernel⟩
theorem ok_lthing {f f1 : Addr} {fd fd1 : FuncData} (F : Fn K mg "_law_thing" s__law_thing f fd ["words"]) (T : Txt K mg C Z) (F__law_number : Fn K mg "_law_number" s__law_number f1 fd1 ["word", "most"]) : FnOk P w K mg base CX0 2 f fd ["words"] sp_lthing := by
  have G__law_number : FnOk P w K mg base CX0 1 f1 fd1 ["word", "most"] sp_num := ok_num F__law_number T
  refine F.fn.ok sc__law_thing (fun vs H Q E h => ?_) (fun cdv A outer s H vs Q E hr h => ?_)
  · obtain ⟨l, ws, rfl, _⟩ := h
    rfl
  · obtain ⟨l, ws, rfl, hl, h3, hz, kn, ks⟩ := h
    match ws, h3 with
    | [a, b, c], _ =>
      refine ⟨_, (pss_cons (ps_set (i := 1) sc__law_thing.nd (by rfl) (by first | exact Or.inl rfl | exact Or.inr rfl) (pe_call G__law_number (hr.mono (by decide)) (by rfl) F__law_number.g F__law_number.fn.kp F__law_number.b .nil pass0 (pa_cons (pe_ix ix_list (pv 0) pe_int (fun _ _ => rfl)) (pa_cons (pe_op op_pow pe_int pe_int) pa_nil))))
      (pss_cons (ps_if (PW.pt (pw_or (pt_cmpR op_lt (pv 1) pe_int (nomark _)) (pw_or1 (pt_cmpR op_notIn_seq (pe_ix ix_list (pv 0) pe_int (fun _ _ => rfl)) (pe_lst (pa_cons pe_str (pa_cons pe_str pa_nil))) (by with_unfolding_all rfl)))))
      (pss_one (ps_ret pe_non))
      pss_nil)
      (pss_one (ps_ret (pe_tup (pa_cons (pv 1) (pa_cons (pe_cmpR op_eq (pe_ix ix_list (pv 0) pe_int (fun _ _ => rfl)) pe_str (nomark _)) pa_nil))))))), ?_⟩
      have e9 : (10 : Int) ^ (9 : Int).toNat = 1000000000 := by decide
      have lt : lawThing [a, b, c] = if lawNum b 1000000000 < 1 ∨ ¬ (c = "rows" ∨ c = "sits") then none else some (lawNum b 1000000000, decide (c = "rows")) := rfl
      refine ⟨_, rfl, l, _, 1, .str b, rfl, rfl, SqL.of hl, rfl, _, _, rfl, rfl, ⟨by decide, by decide, by decide⟩, b, _, rfl, hz b (by simp), ?_⟩
      rw [e9]
      refine ⟨_, rfl, _, _, rfl, rfl, _, rfl, ?_⟩
      refine iteE (fun a1 => ?_) (fun a1 => ?_)
      · exact iteT (kn (by rw [lt, if_pos (.inl (of_decide_eq_true a1))]) H fun _ _ e => e)
      refine ⟨_, rfl, l, _, 2, .str c, rfl, rfl, SqL.of hl, rfl, le_line (by show 2 ≤ _; decide), fun l2 hl2 => ?_⟩
      have s1 := same_new (o := .lst [V.str "rows", V.str "sits"]) hl2
      refine ⟨l2, _, rfl, .inl (SqL.of upd_same), rfl, rfl, _, rfl, ?_⟩
      rw [inV_two]
      refine iteE (fun a2 => ?_) (fun a2 => ?_)
      · have a2' : (!decide (c = "rows" ∨ c = "sits")) = true := a2
        exact kn (by rw [lt, if_pos (.inr fun z => by rw [decide_eq_true z] at a2'; cases a2')]) _ s1
      · have a2' : (!decide (c = "rows" ∨ c = "sits")) = false := a2
        have hc : c = "rows" ∨ c = "sits" := by
          cases hq : decide (c = "rows" ∨ c = "sits") with
          | true => exact of_decide_eq_true hq
          | false => rw [hq] at a2'; cases a2'
        refine ⟨_, rfl, _, rfl, l, _, 2, .str c, rfl, rfl, SqL.of (s1 _ _ hl), rfl, rfl, le_line (by show 2 ≤ _; decide), fun p hp => ?_⟩
        rw [dec_strs]
        exact ks _ (by rw [lt, if_neg (by rintro (z | z); exact of_decide_eq_false a1 z; exact z hc)]) p _ (s1.trans (same_new hp)) upd_same
end
end FN


set_option Elab.async false
set_option linter.all false
set_option maxRecDepth 100000
set_option maxHeartbeats 4000000
namespace FN
open PySem L2 PyProof.Rows WD
section
variable {P : Program} {w : World} {K : PySem.W.Frag} {mg : Str → Option Value} {base : Heap} {C : Addr} {Z : Ad}
/-! ### _law_told_quarrel -/
def sp_lquarrel : Sp := fun vs H Q _ => ∃ (l : Addr) (ws : List Str) (m : Nat), vs = [.ref l, .int m] ∧ H l = some (.lst (ws.map V.str)) ∧ ws.length = 4 ∧ (∀ y ∈ ws, y.length ≤ most) ∧ (lawQuarrel m ws = none → ∀ H', Same H H' → Q .non H') ∧
  (∀ q : Qu, lawQuarrel m ws = some q → ∀ p H', Same H H' → H' p = some (.tup [.int q.1, .int q.2.1, .int q.2.2]) → Q (.ref p) H')
theorem sc__law_told_quarrel : FnScope ["words", "many", "numbers"] ["words", "many"] (defScope s__law_told_quarrel) := ⟨rfl, rfl, rfl, by decide +kernel, rfl, by decide +kernel, by decide +kernel⟩
theorem ok_lquarrel {f f1 : Addr} {fd fd1 : FuncData} (F : Fn K mg "_law_told_quarrel" s__law_told_quarrel f fd ["words", "many"]) (T : Txt K mg C Z) (F__law_number : Fn K mg "_law_number" s__law_number f1 fd1 ["word", "most"]) : FnOk P w K mg base CX0 2 f fd ["words", "many"] sp_lquarrel := by
  have G__law_number : FnOk P w K mg base CX0 1 f1 fd1 ["word", "most"] sp_num := ok_num F__law_number T
  refine F.fn.ok sc__law_told_quarrel (fun vs H Q E h => ?_) (fun cdv A outer s H vs Q E hr h => ?_)
  · obtain ⟨l, ws, m, rfl, _⟩ := h
    rfl
  · obtain ⟨l, ws, m, rfl, hl, h3, hz, kn, ks⟩ := h
    match ws, h3 with
    | [a, b, c, d], _ =>
      have lq : lawQuarrel m [a, b, c, d] = if (lawNum b ((m : Int) - 1) < 0 ∨ lawNum c ((m : Int) - 1) < 0 ∨ num2 [a, b, c, d] m < 0) ∨ (lawNum b ((m : Int) - 1) = lawNum c ((m : Int) - 1) ∨ lawNum b ((m : Int) - 1) = num2 [a, b, c, d] m ∨ lawNum c ((m : Int) - 1) = num2 [a, b, c, d] m) then none
        else some (lawNum b ((m : Int) - 1), lawNum c ((m : Int) - 1), if d = "-" then -1 else num2 [a, b, c, d] m) := rfl
      have n2 : num2 [a, b, c, d] m = if d = "-" then (m : Int) else lawNum d ((m : Int) - 1) := rfl
      obtain ⟨tl, htl, rtl⟩ : ∃ t, PSs (bX P w K mg base ["words", "many", "numbers"] "_law_told_quarrel" s__law_told_quarrel f cdv A outer s H E) ((defBody s__law_told_quarrel).drop 2) t ∧ ∀ (D : Addr) (H' : Hp), Same H H' → H' D = some (.lst [.int (lawNum b ((m : Int) - 1)), .int (lawNum c ((m : Int) - 1)), .int (num2 [a, b, c, d] m)]) →
          t (bD Q) [some (.ref l), some (.int m), some (.ref D)] H' := by
        refine ⟨_, (pss_cons (ps_if (PW.pt (pw_or (pt_cmpR op_lt (pe_callB (call_minL rfl) (by rfl) T.n_min boot_min (pa_cons (pv 2) pa_nil)) pe_int (nomark _)) (pw_or1 (pt_cmpR op_lt (pe_callB call_len_set (by rfl) T.n_len PySem.boot_len (pa_cons (pe_callTy (call_setL rfl) (by rfl) T.n_set boot_set (pa_cons (pv 2) pa_nil)) pa_nil)) pe_int (nomark _)))))
      (pss_one (ps_ret pe_non))
      pss_nil)
      (pss_one (ps_ret (pe_tup (pa_cons (pe_ix ix_list (pv 2) pe_int (fun _ _ => rfl)) (pa_cons (pe_ix ix_list (pv 2) pe_int (fun _ _ => rfl)) (pa_cons (pe_ix ix_list (pe_lst (pa_cons (pe_ix ix_list (pv 2) pe_int (fun _ _ => rfl)) (pa_cons (pe_un un_neg pe_int) pa_nil))) (pe_callTy call_int_bool (by rfl) T.n_int boot_int (pa_cons (pe_cmpR op_eq (pe_ix ix_list (pv 0) pe_int (fun _ _ => rfl)) pe_str (nomark _)) pa_nil)) (fun _ _ => rfl)) pa_nil))))))), fun D H' sm hD => ?_⟩
        generalize num2 [a, b, c, d] m = x2 at lq hD
        generalize lawNum b ((m : Int) - 1) = x0 at lq hD
        generalize lawNum c ((m : Int) - 1) = x1 at lq hD
        refine ⟨_, rfl, D, [x0, x1, x2], rfl, SqL.of hD, by simp, fun mn hm hle => ?_⟩
        refine ⟨_, _, rfl, rfl, _, rfl, ?_⟩
        have m0 := hle x0 (by simp)
        have m1 := hle x1 (by simp)
        have m2 := hle x2 (by simp)
        refine iteE (fun a1 => ?_) (fun a1 => ?_)
        · have a1' : mn < 0 := of_decide_eq_true a1
          refine iteT (kn ?_ H' sm)
          have hm' : mn = x0 ∨ mn = x1 ∨ mn = x2 := by simpa using hm
          have neg : x0 < 0 ∨ x1 < 0 ∨ x2 < 0 := by omega
          rw [lq, if_pos (.inl neg)]
        have a1' : ¬ mn < 0 := of_decide_eq_false a1
        refine ⟨_, rfl, D, [x0, x1, x2], rfl, SqL.of hD, by simp, fun ls hls => ?_⟩
        have s1 := same_new (o := .set (fun k' => (firstMet (fun i => [x0, x1, x2].getD i 0) [x0, x1, x2].length).any (· == k')) (firstMet (fun i => [x0, x1, x2].getD i 0) [x0, x1, x2].length).length) hls
        refine ⟨ls, _, _, rfl, upd_same, _, _, rfl, rfl, _, rfl, ?_⟩
        have tl := three_len x0 x1 x2
        refine iteE (fun a2 => ?_) (fun a2 => ?_)
        · have a2' : (((firstMet (fun i => [x0, x1, x2].getD i 0) 3).length : Nat) : Int) < 3 := of_decide_eq_true a2
          refine kn ?_ _ (sm.trans s1)
          rw [lq, if_pos (.inr (tl.mp (by omega)))]
        · have a2' : ¬ (((firstMet (fun i => [x0, x1, x2].getD i 0) 3).length : Nat) : Int) < 3 := of_decide_eq_false a2
          have hno : ¬ ((x0 < 0 ∨ x1 < 0 ∨ x2 < 0) ∨ (x0 = x1 ∨ x0 = x2 ∨ x1 = x2)) := by
            rintro (z | z)
            · omega
            · have := tl.mpr z
              omega
          rw [if_neg hno] at lq
          have hD1 := s1 _ _ hD
          have hl1 := s1 _ _ (sm _ _ hl)
          refine ⟨_, rfl, D, _, 0, .int x0, rfl, rfl, SqL.of hD1, rfl, ?_⟩
          refine ⟨_, rfl, D, _, 1, .int x1, rfl, rfl, SqL.of hD1, rfl, ?_⟩
          refine ⟨_, rfl, D, _, 2, .int x2, rfl, rfl, SqL.of hD1, rfl, _, rfl, le_line (by show 2 ≤ _; decide), fun l3 hl3 => ?_⟩
          have s2 := same_new (o := .lst [V.int x2, V.int (-1)]) hl3
          refine ⟨_, rfl, l, _, 3, .str d, rfl, rfl, SqL.of (s2 _ _ hl1), rfl, rfl, _, rfl, ?_⟩
          by_cases hd : d = "-"
          · rw [if_pos hd] at lq
            rw [dec_strs, decide_eq_true hd]
            refine ⟨l3, _, 1, .int (-1), rfl, rfl, SqL.of upd_same, rfl, le_line (by show 3 ≤ _; decide), fun p hp => ?_⟩
            exact ks _ lq p _ (sm.trans (s1.trans (s2.trans (same_new hp)))) upd_same
          · rw [if_neg hd] at lq
            rw [dec_strs, decide_eq_false hd]
            refine ⟨l3, _, 0, .int x2, rfl, rfl, SqL.of upd_same, rfl, le_line (by show 3 ≤ _; decide), fun p hp => ?_⟩
            exact ks _ lq p _ (sm.trans (s1.trans (s2.trans (same_new hp)))) upd_same
      refine ⟨_, (pss_cons (ps_setC (j := 2) rfl (N' := ["word", "many"]) (cap := [none, some 1]) ⟨rfl, by with_unfolding_all rfl⟩ (pi_list (pe_slice sl_list (pv 0) (po_some pe_int) po_none)) (fun _ => (pg_name (i := 0) (show (["word", "many"] : List Str).Nodup by decide +kernel) (by rfl) (by first | exact Or.inl rfl | exact Or.inr rfl))) (fun _ => pifs_nil) (fun _ => (pe_call G__law_number (hr.mono (by decide)) (by rfl) F__law_number.g F__law_number.fn.kp F__law_number.b .nil pass0 (pa_cons (pv 0) (pa_cons (pe_op op_sub (pv 1) pe_int) pa_nil)))) sc__law_told_quarrel.nd (by rfl) (by rfl) (by with_unfolding_all rfl))
      (pss_cons (ps_if (pt_cmpR op_eq (pe_ix ix_list (pv 0) pe_int (fun _ _ => rfl)) pe_str (nomark _))
      (pss_one (ps_asg (pv 1) (pg_sub (pv 2) pe_int set_list)))
      pss_nil)
      htl)), ?_⟩
      refine ⟨_, rfl, _, rfl, l, _, rfl, SqL.of hl, fun l2 hl2 => ?_⟩
      rw [cut_tail]
      have et : ([a, b, c, d].map V.str).tail = [b, c, d].map V.str := rfl
      rw [et]
      have s1 := same_new (o := .lst ([b, c, d].map V.str)) hl2
      have h2 : (L2.upd H l2 (.lst ([b, c, d].map V.str))) l2 = some (.lst ([b, c, d].map V.str)) := upd_same
      generalize L2.upd H l2 (.lst ([b, c, d].map V.str)) = H1 at s1 h2 ⊢
      refine ⟨l2, rfl, ⟨_, SqL.of h2⟩, fun D hD => ?_⟩
      refine comp_list (K := K) (a := l2) (ys := [b, c, d].map V.str) (fun i xs H' => Same H1 H' ∧ H' D = some (.lst xs) ∧ xs = ([b, c, d].take i).map fun y => V.int (lawNum y ((m : Int) - 1))) ⟨same_new hD, upd_same, rfl⟩ (fun i xs H' _ ⟨sm, h, _⟩ => ⟨h, SqL.of (sm _ _ h2)⟩) ?_ ?_
      · rintro i v xs H' hi ⟨sm, hD', rfl⟩
        rw [List.getElem?_map, Option.map_eq_some_iff] at hi
        obtain ⟨y, hy, rfl⟩ := hi
        have my := hz y (List.mem_cons_of_mem _ (List.mem_of_getElem? hy))
        refine ⟨Keep.set rfl, ?_⟩
        refine ⟨_, rfl, _, rfl, _, _, rfl, rfl, y, _, rfl, my, hD', lt_line (by rw [List.length_map, List.length_take]; simp; omega), same_upd sm hD, upd_same, ?_⟩
        rw [List.take_add_one, hy]
        simp
      · rintro xs H2 ⟨sm, hD', rfl⟩
        have hl2' := sm _ _ (s1 _ _ hl)
        have hDD : H2 D = some (.lst [V.int (lawNum b ((m : Int) - 1)), V.int (lawNum c ((m : Int) - 1)), V.int (lawNum d ((m : Int) - 1))]) := hD'
        refine ⟨_, rfl, l, _, 3, .str d, rfl, rfl, SqL.of hl2', rfl, rfl, _, rfl, ?_⟩
        refine iteE (fun a1 => ?_) (fun a1 => ?_)
        · have hd : d = "-" := by rw [dec_strs] at a1; exact of_decide_eq_true a1
          rw [if_pos hd] at n2
          refine ⟨_, rfl, _, rfl, D, _, 2, 2, rfl, rfl, hDD, rfl, ?_⟩
          refine rtl D _ (same_upd (s1.trans sm) (s1.free hD)) ?_
          rw [n2]
          exact upd_same
        · have hd : ¬ d = "-" := by rw [dec_strs] at a1; exact of_decide_eq_false a1
          rw [if_neg hd] at n2
          exact rtl D _ (s1.trans sm) (by rw [n2]; exact hDD)
end
end FN


set_option Elab.async false
set_option linter.all false
set_option maxRecDepth 100000
set_option maxHeartbeats 4000000
namespace L2
open PySem PySem.Spec PyProof.Rows
/-- a method of a built-in type, with the fragment named: for a comprehension's block -/
theorem pe_bmK {X : Cx} {K : PySem.W.Frag} (hK : X.K = K) {o e : Expr} {es : List Expr} {to : TE} {t : TA} {name : Str} {apos cpos : Pos} {T id : String} {r : V → List V → Hp → VK → Prop} (pa : PlainAttrs T) (slot : Slot T name id) (hty : typeOf (.builtin id) = pure (.type "method_descriptor")) (hm : MtR X id r) (ho : PE X o to) (ha : PA X (e :: es) t)
    (h1 : attributeBase o name X.env (eval o X.env) = eval o X.env := by rfl) (h2 : ((backTo cpos (starEach (e :: es) X.env)).all (fun x => !x.1) && (backToKw cpos (keywordEach [] X.env)).all (fun x => x.1.isSome) && decide ((e :: es).length + ([] : List Keyword).length + (if ([] : List Keyword).isEmpty then 0 else 1) < 30)) = true := by rfl)
    (h3 : (apos.endLine == cpos.line) = true := by rfl) (h4 : starEach (e :: es) X.env = (false, eval e X.env) :: starEach es X.env := by rfl) (h5 : (backTo cpos (starEach es X.env)).any (·.1) = false := by rfl) : PE X (.Call (.Attribute o name apos) (e :: es) [] cpos) (tBM K T r to t) := by
  subst hK
  exact pe_bm pa slot hty hm ho ha h1 h2 h3 h4 h5
end L2
namespace FN
open PySem L2 PyProof.Rows WD
theorem far {n m : Nat} (h : n ≤ m) (hm : m ≤ most + 2) : n < sizeLine := Nat.lt_of_le_of_lt (Nat.le_trans h hm) (by decide)
/-! rows of words -/
def RowsB (H : Hp) (D : Addr) (vs : List V) (L : List (List Str)) : Prop := vs.length = L.length ∧ ∀ (i : Nat) (ws : List Str), L[i]? = some ws → ∃ a : Addr, vs[i]? = some (V.ref a) ∧ a ≠ D ∧ H a = some (.lst (ws.map V.str))
def RowsAt (H : Hp) (vs : List V) (L : List (List Str)) : Prop := vs.length = L.length ∧ ∀ (i : Nat) (ws : List Str), L[i]? = some ws → ∃ a : Addr, vs[i]? = some (V.ref a) ∧ H a = some (.lst (ws.map V.str))
section
variable {H H' : Hp} {D a : Addr} {vs : List V} {L : List (List Str)} {ws : List Str}
theorem RowsB.mono (h : RowsB H D vs L) (k : ∀ b o, H b = some o → b ≠ D → H' b = some o) : RowsB H' D vs L :=
  ⟨h.1, fun i ws e => let ⟨a, h1, h2, h3⟩ := h.2 i ws e; ⟨a, h1, h2, k a _ h3 h2⟩⟩
theorem RowsB.snoc (h : RowsB H D vs L) (ha : H a = some (.lst (ws.map V.str))) (hn : a ≠ D) : RowsB H D (vs ++ [.ref a]) (L ++ [ws]) := by
  refine ⟨by simp [h.1], fun i ws' e => ?_⟩
  by_cases hi : i < L.length
  · rw [List.getElem?_append_left hi] at e
    obtain ⟨b, h1, h2, h3⟩ := h.2 i ws' e
    exact ⟨b, by rw [List.getElem?_append_left (by rw [h.1]; exact hi)]; exact h1, h2, h3⟩
  · rw [List.getElem?_append_right (by omega)] at e
    have hi' : i - L.length = 0 := by
      have := (List.getElem?_eq_some_iff.mp e).1
      simp at this
      omega
    rw [hi'] at e
    have ew : ws' = ws := by simpa using e.symm
    subst ew
    exact ⟨a, by rw [List.getElem?_append_right (by rw [h.1]; omega), h.1, hi']; rfl, hn, ha⟩
theorem RowsB.at (h : RowsB H D vs L) : RowsAt H vs L := ⟨h.1, fun i ws e => let ⟨a, h1, _, h3⟩ := h.2 i ws e; ⟨a, h1, h3⟩⟩
theorem RowsAt.mono (h : RowsAt H vs L) (k : Same H H') : RowsAt H' vs L := ⟨h.1, fun i ws e => let ⟨a, h1, h3⟩ := h.2 i ws e; ⟨a, h1, k _ _ h3⟩⟩
theorem RowsAt.take (h : RowsAt H vs L) (n : Nat) : RowsAt H (vs.take n) (L.take n) := by
  refine ⟨by rw [List.length_take, List.length_take, h.1], fun i ws e => ?_⟩
  rw [List.getElem?_take] at e
  split at e
  · rename_i hi
    obtain ⟨a, h1, h3⟩ := h.2 i ws e
    exact ⟨a, by rw [List.getElem?_take, if_pos hi]; exact h1, h3⟩
  · cases e
theorem RowsAt.drop (h : RowsAt H vs L) (n : Nat) : RowsAt H (vs.drop n) (L.drop n) := by
  refine ⟨by rw [List.length_drop, List.length_drop, h.1], fun i ws e => ?_⟩
  rw [List.getElem?_drop] at e
  obtain ⟨a, h1, h3⟩ := h.2 _ ws e
  exact ⟨a, by rw [List.getElem?_drop]; exact h1, h3⟩
theorem RowsAt.mid (h : RowsAt H vs L) : RowsAt H vs.tail.dropLast L.tail.dropLast := by
  rw [List.dropLast_eq_take, List.dropLast_eq_take, ← List.drop_one, ← List.drop_one]
  have := (h.drop 1).take ((L.drop 1).length - 1)
  rw [show (vs.drop 1).length - 1 = (L.drop 1).length - 1 by rw [List.length_drop, List.length_drop, h.1]]
  exact this
theorem RowsAt.val (h : RowsAt H vs L) {i : Nat} {v : V} (e : vs[i]? = some v) : ∃ a ws, v = .ref a ∧ L[i]? = some ws ∧ H a = some (.lst (ws.map V.str)) := by
  have hi : i < L.length := by rw [← h.1]; exact (List.getElem?_eq_some_iff.mp e).1
  obtain ⟨a, h1, h3⟩ := h.2 i _ (List.getElem?_eq_getElem hi)
  rw [e] at h1
  cases h1
  exact ⟨a, _, rfl, List.getElem?_eq_getElem hi, h3⟩
end
theorem cut_take (xs : List V) (n : Nat) : cutV xs none (some (n : Int)) = xs.take n := by
  unfold cutV
  rw [HT.sIx_nat, HT.sIx_none, List.drop_zero, Nat.sub_zero]
  by_cases h : n ≤ xs.length
  · rw [Nat.min_eq_left h]
  · rw [Nat.min_eq_right (by omega), List.take_length, List.take_of_length_le (by omega)]
theorem cut_drop (xs : List V) (n : Nat) : cutV xs (some (n : Int)) none = xs.drop n := by
  unfold cutV
  rw [HT.sIx_nat, HT.sIx_none]
  by_cases h : n ≤ xs.length
  · rw [Nat.min_eq_left h]
    exact List.take_of_length_le (by simp)
  · rw [Nat.min_eq_right (by omega), List.drop_length, List.drop_of_length_le (by omega)]
    simp
theorem cut_mid (xs : List V) (h : 1 ≤ xs.length) : cutV xs (some 1) (some ((xs.length : Nat) - 1 : Int)) = xs.tail.dropLast := by
  unfold cutV
  rw [show ((xs.length : Nat) : Int) - 1 = ((xs.length - 1 : Nat) : Int) by omega, show (1 : Int) = ((1 : Nat) : Int) from rfl, HT.sIx_nat, HT.sIx_nat, Nat.min_eq_left h, Nat.min_eq_left (by omega), List.dropLast_eq_take, List.drop_one, List.length_tail]
theorem wsD_can {ws : List Str} (h : ∀ y ∈ ws, okS y) : PyData.canLay0 (.list (ws.map PyData.str)) = true := by
  unfold PyData.canLay0
  induction ws with
  | nil => rfl
  | cons y ws ih =>
    rw [List.map_cons]
    unfold PyData.canLayAll0
    rw [ih fun z hz => h z (List.mem_cons_of_mem _ hz)]
    show (PyData.strOk y && true) = true
    rw [okS_ok (h y List.mem_cons_self)]
    rfl
theorem ws_dv {H : Hp} : ∀ ws : List Str, DVs H (ws.map PyData.str) (ws.map V.str)
  | [] => .nil
  | y :: ws => .cons (.str y) (ws_dv ws)
theorem opt_no : ∀ o : Option Th, noLst (optTh o) = true
  | none => rfl
  | some t => th_no t
theorem optq_no : ∀ o : Option Qu, noLst (optQu o) = true
  | none => rfl
  | some q => qu_no q
theorem can_map {α : Type} {f : α → PyData} (hf : ∀ x, (f x).canLay0 = true) : ∀ l : List α, PyData.canLayAll0 (l.map f) = true
  | [] => rfl
  | x :: l => by
    rw [List.map_cons]
    unfold PyData.canLayAll0
    rw [hf x, can_map hf l]
    rfl
theorem opt_can : ∀ o : Option Th, (optTh o).canLay0 = true
  | none => rfl
  | some t => th_can t
theorem optq_can : ∀ o : Option Qu, (optQu o).canLay0 = true
  | none => rfl
  | some q => qu_can q
theorem th_eqv (t : Th) : PyData.eqv (thD t) .none = false := by unfold thD; rw [PyData.eqv]
theorem qu_eqv (q : Qu) : PyData.eqv (quD q) .none = false := by unfold quD; rw [PyData.eqv]
theorem depth_list (ws : List Str) : min (PyData.list (ws.map PyData.str)).depth (PyData.list [.str ""]).depth ≤ 60 := Nat.le_trans (Nat.min_le_right _ _) (by decide)
theorem last_split {α : Type} {l : List α} {v : α} (h : l.getLast? = some v) : ∃ r, l = r ++ [v] := by
  rcases List.eq_nil_or_concat l with z | ⟨r, b, z⟩
  · rw [z] at h; cases h
  · rw [List.concat_eq_append] at z
    rw [z, List.getLast?_concat] at h
    exact ⟨r, by rw [z, Option.some.inj h]⟩
theorem atI_end {xs : List V} {v : V} (h : xs[xs.length - 1]? = some v) : atI xs (-1) = some v := by
  have hl : xs.getLast? = some v := by rw [List.getLast?_eq_getElem?]; exact h
  obtain ⟨r, e⟩ := last_split hl
  rw [e]
  exact atI_last r v
section
variable {P : Program} {w : World} {K : PySem.W.Frag} {mg : Str → Option Value} {base : Heap} {C : Addr} {Z : Ad}
/-! ### _law_due -/
def sp_due : Sp := fun vs H Q _ => ∃ (x : Str), vs = [.str x] ∧ x.length ≤ most ∧ okS x ∧ ∀ v H', Same H H' → DV H' (dueD (due x)) v → Q v H'
theorem sc__law_due : FnScope ["text", "lines", "rest", "many", "things", "quarrels", "words"] ["text"] (defScope s__law_due) := ⟨rfl, rfl, rfl, by decide +kernel, rfl, by decide +kernel, by decide +kernel⟩
theorem ok_due {f f1 f2 f3 : Addr} {fd fd1 fd2 fd3 : FuncData} (F : Fn K mg "_law_due" s__law_due f fd ["text"]) (T : Txt K mg C Z) (F__law_number : Fn K mg "_law_number" s__law_number f1 fd1 ["word", "most"]) (F__law_thing : Fn K mg "_law_thing" s__law_thing f2 fd2 ["words"])
    (F__law_told_quarrel : Fn K mg "_law_told_quarrel" s__law_told_quarrel f3 fd3 ["words", "many"]) : FnOk P w K mg base CX0 3 f fd ["text"] sp_due := by
  have G__law_number : FnOk P w K mg base CX0 1 f1 fd1 ["word", "most"] sp_num := ok_num F__law_number T
  have G__law_thing : FnOk P w K mg base CX0 2 f2 fd2 ["words"] sp_lthing := ok_lthing F__law_thing T F__law_number
  have G__law_told_quarrel : FnOk P w K mg base CX0 2 f3 fd3 ["words", "many"] sp_lquarrel := ok_lquarrel F__law_told_quarrel T F__law_number
  refine F.fn.ok sc__law_due (fun vs H Q E h => ?_) (fun cdv A outer s H vs Q E hr h => ?_)
  · obtain ⟨x, rfl, _⟩ := h
    rfl
  · obtain ⟨x, rfl, hz, hok, k⟩ := h
    have hu := hr.units
    have kn : due x = none → ∀ H', Same H H' → Q .non H' := fun e H' sm => k .non H' sm (by rw [e]; exact .non)
    obtain ⟨tl, htl, rtl⟩ : ∃ t, PSs (bX P w K mg base ["text", "lines", "rest", "many", "things", "quarrels", "words"] "_law_due" s__law_due f cdv A outer s H E) ((defBody s__law_due).drop 5) t ∧ ∀ (D lr a0 : Addr) (b0 b1 : Str) (xs vr : List V) (rest : List (List Str)) (H1 : Hp), Same H H1 → H1 D = some (.lst xs) → xs[0]? = some (.ref a0) → H1 a0 = some (.lst [.str b0, .str b1]) → b1.length ≤ most →
        H1 lr = some (.lst vr) → RowsAt H1 vr rest → rest.length ≤ most + 2 → (∀ ws ∈ rest, ∀ y ∈ ws, y.length ≤ most) → due x = dueR (lawNum b1 3) rest → t (bD Q) [some (.str x), some (.ref D), some (.ref lr), some (.int ((rest.takeWhile isTh).length : Nat)), none, none, none] H1 := by
      refine ⟨_, (pss_cons (ps_setC (j := 4) rfl (N' := ["words"]) (cap := [none]) ⟨rfl, by with_unfolding_all rfl⟩ (pi_list (pe_slice sl_list (pv 2) po_none (po_some (pv 3)))) (fun _ => (pg_name (i := 0) (show (["words"] : List Str).Nodup by decide +kernel) (by rfl) (by first | exact Or.inl rfl | exact Or.inr rfl))) (fun _ => pifs_nil) (fun _ => (pe_call G__law_thing (hr.mono (by decide)) (by rfl) F__law_thing.g F__law_thing.fn.kp F__law_thing.b .nil pass0 (pa_cons (pv 0) pa_nil))) sc__law_due.nd (by rfl) (by rfl) (by with_unfolding_all rfl))
      (pss_cons (ps_if (PW.pt (pw_or (pt_cmpR op_lt (pv 3) pe_int (nomark _)) (pw_or (pt_cmpR op_gt (pv 3) pe_int (nomark _)) (pw_or (pt_cmpR (op_inD hu) pe_non (pv 4) (by with_unfolding_all rfl)) (pw_or1 (pt_cmpR op_gt (pe_op op_sub (pe_callB call_len_seq (by rfl) T.n_len PySem.boot_len (pa_cons (pv 2) pa_nil)) (pv 3)) pe_int (nomark _)))))))
      (pss_one (ps_ret pe_non))
      pss_nil)
      (pss_cons (ps_set (i := 5) sc__law_due.nd (by rfl) (by first | exact Or.inl rfl | exact Or.inr rfl) (pe_lst pa_nil))
      (pss_cons (ps_for PassesOwn.never rfl (pi_list (pe_slice sl_list (pv 2) (po_some (pv 3)) po_none)) (pg_name (i := 6) sc__law_due.nd (by rfl) (by first | exact Or.inl rfl | exact Or.inr rfl))
      (pss_cons (ps_if (PW.pt (pw_or (pt_cmpR op_ne (pe_callB call_len_seq (by rfl) T.n_len PySem.boot_len (pa_cons (pv 6) pa_nil)) pe_int (nomark _)) (pw_or1 (pt_cmpR op_ne (pe_ix ix_list (pv 6) pe_int (fun _ _ => rfl)) pe_str (nomark _)))))
      (pss_one (ps_ret pe_non))
      pss_nil)
      (pss_one (ps_expr (pe_bm PySem.F.plainAttrs_list PySem.F.slot_list_append PySem.F.type_list_append mt_append (pv 5) (pa_cons (pe_call G__law_told_quarrel (hr.mono (by decide)) (by rfl) F__law_told_quarrel.g F__law_told_quarrel.fn.kp F__law_told_quarrel.b .nil pass0 (pa_cons (pv 6) (pa_cons (pv 3) pa_nil))) pa_nil))))))
      (pss_cons (ps_if (pt_cmpR (op_inD hu) pe_non (pv 5) (by with_unfolding_all rfl))
      (pss_one (ps_ret pe_non))
      pss_nil)
      (pss_one (ps_ret (pe_tup (pa_cons (pv 4) (pa_cons (pe_call G__law_number (hr.mono (by decide)) (by rfl) F__law_number.g F__law_number.fn.kp F__law_number.b .nil pass0 (pa_cons (pe_ix ix_list (pe_ix ix_list (pv 1) pe_int (fun _ _ => rfl)) pe_int (fun _ _ => rfl)) (pa_cons pe_int pa_nil))) (pa_cons (pv 5) pa_nil))))))))))), fun D lr a0 b0 b1 xs vr rest H1 s1 hD ex0 ha0 mb1 hlr R rl short hdue => ?_⟩
      have hdr : dueR (lawNum b1 3) rest = if (((rest.takeWhile isTh).length < 1 ∨ 6 < (rest.takeWhile isTh).length) ∨ none ∈ (rest.takeWhile isTh).map lawThing ∨ 30 < (rest.dropWhile isTh).length) then none else
        if ¬ ((rest.dropWhile isTh).all isQu = true) ∨ none ∈ (rest.dropWhile isTh).map (lawQuarrel ((rest.takeWhile isTh).length : Nat)) then none else
        some ((rest.takeWhile isTh).filterMap lawThing, lawNum b1 3, (rest.dropWhile isTh).filterMap (lawQuarrel ((rest.takeWhile isTh).length : Nat))) := rfl
      have Rt := R.take (rest.takeWhile isTh).length
      have Rd := R.drop (rest.takeWhile isTh).length
      rw [tw_take] at Rt
      rw [tw_drop] at Rd
      have lsum : rest.length = (rest.takeWhile isTh).length + (rest.dropWhile isTh).length := by
        conv => lhs; rw [← List.takeWhile_append_dropWhile (p := isTh) (l := rest)]
        rw [List.length_append]
      have twall : ∀ ws ∈ rest.takeWhile isTh, isTh ws = true := fun ws h => mem_tw h
      have sht : ∀ ws ∈ rest.takeWhile isTh, ∀ y ∈ ws, y.length ≤ most := fun ws h => short ws (List.takeWhile_subset _ h)
      have shd : ∀ ws ∈ rest.dropWhile isTh, ∀ y ∈ ws, y.length ≤ most := fun ws h => short ws (List.dropWhile_subset _ h)
      have lv := R.1
      generalize rest.takeWhile isTh = tw at hdr Rt Rd lsum twall sht ⊢
      generalize rest.dropWhile isTh = dw at hdr Rd lsum shd ⊢
      refine ⟨_, rfl, _, rfl, _, rfl, lr, _, rfl, SqL.of hlr, fun l6 hl6 => ?_⟩
      rw [cut_take]
      have s6 := same_new (o := .lst (vr.take tw.length)) hl6
      have h6 : (L2.upd H1 l6 (.lst (vr.take tw.length))) l6 = some (.lst (vr.take tw.length)) := upd_same
      generalize L2.upd H1 l6 (.lst (vr.take tw.length)) = H6 at s6 h6 ⊢
      refine ⟨l6, rfl, ⟨_, SqL.of h6⟩, fun D2 hD2 => ?_⟩
      refine comp_list (K := K) (a := l6) (ys := vr.take tw.length) (fun i ys H' => Same H6 H' ∧ H' D2 = some (.lst ys) ∧ ys.length = i ∧ DVs H' ((tw.take i).map fun ws => optTh (lawThing ws)) ys) ⟨same_new hD2, upd_same, rfl, .nil⟩ (fun i ys H' _ ⟨sm, h, _⟩ => ⟨h, SqL.of (sm _ _ h6)⟩) ?_ ?_
      · rintro i v ys H' hi ⟨sm, hD', ly, dv⟩
        obtain ⟨a, ws, rfl, hw, ha⟩ := Rt.val hi
        have hm := List.mem_of_getElem? hw
        have th := twall ws hm
        unfold isTh at th
        simp only [Bool.and_eq_true, decide_eq_true_eq] at th
        have ilt := (List.getElem?_eq_some_iff.mp hw).1
        refine ⟨Keep.set rfl, ?_⟩
        have e1 : tw.take (i + 1) = tw.take i ++ [ws] := by rw [List.take_add_one, hw]; rfl
        refine ⟨_, rfl, a, ws, rfl, sm _ _ (s6 _ _ ha), th.1, sht ws hm, fun en H4 s4 => ?_, fun t et p H4 s4 hp => ?_⟩
        · refine ⟨s4 _ _ hD', far (n := _) (m := rest.length) (by omega) rl, same_upd (sm.trans s4) hD2, upd_same, by simp [ly], ?_⟩
          rw [e1, List.map_append]
          refine (dvs_upd (s4 _ _ hD') (dv.mono s4) (noLsts_map (f := fun ws => optTh (lawThing ws)) (fun ws => opt_no _) _)).snoc ?_
          show DV _ (optTh (lawThing ws)) _
          rw [en]
          exact .non
        · refine ⟨s4 _ _ hD', far (n := _) (m := rest.length) (by omega) rl, same_upd (sm.trans s4) hD2, upd_same, by simp [ly], ?_⟩
          rw [e1, List.map_append]
          refine (dvs_upd (s4 _ _ hD') (dv.mono s4) (noLsts_map (f := fun ws => optTh (lawThing ws)) (fun ws => opt_no _) _)).snoc ?_
          show DV _ (optTh (lawThing ws)) _
          rw [et]
          exact dv_upd (s4 _ _ hD') (th_dv hp) (th_no t)
      · rintro ys H7 ⟨s7, h7, ly, dv⟩
        rw [List.length_take, lv, lsum, Nat.min_eq_left (by omega)] at ly dv
        rw [List.take_length] at dv
        have sT := s6.trans s7
        have nn := any_none (f := thD) th_eqv (tw.map lawThing)
        rw [List.map_map] at nn
        refine ⟨_, rfl, _, _, rfl, rfl, _, rfl, ?_⟩
        refine iteE (fun a1 => ?_) (fun a1 => ?_)
        · have a1' : ((tw.length : Nat) : Int) < 1 := of_decide_eq_true a1
          exact iteT (kn (by rw [hdue, hdr, if_pos (.inl (.inl (by omega)))]) H7 (s1.trans sT))
        have a1' : ¬ ((tw.length : Nat) : Int) < 1 := of_decide_eq_false a1
        refine ⟨_, rfl, _, _, rfl, rfl, _, rfl, ?_⟩
        refine iteE (fun a2 => ?_) (fun a2 => ?_)
        · have a2' : (6 : Int) < ((tw.length : Nat) : Int) := of_decide_eq_true a2
          exact iteT (kn (by rw [hdue, hdr, if_pos (.inl (.inr (by omega)))]) H7 (s1.trans sT))
        have a2' : ¬ (6 : Int) < ((tw.length : Nat) : Int) := of_decide_eq_false a2
        refine ⟨_, rfl, .none, _, .non, .inl (.lst h7 dv), rfl, can_map (f := fun ws => optTh (lawThing ws)) (fun ws => opt_can _) _, (by decide), _, rfl, ?_⟩
        refine iteE (fun a3 => ?_) (fun a3 => ?_)
        · exact iteT (kn (by rw [hdue, hdr, if_pos (.inr (.inl (nn.mp a3)))]) H7 (s1.trans sT))
        have a3' : none ∉ tw.map lawThing := fun z => Bool.false_ne_true (a3.symm.trans (nn.mpr z))
        refine ⟨_, rfl, lr, _, rfl, .inl (SqL.of (sT _ _ hlr)), _, rfl, _, _, rfl, rfl, _, _, rfl, rfl, _, rfl, ?_⟩
        refine iteE (fun a4 => ?_) (fun a4 => ?_)
        · have a4' : (30 : Int) < ((vr.length : Nat) : Int) - ((tw.length : Nat) : Int) := of_decide_eq_true a4
          exact kn (by rw [hdue, hdr, if_pos (.inr (.inr (by omega)))]) H7 (s1.trans sT)
        have a4' : ¬ (30 : Int) < ((vr.length : Nat) : Int) - ((tw.length : Nat) : Int) := of_decide_eq_false a4
        rw [if_neg (by rintro ((z | z) | z | z) <;> first | omega | exact a3' z)] at hdr
        refine ⟨le_line (Nat.zero_le _), fun lq hlq => ?_⟩
        have s8 : Same H7 (L2.upd H7 lq (.lst [])) := same_new hlq
        refine ⟨_, rfl, _, rfl, _, rfl, lr, _, rfl, SqL.of (s8 _ _ (sT _ _ hlr)), fun l8 hl8 => ?_⟩
        rw [cut_drop]
        have nql : lq ≠ l8 := ne_of_none (H := L2.upd H7 lq (.lst [])) upd_same hl8
        refine ⟨l8, rfl, ⟨_, SqL.of upd_same⟩, for_list (K := K) (a := l8) (xs := vr.drop tw.length) (fun i σ H' => ∃ (vq : List V) (v6 : Option V), σ = [some (.str x), some (.ref D), some (.ref lr), some (.int (tw.length : Nat)), some (.ref D2), some (.ref lq), v6] ∧ Same H7 H' ∧
          H' l8 = some (.lst (vr.drop tw.length)) ∧ H' lq = some (.lst vq) ∧ vq.length = i ∧ DVs H' ((dw.take i).map fun ws => optQu (lawQuarrel (tw.length : Nat) ws)) vq ∧ ∀ ws ∈ dw.take i, isQu ws = true) ?_ (fun i σ H' _ ⟨_, _, _, _, h, _⟩ => SqL.of h) ?_ ?_⟩
        · exact ⟨[], _, rfl, s8.trans (same_new hl8), upd_same, by rw [upd_ne nql]; exact upd_same, rfl, .nil, fun ws h => by simp at h⟩
        · rintro i v σ H' hi ⟨vq, v6, rfl, sm, hl8', hq', lvq, dq, qu⟩
          obtain ⟨a, ws, rfl, hw, ha⟩ := Rd.val hi
          have hm := List.mem_of_getElem? hw
          have ha' := sm _ _ (sT _ _ ha)
          have ilt := (List.getElem?_eq_some_iff.mp hw).1
          have e1 : dw.take (i + 1) = dw.take i ++ [ws] := by rw [List.take_add_one, hw]; rfl
          have nope : isQu ws = false → due x = none := fun z => by
            rw [hdue, hdr, if_pos (.inl fun y => by rw [List.all_eq_true.mp y ws hm] at z; cases z)]
          refine ⟨_, rfl, a, _, rfl, .inl (SqL.of ha'), rfl, _, rfl, ?_⟩
          rw [List.length_map]
          refine iteE (fun b1' => ?_) (fun b1' => ?_)
          · have z : (!decide (V.int (ws.length : Nat) = V.int 4)) = true := b1'
            refine iteT (kn (nope ?_) H' (s1.trans (sT.trans sm)))
            unfold isQu
            rw [decide_eq_false, Bool.false_and]
            intro y
            rw [y] at z
            cases z
          have h4 : ws.length = 4 := by
            have z : (!decide (V.int (ws.length : Nat) = V.int 4)) = false := b1'
            have z' : decide (V.int (ws.length : Nat) = V.int 4) = true := by simpa using z
            have := of_decide_eq_true z'
            injection this with this
            omega
          obtain ⟨w0, hw0⟩ : ∃ w0, ws[0]? = some w0 := ⟨ws[0]'(by omega), List.getElem?_eq_getElem (by omega)⟩
          refine ⟨_, rfl, a, _, 0, .str w0, rfl, rfl, SqL.of ha', atI_nat (j := 0) (by rw [List.getElem?_map, hw0]; rfl), rfl, _, rfl, ?_⟩
          refine iteE (fun b2' => ?_) (fun b2' => ?_)
          · have z : ¬ w0 = "quarrel" := ne_str b2'
            refine kn (nope ?_) H' (s1.trans (sT.trans sm))
            unfold isQu
            rw [hw0, decide_eq_false (fun y => z (Option.some.inj y)), Bool.and_false]
          have ew : w0 = "quarrel" := eq_str b2'
          have hqu : isQu ws = true := by
            unfold isQu
            rw [hw0, ew, decide_eq_true h4, decide_eq_true rfl]
            rfl
          refine ⟨_, rfl, .inl ⟨rfl, _, SqL.of hq'⟩, _, rfl, _, rfl, a, ws, tw.length, rfl, ha', h4, shd ws hm, fun en H4 s4 => ?_, fun q eq p H4 s4 hp => ?_⟩
          · refine ⟨lq, vq, _, rfl, rfl, s4 _ _ hq', far (n := _) (m := rest.length) (by omega) rl, ?_⟩
            refine ⟨vq ++ [.non], _, rfl, same_upd (sm.trans s4) hlq, by rw [upd_ne (fun z => nql z.symm)]; exact s4 _ _ hl8', upd_same, by simp [lvq], ?_, ?_⟩
            · rw [e1, List.map_append]
              refine (dvs_upd (s4 _ _ hq') (dq.mono s4) (noLsts_map (f := fun ws => optQu (lawQuarrel (tw.length : Nat) ws)) (fun ws => optq_no _) _)).snoc ?_
              show DV _ (optQu (lawQuarrel (tw.length : Nat) ws)) _
              rw [en]
              exact .non
            · intro y hy
              rw [e1] at hy
              rcases List.mem_append.mp hy with z | z
              · exact qu y z
              · rw [List.mem_singleton.mp z]; exact hqu
          · refine ⟨lq, vq, _, rfl, rfl, s4 _ _ hq', far (n := _) (m := rest.length) (by omega) rl, ?_⟩
            refine ⟨vq ++ [.ref p], _, rfl, same_upd (sm.trans s4) hlq, by rw [upd_ne (fun z => nql z.symm)]; exact s4 _ _ hl8', upd_same, by simp [lvq], ?_, ?_⟩
            · rw [e1, List.map_append]
              refine (dvs_upd (s4 _ _ hq') (dq.mono s4) (noLsts_map (f := fun ws => optQu (lawQuarrel (tw.length : Nat) ws)) (fun ws => optq_no _) _)).snoc ?_
              show DV _ (optQu (lawQuarrel (tw.length : Nat) ws)) _
              rw [eq]
              exact dv_upd (s4 _ _ hq') (qu_dv hp) (qu_no q)
            · intro y hy
              rw [e1] at hy
              rcases List.mem_append.mp hy with z | z
              · exact qu y z
              · rw [List.mem_singleton.mp z]; exact hqu
        · rintro σ H8 ⟨vq, v6, rfl, sm, hl8', hq', lvq, dq, qu⟩
          rw [List.length_drop, lv, lsum, show tw.length + dw.length - tw.length = dw.length by omega, List.take_length] at dq qu
          have nq := any_none (f := quD) qu_eqv (dw.map (lawQuarrel (tw.length : Nat)))
          rw [List.map_map] at nq
          have sU := sT.trans sm
          refine ⟨_, rfl, .none, _, .non, .inl (.lst hq' dq), rfl, can_map (f := fun ws => optQu (lawQuarrel (tw.length : Nat) ws)) (fun ws => optq_can _) _, (by decide), _, rfl, ?_⟩
          refine iteE (fun a5 => ?_) (fun a5 => ?_)
          · exact kn (by rw [hdue, hdr, if_pos (.inr (nq.mp a5))]) H8 (s1.trans sU)
          have a5' : none ∉ dw.map (lawQuarrel (tw.length : Nat)) := fun z => Bool.false_ne_true (a5.symm.trans (nq.mpr z))
          rw [if_neg (by rintro (z | z); exact z (List.all_eq_true.mpr qu); exact a5' z)] at hdr
          refine ⟨_, rfl, _, rfl, D, xs, 0, .ref a0, rfl, rfl, SqL.of (sU _ _ hD), atI_nat (j := 0) ex0, a0, _, 1, .str b1, rfl, rfl, SqL.of (sU _ _ ha0), rfl, b1, 3, rfl, mb1, _, rfl, le_line (by show 3 ≤ _; decide), fun p hp => ?_⟩
          have sp := same_new (o := .tup [V.ref D2, V.int (lawNum b1 3), V.ref lq]) hp
          refine k (.ref p) _ (s1.trans (sU.trans sp)) ?_
          rw [hdue, hdr]
          have d1 := all_some (f := thD) a3'
          have d2 := all_some (f := quD) a5'
          have dv' := (dv.mono sm).mono sp
          have dq' := dq.mono sp
          rw [show (tw.map fun ws => optTh (lawThing ws)) = (tw.filterMap lawThing).map thD from d1] at dv'
          rw [show (dw.map fun ws => optQu (lawQuarrel (tw.length : Nat) ws)) = (dw.filterMap (lawQuarrel (tw.length : Nat))).map quD from d2] at dq'
          exact .tup upd_same (.cons (.lst (sp _ _ (sm _ _ h7)) dv') (.cons (.int _) (.cons (.lst (sp _ _ hq') dq') .nil)))
    have lne : lns x ≠ [] := split_ne x ⟨#[10]⟩
    have lnl := lns_len' x hz
    have mem : ∀ y ∈ lns x, y.length ≤ most := fun y hy => ln_short hy hz
    refine ⟨_, (pss_cons (ps_setC (j := 1) rfl (N' := ["line"]) (cap := [none]) ⟨rfl, by with_unfolding_all rfl⟩ (pi_list (pe_bm PySem.F.plainAttrs_str PySem.F.slot_str_split PySem.F.type_str_split mt_split (pv 0) (pa_cons pe_str pa_nil))) (fun _ => (pg_name (i := 0) (show (["line"] : List Str).Nodup by decide +kernel) (by rfl) (by first | exact Or.inl rfl | exact Or.inr rfl))) (fun _ => pifs_nil) (fun _ => (pe_bmK (K := K) rfl PySem.F.plainAttrs_str PySem.F.slot_str_split PySem.F.type_str_split mt_split (pv 0) (pa_cons pe_str pa_nil))) sc__law_due.nd (by rfl) (by rfl) (by with_unfolding_all rfl))
      (pss_cons (ps_if (PW.pt (pw_or (pt_cmpR (op_neD hu) (pe_ix ix_list (pv 1) (pe_un un_neg pe_int) (fun _ _ => rfl)) (pe_lst (pa_cons pe_str pa_nil)) (nomark _)) (pw_or (pt_cmpR op_ne (pe_callB call_len_seq (by rfl) T.n_len PySem.boot_len (pa_cons (pe_ix ix_list (pv 1) pe_int (fun _ _ => rfl)) pa_nil)) pe_int (nomark _)) (pw_or (pt_cmpR op_ne (pe_ix ix_list (pe_ix ix_list (pv 1) pe_int (fun _ _ => rfl)) pe_int (fun _ _ => rfl)) pe_str (nomark _)) (pw_or1 (pt_cmpR op_lt (pe_call G__law_number (hr.mono (by decide)) (by rfl) F__law_number.g F__law_number.fn.kp F__law_number.b .nil pass0 (pa_cons (pe_ix ix_list (pe_ix ix_list (pv 1) pe_int (fun _ _ => rfl)) pe_int (fun _ _ => rfl)) (pa_cons pe_int pa_nil))) pe_int (nomark _)))))))
      (pss_one (ps_ret pe_non))
      pss_nil)
      (pss_cons (ps_set (i := 2) sc__law_due.nd (by rfl) (by first | exact Or.inl rfl | exact Or.inr rfl) (pe_slice sl_list (pv 1) (po_some pe_int) (po_some (pe_op op_sub (pe_callB call_len_seq (by rfl) T.n_len PySem.boot_len (pa_cons (pv 1) pa_nil)) pe_int))))
      (pss_cons (ps_set (i := 3) sc__law_due.nd (by rfl) (by first | exact Or.inl rfl | exact Or.inr rfl) pe_int)
      (pss_cons (ps_while PassesOwn.never (PW.pt (pw_and (pt_cmpR op_lt (pv 3) (pe_callB call_len_seq (by rfl) T.n_len PySem.boot_len (pa_cons (pv 2) pa_nil)) (nomark _)) (pw_and (pt_cmpR op_eq (pe_callB call_len_seq (by rfl) T.n_len PySem.boot_len (pa_cons (pe_ix ix_list (pv 2) (pv 3) (fun _ _ => rfl)) pa_nil)) pe_int (nomark _)) (pw_and1 (pt_cmpR op_eq (pe_ix ix_list (pe_ix ix_list (pv 2) (pv 3) (fun _ _ => rfl)) pe_int (fun _ _ => rfl)) pe_str (nomark _))))))
      (pss_one (ps_set (i := 3) sc__law_due.nd (by rfl) (by first | exact Or.inl rfl | exact Or.inr rfl) (pe_op op_add (pv 3) pe_int))))
      htl))))), ?_⟩
    refine ⟨_, rfl, rfl, x, "\n", rfl, rfl, rfl, most_line hz, lns_len x hz, fun l0 hl0 => ?_⟩
    rw [show Txt.split x "\n" = lns x from rfl]
    have s0 := same_new (o := .lst ((lns x).map V.str)) hl0
    have h0 : (L2.upd H l0 (.lst ((lns x).map V.str))) l0 = some (.lst ((lns x).map V.str)) := upd_same
    generalize L2.upd H l0 (.lst ((lns x).map V.str)) = H0 at s0 h0 ⊢
    refine ⟨l0, rfl, ⟨_, SqL.of h0⟩, fun D hD => ?_⟩
    refine comp_list (K := K) (a := l0) (ys := (lns x).map V.str) (fun i ys H' => Same H0 H' ∧ H' D = some (.lst ys) ∧ RowsB H' D ys (((lns x).take i).map wds)) ⟨same_new hD, upd_same, rfl, fun i ws e => by simp at e⟩ (fun i ys H' _ ⟨sm, h, _⟩ => ⟨h, SqL.of (sm _ _ h0)⟩) ?_ ?_
    · rintro i v ys H' hi ⟨sm, hD', rb⟩
      rw [List.getElem?_map, Option.map_eq_some_iff] at hi
      obtain ⟨y, hy, rfl⟩ := hi
      have my := mem y (List.mem_of_getElem? hy)
      have ilt := (List.getElem?_eq_some_iff.mp hy).1
      have lys : ys.length ≤ (lns x).length := by rw [rb.1, List.length_map, List.length_take]; omega
      refine ⟨Keep.set rfl, ?_⟩
      refine ⟨_, rfl, rfl, y, " ", rfl, rfl, rfl, most_line my, wds_len y my, fun li hli => ?_⟩
      rw [show Txt.split y " " = wds y from rfl]
      have nli : li ≠ D := fun z => by rw [z, hD'] at hli; cases hli
      have sl := same_new (o := .lst ((wds y).map V.str)) hli
      refine ⟨sl _ _ hD', far lys lnl, same_upd (sm.trans sl) hD, upd_same, ?_⟩
      rw [List.take_add_one, hy, List.map_append]
      have e2 : (L2.upd (L2.upd H' li (.lst ((wds y).map V.str))) D (.lst (ys ++ [V.ref li]))) li = some (.lst ((wds y).map V.str)) := by rw [upd_ne nli]; exact upd_same
      exact (rb.mono fun b o e nb => by rw [upd_ne nb]; exact sl _ _ e).snoc e2 nli
    · rintro ys H1 ⟨s1, hD1, rb⟩
      have R := rb.at
      rw [List.length_map, List.take_length] at R
      have sA := s0.trans s1
      have hdL : due x = dueL ((lns x).map wds) := rfl
      have short : ∀ ws ∈ (lns x).map wds, ∀ y ∈ ws, y.length ≤ most := fun ws hw y hy => by
        obtain ⟨p, hp, rfl⟩ := List.mem_map.mp hw
        exact wd_short hy (mem p hp)
      have oks : ∀ ws ∈ (lns x).map wds, ∀ y ∈ ws, okS y := fun ws hw y hy => by
        obtain ⟨p, hp, rfl⟩ := List.mem_map.mp hw
        exact okS_split (okS_split hok hp) hy
      have Lne : (lns x).map wds ≠ [] := by simpa using lne
      have Lle : ((lns x).map wds).length ≤ most + 2 := by rw [List.length_map]; exact lnl
      generalize (lns x).map wds = L at R hdL short oks Lne Lle
      have ly := R.1
      have L1 : 1 ≤ L.length := List.length_pos_iff.mpr Lne
      obtain ⟨wl, hwl⟩ : ∃ wl, L[L.length - 1]? = some wl := ⟨L[L.length - 1]'(by omega), List.getElem?_eq_getElem (by omega)⟩
      obtain ⟨w0, hw0⟩ : ∃ w0, L[0]? = some w0 := ⟨L[0]'(by omega), List.getElem?_eq_getElem (by omega)⟩
      obtain ⟨al, el, hal⟩ := R.2 _ _ hwl
      obtain ⟨a0, e0, ha0⟩ := R.2 _ _ hw0
      have gl : L.getLast? = some wl := by rw [List.getLast?_eq_getElem?]; exact hwl
      have g0 : L.getD 0 [] = w0 := by rw [List.getD_eq_getElem?_getD, hw0]; rfl
      refine ⟨_, rfl, _, rfl, D, ys, _, .ref al, rfl, rfl, SqL.of hD1, atI_end (by rw [ly]; exact el), le_line (by show 1 ≤ _; decide), fun lx hlx => ?_⟩
      have sx := same_new (o := .lst [V.str ""]) hlx
      refine ⟨.list (wl.map PyData.str), .list [.str ""], .lst (sx _ _ hal) (ws_dv _), .lst upd_same (.cons (.str _) .nil), wsD_can (oks wl (List.mem_of_getElem? hwl)), wsD_can (ws := [("" : Str)]) (fun y hy => by rw [List.mem_singleton.mp hy]; exact okS_of ""), depth_list _, _, rfl, ?_⟩
      generalize L2.upd H1 lx (.lst [V.str ""]) = H2 at sx ⊢
      have sB := sA.trans sx
      have hD2 := sx _ _ hD1
      have ha2 := sx _ _ ha0
      have d0 : dueL L = if L.getLast? ≠ some [("" : Str)] ∨ (L.getD 0 []).length ≠ 2 ∨ (L.getD 0 []).getD 0 "" ≠ "boat" ∨ lawNum ((L.getD 0 []).getD 1 "") 3 < 1 then none else dueR (lawNum ((L.getD 0 []).getD 1 "") 3) L.tail.dropLast := rfl
      rw [g0, gl] at d0
      refine iteE (fun c1 => ?_) (fun c1 => ?_)
      · have z : (!PyData.eqv (.list (wl.map PyData.str)) (.list [.str ""])) = true := c1
        refine iteT (kn ?_ H2 sB)
        have hn : ¬ wl = [("" : Str)] := fun y => by rw [(eqv_strs wl).mpr y] at z; cases z
        rw [hdL, d0, if_pos (.inl (fun y => hn (Option.some.inj y)))]
      have z1 : wl = [("" : Str)] := by
        have z : (!PyData.eqv (.list (wl.map PyData.str)) (.list [.str ""])) = false := c1
        exact (eqv_strs wl).mp (by simpa using z)
      refine ⟨_, rfl, D, _, 0, .ref a0, rfl, rfl, SqL.of hD2, atI_nat (j := 0) e0, a0, _, rfl, .inl (SqL.of ha2), rfl, _, rfl, ?_⟩
      rw [List.length_map]
      refine iteE (fun c2 => ?_) (fun c2 => ?_)
      · have z : (!decide (V.int (w0.length : Nat) = V.int 2)) = true := c2
        refine iteT (kn ?_ H2 sB)
        have hn : ¬ w0.length = 2 := fun y => by rw [y] at z; cases z
        rw [hdL, d0, if_pos (.inr (.inl hn))]
      have h2 : w0.length = 2 := by
        have z : (!decide (V.int (w0.length : Nat) = V.int 2)) = false := c2
        have z' : decide (V.int (w0.length : Nat) = V.int 2) = true := by simpa using z
        have := of_decide_eq_true z'
        injection this with this
        omega
      match w0, h2 with
      | [b0, b1], _ =>
        have mb1 : b1.length ≤ most := short _ (List.mem_of_getElem? hw0) b1 (by simp)
        refine ⟨_, rfl, D, _, 0, .ref a0, rfl, rfl, SqL.of hD2, atI_nat (j := 0) e0, a0, _, 0, .str b0, rfl, rfl, SqL.of ha2, rfl, rfl, _, rfl, ?_⟩
        refine iteE (fun c3 => ?_) (fun c3 => ?_)
        · have z : ¬ b0 = "boat" := ne_str c3
          refine iteT (kn ?_ H2 sB)
          rw [hdL, d0, if_pos (.inr (.inr (.inl z)))]
        have z3 : b0 = "boat" := eq_str c3
        refine ⟨_, rfl, D, _, 0, .ref a0, rfl, rfl, SqL.of hD2, atI_nat (j := 0) e0, a0, _, 1, .str b1, rfl, rfl, SqL.of ha2, rfl, b1, 3, rfl, mb1, _, _, rfl, rfl, _, rfl, ?_⟩
        refine iteE (fun c4 => ?_) (fun c4 => ?_)
        · have z : lawNum b1 3 < 1 := of_decide_eq_true c4
          refine kn ?_ H2 sB
          rw [hdL, d0, if_pos (.inr (.inr (.inr z)))]
        have z4 : ¬ lawNum b1 3 < 1 := of_decide_eq_false c4
        have hdue : due x = dueR (lawNum b1 3) L.tail.dropLast := by
          rw [hdL, d0, if_neg]
          · rfl
          · rintro (y | y | y | y)
            · exact y (by rw [z1])
            · exact y rfl
            · exact y z3
            · exact z4 y
        refine ⟨_, rfl, _, rfl, _, rfl, D, _, rfl, .inl (SqL.of hD2), _, _, rfl, rfl, _, rfl, D, _, rfl, SqL.of hD2, fun lr hlr => ?_⟩
        rw [cut_mid ys (by rw [ly]; exact L1)]
        have sr := same_new (o := .lst ys.tail.dropLast) hlr
        have h3 : (L2.upd H2 lr (.lst ys.tail.dropLast)) lr = some (.lst ys.tail.dropLast) := upd_same
        generalize L2.upd H2 lr (.lst ys.tail.dropLast) = H3 at sr h3 ⊢
        have R3 := ((R.mono sx).mono sr).mid
        have rl : L.tail.dropLast.length ≤ most + 2 := by rw [List.length_dropLast, List.length_tail]; omega
        have sh3 : ∀ ws ∈ L.tail.dropLast, ∀ y ∈ ws, y.length ≤ most := fun ws hw => short ws (List.mem_of_mem_tail (List.dropLast_subset _ hw))
        generalize L.tail.dropLast = rest at R3 rl sh3 hdue
        generalize ys.tail.dropLast = vr at R3 h3
        have fin : ∀ i : Nat, i = (rest.takeWhile isTh).length → tl (bD Q) [some (.str x), some (.ref D), some (.ref lr), some (.int (i : Nat)), none, none, none] H3 := fun i e => by
          rw [e]
          exact rtl D lr a0 b0 b1 ys vr rest H3 (sB.trans sr) (sr _ _ hD2) e0 (sr _ _ ha2) mb1 h3 R3 rl sh3 hdue
        refine ⟨fun mm σ H' => ∃ i : Nat, mm = rest.length - i ∧ i ≤ (rest.takeWhile isTh).length ∧ H' = H3 ∧ σ = [some (.str x), some (.ref D), some (.ref lr), some (.int (i : Nat)), none, none, none], ⟨_, 0, rfl, Nat.zero_le _, rfl, rfl⟩, ?_⟩
        rintro mm σ H' ⟨i, rfl, hi, rfl, rfl⟩
        refine ⟨_, rfl, _, rfl, lr, _, rfl, .inl (SqL.of h3), _, _, rfl, rfl, _, rfl, ?_⟩
        refine iteE (fun c5 => ?_) (fun c5 => ?_)
        rotate_left
        · have z : ¬ ((i : Nat) : Int) < ((vr.length : Nat) : Int) := of_decide_eq_false c5
          refine iteF (fin i (tw_eq hi fun ws hw => ?_))
          have := (List.getElem?_eq_some_iff.mp hw).1
          rw [← R3.1] at this
          omega
        have z5 : ((i : Nat) : Int) < ((vr.length : Nat) : Int) := of_decide_eq_true c5
        have ir : i < rest.length := by rw [← R3.1]; omega
        obtain ⟨ws, hws⟩ : ∃ ws, rest[i]? = some ws := ⟨rest[i], List.getElem?_eq_getElem ir⟩
        obtain ⟨ai, ei, hai⟩ := R3.2 _ _ hws
        have out : isTh ws = false → i = (rest.takeWhile isTh).length := fun hn => tw_eq hi fun y hy => by
          rw [hws] at hy
          cases hy
          exact hn
        refine ⟨_, rfl, _, rfl, lr, _, _, .ref ai, rfl, rfl, SqL.of h3, atI_nat ei, ai, _, rfl, .inl (SqL.of hai), rfl, _, rfl, ?_⟩
        rw [List.length_map]
        refine iteE (fun c6 => ?_) (fun c6 => ?_)
        rotate_left
        · have z : ¬ ws.length = 3 := fun y => by
            have c6' : decide (V.int (ws.length : Nat) = V.int 3) = false := c6
            rw [y] at c6'
            cases c6'
          refine iteF (fin i (out ?_))
          unfold isTh
          rw [decide_eq_false z, Bool.false_and]
        have z6 : ws.length = 3 := by
          have := of_decide_eq_true (show decide (V.int (ws.length : Nat) = V.int 3) = true from c6)
          injection this with this
          omega
        obtain ⟨wa, hwa⟩ : ∃ wa, ws[0]? = some wa := ⟨ws[0]'(by omega), List.getElem?_eq_getElem (by omega)⟩
        refine ⟨_, rfl, _, rfl, lr, _, _, .ref ai, rfl, rfl, SqL.of h3, atI_nat ei, ai, _, 0, .str wa, rfl, rfl, SqL.of hai, atI_nat (j := 0) (by rw [List.getElem?_map, hwa]; rfl), rfl, _, rfl, ?_⟩
        refine iteE (fun c7 => ?_) (fun c7 => ?_)
        rotate_left
        · have z : ¬ wa = "thing" := by rw [dec_strs] at c7; exact of_decide_eq_false c7
          refine fin i (out ?_)
          unfold isTh
          rw [hwa, decide_eq_false (fun y => z (Option.some.inj y)), Bool.and_false]
        have z7 : wa = "thing" := by rw [dec_strs] at c7; exact of_decide_eq_true c7
        have hth : isTh ws = true := by
          unfold isTh
          rw [hwa, z7, decide_eq_true z6, decide_eq_true rfl]
          rfl
        refine ⟨fun σ' H'' => H'' = H' ∧ σ' = [some (.str x), some (.ref D), some (.ref lr), some (.int ((i : Int) + 1)), none, none, none], fun σ' H'' ⟨q1, q2⟩ => ⟨_, by omega, i + 1, rfl, tw_lt hi hws hth, q1, q2⟩, ?_⟩
        exact ⟨_, rfl, _, _, rfl, rfl, rfl, rfl⟩
end
end FN


set_option Elab.async false
set_option linter.all false
set_option maxRecDepth 100000
set_option maxHeartbeats 4000000
namespace FN
open PySem L2 PyProof.Rows WD
/-- a text of at most n signs, each of them a sign that there is -/
structure Sh (n : Nat) (y : Str) : Prop where
  l : y.length ≤ n
  o : okS y
theorem Sh.mono {n m : Nat} {y : Str} (h : Sh n y) (hm : n ≤ m) : Sh m y := ⟨Nat.le_trans h.l hm, h.o⟩
theorem Sh.app {n m : Nat} {x y : Str} (h : Sh n x) (h' : Sh m y) : Sh (n + m) (x ++ y) := ⟨by rw [PySem.Str.length_append]; have := h.l; have := h'.l; omega, okS_append h.o h'.o⟩
theorem Sh.num {n : Int} (h0 : 0 ≤ n) (h1 : n < 10 ^ 10) : Sh 10 (Str.ofString (toString n)) := ⟨PySem.W.KT.len_num h0 h1, okS_of _⟩
set_option exponentiation.threshold 4000 in
theorem log_small {n : Int} (h0 : 0 ≤ n) (h1 : n < 10 ^ 10) : n.natAbs.log2 < 1920 := by
  by_cases h : n.natAbs = 0
  · rw [h]; decide
  · exact (Nat.log2_lt h).mpr (Nat.lt_of_lt_of_le (show n.natAbs < 2 ^ 34 by omega) (Nat.pow_le_pow_right (by decide) (by decide)))
theorem sum_le {n : Nat} : ∀ {l : List Str}, (∀ y ∈ l, Sh n y) → (l.map (·.length)).sum ≤ l.length * n
  | [], _ => by simp
  | y :: l, h => by
    have ih := sum_le (l := l) fun z hz => h z (List.mem_cons_of_mem _ hz)
    have := (h y List.mem_cons_self).l
    rw [List.map_cons, List.sum_cons, List.length_cons, Nat.succ_mul]
    omega
theorem join_sh {sep : Str} {l : List Str} {n k : Nat} (h : ∀ y ∈ l, Sh n y) (hk : l.length ≤ k) (hs : okS sep) (hc : sep.length ≤ 1) (hb : k * (n + 1) ≤ 10000000) : JoinOk sep l = true ∧ Sh (k * (n + 1)) (Txt.join sep l) := by
  have h1 := sum_le h
  have h2 : (l.map (·.length)).sum + l.length * sep.length ≤ k * (n + 1) := by
    have a1 : l.length * n ≤ k * n := Nat.mul_le_mul_right _ hk
    have a2 : l.length * sep.length ≤ k * 1 := Nat.mul_le_mul hk hc
    rw [Nat.mul_add]
    omega
  refine ⟨?_, ?_, ?_⟩
  · unfold JoinOk
    rw [StrLaws.joinTotal]
    show (!decide (_ > sizeLine)) = true
    rw [decide_eq_false]
    · rfl
    · have : (10000000 : Nat) ≤ sizeLine := by decide
      omega
  · show (Builtin.Str.glued sep l).length ≤ _
    rw [StrLaws.glued_eq_join]
    exact Nat.le_trans (StrLaws.join_length_le sep l) h2
  · show okS (Builtin.Str.glued sep l)
    rw [StrLaws.glued_eq_join]
    exact okS_join hs fun y hy => (h y hy).o
theorem join4 {n : Nat} {l : List Str} {b c d : Str} (e : l = [("quarrel" : Str), b, c, d]) (hb : b.length ≤ 10) (hc : c.length ≤ 10) (hd : d.length ≤ 10) : (Txt.join " " l).length ≤ 41 := by
  show (Builtin.Str.glued " " l).length ≤ _
  rw [StrLaws.glued_eq_join]
  refine Nat.le_trans (StrLaws.join_length_le _ l) ?_
  rw [e]
  have h7 : ("quarrel" : Str).length = 7 := by decide
  have h1 : (" " : Str).length = 1 := by decide
  simp only [List.map_cons, List.map_nil, List.sum_cons, List.sum_nil, List.length_cons, List.length_nil, h7, h1]
  omega
section
variable {P : Program} {w : World} {K : PySem.W.Frag} {mg : Str → Option Value} {base : Heap} {C : Addr} {Z : Ad}
/-! ### _law_lines -/
def sp_lines : Sp := fun vs H Q _ => ∃ (p : Addr) (m : Nat) (ts : List Th) (r : Int) (qs : List Qu), vs = [.ref p] ∧ NightD H p m ts r qs ∧ qs.length ≤ 4 ∧ ∀ (l : Addr) (ls : List Str) (H' : Hp), Same H H' → H' l = some (.lst (ls.map V.str)) → ls.length ≤ 11 → (∀ y ∈ ls, Sh 41 y) → Q (.ref l) H'
theorem sc__law_lines : FnScope ["night", "lines", "pace", "rows", "one", "other", "keeper", "words"] ["night"] (defScope s__law_lines) := ⟨rfl, rfl, rfl, by decide +kernel, rfl, by decide +kernel, by decide +kernel⟩
theorem ok_lines {f : Addr} {fd : FuncData} (F : Fn K mg "_law_lines" s__law_lines f fd ["night"]) (T : Txt K mg C Z) : FnOk P w K mg base CX0 1 f fd ["night"] sp_lines := by
  refine F.fn.ok sc__law_lines (fun vs H Q E h => ?_) (fun cdv A outer s H vs Q E hr h => ?_)
  · obtain ⟨p, m, ts, r, qs, rfl, _⟩ := h
    rfl
  · obtain ⟨p, m, ts, r, qs, rfl, N, hq4, k⟩ := h
    obtain ⟨a, b, hp, ⟨va, ha, da⟩, ⟨vb, hb, db⟩⟩ := N.ex
    have la := dvs_len da
    have lb := dvs_len db
    have t6 := N.t.l6
    refine ⟨_, (pss_cons (ps_set (i := 1) sc__law_lines.nd (by rfl) (by first | exact Or.inl rfl | exact Or.inr rfl) (pe_lst (pa_cons (pe_op op_add_str pe_str (pe_callTy call_str_int (by rfl) T.n_str boot_str (pa_cons (pe_ix ix_tup (pv 0) pe_int (fun _ _ => rfl)) pa_nil))) pa_nil)))
      (pss_cons (ps_for PassesOwn.never rfl (pi_list (pe_ix ix_tup (pv 0) pe_int (fun _ _ => rfl))) (pg_tup rfl (pgs_cons (pg_name (i := 2) sc__law_lines.nd (by rfl) (by first | exact Or.inl rfl | exact Or.inr rfl)) (pgs_cons (pg_name (i := 3) sc__law_lines.nd (by rfl) (by first | exact Or.inl rfl | exact Or.inr rfl)) pgs_nil)))
      (pss_one (ps_expr (pe_bm PySem.F.plainAttrs_list PySem.F.slot_list_append PySem.F.type_list_append mt_append (pv 1) (pa_cons (pe_op op_add_str (pe_op op_add_str (pe_op op_add_str pe_str (pe_callTy call_str_int (by rfl) T.n_str boot_str (pa_cons (pv 2) pa_nil))) pe_str) (pe_ix ix_list (pe_lst (pa_cons pe_str (pa_cons pe_str pa_nil))) (pe_callTy call_int_bool (by rfl) T.n_int boot_int (pa_cons (pv 3) pa_nil)) (fun _ _ => rfl))) pa_nil)))))
      (pss_cons (ps_for PassesOwn.never rfl (pi_list (pe_ix ix_tup (pv 0) pe_int (fun _ _ => rfl))) (pg_tup rfl (pgs_cons (pg_name (i := 4) sc__law_lines.nd (by rfl) (by first | exact Or.inl rfl | exact Or.inr rfl)) (pgs_cons (pg_name (i := 5) sc__law_lines.nd (by rfl) (by first | exact Or.inl rfl | exact Or.inr rfl)) (pgs_cons (pg_name (i := 6) sc__law_lines.nd (by rfl) (by first | exact Or.inl rfl | exact Or.inr rfl)) pgs_nil))))
      (pss_cons (ps_set (i := 7) sc__law_lines.nd (by rfl) (by first | exact Or.inl rfl | exact Or.inr rfl) (pe_lst (pa_cons pe_str (pa_cons (pe_callTy call_str_int (by rfl) T.n_str boot_str (pa_cons (pv 4) pa_nil)) (pa_cons (pe_callTy call_str_int (by rfl) T.n_str boot_str (pa_cons (pv 5) pa_nil)) (pa_cons pe_str pa_nil))))))
      (pss_cons (ps_if (pt_cmpR op_ge (pv 6) pe_int (nomark _))
      (pss_one (ps_asg (pe_callTy call_str_int (by rfl) T.n_str boot_str (pa_cons (pv 6) pa_nil)) (pg_sub (pv 7) pe_int set_list)))
      pss_nil)
      (pss_one (ps_expr (pe_bm PySem.F.plainAttrs_list PySem.F.slot_list_append PySem.F.type_list_append mt_append (pv 1) (pa_cons (pe_bm PySem.F.plainAttrs_str PySem.F.slot_str_join PySem.F.type_str_join mt_join pe_str (pa_cons (pv 7) pa_nil)) pa_nil)))))))
      (pss_one (ps_ret (pv 1)))))), ?_⟩
    have r0 : 0 ≤ r := by have := N.r1; omega
    have r9 : r < 10 ^ 10 := by have := N.r3; omega
    have sr := (Sh.num r0 r9)
    have s0 : Sh 41 (("boat " : Str) ++ Str.ofString (toString r)) := (Sh.app (n := 5) ⟨by decide, okS_of _⟩ sr).mono (by decide)
    refine ⟨_, rfl, p, _, 1, .int r, rfl, rfl, SqT.of hp, rfl, r, rfl, log_small r0 r9, _, _, rfl, rfl, (by have := sr.l; show ("boat " : Str).length + _ ≤ sizeLine; exact Nat.le_trans (Nat.add_le_add_left this _) (by decide)), le_line (by show 1 ≤ _; decide), fun l hl => ?_⟩
    have sl := same_new (o := .lst [V.str (("boat " : Str) ++ Str.ofString (toString r))]) hl
    refine ⟨_, rfl, p, _, 0, .ref a, rfl, rfl, SqT.of (sl _ _ hp), rfl, a, rfl, ⟨_, SqL.of (sl _ _ ha)⟩, for_list (K := K) (a := a) (xs := va) (fun i σ H' => ∃ (ls : List Str) (v2 v3 v4 v5 v6 v7 : Option V), σ = [some (.ref p), some (.ref l), v2, v3, v4, v5, v6, v7] ∧ Same H H' ∧ H' l = some (.lst (ls.map V.str)) ∧ ls.length = 1 + i ∧ ∀ y ∈ ls, Sh 41 y)
      ⟨[_], _, _, _, _, _, _, rfl, sl, upd_same, rfl, fun y hy => by rw [List.mem_singleton.mp hy]; exact s0⟩ (fun i σ H' _ ⟨_, _, _, _, _, _, _, _, sm, _⟩ => SqL.of (sm _ _ ha)) ?_ ?_⟩
    · rintro i x σ H' hi ⟨ls, v2, v3, v4, v5, v6, v7, rfl, sm, hl', ll, sh⟩
      obtain ⟨t, ht, dt⟩ := dvs_get da hi
      obtain ⟨b', rfl, hb'⟩ := th_inv dt
      have ilt := (List.getElem?_eq_some_iff.mp ht).1
      obtain ⟨p1, p2⟩ := N.t.p t (List.mem_of_getElem? ht)
      have t0 : 0 ≤ t.1 := by omega
      have t9 : t.1 < 10 ^ 10 := by omega
      have sp := Sh.num t0 t9
      have s1 : Sh 16 (("thing " : Str) ++ Str.ofString (toString t.1)) := Sh.app (n := 6) ⟨by decide, okS_of _⟩ sp
      have s2 : Sh 17 (("thing " : Str) ++ Str.ofString (toString t.1) ++ (" " : Str)) := Sh.app (m := 1) (y := (" " : Str)) s1 ⟨by decide, okS_of _⟩
      refine ⟨b', _, rfl, SqT.of (sm _ _ hb'), rfl, _, _, rfl, _, _, rfl, rfl, ?_⟩
      refine ⟨_, rfl, .inl ⟨rfl, _, SqL.of hl'⟩, _, rfl, t.1, rfl, log_small t0 t9, _, _, rfl, rfl, Nat.le_trans (Nat.add_le_add_left sp.l _) (by decide), _, _, rfl, rfl, Nat.le_trans (Nat.add_le_add_right s1.l _) (by decide), le_line (by show 2 ≤ _; decide), fun l3 hl3 => ?_⟩
      have s3 := same_new (o := .lst [V.str "sits", V.str "rows"]) hl3
      obtain ⟨wd, hat, sw⟩ : ∃ wd : Str, atI [V.str "sits", V.str "rows"] (if t.2 then 1 else 0) = some (.str wd) ∧ Sh 4 wd := by
        cases t.2 with
        | true => exact ⟨"rows", rfl, by decide, okS_of _⟩
        | false => exact ⟨"sits", rfl, by decide, okS_of _⟩
      refine ⟨_, rfl, t.2, rfl, l3, _, _, _, rfl, rfl, SqL.of upd_same, hat, _, _, rfl, rfl, Nat.le_trans (Nat.add_le_add s2.l sw.l) (by decide), l, _, _, rfl, rfl, s3 _ _ hl', lt_line (by rw [List.length_map]; omega), ?_⟩
      refine ⟨ls ++ [("thing " : Str) ++ Str.ofString (toString t.1) ++ (" " : Str) ++ wd], _, _, _, _, _, _, rfl, same_upd (sm.trans s3) hl, by rw [List.map_append]; exact upd_same, by simp [ll]; omega, fun y hy => ?_⟩
      rcases List.mem_append.mp hy with z | z
      · exact sh y z
      · rw [List.mem_singleton.mp z]
        exact (Sh.app s2 sw).mono (by decide)
    · rintro σ H1 ⟨ls, v2, v3, v4, v5, v6, v7, rfl, sm, hl', ll, sh⟩
      refine ⟨_, rfl, p, _, 2, .ref b, rfl, rfl, SqT.of (sm _ _ hp), rfl, b, rfl, ⟨_, SqL.of (sm _ _ hb)⟩, for_list (K := K) (a := b) (xs := vb) (fun i σ H' => ∃ (ls : List Str) (v2 v3 v4 v5 v6 v7 : Option V), σ = [some (.ref p), some (.ref l), v2, v3, v4, v5, v6, v7] ∧ Same H H' ∧ H' l = some (.lst (ls.map V.str)) ∧ ls.length = 1 + va.length + i ∧ ∀ y ∈ ls, Sh 41 y)
        ⟨ls, _, _, _, _, _, _, rfl, sm, hl', by omega, sh⟩ (fun i σ H' _ ⟨_, _, _, _, _, _, _, _, sm, _⟩ => SqL.of (sm _ _ hb)) ?_ ?_⟩
      · rintro i x σ H' hi ⟨ls, v2, v3, v4, v5, v6, v7, rfl, sm, hl', ll, sh⟩
        obtain ⟨q, hq, dq⟩ := dvs_get db hi
        obtain ⟨c, rfl, hc⟩ := qu_inv dq
        have ilt := (List.getElem?_eq_some_iff.mp hq).1
        have ok := N.q q (List.mem_of_getElem? hq)
        have m6 : ((ts.length : Nat) : Int) ≤ 6 := by omega
        have x0 := ok.a0
        have x1 := ok.a1
        have y0 := ok.b0
        have y1 := ok.b1
        have so := Sh.num x0 (show q.1 < 10 ^ 10 by omega)
        have sp := Sh.num y0 (show q.2.1 < 10 ^ 10 by omega)
        refine ⟨c, _, rfl, SqT.of (sm _ _ hc), rfl, _, _, rfl, _, _, rfl, _, _, rfl, rfl, ?_⟩
        refine ⟨_, rfl, q.1, rfl, log_small x0 (by omega), _, rfl, q.2.1, rfl, log_small y0 (by omega), le_line (by show 4 ≤ _; decide), fun lw hlw => ?_⟩
        have sw := same_new (o := .lst [V.str "quarrel", V.str (Str.ofString (toString q.1)), V.str (Str.ofString (toString q.2.1)), V.str "-"]) hlw
        have nlw : l ≠ lw := ne_of_none hl' hlw
        refine ⟨_, rfl, _, _, rfl, rfl, _, rfl, ?_⟩
        refine iteE (fun g => ?_) (fun g => ?_)
        · have k0 : 0 ≤ q.2.2 := of_decide_eq_true g
          have k9 : q.2.2 < 10 ^ 10 := by
            rcases ok.k with z | z
            · omega
            · omega
          have sk := Sh.num k0 k9
          refine ⟨_, rfl, q.2.2, rfl, log_small k0 k9, _, rfl, lw, _, 3, 3, rfl, rfl, upd_same, rfl, ?_⟩
          have hW : (L2.upd (L2.upd H' lw (.lst [V.str "quarrel", V.str (Str.ofString (toString q.1)), V.str (Str.ofString (toString q.2.1)), V.str "-"])) lw (.lst ([V.str "quarrel", V.str (Str.ofString (toString q.1)), V.str (Str.ofString (toString q.2.1)), V.str "-"].set 3 (V.str (Str.ofString (toString q.2.2)))))) lw = some (.lst ([("quarrel" : Str), Str.ofString (toString q.1), Str.ofString (toString q.2.1), Str.ofString (toString q.2.2)].map V.str)) := upd_same
          have hL : (L2.upd (L2.upd H' lw (.lst [V.str "quarrel", V.str (Str.ofString (toString q.1)), V.str (Str.ofString (toString q.2.1)), V.str "-"])) lw (.lst ([V.str "quarrel", V.str (Str.ofString (toString q.1)), V.str (Str.ofString (toString q.2.1)), V.str "-"].set 3 (V.str (Str.ofString (toString q.2.2)))))) l = some (.lst (ls.map V.str)) := by rw [upd_ne nlw, upd_ne nlw]; exact hl'
          have jn := join_sh (sep := (" " : Str)) (l := [("quarrel" : Str), Str.ofString (toString q.1), Str.ofString (toString q.2.1), Str.ofString (toString q.2.2)]) (n := 10) (k := 4) (fun y hy => by
            simp only [List.mem_cons, List.not_mem_nil, or_false] at hy
            rcases hy with rfl | rfl | rfl | rfl
            · exact ⟨by decide, okS_of _⟩
            · exact so
            · exact sp
            · exact sk) (by show 4 ≤ 4; decide) (okS_of _) (by decide) (by decide)
          have jl := join4 (n := 10) (l := [("quarrel" : Str), Str.ofString (toString q.1), Str.ofString (toString q.2.1), Str.ofString (toString q.2.2)]) rfl so.l sp.l sk.l
          refine ⟨_, rfl, .inl ⟨rfl, _, SqL.of hL⟩, rfl, _, rfl, " ", lw, [("quarrel" : Str), Str.ofString (toString q.1), Str.ofString (toString q.2.1), Str.ofString (toString q.2.2)], rfl, rfl, SqL.of hW, jn.1, l, _, _, rfl, rfl, hL, lt_line (by rw [List.length_map]; omega), ?_⟩
          refine ⟨ls ++ [Txt.join " " [("quarrel" : Str), Str.ofString (toString q.1), Str.ofString (toString q.2.1), Str.ofString (toString q.2.2)]], _, _, _, _, _, _, rfl, same_upd (same_upd (sm.trans sw) (sm.free hlw)) hl, by rw [List.map_append]; exact upd_same, by simp [ll]; omega, fun y hy => ?_⟩
          rcases List.mem_append.mp hy with z | z
          · exact sh y z
          · rw [List.mem_singleton.mp z]
            exact ⟨jl, jn.2.o⟩
        · have hW : (L2.upd H' lw (.lst [V.str "quarrel", V.str (Str.ofString (toString q.1)), V.str (Str.ofString (toString q.2.1)), V.str "-"])) lw = some (.lst ([("quarrel" : Str), Str.ofString (toString q.1), Str.ofString (toString q.2.1), ("-" : Str)].map V.str)) := upd_same
          have jn := join_sh (sep := (" " : Str)) (l := [("quarrel" : Str), Str.ofString (toString q.1), Str.ofString (toString q.2.1), ("-" : Str)]) (n := 10) (k := 4) (fun y hy => by
            simp only [List.mem_cons, List.not_mem_nil, or_false] at hy
            rcases hy with rfl | rfl | rfl | rfl
            · exact ⟨by decide, okS_of _⟩
            · exact so
            · exact sp
            · exact ⟨by decide, okS_of _⟩) (by show 4 ≤ 4; decide) (okS_of _) (by decide) (by decide)
          have jl := join4 (n := 10) (l := [("quarrel" : Str), Str.ofString (toString q.1), Str.ofString (toString q.2.1), ("-" : Str)]) rfl so.l sp.l (by decide)
          refine ⟨_, rfl, .inl ⟨rfl, _, SqL.of (sw _ _ hl')⟩, rfl, _, rfl, " ", lw, [("quarrel" : Str), Str.ofString (toString q.1), Str.ofString (toString q.2.1), ("-" : Str)], rfl, rfl, SqL.of hW, jn.1, l, _, _, rfl, rfl, (sw _ _ hl'), lt_line (by rw [List.length_map]; omega), ?_⟩
          refine ⟨ls ++ [Txt.join " " [("quarrel" : Str), Str.ofString (toString q.1), Str.ofString (toString q.2.1), ("-" : Str)]], _, _, _, _, _, _, rfl, same_upd (sm.trans sw) hl, by rw [List.map_append]; exact upd_same, by simp [ll]; omega, fun y hy => ?_⟩
          rcases List.mem_append.mp hy with z | z
          · exact sh y z
          · rw [List.mem_singleton.mp z]
            exact ⟨jl, jn.2.o⟩
      · rintro σ H2 ⟨ls, v2, v3, v4, v5, v6, v7, rfl, sm, hl', ll, sh⟩
        exact ⟨_, rfl, k l ls H2 sm hl' (by omega) sh⟩
end
end FN


set_option Elab.async false
set_option linter.all false
set_option maxRecDepth 100000
set_option maxHeartbeats 4000000
namespace L2
open PySem PySem.Spec PyProof.Rows
section
variable {X : Cx}
/-- x * k of a text, and of which signs it is -/
theorem op_rep_str2 : OpR X (binaryOp .Mult) (fun x y H Q => ∃ a k, x = .str a ∧ y = .int k ∧ 1 < k ∧ k < 1000 ∧ 0 < a.length ∧ a.length < 1000 ∧ ∀ b : Str, b.length = a.length * k.toNat → (∀ c ∈ b.cps.toList, c ∈ a.cps.toList) → Q (.str b) H) := by
  intro pins s σ H x y v u Q I rx ry h
  obtain ⟨a, k, rfl, rfl, k1, k2, a1, a2, q⟩ := h
  obtain ⟨t, rfl⟩ := rx
  obtain ⟨t', rfl⟩ := ry
  have hk : (k == 1 || a.length == 0) = false := by
    rw [Bool.or_eq_false_iff]
    exact ⟨by simpa using (show k ≠ 1 by omega), by simpa using (show a.length ≠ 0 by omega)⟩
  have ln : (⟨(List.replicate k.toNat a.cps).foldl (· ++ ·) #[]⟩ : Str).length = a.length * k.toNat := by
    have go : ∀ (n : Nat) (acc : Array Nat), ((List.replicate n a.cps).foldl (· ++ ·) acc).size = acc.size + a.cps.size * n := by
      intro n
      induction n with
      | zero => intro acc; simp
      | succ n ih =>
        intro acc
        rw [List.replicate_succ, List.foldl_cons, ih, Array.size_append, Nat.mul_succ]
        omega
    have := go k.toNat #[]
    show ((List.replicate k.toNat a.cps).foldl (· ++ ·) #[]).size = a.cps.size * k.toNat
    rw [this]; simp
  have ct : ∀ c ∈ (⟨(List.replicate k.toNat a.cps).foldl (· ++ ·) #[]⟩ : Str).cps.toList, c ∈ a.cps.toList := by
    have go : ∀ (n : Nat) (acc : Array Nat), (∀ c ∈ acc.toList, c ∈ a.cps.toList) → ∀ c ∈ ((List.replicate n a.cps).foldl (· ++ ·) acc).toList, c ∈ a.cps.toList := by
      intro n
      induction n with
      | zero => intro acc h; simpa using h
      | succ n ih =>
        intro acc h
        rw [List.replicate_succ, List.foldl_cons]
        refine ih _ fun c hc => ?_
        rw [Array.toList_append] at hc
        exact (List.mem_append.mp hc).elim (h c) fun z => z
    exact go k.toNat #[] fun c hc => by cases hc
  have hsm : a.length * k.toNat ≤ 1000000 := by
    have : k.toNat ≤ 1000 := by omega
    calc a.length * k.toNat ≤ 1000 * 1000 := Nat.mul_le_mul (by omega) this
      _ = 1000000 := rfl
  have hfit : a.length * k.toNat ≤ sizeLine := by rw [sizeLine_eq]; omega
  refine P.mul_str (by rw [Bool.or_eq_false_iff]; exact ⟨decide_eq_false (by omega), decide_eq_false (by omega)⟩) (fun _ _ => ?_) (fun _ _ => ?_) ?_
  · have : (1000000 : Int) ≤ (2 ^ 63 - 1) / k := by
      rw [Int.le_ediv_iff_mul_le (by omega)]
      omega
    omega
  · show decide (_ > _) = false
    rw [decide_eq_false_iff_not]
    omega
  · rw [if_neg (by omega), hk, if_neg (by simp)]
    exact ⟨by rw [ln]; exact hfit, .str _, H, I.tok _, ⟨_, rfl⟩, q _ ln ct⟩
end
end L2
namespace FN
open PySem L2 PyProof.Rows WD
theorem cut_strs (ls : List Str) (lo hi : Option Int) : ∃ ls' : List Str, cutV (ls.map V.str) lo hi = ls'.map V.str ∧ ls'.length ≤ ls.length ∧ ∀ y ∈ ls', y ∈ ls := by
  unfold cutV
  refine ⟨(ls.drop (HT.sIx (ls.map V.str).length 0 lo)).take (HT.sIx (ls.map V.str).length (ls.map V.str).length hi - HT.sIx (ls.map V.str).length 0 lo), by rw [List.map_take, List.map_drop], by rw [List.length_take, List.length_drop]; omega, fun y hy => List.mem_of_mem_drop (List.mem_of_mem_take hy)⟩
theorem Sh.slice {n : Nat} {x : Str} (h : Sh n x) (lo hi : Option Int) : Sh n (Txt.slice x lo hi) := ⟨Nat.le_trans (Txt.slice_le x lo hi) h.l, okS_slice h.o lo hi⟩
section
variable {P : Program} {w : World} {K : PySem.W.Frag} {mg : Str → Option Value} {base : Heap} {C : Addr} {Z : Ad}
/-! ### _law_spoiled -/
def sp_spoiled : Sp := fun vs H Q _ => ∃ (x : Str) (way cell other : Int), vs = [.str x, .int way, .int cell, .int other] ∧ Sh 470 x ∧ ∀ (b : Str) (H' : Hp), Same H H' → Sh most b → Q (.str b) H'
theorem sc__law_spoiled : FnScope ["text", "way", "cell", "other", "signs", "sign", "at", "lines", "spot", "ahead"] ["text", "way", "cell", "other"] (defScope s__law_spoiled) := ⟨rfl, rfl, rfl, by decide +kernel, rfl, by decide +kernel, by decide +kernel⟩
theorem ok_spoiled {f : Addr} {fd : FuncData} (F : Fn K mg "_law_spoiled" s__law_spoiled f fd ["text", "way", "cell", "other"]) (T : Txt K mg C Z) : FnOk P w K mg base CX0 1 f fd ["text", "way", "cell", "other"] sp_spoiled := by
  refine F.fn.ok sc__law_spoiled (fun vs H Q E h => ?_) (fun cdv A outer s H vs Q E hr h => ?_)
  · obtain ⟨x, way, cell, other, rfl, _⟩ := h
    rfl
  · obtain ⟨x, way, cell, other, rfl, hx, k⟩ := h
    have hx1 : x.length ≤ most := Nat.le_trans hx.l (by decide)
    -- the end
    obtain ⟨t11, ht11, r11⟩ : ∃ t, PSs (bX P w K mg base ["text", "way", "cell", "other", "signs", "sign", "at", "lines", "spot", "ahead"] "_law_spoiled" s__law_spoiled f cdv A outer s H E) ((defBody s__law_spoiled).drop 11) t ∧ ∀ (l : Addr) (ls : List Str) (H' : Hp) (a sp : Int) (sg si : Str) (v9 : Option V), Same H H' → H' l = some (.lst (ls.map V.str)) → (∀ y ∈ ls, Sh 470 y) → ls.length ≤ 2000 →
        t (bD Q) [some (.str x), some (.int way), some (.int cell), some (.int other), some (.str si), some (.str sg), some (.int a), some (.ref l), some (.int sp), v9] H' := by
      refine ⟨_, (pss_one (ps_ret (pe_bm PySem.F.plainAttrs_str PySem.F.slot_str_join PySem.F.type_str_join mt_join pe_str (pa_cons (pv 7) pa_nil)))), fun l ls H' a sp sg si v9 sm hl sh ln => ?_⟩
      have j := join_sh (sep := ("\n" : Str)) (k := 2000) (n := 470) sh ln (okS_of _) (by decide) (by decide)
      exact ⟨rfl, _, rfl, "\n", l, ls, rfl, rfl, SqL.of hl, j.1, k _ H' sm (j.2.mono (by decide))⟩
    obtain ⟨t10, ht10, r10⟩ : ∃ t, PSs (bX P w K mg base ["text", "way", "cell", "other", "signs", "sign", "at", "lines", "spot", "ahead"] "_law_spoiled" s__law_spoiled f cdv A outer s H E) ((defBody s__law_spoiled).drop 10) t ∧ ∀ (l : Addr) (ls : List Str) (H' : Hp) (a sp : Int) (sg si : Str) (v9 : Option V), Same H H' → H' l = some (.lst (ls.map V.str)) → (∀ y ∈ ls, Sh 470 y) → ls.length ≤ 2000 → (way = 6 → ls.length ≤ 472) →
        t (bD Q) [some (.str x), some (.int way), some (.int cell), some (.int other), some (.str si), some (.str sg), some (.int a), some (.ref l), some (.int sp), v9] H' := by
      refine ⟨_, (pss_cons (ps_if (pt_cmpR op_eq (pv 1) pe_int (nomark _))
      (pss_cons (ps_set (i := 9) sc__law_spoiled.nd (by rfl) (by first | exact Or.inl rfl | exact Or.inr rfl) (pe_op op_cat (pe_slice sl_list (pv 7) po_none (po_some (pv 8))) (pe_slice sl_list (pv 7) (po_some (pe_op op_add (pv 8) pe_int)) (po_some (pe_op op_add (pv 8) pe_int)))))
      (pss_one (ps_set (i := 7) sc__law_spoiled.nd (by rfl) (by first | exact Or.inl rfl | exact Or.inr rfl) (pe_op op_cat (pe_op op_cat (pv 9) (pe_slice sl_list (pv 7) (po_some (pv 8)) (po_some (pe_op op_add (pv 8) pe_int)))) (pe_slice sl_list (pv 7) (po_some (pe_op op_add (pv 8) pe_int)) po_none)))))
      pss_nil)
      ht11), fun l ls H' a sp sg si v9 sm hl sh ln hw => ?_⟩
      refine ⟨_, rfl, rfl, _, rfl, ?_⟩
      refine iteE (fun c => ?_) (fun c => ?_)
      · have w6 : way = 6 := by have := of_decide_eq_true c; injection this
        have l472 := hw w6
        obtain ⟨ls1, e1, n1, m1⟩ := cut_strs ls none (some sp)
        obtain ⟨ls2, e2, n2, m2⟩ := cut_strs ls (some (sp + 1)) (some (sp + 2))
        obtain ⟨ls4, e4, n4, m4⟩ := cut_strs ls (some sp) (some (sp + 1))
        obtain ⟨ls6, e6, n6, m6⟩ := cut_strs ls (some (sp + 2)) none
        refine ⟨_, rfl, _, rfl, _, rfl, l, _, rfl, SqL.of hl, fun l1 hl1 => ?_⟩
        rw [e1]
        have s1 := same_new (o := .lst (ls1.map V.str)) hl1
        have g1 : (L2.upd H' l1 (.lst (ls1.map V.str))) l1 = some (.lst (ls1.map V.str)) := upd_same
        generalize L2.upd H' l1 (.lst (ls1.map V.str)) = H1 at s1 g1 ⊢
        refine ⟨_, rfl, _, rfl, _, _, rfl, rfl, _, rfl, _, rfl, _, _, rfl, rfl, _, rfl, l, _, rfl, SqL.of (s1 _ _ hl), fun l2 hl2 => ?_⟩
        rw [e2]
        have s2 := same_new (o := .lst (ls2.map V.str)) hl2
        have g2 : (L2.upd H1 l2 (.lst (ls2.map V.str))) l2 = some (.lst (ls2.map V.str)) := upd_same
        generalize L2.upd H1 l2 (.lst (ls2.map V.str)) = H2 at s2 g2 ⊢
        refine ⟨l1, l2, _, _, rfl, rfl, s2 _ _ g1, g2, le_line (by rw [List.length_map, List.length_map]; omega), fun l3 hl3 => ?_⟩
        rw [← List.map_append]
        have s3 := same_new (o := .lst ((ls1 ++ ls2).map V.str)) hl3
        have g3 : (L2.upd H2 l3 (.lst ((ls1 ++ ls2).map V.str))) l3 = some (.lst ((ls1 ++ ls2).map V.str)) := upd_same
        generalize L2.upd H2 l3 (.lst ((ls1 ++ ls2).map V.str)) = H3 at s3 g3 ⊢
        have sT := s1.trans (s2.trans s3)
        refine ⟨_, rfl, _, rfl, _, rfl, _, rfl, _, rfl, _, _, rfl, rfl, _, rfl, l, _, rfl, SqL.of (sT _ _ hl), fun l4 hl4 => ?_⟩
        rw [e4]
        have s4 := same_new (o := .lst (ls4.map V.str)) hl4
        have g4 : (L2.upd H3 l4 (.lst (ls4.map V.str))) l4 = some (.lst (ls4.map V.str)) := upd_same
        generalize L2.upd H3 l4 (.lst (ls4.map V.str)) = H4 at s4 g4 ⊢
        refine ⟨l3, l4, _, _, rfl, rfl, s4 _ _ g3, g4, le_line (by rw [List.length_map, List.length_map, List.length_append]; omega), fun l5 hl5 => ?_⟩
        rw [← List.map_append]
        have s5 := same_new (o := .lst ((ls1 ++ ls2 ++ ls4).map V.str)) hl5
        have g5 : (L2.upd H4 l5 (.lst ((ls1 ++ ls2 ++ ls4).map V.str))) l5 = some (.lst ((ls1 ++ ls2 ++ ls4).map V.str)) := upd_same
        generalize L2.upd H4 l5 (.lst ((ls1 ++ ls2 ++ ls4).map V.str)) = H5 at s5 g5 ⊢
        have sU := sT.trans (s4.trans s5)
        refine ⟨_, rfl, _, rfl, _, _, rfl, rfl, _, rfl, l, _, rfl, SqL.of (sU _ _ hl), fun l6 hl6 => ?_⟩
        rw [e6]
        have s6 := same_new (o := .lst (ls6.map V.str)) hl6
        have g6 : (L2.upd H5 l6 (.lst (ls6.map V.str))) l6 = some (.lst (ls6.map V.str)) := upd_same
        generalize L2.upd H5 l6 (.lst (ls6.map V.str)) = H6 at s6 g6 ⊢
        refine ⟨l5, l6, _, _, rfl, rfl, s6 _ _ g5, g6, le_line (by rw [List.length_map, List.length_map, List.length_append, List.length_append]; omega), fun l7 hl7 => ?_⟩
        rw [← List.map_append]
        refine r11 l7 (ls1 ++ ls2 ++ ls4 ++ ls6) _ a sp sg si _ (sm.trans (sU.trans (s6.trans (same_new hl7)))) upd_same (fun y hy => sh y ?_) (by rw [List.length_append, List.length_append, List.length_append]; omega)
        rcases List.mem_append.mp hy with hy | hy
        · rcases List.mem_append.mp hy with hy | hy
          · exact (List.mem_append.mp hy).elim (m1 y) (m2 y)
          · exact m4 y hy
        · exact m6 y hy
      · exact r11 l ls H' a sp sg si v9 sm hl sh ln
    obtain ⟨t9, ht9, r9⟩ : ∃ t, PSs (bX P w K mg base ["text", "way", "cell", "other", "signs", "sign", "at", "lines", "spot", "ahead"] "_law_spoiled" s__law_spoiled f cdv A outer s H E) ((defBody s__law_spoiled).drop 9) t ∧ ∀ (l : Addr) (ls : List Str) (H' : Hp) (a sp : Int) (sg si : Str) (v9 : Option V), Same H H' → H' l = some (.lst (ls.map V.str)) → (∀ y ∈ ls, Sh 470 y) → ls.length ≤ 2000 → (way = 6 ∨ way = 5 → ls.length ≤ 472) → (way = 5 → 0 ≤ sp ∧ sp < ls.length) →
        t (bD Q) [some (.str x), some (.int way), some (.int cell), some (.int other), some (.str si), some (.str sg), some (.int a), some (.ref l), some (.int sp), v9] H' := by
      refine ⟨_, (pss_cons (ps_if (pt_cmpR op_eq (pv 1) pe_int (nomark _))
      (pss_one (ps_set (i := 7) sc__law_spoiled.nd (by rfl) (by first | exact Or.inl rfl | exact Or.inr rfl) (pe_op op_cat (pe_op op_cat (pe_slice sl_list (pv 7) po_none (po_some (pv 8))) (pe_lst (pa_cons (pe_ix ix_list (pv 7) (pv 8) (fun _ _ => rfl)) pa_nil))) (pe_slice sl_list (pv 7) (po_some (pv 8)) po_none))))
      pss_nil)
      ht10), fun l ls H' a sp sg si v9 sm hl sh ln hw h5 => ?_⟩
      refine ⟨_, rfl, rfl, _, rfl, ?_⟩
      refine iteE (fun c => ?_) (fun c => ?_)
      · have w5 : way = 5 := by have := of_decide_eq_true c; injection this
        have l472 := hw (.inr w5)
        obtain ⟨p0, p1⟩ := h5 w5
        obtain ⟨ls1, e1, n1, m1⟩ := cut_strs ls none (some sp)
        obtain ⟨ls4, e4, n4, m4⟩ := cut_strs ls (some sp) none
        obtain ⟨v, hv, hat⟩ := atI_in (xs := ls.map V.str) p0 (by rw [List.length_map]; exact p1)
        obtain ⟨y0, hy0, rfl⟩ := List.mem_map.mp hv
        refine ⟨_, rfl, _, rfl, _, rfl, l, _, rfl, SqL.of hl, fun l1 hl1 => ?_⟩
        rw [e1]
        have s1 := same_new (o := .lst (ls1.map V.str)) hl1
        have g1 : (L2.upd H' l1 (.lst (ls1.map V.str))) l1 = some (.lst (ls1.map V.str)) := upd_same
        generalize L2.upd H' l1 (.lst (ls1.map V.str)) = H1 at s1 g1 ⊢
        refine ⟨_, rfl, _, rfl, l, _, _, _, rfl, rfl, SqL.of (s1 _ _ hl), hat, le_line (by show 1 ≤ _; decide), fun l2 hl2 => ?_⟩
        have s2 := same_new (o := .lst ([y0].map V.str)) hl2
        have g2 : (L2.upd H1 l2 (.lst ([y0].map V.str))) l2 = some (.lst ([y0].map V.str)) := upd_same
        refine ⟨l1, l2, _, _, rfl, rfl, s2 _ _ g1, g2, le_line (by rw [List.length_map, List.length_map]; simp; omega), fun l3 hl3 => ?_⟩
        rw [← List.map_append]
        have s3 := s2.trans (same_new (o := .lst ((ls1 ++ [y0]).map V.str)) hl3)
        have g3 : (L2.upd (L2.upd H1 l2 (.lst ([y0].map V.str))) l3 (.lst ((ls1 ++ [y0]).map V.str))) l3 = some (.lst ((ls1 ++ [y0]).map V.str)) := upd_same
        have es : (L2.upd H1 l2 (.lst [V.str y0])) = (L2.upd H1 l2 (.lst ([y0].map V.str))) := rfl
        rw [es]
        generalize L2.upd (L2.upd H1 l2 (.lst ([y0].map V.str))) l3 (.lst ((ls1 ++ [y0]).map V.str)) = H3 at s3 g3 ⊢
        have sT := s1.trans s3
        refine ⟨_, rfl, _, rfl, _, rfl, l, _, rfl, SqL.of (sT _ _ hl), fun l4 hl4 => ?_⟩
        rw [e4]
        have s4 := same_new (o := .lst (ls4.map V.str)) hl4
        have g4 : (L2.upd H3 l4 (.lst (ls4.map V.str))) l4 = some (.lst (ls4.map V.str)) := upd_same
        generalize L2.upd H3 l4 (.lst (ls4.map V.str)) = H4 at s4 g4 ⊢
        refine ⟨l3, l4, _, _, rfl, rfl, s4 _ _ g3, g4, le_line (by rw [List.length_map, List.length_map, List.length_append]; simp; omega), fun l5 hl5 => ?_⟩
        rw [← List.map_append]
        refine r10 l5 (ls1 ++ [y0] ++ ls4) _ a sp sg si _ (sm.trans (sT.trans (s4.trans (same_new hl5)))) upd_same (fun y hy => sh y ?_) (by rw [List.length_append, List.length_append]; simp; omega) (fun z => by rw [w5] at z; cases z)
        rcases List.mem_append.mp hy with hy | hy
        · rcases List.mem_append.mp hy with hy | hy
          · exact m1 y hy
          · rw [List.mem_singleton.mp hy]; exact hy0
        · exact m4 y hy
      · exact r10 l ls H' a sp sg si v9 sm hl sh ln (fun z => hw (.inl z))
    obtain ⟨t8, ht8, r8⟩ : ∃ t, PSs (bX P w K mg base ["text", "way", "cell", "other", "signs", "sign", "at", "lines", "spot", "ahead"] "_law_spoiled" s__law_spoiled f cdv A outer s H E) ((defBody s__law_spoiled).drop 8) t ∧ ∀ (l : Addr) (ls : List Str) (H' : Hp) (a sp : Int) (sg si : Str) (v9 : Option V), Same H H' → H' l = some (.lst (ls.map V.str)) → (∀ y ∈ ls, Sh 470 y) → ls.length ≤ 472 → (0 ≤ sp ∧ sp < ls.length) →
        t (bD Q) [some (.str x), some (.int way), some (.int cell), some (.int other), some (.str si), some (.str sg), some (.int a), some (.ref l), some (.int sp), v9] H' := by
      refine ⟨_, (pss_cons (ps_if (pt_cmpR op_eq (pv 1) pe_int (nomark _))
      (pss_one (ps_set (i := 7) sc__law_spoiled.nd (by rfl) (by first | exact Or.inl rfl | exact Or.inr rfl) (pe_op op_cat (pe_slice sl_list (pv 7) po_none (po_some (pv 8))) (pe_slice sl_list (pv 7) (po_some (pe_op op_add (pv 8) pe_int)) po_none))))
      pss_nil)
      ht9), fun l ls H' a sp sg si v9 sm hl sh ln h5 => ?_⟩
      refine ⟨_, rfl, rfl, _, rfl, ?_⟩
      refine iteE (fun c => ?_) (fun c => ?_)
      · have w4 : way = 4 := by have := of_decide_eq_true c; injection this
        obtain ⟨ls1, e1, n1, m1⟩ := cut_strs ls none (some sp)
        obtain ⟨ls2, e2, n2, m2⟩ := cut_strs ls (some (sp + 1)) none
        refine ⟨_, rfl, _, rfl, _, rfl, l, _, rfl, SqL.of hl, fun l1 hl1 => ?_⟩
        rw [e1]
        have s1 := same_new (o := .lst (ls1.map V.str)) hl1
        have g1 : (L2.upd H' l1 (.lst (ls1.map V.str))) l1 = some (.lst (ls1.map V.str)) := upd_same
        generalize L2.upd H' l1 (.lst (ls1.map V.str)) = H1 at s1 g1 ⊢
        refine ⟨_, rfl, _, rfl, _, _, rfl, rfl, _, rfl, l, _, rfl, SqL.of (s1 _ _ hl), fun l2 hl2 => ?_⟩
        rw [e2]
        have s2 := same_new (o := .lst (ls2.map V.str)) hl2
        have g2 : (L2.upd H1 l2 (.lst (ls2.map V.str))) l2 = some (.lst (ls2.map V.str)) := upd_same
        generalize L2.upd H1 l2 (.lst (ls2.map V.str)) = H2 at s2 g2 ⊢
        refine ⟨l1, l2, _, _, rfl, rfl, s2 _ _ g1, g2, le_line (by rw [List.length_map, List.length_map]; omega), fun l3 hl3 => ?_⟩
        rw [← List.map_append]
        refine r9 l3 (ls1 ++ ls2) _ a sp sg si _ (sm.trans (s1.trans (s2.trans (same_new hl3)))) upd_same (fun y hy => sh y ((List.mem_append.mp hy).elim (m1 y) (m2 y))) (by rw [List.length_append]; omega) (fun z => by rw [w4] at z; rcases z with z | z <;> cases z) (fun z => by rw [w4] at z; cases z)
      · exact r9 l ls H' a sp sg si v9 sm hl sh (by omega) (fun _ => ln) (fun _ => h5)
    refine ⟨_, (pss_cons (ps_set (i := 4) sc__law_spoiled.nd (by rfl) (by first | exact Or.inl rfl | exact Or.inr rfl) pe_str)
      (pss_cons (ps_set (i := 5) sc__law_spoiled.nd (by rfl) (by first | exact Or.inl rfl | exact Or.inr rfl) (pe_ix ix_str (pv 4) (pe_op op_mod (pv 3) pe_int) (fun _ _ => rfl)))
      (pss_cons (ps_set (i := 6) sc__law_spoiled.nd (by rfl) (by first | exact Or.inl rfl | exact Or.inr rfl) (pe_op op_mod (pv 2) (pe_op op_add (pe_callB call_len_str (by rfl) T.n_len PySem.boot_len (pa_cons (pv 0) pa_nil)) pe_int)))
      (pss_cons (ps_set (i := 7) sc__law_spoiled.nd (by rfl) (by first | exact Or.inl rfl | exact Or.inr rfl) (pe_bm PySem.F.plainAttrs_str PySem.F.slot_str_split PySem.F.type_str_split mt_split (pv 0) (pa_cons pe_str pa_nil)))
      (pss_cons (ps_set (i := 8) sc__law_spoiled.nd (by rfl) (by first | exact Or.inl rfl | exact Or.inr rfl) (pe_op op_mod (pv 2) (pe_callB call_len_seq (by rfl) T.n_len PySem.boot_len (pa_cons (pv 7) pa_nil))))
      (pss_cons (ps_if (pt_cmpR op_eq (pv 1) pe_int (nomark _))
      (pss_one (ps_ret (pe_op op_add_str (pe_op op_add_str (pe_slice sl_str (pv 0) po_none (po_some (pv 6))) (pv 5)) (pe_slice sl_str (pv 0) (po_some (pv 6)) po_none))))
      pss_nil)
      (pss_cons (ps_if (pt_cmpR op_eq (pv 1) pe_int (nomark _))
      (pss_one (ps_ret (pe_op op_add_str (pe_op op_add_str (pe_slice sl_str (pv 0) po_none (po_some (pv 6))) (pv 5)) (pe_slice sl_str (pv 0) (po_some (pe_op op_add (pv 6) pe_int)) po_none))))
      pss_nil)
      (pss_cons (ps_if (pt_cmpR op_eq (pv 1) pe_int (nomark _))
      (pss_one (ps_ret (pe_op op_add_str (pe_slice sl_str (pv 0) po_none (po_some (pv 6))) (pe_slice sl_str (pv 0) (po_some (pe_op op_add (pv 6) pe_int)) po_none))))
      pss_nil)
      ht8)))))))), ?_⟩
    have o0 : 0 ≤ other % 19 := Int.emod_nonneg _ (by decide)
    have o1 : other % 19 < 19 := Int.emod_lt_of_pos _ (by decide)
    have sgs : Sh 19 ("0123456789 -as+_BR\n" : Str) := ⟨by decide, okS_of _⟩
    obtain ⟨c, hc, hat⟩ := atI_in (xs := ("0123456789 -as+_BR\n" : Str).cps.toList) o0 (by show _ < ((19 : Nat) : Int); omega)
    have sc : Sh 1 ⟨#[c]⟩ := ⟨by show 1 ≤ 1; decide, okS_one (sgs.o c hc)⟩
    refine ⟨_, rfl, _, rfl, _, _, rfl, rfl, (by show (0 : Int) < 19; decide), "0123456789 -as+_BR\n", _, c, rfl, rfl, by decide, hat, ?_⟩
    refine ⟨_, rfl, _, rfl, x, rfl, most_line hx1, _, _, rfl, rfl, _, _, rfl, rfl, (by show (0 : Int) < (x.length : Int) + 1; omega), ?_⟩
    refine ⟨_, rfl, rfl, x, "\n", rfl, rfl, rfl, most_line hx1, lns_len x hx1, fun l hl => ?_⟩
    rw [show Txt.split x "\n" = lns x from rfl]
    have sl := same_new (o := .lst ((lns x).map V.str)) hl
    have gl : (L2.upd H l (.lst ((lns x).map V.str))) l = some (.lst ((lns x).map V.str)) := upd_same
    generalize L2.upd H l (.lst ((lns x).map V.str)) = H1 at sl gl ⊢
    have lpos : 0 < (lns x).length := List.length_pos_iff.mpr (split_ne x ⟨#[10]⟩)
    have lmax : (lns x).length ≤ 472 := Nat.le_trans (split_le x ⟨#[10]⟩) (by have := hx.l; omega)
    have shl : ∀ y ∈ lns x, Sh 470 y := fun y hy => ⟨Nat.le_trans (part_short hy) hx.l, okS_split hx.o hy⟩
    refine ⟨_, rfl, _, rfl, l, _, rfl, .inl (SqL.of gl), _, _, rfl, rfl, (by show (0 : Int) < (((lns x).map V.str).length : Nat); rw [List.length_map]; omega), ?_⟩
    rw [List.length_map]
    have q0 : 0 ≤ cell % ((lns x).length : Int) := Int.emod_nonneg _ (by omega)
    have q1 : cell % ((lns x).length : Int) < ((lns x).length : Int) := Int.emod_lt_of_pos _ (by omega)
    have add2 : ∀ {n m : Nat} {y z : Str}, Sh n y → Sh m z → n + m ≤ 10000 → y.length + z.length ≤ sizeLine := fun {n m y z} h1 h2 h3 => Nat.le_trans (Nat.add_le_add h1.l h2.l) (Nat.le_trans h3 (by decide))
    refine ⟨_, rfl, rfl, _, rfl, ?_⟩
    refine iteE (fun c1 => ?_) (fun c1 => ?_)
    · have y1 := hx.slice none (some (cell % ((x.length : Int) + 1)))
      have y2 := y1.app sc
      have y3 := hx.slice (some (cell % ((x.length : Int) + 1))) none
      exact ⟨_, rfl, _, rfl, _, rfl, x, rfl, most_line hx1, _, rfl, _, _, rfl, rfl, add2 y1 sc (show 470 + 1 ≤ 10000 by decide), _, rfl, _, rfl, _, rfl, x, rfl, most_line hx1, _, _, rfl, rfl, add2 y2 y3 (show 470 + 1 + 470 ≤ 10000 by decide), k _ H1 sl ((y2.app y3).mono (show 470 + 1 + 470 ≤ most by decide))⟩
    refine ⟨_, rfl, rfl, _, rfl, ?_⟩
    refine iteE (fun c2 => ?_) (fun c2 => ?_)
    · have y1 := hx.slice none (some (cell % ((x.length : Int) + 1)))
      have y2 := y1.app sc
      have y3 := hx.slice (some (cell % ((x.length : Int) + 1) + 1)) none
      exact ⟨_, rfl, _, rfl, _, rfl, x, rfl, most_line hx1, _, rfl, _, _, rfl, rfl, add2 y1 sc (show 470 + 1 ≤ 10000 by decide), _, rfl, _, rfl, _, _, rfl, rfl, _, rfl, x, rfl, most_line hx1, _, _, rfl, rfl, add2 y2 y3 (show 470 + 1 + 470 ≤ 10000 by decide), k _ H1 sl ((y2.app y3).mono (show 470 + 1 + 470 ≤ most by decide))⟩
    refine ⟨_, rfl, rfl, _, rfl, ?_⟩
    refine iteE (fun c3 => ?_) (fun c3 => ?_)
    · have y1 := hx.slice none (some (cell % ((x.length : Int) + 1)))
      have y3 := hx.slice (some (cell % ((x.length : Int) + 1) + 1)) none
      exact ⟨_, rfl, _, rfl, _, rfl, x, rfl, most_line hx1, _, rfl, _, rfl, _, _, rfl, rfl, _, rfl, x, rfl, most_line hx1, _, _, rfl, rfl, add2 y1 y3 (show 470 + 470 ≤ 10000 by decide), k _ H1 sl ((y1.app y3).mono (show 470 + 470 ≤ most by decide))⟩
    exact r8 l (lns x) H1 (cell % ((x.length : Int) + 1)) (cell % ((lns x).length : Int)) ⟨#[c]⟩ "0123456789 -as+_BR\n" none sl gl shl lmax ⟨q0, q1⟩
end
end FN


set_option Elab.async false
set_option linter.all false
set_option maxRecDepth 100000
set_option maxHeartbeats 4000000
namespace FN
open PySem L2 PyProof.Rows WD
theorem any_ix {K : PySem.W.Frag} {H : Hp} {p : Addr} {xs : List V} {i : Int} {Q : VK} (h : SqL K H p xs) (h0 : 0 ≤ i) (h1 : i < xs.length) (q : ∀ v ∈ xs, Q v H) : rIxL K (.ref p) (.int i) H Q := by
  obtain ⟨v, hv, hat⟩ := atI_in h0 h1
  exact ⟨p, xs, i, v, rfl, rfl, h, hat, q v hv⟩
theorem rep_sh {a b : Str} {k n : Nat} (ha : okS a) (hl : b.length = k) (hc : ∀ c ∈ b.cps.toList, c ∈ a.cps.toList) (hk : k ≤ n) : Sh n b := ⟨by omega, fun c h => ha c (hc c h)⟩
section
variable {P : Program} {w : World} {K : PySem.W.Frag} {mg : Str → Option Value} {base : Heap} {C : Addr} {Z : Ad}
/-! ### _law_odd -/
def sp_odd : Sp := fun vs H Q _ => ∃ (cell : Int), vs = [.int cell] ∧ ∀ (b : Str) (H' : Hp), Same H H' → Sh most b → Q (.str b) H'
theorem sc__law_odd : FnScope ["cell", "some", "two"] ["cell"] (defScope s__law_odd) := ⟨rfl, rfl, rfl, by decide +kernel, rfl, by decide +kernel, by decide +kernel⟩
theorem ok_odd {f : Addr} {fd : FuncData} (F : Fn K mg "_law_odd" s__law_odd f fd ["cell"]) (T : Txt K mg C Z) : FnOk P w K mg base CX0 1 f fd ["cell"] sp_odd := by
  refine F.fn.ok sc__law_odd (fun vs H Q E h => ?_) (fun cdv A outer s H vs Q E hr h => ?_)
  · obtain ⟨cell, rfl, _⟩ := h
    rfl
  · obtain ⟨cell, rfl, k⟩ := h
    refine ⟨_, (pss_cons (ps_set (i := 1) sc__law_odd.nd (by rfl) (by first | exact Or.inl rfl | exact Or.inr rfl) (pe_lst (pa_cons pe_str (pa_cons pe_str (pa_cons pe_str (pa_cons pe_str (pa_cons pe_str (pa_cons pe_str pa_nil))))))))
      (pss_cons (ps_set (i := 1) sc__law_odd.nd (by rfl) (by first | exact Or.inl rfl | exact Or.inr rfl) (pe_op op_cat (pv 1) (pe_lst (pa_cons pe_str (pa_cons pe_str (pa_cons pe_str pa_nil))))))
      (pss_cons (ps_set (i := 1) sc__law_odd.nd (by rfl) (by first | exact Or.inl rfl | exact Or.inr rfl) (pe_op op_cat (pv 1) (pe_lst (pa_cons pe_str (pa_cons pe_str (pa_cons pe_str pa_nil))))))
      (pss_cons (ps_expr (pe_bm PySem.F.plainAttrs_list PySem.F.slot_list_append PySem.F.type_list_append mt_append (pv 1) (pa_cons pe_str pa_nil)))
      (pss_cons (ps_set (i := 2) sc__law_odd.nd (by rfl) (by first | exact Or.inl rfl | exact Or.inr rfl) pe_str)
      (pss_cons (ps_set (i := 1) sc__law_odd.nd (by rfl) (by first | exact Or.inl rfl | exact Or.inr rfl) (pe_op op_cat (pv 1) (pe_lst (pa_cons (pe_op op_add_str (pv 2) (pe_op op_rep_str2 pe_str pe_int)) (pa_cons (pe_op op_add_str (pv 2) (pe_op op_rep_str2 pe_str pe_int)) pa_nil)))))
      (pss_cons (ps_set (i := 1) sc__law_odd.nd (by rfl) (by first | exact Or.inl rfl | exact Or.inr rfl) (pe_op op_cat (pv 1) (pe_lst (pa_cons (pe_op op_add_str pe_str (pe_op op_rep_str2 pe_str pe_int)) (pa_cons pe_str (pa_cons pe_str pa_nil))))))
      (pss_one (ps_ret (pe_ix ix_list (pv 1) (pe_op op_mod (pv 0) pe_int) (fun _ _ => rfl))))))))))), ?_⟩
    refine ⟨le_line (by show 6 ≤ _; decide), fun l0 hl0 => ?_⟩
    refine ⟨_, rfl, le_line (by show 3 ≤ _; decide), fun l1 hl1 => ⟨l0, l1, _, _, rfl, rfl, same_new hl1 _ _ upd_same, upd_same, le_line (by show 9 ≤ _; decide), fun l2 hl2 => ?_⟩⟩
    refine ⟨_, rfl, le_line (by show 3 ≤ _; decide), fun l3 hl3 => ⟨l2, l3, _, _, rfl, rfl, same_new hl3 _ _ upd_same, upd_same, le_line (by show 12 ≤ _; decide), fun l4 hl4 => ?_⟩⟩
    refine ⟨_, rfl, .inl ⟨rfl, _, SqL.of upd_same⟩, l4, _, _, rfl, rfl, upd_same, lt_line (by show 12 ≤ _; decide), ?_⟩
    refine ⟨_, rfl, _, rfl, _, _, rfl, rfl, by decide, by decide, by decide, by decide, fun b1 n1 c1 => ?_⟩
    refine ⟨_, _, rfl, rfl, by rw [n1]; decide, _, rfl, _, _, rfl, rfl, by decide, by decide, by decide, by decide, fun b2 n2 c2 => ?_⟩
    refine ⟨_, _, rfl, rfl, by rw [n2]; decide, le_line (by show 2 ≤ _; decide), fun l5 hl5 => ⟨l4, l5, _, _, rfl, rfl, same_new hl5 _ _ upd_same, upd_same, le_line (by show 15 ≤ _; decide), fun l6 hl6 => ?_⟩⟩
    refine ⟨_, rfl, _, _, rfl, rfl, by decide, by decide, by decide, by decide, fun b3 n3 c3 => ?_⟩
    refine ⟨_, _, rfl, rfl, by rw [n3]; decide, le_line (by show 3 ≤ _; decide), fun l7 hl7 => ⟨l6, l7, _, _, rfl, rfl, same_new hl7 _ _ upd_same, upd_same, le_line (by show 18 ≤ _; decide), fun l8 hl8 => ?_⟩⟩
    have q0 : 0 ≤ cell % 18 := Int.emod_nonneg _ (by decide)
    have q1 : cell % 18 < 18 := Int.emod_lt_of_pos _ (by decide)
    refine ⟨_, rfl, _, rfl, _, _, rfl, rfl, (by show (0 : Int) < 18; decide), any_ix (SqL.of upd_same) q0 (by show _ < ((18 : Nat) : Int); omega) fun v hv => ?_⟩
    have r1 := rep_sh (n := 1000) (okS_of _) n1 c1 (by decide)
    have r2 := rep_sh (n := 1000) (okS_of _) n2 c2 (by decide)
    have r3 := rep_sh (n := 1000) (okS_of _) n3 c3 (by decide)
    have two : ∀ {s : String} {n : Nat} {y : Str}, Sh n y → (Str.ofString s).length ≤ 1000 → n ≤ 1000 → Sh most (Str.ofString s ++ y) := fun {s n y} h hs hn => (Sh.app (n := 1000) ⟨hs, okS_of s⟩ h).mono (by show 1000 + n ≤ 1000000; omega)
    simp only [List.cons_append, List.nil_append, List.append_assoc, List.mem_cons, List.not_mem_nil, or_false] at hv
    rcases hv with rfl | rfl | rfl | rfl | rfl | rfl | rfl | rfl | rfl | rfl | rfl | rfl | rfl | rfl | rfl | rfl | rfl | rfl
    all_goals refine k _ _ ((same_upd ((same_new hl0).trans ((same_new hl1).trans ((same_new hl2).trans ((same_new hl3).trans (same_new hl4))))) (((same_new hl0).trans ((same_new hl1).trans ((same_new hl2).trans (same_new hl3)))).free hl4)).trans ((same_new hl5).trans ((same_new hl6).trans ((same_new hl7).trans (same_new hl8))))) ?_
    all_goals first | exact ⟨by decide, okS_of _⟩ | exact two r1 (by decide) (by decide) | exact two r2 (by decide) (by decide) | exact two r3 (by decide) (by decide)
end
end FN


set_option Elab.async false
set_option linter.all false
set_option maxRecDepth 100000
set_option maxHeartbeats 4000000
namespace FN
open PySem L2 PyProof.Rows WD
theorem m_things (t : Addr) (r : Int) (q : Addr) : (flds t r q).lookup ("things" : Str) = none := flds_no _ _ _ (by decide +kernel) (by decide +kernel) (by decide +kernel)
theorem m_room (t : Addr) (r : Int) (q : Addr) : (flds t r q).lookup ("room" : Str) = none := flds_no _ _ _ (by decide +kernel) (by decide +kernel) (by decide +kernel)
theorem m_quarrels (t : Addr) (r : Int) (q : Addr) : (flds t r q).lookup ("quarrels" : Str) = none := flds_no _ _ _ (by decide +kernel) (by decide +kernel) (by decide +kernel)
theorem kit_self (K : PySem.W.Frag) (v : Value) (h : (v == v) = true) : PySem.W.kitOne K v v = some true := by
  unfold PySem.W.kitOne
  rw [if_pos h]
theorem kit_ref (K : PySem.W.Frag) (D : Addr) : PySem.W.kitOne K (.ref D) (.ref D) = some true := kit_self K _ (by simp)
/-- D is none of the others -/
def Alone (K : PySem.W.Frag) (D : Addr) (others : List Addr) : Prop := ∀ E ∈ others, PySem.W.kitOne K (.ref D) (.ref E) = some false
def toldD (o : Option (List Th × Int × List Qu)) : PyData := match o with
  | none => .tuple [.str "refused", .bool true]
  | some (ts, r, qs) => .tuple [.list (ts.map thD), .int r, .list (qs.map quD)]
theorem told_can (o : Option (List Th × Int × List Qu)) : (toldD o).canLay0 = true := by
  match o with
  | none => 
    show (PyData.strOk "refused" && (true && true)) = true
    rw [okS_ok (okS_of "refused")]
    rfl
  | some (ts, r, qs) =>
    show (PyData.canLayAll0 (ts.map thD) && (true && (PyData.canLayAll0 (qs.map quD) && true))) = true
    rw [can_map th_can, can_map qu_can]
    rfl
theorem told_dp (o : Option (List Th × Int × List Qu)) : (toldD o).depth ≤ 60 := by
  match o with
  | none => simp [toldD, PyData.depth, PyData.depthAll]
  | some (ts, r, qs) =>
    have h1 := depthAll_map th_dp ts
    have h2 := depthAll_map qu_dp qs
    simp only [toldD, PyData.depth, PyData.depthAll]
    omega
theorem exm3 {K : PySem.W.Frag} {D a b c : Value} {x y z : Bool} (h1 : PySem.W.exmOne K D a = some x) (h2 : PySem.W.exmOne K D b = some y) (h3 : PySem.W.exmOne K D c = some z) (h : (x || (y || (z || false))) = true) : PySem.W.exmAny K D [a, b, c] = some true := by
  simp only [PySem.W.exmAny, h1, h2, h3, h]
section
variable {P : Program} {w : World} {K : PySem.W.Frag} {mg : Str → Option Value} {base : Heap} {C : Addr} {Z : Ad}
/-! ### _law_told -/
def sp_told : Sp := fun vs H Q _ => ∃ (x : Str), vs = [.str x] ∧ x.length ≤ most ∧ ∀ v H', Same H H' → DV H' (toldD (rd x)) v → Q v H'
theorem sc__law_told : FnScope ["text", "found", "night", "e", "flags"] ["text"] (defScope s__law_told) := ⟨rfl, rfl, rfl, by decide +kernel, rfl, by decide +kernel, by decide +kernel⟩
theorem ok_told {f f0 g1 g2 g3 : Addr} {fd fd0 gd1 gd2 gd3 : FuncData} (F : Fn K mg "_law_told" s__law_told f fd ["text"]) (T : Txt K mg C Z) (F_read : Fn K mg "read" s_read f0 fd0 ["text"]) (G_read : FnOk P w K mg base (CXF P w) 6 f0 fd0 ["text"] (sp_read C Z))
    (M_Night_things : Meth K C "things" g1) (F_Night_things : Mt K "things" "Night.things" s_Night_things g1 gd1 ["self"]) (M_Night_room : Meth K C "room" g2) (F_Night_room : Mt K "room" "Night.room" s_Night_room g2 gd2 ["self"])
    (M_Night_quarrels : Meth K C "quarrels" g3) (F_Night_quarrels : Mt K "quarrels" "Night.quarrels" s_Night_quarrels g3 gd3 ["self"])
    (al : Alone K Z.BadNote [Z.NoStanding, Z.BadStart, Z.BadThing, Z.BadRoom, Z.BadQuarrel, Z.NoCrew]) : FnOk P w K mg base CX0 7 f fd ["text"] sp_told := by
  have G_Night_things : FnOk P w K mg base CX0 1 g1 gd1 ["self"] (sp_nthings C) := ok_nthings F_Night_things T
  have G_Night_room : FnOk P w K mg base CX0 1 g2 gd2 ["self"] (sp_nroom C) := ok_nroom F_Night_room T
  have G_Night_quarrels : FnOk P w K mg base CX0 1 g3 gd3 ["self"] (sp_nquarrels C) := ok_nquarrels F_Night_quarrels T
  refine F.fn.ok sc__law_told (fun vs H Q E h => ?_) (fun cdv A outer s H vs Q E hr h => ?_)
  · obtain ⟨x, rfl, _⟩ := h
    rfl
  · obtain ⟨x, rfl, hz, k⟩ := h
    refine ⟨_, (pss_cons (ps_set (i := 1) sc__law_told.nd (by rfl) (by first | exact Or.inl rfl | exact Or.inr rfl) pe_non)
      (pss_cons (ps_try (j := 3) rfl rfl sc__law_told.nd (by rfl) (by rfl) (by rfl) T.g_FerryError (pxs_set (i := 2) sc__law_told.nd (by rfl) (by first | exact Or.inl rfl | exact Or.inr rfl) (px_call G_read (hr.mono (by decide)) (by rfl) F_read.g F_read.fn.kp F_read.b .nil (pa_cons (pv 0) pa_nil)) (pss_one (ps_set (i := 1) sc__law_told.nd (by rfl) (by first | exact Or.inl rfl | exact Or.inr rfl) (pe_tup (pa_cons (pe_meth0 (pv 2) T.cl_Night M_Night_things G_Night_things (hr.mono (by decide)) F_Night_things.b .nil pass0) (pa_cons (pe_meth0 (pv 2) T.cl_Night M_Night_room G_Night_room (hr.mono (by decide)) F_Night_room.b .nil pass0) (pa_cons (pe_meth0 (pv 2) T.cl_Night M_Night_quarrels G_Night_quarrels (hr.mono (by decide)) F_Night_quarrels.b .nil pass0) pa_nil))))))) (fun a oe C hC =>
      (pss_cons (ps_set (i := 4) sc__law_told.nd (by rfl) (by first | exact Or.inl rfl | exact Or.inr rfl) (pe_lst (pa_cons (pe_callB (call_isE hC) (by rfl) T.n_isinstance boot_isinstance (pa_cons (pv 3) (pa_cons (pe_glob (v := .ref Z.NoStanding) (by rfl) T.g_NoStanding rfl) pa_nil))) (pa_cons (pe_callB (call_isE hC) (by rfl) T.n_isinstance boot_isinstance (pa_cons (pv 3) (pa_cons (pe_glob (v := .ref Z.BadStart) (by rfl) T.g_BadStart rfl) pa_nil))) (pa_cons (pe_callB (call_isE hC) (by rfl) T.n_isinstance boot_isinstance (pa_cons (pv 3) (pa_cons (pe_glob (v := .ref Z.BadThing) (by rfl) T.g_BadThing rfl) pa_nil))) (pa_cons (pe_callB (call_isE hC) (by rfl) T.n_isinstance boot_isinstance (pa_cons (pv 3) (pa_cons (pe_glob (v := .ref Z.BadRoom) (by rfl) T.g_BadRoom rfl) pa_nil))) pa_nil))))))
      (pss_cons (ps_set (i := 4) sc__law_told.nd (by rfl) (by first | exact Or.inl rfl | exact Or.inr rfl) (pe_op op_cat (pv 4) (pe_lst (pa_cons (pe_callB (call_isE hC) (by rfl) T.n_isinstance boot_isinstance (pa_cons (pv 3) (pa_cons (pe_glob (v := .ref Z.BadQuarrel) (by rfl) T.g_BadQuarrel rfl) pa_nil))) (pa_cons (pe_callB (call_isE hC) (by rfl) T.n_isinstance boot_isinstance (pa_cons (pv 3) (pa_cons (pe_glob (v := .ref Z.NoCrew) (by rfl) T.g_NoCrew rfl) pa_nil))) pa_nil)))))
      (pss_one (ps_set (i := 1) sc__law_told.nd (by rfl) (by first | exact Or.inl rfl | exact Or.inr rfl) (pe_tup (pa_cons pe_str (pa_cons (pe_and (pe_callB (call_isE hC) (by rfl) T.n_isinstance boot_isinstance (pa_cons (pv 3) (pa_cons (pe_glob (v := .ref Z.BadNote) (by rfl) T.g_BadNote rfl) pa_nil))) (pe_and (pe_callB (call_isE hC) (by rfl) T.n_isinstance boot_isinstance (pa_cons (pv 3) (pa_cons (pe_bltn (v := .ty "ValueError") (by rfl) T.n_ValueError boot_ValueError rfl) pa_nil))) (pe_one (pe_cmpR (notInK (K := K) rfl) pe_bl (pv 4) (by with_unfolding_all rfl))))) pa_nil)))))))))
      (pss_one (ps_ret (pv 1))))), ?_⟩
    refine ⟨_, rfl, x, rfl, hz, fun ts r qs e p H1 s1 NA => ?_, fun e H1 s1 => ?_⟩
    · obtain ⟨dx, t, q, hp, _, _⟩ := id NA.ex
      refine ⟨_, rfl, p, dx, _, rfl, hp, m_things _ _ _, p, ts, r, qs, rfl, NA, fun l vs hl dv => ?_⟩
      have s2 := same_new (o := .lst vs) hl
      refine ⟨_, rfl, p, dx, _, rfl, s2 _ _ hp, m_room _ _ _, p, ts, r, qs, rfl, NA.mono s2, ?_⟩
      refine ⟨_, rfl, p, dx, _, rfl, s2 _ _ hp, m_quarrels _ _ _, p, ts, r, qs, rfl, NA.mono s2, fun l2 vs2 hl2 dv2 => ?_⟩
      have s3 := same_new (o := .lst vs2) hl2
      refine ⟨le_line (by show 3 ≤ _; decide), fun o ho => ?_⟩
      have s4 := same_new (o := .tup [V.ref l, V.int r, V.ref l2]) ho
      refine ⟨_, rfl, k (.ref o) _ (s1.trans (s2.trans (s3.trans s4))) ?_⟩
      rw [e]
      exact .tup upd_same (.cons (.lst (s4 _ _ (s3 _ _ upd_same)) (dv.mono (s2.trans (s3.trans s4)))) (.cons (.int _) (.cons (.lst (s4 _ _ upd_same) (dv2.mono (s3.trans s4))) .nil)))
    · refine ⟨_, rfl, T.r_BadNote.m, fun a ha => ?_⟩
      have ek := T.r_BadNote.k
      refine ⟨_, rfl, ek, .inl ⟨_, _, rfl, al _ (by simp), _, rfl, ek, .inl ⟨_, _, rfl, al _ (by simp), _, rfl, ek, .inl ⟨_, _, rfl, al _ (by simp), _, rfl, ek, .inl ⟨_, _, rfl, al _ (by simp), le_line (by show 4 ≤ _; decide), fun l1 hl1 => ?_⟩⟩⟩⟩⟩
      have s2 := same_new (o := .lst [.bl false, .bl false, .bl false, .bl false]) hl1
      refine ⟨_, rfl, _, rfl, ek, .inl ⟨_, _, rfl, al _ (by simp), _, rfl, ek, .inl ⟨_, _, rfl, al _ (by simp), le_line (by show 2 ≤ _; decide), fun l2 hl2 => ?_⟩⟩⟩
      have s3 := same_new (o := .lst [.bl false, .bl false]) hl2
      refine ⟨l1, l2, _, _, rfl, rfl, s3 _ _ upd_same, upd_same, le_line (by show 6 ≤ _; decide), fun l3 hl3 => ?_⟩
      have s4 := same_new (o := .lst ([.bl false, .bl false, .bl false, .bl false] ++ [.bl false, .bl false])) hl3
      refine ⟨_, rfl, ek, .inl ⟨_, _, rfl, kit_ref _ _, _, rfl, iteT ?_⟩⟩
      refine ⟨_, rfl, ek, .inr ⟨_, _, rfl, T.r_BadNote.v, _, rfl, iteT ?_⟩⟩
      refine ⟨_, rfl, l3, _, rfl, .inl (SqL.of upd_same), rfl, rfl, le_line (by show 2 ≤ _; decide), fun o ho => ?_⟩
      have s5 := same_new (o := .tup [.str "refused", .bl true]) ho
      refine ⟨_, rfl, k (.ref o) _ (s1.trans (s2.trans (s3.trans (s4.trans s5)))) ?_⟩
      rw [e]
      exact .tup upd_same (.cons (.str _) (.cons (.bl _) .nil))
/-! ### law -/
structure All (K : PySem.W.Frag) (mg : Str → Option Value) (C : Addr) (fs : Nat → Addr) (ds : Nat → FuncData) : Prop where
  check_things : Fn K mg "check_things" s_check_things (fs 1) (ds 1) ["things"]
  check_room : Fn K mg "check_room" s_check_room (fs 2) (ds 2) ["room"]
  is_thing : Fn K mg "is_thing" s_is_thing (fs 3) (ds 3) ["number", "count"]
  is_pair : Fn K mg "is_pair" s_is_pair (fs 4) (ds 4) ["one", "other", "count"]
  is_keeper : Fn K mg "is_keeper" s_is_keeper (fs 5) (ds 5) ["keeper", "one", "other", "count"]
  check_quarrels : Fn K mg "check_quarrels" s_check_quarrels (fs 6) (ds 6) ["quarrels", "count"]
  m_Night : Mk K C (fs 7)
  init : Mt K "__init__" "Night.__init__" s_Night___init__ (fs 7) (ds 7) ["self", "things", "room", "quarrels"]
  m_things : Meth K C "things" (fs 8)
  things : Mt K "things" "Night.things" s_Night_things (fs 8) (ds 8) ["self"]
  m_room : Meth K C "room" (fs 9)
  room : Mt K "room" "Night.room" s_Night_room (fs 9) (ds 9) ["self"]
  m_quarrels : Meth K C "quarrels" (fs 10)
  quarrels : Mt K "quarrels" "Night.quarrels" s_Night_quarrels (fs 10) (ds 10) ["self"]
  is_number : Fn K mg "is_number" s_is_number (fs 11) (ds 11) ["word"]
  read_number : Fn K mg "read_number" s_read_number (fs 12) (ds 12) ["word"]
  read_words : Fn K mg "read_words" s_read_words (fs 13) (ds 13) ["line", "first", "count"]
  read_boat : Fn K mg "read_boat" s_read_boat (fs 14) (ds 14) ["line"]
  read_thing : Fn K mg "read_thing" s_read_thing (fs 15) (ds 15) ["line"]
  read_quarrel : Fn K mg "read_quarrel" s_read_quarrel (fs 16) (ds 16) ["line"]
  read : Fn K mg "read" s_read (fs 17) (ds 17) ["text"]
  cell_at : Fn K mg "_law_cell_at" s__law_cell_at (fs 18) (ds 18) ["script", "k"]
  quarrel : Fn K mg "_law_quarrel" s__law_quarrel (fs 19) (ds 19) ["cell", "many"]
  lquarrels : Fn K mg "_law_quarrels" s__law_quarrels (fs 20) (ds 20) ["script", "start", "many"]
  lthings : Fn K mg "_law_things" s__law_things (fs 21) (ds 21) ["script", "start", "many"]
  night : Fn K mg "_law_night" s__law_night (fs 22) (ds 22) ["script", "most"]
  lines : Fn K mg "_law_lines" s__law_lines (fs 23) (ds 23) ["night"]
  spoiled : Fn K mg "_law_spoiled" s__law_spoiled (fs 24) (ds 24) ["text", "way", "cell", "other"]
  odd : Fn K mg "_law_odd" s__law_odd (fs 25) (ds 25) ["cell"]
  number : Fn K mg "_law_number" s__law_number (fs 26) (ds 26) ["word", "most"]
  thing : Fn K mg "_law_thing" s__law_thing (fs 27) (ds 27) ["words"]
  tquarrel : Fn K mg "_law_told_quarrel" s__law_told_quarrel (fs 28) (ds 28) ["words", "many"]
  due : Fn K mg "_law_due" s__law_due (fs 29) (ds 29) ["text"]
  told : Fn K mg "_law_told" s__law_told (fs 30) (ds 30) ["text"]
structure Ext (K : PySem.W.Frag) (Z : Ad) : Prop where
  t1 : Three K Z Z.BadThing
  t2 : Three K Z Z.BadRoom
  t3 : Three K Z Z.BadQuarrel
  al : Alone K Z.BadNote [Z.NoStanding, Z.BadStart, Z.BadThing, Z.BadRoom, Z.BadQuarrel, Z.NoCrew]
variable {fs : Nat → Addr} {ds : Nat → FuncData}
def sp_law (K : PySem.W.Frag) : Sp := fun vs H Q _ => ∃ (a : Addr) (ns : List Int), vs = [.ref a] ∧ SqL K H a (ns.map V.int) ∧ ns.length ≤ 63 ∧ ∀ H', Q (.bl true) H'
theorem sc_law : FnScope ["script", "night", "text", "way", "due"] ["script"] (defScope s_law) := ⟨rfl, rfl, rfl, by decide +kernel, rfl, by decide +kernel, by decide +kernel⟩
theorem ok_law {f : Addr} {fd : FuncData} (F : Fn K mg "law" s_law f fd ["script"]) (T : Txt K mg C Z) (L : All K mg C fs ds) (X : Ext K Z) : FnOk P w K mg base CX0 9 f fd ["script"] (sp_law K) := by
  have F__law_cell_at := L.cell_at
  have F__law_night := L.night
  have F__law_lines := L.lines
  have F__law_spoiled := L.spoiled
  have F__law_odd := L.odd
  have F__law_due := L.due
  have F__law_told := L.told
  have G__law_cell_at : FnOk P w K mg base CX0 1 _ _ ["script", "k"] (sp_cell_at K) := ok_cell_at L.cell_at T
  have G__law_night : FnOk P w K mg base CX0 3 _ _ ["script", "most"] (sp_night K) := ok_night L.night T L.cell_at L.quarrel L.lquarrels L.lthings
  have G__law_lines : FnOk P w K mg base CX0 1 _ _ ["night"] sp_lines := ok_lines L.lines T
  have G__law_spoiled : FnOk P w K mg base CX0 1 _ _ ["text", "way", "cell", "other"] sp_spoiled := ok_spoiled L.spoiled T
  have G__law_odd : FnOk P w K mg base CX0 1 _ _ ["cell"] sp_odd := ok_odd L.odd T
  have G__law_due : FnOk P w K mg base CX0 3 _ _ ["text"] sp_due := ok_due L.due T L.number L.thing L.tquarrel
  have G_read : FnOk P w K mg base (CXF P w) 6 _ _ ["text"] (sp_read C Z) := ok_read L.read T L.is_number L.read_number L.read_words L.read_boat L.read_thing L.read_quarrel L.m_Night L.init L.is_thing L.is_pair L.is_keeper L.check_things L.check_room L.check_quarrels X.t1 X.t2 X.t3
  have G__law_told : FnOk P w K mg base CX0 7 _ _ ["text"] sp_told := ok_told L.told T L.read G_read L.m_things L.things L.m_room L.room L.m_quarrels L.quarrels X.al
  refine F.fn.ok sc_law (fun vs H Q E h => ?_) (fun cdv A outer s H vs Q E hr h => ?_)
  · obtain ⟨a, ns, rfl, _⟩ := h
    rfl
  obtain ⟨a, ns, rfl, hS, hlen, k⟩ := h
  have hu := hr.units
  obtain ⟨tE, hE, rE⟩ : ∃ t, PSs (bX P w K mg base ["script", "night", "text", "way", "due"] "law" s_law f cdv A outer s H E) ((defBody s_law).drop 7) t ∧ ∀ (x : Str) (vd : V) (H1 : Hp) (v1 v3 : Option V), Sh most x → DV H1 (toldD (rd x)) vd → t (bD Q) [some (.ref a), v1, some (.str x), v3, some vd] H1 := by
    refine ⟨_, (pss_one (ps_ret (pe_and (pe_cmpR (op_eqD hu) (pe_call G__law_told (hr.mono (by decide)) (by rfl) F__law_told.g F__law_told.fn.kp F__law_told.b .nil pass0 (pa_cons (pv 2) pa_nil)) (pv 4) (nomark _)) (pe_one (pe_cmpR (op_eqD hu) (pe_call G__law_told (hr.mono (by decide)) (by rfl) F__law_told.g F__law_told.fn.kp F__law_told.b .nil pass0 (pa_cons (pv 2) pa_nil)) (pv 4) (nomark _)))))), fun x vd H1 v1 v3 sh dv => ?_⟩
    have er := SeqAt.eqv_refl (toldD (rd x)) (told_can _)
    refine ⟨_, rfl, x, rfl, sh.l, fun v2 H2 s2 d2 => ⟨_, rfl, toldD (rd x), toldD (rd x), d2, dv.mono s2, told_can _, told_can _, Nat.le_trans (Nat.min_le_left _ _) (told_dp _), ?_⟩⟩
    refine ⟨_, rfl, ?_⟩
    rw [if_neg Bool.false_ne_true, er]
    refine iteT ?_
    refine ⟨_, rfl, x, rfl, sh.l, fun v3' H3 s3 d3 => ⟨_, rfl, toldD (rd x), toldD (rd x), d3, (dv.mono s2).mono s3, told_can _, told_can _, Nat.le_trans (Nat.min_le_left _ _) (told_dp _), ?_⟩⟩
    rw [if_neg Bool.false_ne_true, er]
    exact k H3
  obtain ⟨tD, hD, rD⟩ : ∃ t, PSs (bX P w K mg base ["script", "night", "text", "way", "due"] "law" s_law f cdv A outer s H E) ((defBody s_law).drop 5) t ∧ ∀ (x : Str) (H1 : Hp) (v1 v3 : Option V), Sh most x → t (bD Q) [some (.ref a), v1, some (.str x), v3, none] H1 := by
    refine ⟨_, (pss_cons (ps_set (i := 4) sc_law.nd (by rfl) (by first | exact Or.inl rfl | exact Or.inr rfl) (pe_call G__law_due (hr.mono (by decide)) (by rfl) F__law_due.g F__law_due.fn.kp F__law_due.b .nil pass0 (pa_cons (pv 2) pa_nil)))
      (pss_cons (ps_if (pt_cmpR op_isN (pv 4) pe_non (nomark _))
      (pss_one (ps_set (i := 4) sc_law.nd (by rfl) (by first | exact Or.inl rfl | exact Or.inr rfl) (pe_tup (pa_cons pe_str (pa_cons pe_bl pa_nil)))))
      pss_nil)
      hE)), fun x H1 v1 v3 sh => ?_⟩
    refine ⟨_, rfl, x, rfl, sh.l, sh.o, fun v H2 s2 dv => ?_⟩
    rw [due_rd] at dv
    refine ⟨_, rfl, rfl, _, rfl, ?_⟩
    cases er : rd x with
    | none =>
      rw [er] at dv
      have ev : v = .non := by
        have : DV H2 .none v := dv
        cases this
        rfl
      subst ev
      refine iteE (fun c => ?_) (fun c => by cases c)
      refine ⟨le_line (by show 2 ≤ _; decide), fun o ho => ?_⟩
      refine rE x (.ref o) _ _ _ sh ?_
      rw [er]
      exact .tup upd_same (.cons (.str _) (.cons (.bl _) .nil))
    | some y =>
      obtain ⟨ts, r, qs⟩ := y
      rw [er] at dv
      have ev : v ≠ .non := by
        have : DV H2 (.tuple [.list (ts.map thD), .int r, .list (qs.map quD)]) v := dv
        cases this
        intro z
        cases z
      refine iteE (fun c => absurd (of_decide_eq_true c) ev) (fun c => ?_)
      refine rE x v H2 _ _ sh ?_
      rw [er]
      exact dv
  refine ⟨_, (pss_cons (ps_set (i := 1) sc_law.nd (by rfl) (by first | exact Or.inl rfl | exact Or.inr rfl) (pe_call G__law_night (hr.mono (by decide)) (by rfl) F__law_night.g F__law_night.fn.kp F__law_night.b .nil pass0 (pa_cons (pv 0) (pa_cons pe_int pa_nil))))
      (pss_cons (ps_set (i := 2) sc_law.nd (by rfl) (by first | exact Or.inl rfl | exact Or.inr rfl) (pe_bm PySem.F.plainAttrs_str PySem.F.slot_str_join PySem.F.type_str_join mt_join pe_str (pa_cons (pe_comp rfl (N' := ["line"]) (cap := [none]) ⟨rfl, by with_unfolding_all rfl⟩ (pi_list (pe_call G__law_lines (hr.mono (by decide)) (by rfl) F__law_lines.g F__law_lines.fn.kp F__law_lines.b .nil pass0 (pa_cons (pv 1) pa_nil))) (fun _ => (pg_name (i := 0) (show (["line"] : List Str).Nodup by decide +kernel) (by rfl) (by first | exact Or.inl rfl | exact Or.inr rfl))) (fun _ => pifs_nil) (fun _ => (pe_op op_add_str (pv 0) pe_str))) pa_nil)))
      (pss_cons (ps_set (i := 3) sc_law.nd (by rfl) (by first | exact Or.inl rfl | exact Or.inr rfl) (pe_op op_mod (pe_call G__law_cell_at (hr.mono (by decide)) (by rfl) F__law_cell_at.g F__law_cell_at.fn.kp F__law_cell_at.b .nil pass0 (pa_cons (pv 0) (pa_cons pe_int pa_nil))) pe_int))
      (pss_cons (ps_set (i := 2) sc_law.nd (by rfl) (by first | exact Or.inl rfl | exact Or.inr rfl) (pe_call G__law_spoiled (hr.mono (by decide)) (by rfl) F__law_spoiled.g F__law_spoiled.fn.kp F__law_spoiled.b .nil pass0 (pa_cons (pv 2) (pa_cons (pv 3) (pa_cons (pe_call G__law_cell_at (hr.mono (by decide)) (by rfl) F__law_cell_at.g F__law_cell_at.fn.kp F__law_cell_at.b .nil pass0 (pa_cons (pv 0) (pa_cons pe_int pa_nil))) (pa_cons (pe_call G__law_cell_at (hr.mono (by decide)) (by rfl) F__law_cell_at.g F__law_cell_at.fn.kp F__law_cell_at.b .nil pass0 (pa_cons (pv 0) (pa_cons pe_int pa_nil))) pa_nil))))))
      (pss_cons (ps_if (pt_cmpR op_eq (pe_op op_mod (pe_op op_fdiv (pe_call G__law_cell_at (hr.mono (by decide)) (by rfl) F__law_cell_at.g F__law_cell_at.fn.kp F__law_cell_at.b .nil pass0 (pa_cons (pv 0) (pa_cons pe_int pa_nil))) pe_int) pe_int) pe_int (nomark _))
      (pss_one (ps_set (i := 2) sc_law.nd (by rfl) (by first | exact Or.inl rfl | exact Or.inr rfl) (pe_call G__law_odd (hr.mono (by decide)) (by rfl) F__law_odd.g F__law_odd.fn.kp F__law_odd.b .nil pass0 (pa_cons (pe_call G__law_cell_at (hr.mono (by decide)) (by rfl) F__law_cell_at.g F__law_cell_at.fn.kp F__law_cell_at.b .nil pass0 (pa_cons (pv 0) (pa_cons pe_int pa_nil))) pa_nil))))
      pss_nil)
      hD))))), ?_⟩
  refine ⟨_, rfl, a, ns, 5, rfl, hS, by decide, by decide, fun ts r qs p H1 ND q4 s1 => ?_⟩
  have hS1 := s1.seq hS
  refine ⟨rfl, _, rfl, p, 5, ts, r, qs, rfl, ND, q4, fun l ls H2 s2 hl ln sh => ⟨l, rfl, ⟨_, SqL.of hl⟩, fun D hD' => ?_⟩⟩
  refine comp_list (K := K) (a := l) (ys := ls.map V.str) (fun i ys H' => Same H2 H' ∧ H' D = some (.lst ys) ∧ ys = ((ls.take i).map fun y => y ++ ("\n" : Str)).map V.str) ⟨same_new hD', upd_same, rfl⟩ (fun i ys H' _ ⟨sm, h, _⟩ => ⟨h, SqL.of (sm _ _ hl)⟩) ?_ ?_
  · rintro i v ys H' hi ⟨sm, hD2, rfl⟩
    rw [List.getElem?_map, Option.map_eq_some_iff] at hi
    obtain ⟨y, hy, rfl⟩ := hi
    have sy := sh y (List.mem_of_getElem? hy)
    refine ⟨Keep.set rfl, ?_⟩
    refine ⟨_, rfl, _, _, rfl, rfl, Nat.le_trans (Nat.add_le_add_right sy.l _) (by decide), hD2, lt_line (by rw [List.length_map, List.length_map, List.length_take]; omega), same_upd sm hD', upd_same, ?_⟩
    rw [List.take_add_one, hy]
    simp
  · rintro ys H3 ⟨sm, hD3, rfl⟩
    rw [List.length_map, List.take_length] at hD3
    have shj : ∀ y ∈ (ls.map fun y => y ++ ("\n" : Str)), Sh 42 y := fun y hy => by
      obtain ⟨z, hz, rfl⟩ := List.mem_map.mp hy
      exact Sh.app (n := 41) (m := 1) (sh z hz) ⟨by decide, okS_of _⟩
    obtain ⟨j1, j2⟩ := join_sh (sep := ("" : Str)) (k := 11) (n := 42) shj (by rw [List.length_map]; exact ln) (okS_of _) (by decide) (by decide)
    have j3 : Sh 470 (Txt.join ("" : Str) (ls.map fun y => y ++ ("\n" : Str))) := ⟨by
      show (Builtin.Str.glued ("" : Str) _).length ≤ _
      rw [StrLaws.glued_eq_join]
      refine Nat.le_trans (StrLaws.join_length_le _ _) ?_
      have h1 := sum_le shj
      have h2 : (ls.map fun y => y ++ ("\n" : Str)).length * 42 ≤ 11 * 42 := Nat.mul_le_mul_right _ (by rw [List.length_map]; exact ln)
      have h3 : ("" : Str).length = 0 := by decide
      rw [h3]
      omega, j2.o⟩
    refine ⟨"", D, _, rfl, rfl, SqL.of hD3, j1, ?_⟩
    have sT := s1.trans (s2.trans sm)
    refine ⟨_, rfl, a, ns, 16, rfl, sT.seq hS, _, _, rfl, rfl, (by show (0 : Int) < 9; decide), ?_⟩
    refine ⟨_, rfl, _, rfl, _, rfl, a, ns, 17, rfl, sT.seq hS, _, rfl, a, ns, 18, rfl, sT.seq hS, _, _, _, _, rfl, j3, fun b H4 s4 shb => ?_⟩
    have sU := sT.trans s4
    refine ⟨_, rfl, a, ns, 16, rfl, sU.seq hS, _, _, rfl, rfl, ⟨by decide, by decide⟩, _, _, rfl, rfl, (by show (0 : Int) < 8; decide), rfl, _, rfl, ?_⟩
    refine iteE (fun c => ?_) (fun c => ?_)
    · exact ⟨_, rfl, a, ns, 19, rfl, sU.seq hS, _, rfl, fun b2 H5 s5 sh2 => rD b2 H5 _ _ sh2⟩
    · exact rD b H4 _ _ shb
end
end FN


set_option Elab.async false
set_option linter.all false
set_option maxRecDepth 100000
set_option maxHeartbeats 4000000
namespace FN
open PySem L2
theorem cls_of {K : PySem.W.Frag} {D : Addr} {v : Value} (h : PySem.W.mroIn K D v = some true) : (PySem.W.clsIn K D).isSome = true := by
  unfold PySem.W.mroIn at h
  cases e : PySem.W.clsIn K D with
  | none => rw [e] at h; cases h
  | some c => rfl
theorem all_mk {l : PySem.W.OpenLaw} {w : World} {K : PySem.W.Frag} {h : Heap} {mg : Str → Option Value} {fa C f1 f2 f3 f4 f5 f6 f7 f8 f9 f10 f11 f12 f13 f14 f15 f16 f17 f18 f19 f20 f21 f22 f23 f24 f25 f26 f27 f28 f29 f30 f99 xFerryError xBadThing xBadRoom xBadQuarrel xNoStanding xBadStart xNoCrew xBadNote : Addr} (X : K.In h) (G : h.Ns mainGlobals mg) (hfa : mg "law" = some (.ref fa))
    {od1 an1 od2 an2 od3 an3 od4 an4 od5 an5 od6 an6 od7 an7 od8 an8 od9 an9 od10 an10 od11 an11 od12 an12 od13 an13 od14 an14 od15 an15 od16 an16 od17 an17 od18 an18 od19 an19 od20 an20 od21 an21 od22 an22 od23 an23 od24 an24 od25 an25 od26 an26 od27 an27 od28 an28 od29 an29 od30 an30 od99 an99 : Option Addr} {sl1 sl2 sl3 sl4 sl5 sl6 sl7 sl8 sl9 sl10 sl11 sl12 sl13 sl14 sl15 sl16 sl17 sl18 sl19 sl20 sl21 sl22 sl23 sl24 sl25 sl26 sl27 sl28 sl29 sl30 sl99 : Array (Option Value)} {oc1 kV1 dc1 pm1 cd1 ct1 oc2 kV2 dc2 pm2 cd2 ct2 oc3 kV3 dc3 pm3 cd3 ct3 oc4 kV4 dc4 pm4 cd4 ct4 oc5 kV5 dc5 pm5 cd5 ct5 oc6 kV6 dc6 pm6 cd6 ct6 oc7 kV7 dc7 pm7 cd7 ct7 oc8 kV8 dc8 pm8 cd8 ct8 oc9 kV9 dc9 pm9 cd9 ct9 oc10 kV10 dc10 pm10 cd10 ct10 oc11 kV11 dc11 pm11 cd11 ct11 oc12 kV12 dc12 pm12 cd12 ct12 oc13 kV13 dc13 pm13 cd13 ct13 oc14 kV14 dc14 pm14 cd14 ct14 oc15 kV15 dc15 pm15 cd15 ct15 oc16 kV16 dc16 pm16 cd16 ct16 oc17 kV17 dc17 pm17 cd17 ct17 oc18 kV18 dc18 pm18 cd18 ct18 oc19 kV19 dc19 pm19 cd19 ct19 oc20 kV20 dc20 pm20 cd20 ct20 oc21 kV21 dc21 pm21 cd21 ct21 oc22 kV22 dc22 pm22 cd22 ct22 oc23 kV23 dc23 pm23 cd23 ct23 oc24 kV24 dc24 pm24 cd24 ct24 oc25 kV25 dc25 pm25 cd25 ct25 oc26 kV26 dc26 pm26 cd26 ct26 oc27 kV27 dc27 pm27 cd27 ct27 oc28 kV28 dc28 pm28 cd28 ct28 oc29 kV29 dc29 pm29 cd29 ct29 oc30 kV30 dc30 pm30 cd30 ct30 oc99 kV99 dc99 pm99 cd99 ct99 : Value} {kk0 kk1 kk2 kk3 kk4 kk5 kk6 : Tok}
    (aC : PySem.W.nsIn K mainGlobals "Night" = some (some (.ref C)))
    (a1 : PySem.W.nsIn K mainGlobals "check_things" = some (some (.ref f1)))
    (l1 : K.lookup f1 = some ⟨oc1, od1, .func (PySem.W.fnOf "check_things" "check_things" (defArgs s_check_things) (defBody s_check_things) (defScope s_check_things) .none kV1 dc1 pm1 an1 cd1 ct1), sl1⟩)
    (c1 : PySem.W.codeIn K cd1 "check_things" = true)
    (q1 : PySem.W.keepIn K (.ref f1) = true)
    (a2 : PySem.W.nsIn K mainGlobals "check_room" = some (some (.ref f2)))
    (l2 : K.lookup f2 = some ⟨oc2, od2, .func (PySem.W.fnOf "check_room" "check_room" (defArgs s_check_room) (defBody s_check_room) (defScope s_check_room) .none kV2 dc2 pm2 an2 cd2 ct2), sl2⟩)
    (c2 : PySem.W.codeIn K cd2 "check_room" = true)
    (q2 : PySem.W.keepIn K (.ref f2) = true)
    (a3 : PySem.W.nsIn K mainGlobals "is_thing" = some (some (.ref f3)))
    (l3 : K.lookup f3 = some ⟨oc3, od3, .func (PySem.W.fnOf "is_thing" "is_thing" (defArgs s_is_thing) (defBody s_is_thing) (defScope s_is_thing) .none kV3 dc3 pm3 an3 cd3 ct3), sl3⟩)
    (c3 : PySem.W.codeIn K cd3 "is_thing" = true)
    (q3 : PySem.W.keepIn K (.ref f3) = true)
    (a4 : PySem.W.nsIn K mainGlobals "is_pair" = some (some (.ref f4)))
    (l4 : K.lookup f4 = some ⟨oc4, od4, .func (PySem.W.fnOf "is_pair" "is_pair" (defArgs s_is_pair) (defBody s_is_pair) (defScope s_is_pair) .none kV4 dc4 pm4 an4 cd4 ct4), sl4⟩)
    (c4 : PySem.W.codeIn K cd4 "is_pair" = true)
    (q4 : PySem.W.keepIn K (.ref f4) = true)
    (a5 : PySem.W.nsIn K mainGlobals "is_keeper" = some (some (.ref f5)))
    (l5 : K.lookup f5 = some ⟨oc5, od5, .func (PySem.W.fnOf "is_keeper" "is_keeper" (defArgs s_is_keeper) (defBody s_is_keeper) (defScope s_is_keeper) .none kV5 dc5 pm5 an5 cd5 ct5), sl5⟩)
    (c5 : PySem.W.codeIn K cd5 "is_keeper" = true)
    (q5 : PySem.W.keepIn K (.ref f5) = true)
    (a6 : PySem.W.nsIn K mainGlobals "check_quarrels" = some (some (.ref f6)))
    (l6 : K.lookup f6 = some ⟨oc6, od6, .func (PySem.W.fnOf "check_quarrels" "check_quarrels" (defArgs s_check_quarrels) (defBody s_check_quarrels) (defScope s_check_quarrels) .none kV6 dc6 pm6 an6 cd6 ct6), sl6⟩)
    (c6 : PySem.W.codeIn K cd6 "check_quarrels" = true)
    (q6 : PySem.W.keepIn K (.ref f6) = true)
    (a11 : PySem.W.nsIn K mainGlobals "is_number" = some (some (.ref f11)))
    (l11 : K.lookup f11 = some ⟨oc11, od11, .func (PySem.W.fnOf "is_number" "is_number" (defArgs s_is_number) (defBody s_is_number) (defScope s_is_number) .none kV11 dc11 pm11 an11 cd11 ct11), sl11⟩)
    (c11 : PySem.W.codeIn K cd11 "is_number" = true)
    (q11 : PySem.W.keepIn K (.ref f11) = true)
    (a12 : PySem.W.nsIn K mainGlobals "read_number" = some (some (.ref f12)))
    (l12 : K.lookup f12 = some ⟨oc12, od12, .func (PySem.W.fnOf "read_number" "read_number" (defArgs s_read_number) (defBody s_read_number) (defScope s_read_number) .none kV12 dc12 pm12 an12 cd12 ct12), sl12⟩)
    (c12 : PySem.W.codeIn K cd12 "read_number" = true)
    (q12 : PySem.W.keepIn K (.ref f12) = true)
    (a13 : PySem.W.nsIn K mainGlobals "read_words" = some (some (.ref f13)))
    (l13 : K.lookup f13 = some ⟨oc13, od13, .func (PySem.W.fnOf "read_words" "read_words" (defArgs s_read_words) (defBody s_read_words) (defScope s_read_words) .none kV13 dc13 pm13 an13 cd13 ct13), sl13⟩)
    (c13 : PySem.W.codeIn K cd13 "read_words" = true)
    (q13 : PySem.W.keepIn K (.ref f13) = true)
    (a14 : PySem.W.nsIn K mainGlobals "read_boat" = some (some (.ref f14)))
    (l14 : K.lookup f14 = some ⟨oc14, od14, .func (PySem.W.fnOf "read_boat" "read_boat" (defArgs s_read_boat) (defBody s_read_boat) (defScope s_read_boat) .none kV14 dc14 pm14 an14 cd14 ct14), sl14⟩)
    (c14 : PySem.W.codeIn K cd14 "read_boat" = true)
    (q14 : PySem.W.keepIn K (.ref f14) = true)
    (a15 : PySem.W.nsIn K mainGlobals "read_thing" = some (some (.ref f15)))
    (l15 : K.lookup f15 = some ⟨oc15, od15, .func (PySem.W.fnOf "read_thing" "read_thing" (defArgs s_read_thing) (defBody s_read_thing) (defScope s_read_thing) .none kV15 dc15 pm15 an15 cd15 ct15), sl15⟩)
    (c15 : PySem.W.codeIn K cd15 "read_thing" = true)
    (q15 : PySem.W.keepIn K (.ref f15) = true)
    (a16 : PySem.W.nsIn K mainGlobals "read_quarrel" = some (some (.ref f16)))
    (l16 : K.lookup f16 = some ⟨oc16, od16, .func (PySem.W.fnOf "read_quarrel" "read_quarrel" (defArgs s_read_quarrel) (defBody s_read_quarrel) (defScope s_read_quarrel) .none kV16 dc16 pm16 an16 cd16 ct16), sl16⟩)
    (c16 : PySem.W.codeIn K cd16 "read_quarrel" = true)
    (q16 : PySem.W.keepIn K (.ref f16) = true)
    (a17 : PySem.W.nsIn K mainGlobals "read" = some (some (.ref f17)))
    (l17 : K.lookup f17 = some ⟨oc17, od17, .func (PySem.W.fnOf "read" "read" (defArgs s_read) (defBody s_read) (defScope s_read) .none kV17 dc17 pm17 an17 cd17 ct17), sl17⟩)
    (c17 : PySem.W.codeIn K cd17 "read" = true)
    (q17 : PySem.W.keepIn K (.ref f17) = true)
    (a18 : PySem.W.nsIn K mainGlobals "_law_cell_at" = some (some (.ref f18)))
    (l18 : K.lookup f18 = some ⟨oc18, od18, .func (PySem.W.fnOf "_law_cell_at" "_law_cell_at" (defArgs s__law_cell_at) (defBody s__law_cell_at) (defScope s__law_cell_at) .none kV18 dc18 pm18 an18 cd18 ct18), sl18⟩)
    (c18 : PySem.W.codeIn K cd18 "_law_cell_at" = true)
    (q18 : PySem.W.keepIn K (.ref f18) = true)
    (a19 : PySem.W.nsIn K mainGlobals "_law_quarrel" = some (some (.ref f19)))
    (l19 : K.lookup f19 = some ⟨oc19, od19, .func (PySem.W.fnOf "_law_quarrel" "_law_quarrel" (defArgs s__law_quarrel) (defBody s__law_quarrel) (defScope s__law_quarrel) .none kV19 dc19 pm19 an19 cd19 ct19), sl19⟩)
    (c19 : PySem.W.codeIn K cd19 "_law_quarrel" = true)
    (q19 : PySem.W.keepIn K (.ref f19) = true)
    (a20 : PySem.W.nsIn K mainGlobals "_law_quarrels" = some (some (.ref f20)))
    (l20 : K.lookup f20 = some ⟨oc20, od20, .func (PySem.W.fnOf "_law_quarrels" "_law_quarrels" (defArgs s__law_quarrels) (defBody s__law_quarrels) (defScope s__law_quarrels) .none kV20 dc20 pm20 an20 cd20 ct20), sl20⟩)
    (c20 : PySem.W.codeIn K cd20 "_law_quarrels" = true)
    (q20 : PySem.W.keepIn K (.ref f20) = true)
    (a21 : PySem.W.nsIn K mainGlobals "_law_things" = some (some (.ref f21)))
    (l21 : K.lookup f21 = some ⟨oc21, od21, .func (PySem.W.fnOf "_law_things" "_law_things" (defArgs s__law_things) (defBody s__law_things) (defScope s__law_things) .none kV21 dc21 pm21 an21 cd21 ct21), sl21⟩)
    (c21 : PySem.W.codeIn K cd21 "_law_things" = true)
    (q21 : PySem.W.keepIn K (.ref f21) = true)
    (a22 : PySem.W.nsIn K mainGlobals "_law_night" = some (some (.ref f22)))
    (l22 : K.lookup f22 = some ⟨oc22, od22, .func (PySem.W.fnOf "_law_night" "_law_night" (defArgs s__law_night) (defBody s__law_night) (defScope s__law_night) .none kV22 dc22 pm22 an22 cd22 ct22), sl22⟩)
    (c22 : PySem.W.codeIn K cd22 "_law_night" = true)
    (q22 : PySem.W.keepIn K (.ref f22) = true)
    (a23 : PySem.W.nsIn K mainGlobals "_law_lines" = some (some (.ref f23)))
    (l23 : K.lookup f23 = some ⟨oc23, od23, .func (PySem.W.fnOf "_law_lines" "_law_lines" (defArgs s__law_lines) (defBody s__law_lines) (defScope s__law_lines) .none kV23 dc23 pm23 an23 cd23 ct23), sl23⟩)
    (c23 : PySem.W.codeIn K cd23 "_law_lines" = true)
    (q23 : PySem.W.keepIn K (.ref f23) = true)
    (a24 : PySem.W.nsIn K mainGlobals "_law_spoiled" = some (some (.ref f24)))
    (l24 : K.lookup f24 = some ⟨oc24, od24, .func (PySem.W.fnOf "_law_spoiled" "_law_spoiled" (defArgs s__law_spoiled) (defBody s__law_spoiled) (defScope s__law_spoiled) .none kV24 dc24 pm24 an24 cd24 ct24), sl24⟩)
    (c24 : PySem.W.codeIn K cd24 "_law_spoiled" = true)
    (q24 : PySem.W.keepIn K (.ref f24) = true)
    (a25 : PySem.W.nsIn K mainGlobals "_law_odd" = some (some (.ref f25)))
    (l25 : K.lookup f25 = some ⟨oc25, od25, .func (PySem.W.fnOf "_law_odd" "_law_odd" (defArgs s__law_odd) (defBody s__law_odd) (defScope s__law_odd) .none kV25 dc25 pm25 an25 cd25 ct25), sl25⟩)
    (c25 : PySem.W.codeIn K cd25 "_law_odd" = true)
    (q25 : PySem.W.keepIn K (.ref f25) = true)
    (a26 : PySem.W.nsIn K mainGlobals "_law_number" = some (some (.ref f26)))
    (l26 : K.lookup f26 = some ⟨oc26, od26, .func (PySem.W.fnOf "_law_number" "_law_number" (defArgs s__law_number) (defBody s__law_number) (defScope s__law_number) .none kV26 dc26 pm26 an26 cd26 ct26), sl26⟩)
    (c26 : PySem.W.codeIn K cd26 "_law_number" = true)
    (q26 : PySem.W.keepIn K (.ref f26) = true)
    (a27 : PySem.W.nsIn K mainGlobals "_law_thing" = some (some (.ref f27)))
    (l27 : K.lookup f27 = some ⟨oc27, od27, .func (PySem.W.fnOf "_law_thing" "_law_thing" (defArgs s__law_thing) (defBody s__law_thing) (defScope s__law_thing) .none kV27 dc27 pm27 an27 cd27 ct27), sl27⟩)
    (c27 : PySem.W.codeIn K cd27 "_law_thing" = true)
    (q27 : PySem.W.keepIn K (.ref f27) = true)
    (a28 : PySem.W.nsIn K mainGlobals "_law_told_quarrel" = some (some (.ref f28)))
    (l28 : K.lookup f28 = some ⟨oc28, od28, .func (PySem.W.fnOf "_law_told_quarrel" "_law_told_quarrel" (defArgs s__law_told_quarrel) (defBody s__law_told_quarrel) (defScope s__law_told_quarrel) .none kV28 dc28 pm28 an28 cd28 ct28), sl28⟩)
    (c28 : PySem.W.codeIn K cd28 "_law_told_quarrel" = true)
    (q28 : PySem.W.keepIn K (.ref f28) = true)
    (a29 : PySem.W.nsIn K mainGlobals "_law_due" = some (some (.ref f29)))
    (l29 : K.lookup f29 = some ⟨oc29, od29, .func (PySem.W.fnOf "_law_due" "_law_due" (defArgs s__law_due) (defBody s__law_due) (defScope s__law_due) .none kV29 dc29 pm29 an29 cd29 ct29), sl29⟩)
    (c29 : PySem.W.codeIn K cd29 "_law_due" = true)
    (q29 : PySem.W.keepIn K (.ref f29) = true)
    (a30 : PySem.W.nsIn K mainGlobals "_law_told" = some (some (.ref f30)))
    (l30 : K.lookup f30 = some ⟨oc30, od30, .func (PySem.W.fnOf "_law_told" "_law_told" (defArgs s__law_told) (defBody s__law_told) (defScope s__law_told) .none kV30 dc30 pm30 an30 cd30 ct30), sl30⟩)
    (c30 : PySem.W.codeIn K cd30 "_law_told" = true)
    (q30 : PySem.W.keepIn K (.ref f30) = true)
    (a99 : PySem.W.nsIn K mainGlobals "law" = some (some (.ref f99)))
    (l99 : K.lookup f99 = some ⟨oc99, od99, .func (PySem.W.fnOf "law" "law" (defArgs s_law) (defBody s_law) (defScope s_law) .none kV99 dc99 pm99 an99 cd99 ct99), sl99⟩)
    (c99 : PySem.W.codeIn K cd99 "law" = true)
    (q99 : PySem.W.keepIn K (.ref f99) = true)
    (a7 : PySem.W.findIn K (.ref C) "__init__" = some (some (.ref f7)))
    (i7 : PySem.W.isFn K (.ref f7) = true)
    (l7 : K.lookup f7 = some ⟨oc7, od7, .func (PySem.W.fnOf "__init__" "Night.__init__" (defArgs s_Night___init__) (defBody s_Night___init__) (defScope s_Night___init__) .none kV7 dc7 pm7 an7 cd7 ct7), sl7⟩)
    (c7 : PySem.W.codeIn K cd7 "Night.__init__" = true)
    (q7 : PySem.W.keepIn K (.ref f7) = true)
    (a8 : PySem.W.findIn K (.ref C) "things" = some (some (.ref f8)))
    (i8 : PySem.W.isFn K (.ref f8) = true)
    (l8 : K.lookup f8 = some ⟨oc8, od8, .func (PySem.W.fnOf "things" "Night.things" (defArgs s_Night_things) (defBody s_Night_things) (defScope s_Night_things) .none kV8 dc8 pm8 an8 cd8 ct8), sl8⟩)
    (c8 : PySem.W.codeIn K cd8 "Night.things" = true)
    (q8 : PySem.W.keepIn K (.ref f8) = true)
    (a9 : PySem.W.findIn K (.ref C) "room" = some (some (.ref f9)))
    (i9 : PySem.W.isFn K (.ref f9) = true)
    (l9 : K.lookup f9 = some ⟨oc9, od9, .func (PySem.W.fnOf "room" "Night.room" (defArgs s_Night_room) (defBody s_Night_room) (defScope s_Night_room) .none kV9 dc9 pm9 an9 cd9 ct9), sl9⟩)
    (c9 : PySem.W.codeIn K cd9 "Night.room" = true)
    (q9 : PySem.W.keepIn K (.ref f9) = true)
    (a10 : PySem.W.findIn K (.ref C) "quarrels" = some (some (.ref f10)))
    (i10 : PySem.W.isFn K (.ref f10) = true)
    (l10 : K.lookup f10 = some ⟨oc10, od10, .func (PySem.W.fnOf "quarrels" "Night.quarrels" (defArgs s_Night_quarrels) (defBody s_Night_quarrels) (defScope s_Night_quarrels) .none kV10 dc10 pm10 an10 cd10 ct10), sl10⟩)
    (c10 : PySem.W.codeIn K cd10 "Night.quarrels" = true)
    (q10 : PySem.W.keepIn K (.ref f10) = true)
    (pg : PySem.W.plainGet K C Str.empty = true)
    (hd : PySem.W.hasDictIn K C = true)
    (po : PySem.W.plainOver K C = true)
    (sa : PySem.W.findIn K (.ref C) "__setattr__" = some (some (.builtin "object.__setattr__")))
    (mk : PySem.W.makesIn K C = true)
    (kc : PySem.W.keepIn K (.ref C) = true)
    (na0 : PySem.W.findIn K (.ref C) "kept_things" = some none)
    (na1 : PySem.W.findIn K (.ref C) "kept_room" = some none)
    (na2 : PySem.W.findIn K (.ref C) "kept_quarrels" = some none)
    (z0 : PySem.W.nsIn K mainGlobals "len" = some none)
    (z1 : PySem.W.nsIn K mainGlobals "list" = some none)
    (z2 : PySem.W.nsIn K mainGlobals "tuple" = some none)
    (z3 : PySem.W.nsIn K mainGlobals "range" = some none)
    (z4 : PySem.W.nsIn K mainGlobals "isinstance" = some none)
    (z5 : PySem.W.nsIn K mainGlobals "int" = some none)
    (z6 : PySem.W.nsIn K mainGlobals "bool" = some none)
    (z7 : PySem.W.nsIn K mainGlobals "zip" = some none)
    (z8 : PySem.W.nsIn K mainGlobals "all" = some none)
    (z9 : PySem.W.nsIn K mainGlobals "any" = some none)
    (z10 : PySem.W.nsIn K mainGlobals "max" = some none)
    (z11 : PySem.W.nsIn K mainGlobals "sorted" = some none)
    (z12 : PySem.W.nsIn K mainGlobals "ValueError" = some none)
    (z13 : PySem.W.nsIn K mainGlobals "reversed" = some none)
    (z14 : PySem.W.nsIn K mainGlobals "str" = some none)
    (z15 : PySem.W.nsIn K mainGlobals "min" = some none)
    (z16 : PySem.W.nsIn K mainGlobals "set" = some none)
    (v0 : PySem.W.nsIn K mainGlobals "MOST_FIGURES" = some (some (.int (10) kk0)))
    (v1 : PySem.W.nsIn K mainGlobals "MOST_THINGS" = some (some (.int (6) kk1)))
    (v2 : PySem.W.nsIn K mainGlobals "MOST_MINUTES" = some (some (.int (1000000000) kk2)))
    (v3 : PySem.W.nsIn K mainGlobals "MOST_ROOM" = some (some (.int (3) kk3)))
    (v4 : PySem.W.nsIn K mainGlobals "MOST_QUARRELS" = some (some (.int (30) kk4)))
    (v5 : PySem.W.nsIn K mainGlobals "NO_KEEPER" = some (some (.int (-1) kk5)))
    (y0 : PySem.W.nsIn K mainGlobals "FIGURES" = some (some (.str "0123456789" kk6)))
    (gFerryError : PySem.W.nsIn K mainGlobals "FerryError" = some (some (.ref xFerryError)))
    (gBadThing : PySem.W.nsIn K mainGlobals "BadThing" = some (some (.ref xBadThing)))
    (gBadRoom : PySem.W.nsIn K mainGlobals "BadRoom" = some (some (.ref xBadRoom)))
    (gBadQuarrel : PySem.W.nsIn K mainGlobals "BadQuarrel" = some (some (.ref xBadQuarrel)))
    (gNoStanding : PySem.W.nsIn K mainGlobals "NoStanding" = some (some (.ref xNoStanding)))
    (gBadStart : PySem.W.nsIn K mainGlobals "BadStart" = some (some (.ref xBadStart)))
    (gNoCrew : PySem.W.nsIn K mainGlobals "NoCrew" = some (some (.ref xNoCrew)))
    (gBadNote : PySem.W.nsIn K mainGlobals "BadNote" = some (some (.ref xBadNote)))
    (gt : PySem.W.specialIn K (.builtin "object.__class__") "__get__" = some (some (.builtin "getset_descriptor.__get__")))
    (tk : PySem.W.takesIn K (.builtin "object.__class__") = some true)
    (e1BadNote : PySem.W.excIn K xBadNote bmV "ValueError.__new__" = true)
    (e2BadNote : PySem.W.findIn K (.ref xBadNote) "__getattribute__" = some (some (.builtin "BaseException.__getattribute__")))
    (e3BadNote : PySem.W.findIn K (.ref xBadNote) "__getattr__" = some none)
    (e4BadNote : PySem.W.findIn K (.ref xBadNote) "__class__" = some (some (.builtin "object.__class__")))
    (e5BadNote : PySem.W.mroIn K xBadNote (.type "object") = some true)
    (e6BadNote : PySem.W.mroIn K xBadNote (.type "BaseException") = some true)
    (e8BadNote : PySem.W.exmOne K (.ref xBadNote) (.ref xFerryError) = some true)
    (e9BadNote : PySem.W.kitOne K (.ref xBadNote) (.type "ValueError") = some true)
    (e1NoStanding : PySem.W.excIn K xNoStanding bmV "ValueError.__new__" = true)
    (e2NoStanding : PySem.W.findIn K (.ref xNoStanding) "__getattribute__" = some (some (.builtin "BaseException.__getattribute__")))
    (e3NoStanding : PySem.W.findIn K (.ref xNoStanding) "__getattr__" = some none)
    (e4NoStanding : PySem.W.findIn K (.ref xNoStanding) "__class__" = some (some (.builtin "object.__class__")))
    (e5NoStanding : PySem.W.mroIn K xNoStanding (.type "object") = some true)
    (e6NoStanding : PySem.W.mroIn K xNoStanding (.type "BaseException") = some true)
    (e8NoStanding : PySem.W.exmOne K (.ref xNoStanding) (.ref xFerryError) = some true)
    (e9NoStanding : PySem.W.kitOne K (.ref xNoStanding) (.type "ValueError") = some true)
    (e1BadStart : PySem.W.excIn K xBadStart bmV "ValueError.__new__" = true)
    (e2BadStart : PySem.W.findIn K (.ref xBadStart) "__getattribute__" = some (some (.builtin "BaseException.__getattribute__")))
    (e3BadStart : PySem.W.findIn K (.ref xBadStart) "__getattr__" = some none)
    (e4BadStart : PySem.W.findIn K (.ref xBadStart) "__class__" = some (some (.builtin "object.__class__")))
    (e5BadStart : PySem.W.mroIn K xBadStart (.type "object") = some true)
    (e6BadStart : PySem.W.mroIn K xBadStart (.type "BaseException") = some true)
    (e8BadStart : PySem.W.exmOne K (.ref xBadStart) (.ref xFerryError) = some true)
    (e9BadStart : PySem.W.kitOne K (.ref xBadStart) (.type "ValueError") = some true)
    (e1NoCrew : PySem.W.excIn K xNoCrew bmV "ValueError.__new__" = true)
    (e2NoCrew : PySem.W.findIn K (.ref xNoCrew) "__getattribute__" = some (some (.builtin "BaseException.__getattribute__")))
    (e3NoCrew : PySem.W.findIn K (.ref xNoCrew) "__getattr__" = some none)
    (e4NoCrew : PySem.W.findIn K (.ref xNoCrew) "__class__" = some (some (.builtin "object.__class__")))
    (e5NoCrew : PySem.W.mroIn K xNoCrew (.type "object") = some true)
    (e6NoCrew : PySem.W.mroIn K xNoCrew (.type "BaseException") = some true)
    (e8NoCrew : PySem.W.exmOne K (.ref xNoCrew) (.ref xFerryError) = some true)
    (e9NoCrew : PySem.W.kitOne K (.ref xNoCrew) (.type "ValueError") = some true)
    (e1BadThing : PySem.W.excIn K xBadThing bmV "ValueError.__new__" = true)
    (e2BadThing : PySem.W.findIn K (.ref xBadThing) "__getattribute__" = some (some (.builtin "BaseException.__getattribute__")))
    (e3BadThing : PySem.W.findIn K (.ref xBadThing) "__getattr__" = some none)
    (e4BadThing : PySem.W.findIn K (.ref xBadThing) "__class__" = some (some (.builtin "object.__class__")))
    (e5BadThing : PySem.W.mroIn K xBadThing (.type "object") = some true)
    (e6BadThing : PySem.W.mroIn K xBadThing (.type "BaseException") = some true)
    (e8BadThing : PySem.W.exmOne K (.ref xBadThing) (.ref xFerryError) = some true)
    (e9BadThing : PySem.W.kitOne K (.ref xBadThing) (.type "ValueError") = some true)
    (e1BadRoom : PySem.W.excIn K xBadRoom bmV "ValueError.__new__" = true)
    (e2BadRoom : PySem.W.findIn K (.ref xBadRoom) "__getattribute__" = some (some (.builtin "BaseException.__getattribute__")))
    (e3BadRoom : PySem.W.findIn K (.ref xBadRoom) "__getattr__" = some none)
    (e4BadRoom : PySem.W.findIn K (.ref xBadRoom) "__class__" = some (some (.builtin "object.__class__")))
    (e5BadRoom : PySem.W.mroIn K xBadRoom (.type "object") = some true)
    (e6BadRoom : PySem.W.mroIn K xBadRoom (.type "BaseException") = some true)
    (e8BadRoom : PySem.W.exmOne K (.ref xBadRoom) (.ref xFerryError) = some true)
    (e9BadRoom : PySem.W.kitOne K (.ref xBadRoom) (.type "ValueError") = some true)
    (e1BadQuarrel : PySem.W.excIn K xBadQuarrel bmV "ValueError.__new__" = true)
    (e2BadQuarrel : PySem.W.findIn K (.ref xBadQuarrel) "__getattribute__" = some (some (.builtin "BaseException.__getattribute__")))
    (e3BadQuarrel : PySem.W.findIn K (.ref xBadQuarrel) "__getattr__" = some none)
    (e4BadQuarrel : PySem.W.findIn K (.ref xBadQuarrel) "__class__" = some (some (.builtin "object.__class__")))
    (e5BadQuarrel : PySem.W.mroIn K xBadQuarrel (.type "object") = some true)
    (e6BadQuarrel : PySem.W.mroIn K xBadQuarrel (.type "BaseException") = some true)
    (e8BadQuarrel : PySem.W.exmOne K (.ref xBadQuarrel) (.ref xFerryError) = some true)
    (e9BadQuarrel : PySem.W.kitOne K (.ref xBadQuarrel) (.type "ValueError") = some true)
    (wBadNoteNoStanding : PySem.W.kitOne K (.ref xBadNote) (.ref xNoStanding) = some false)
    (wBadNoteBadStart : PySem.W.kitOne K (.ref xBadNote) (.ref xBadStart) = some false)
    (wBadNoteBadThing : PySem.W.kitOne K (.ref xBadNote) (.ref xBadThing) = some false)
    (wBadNoteBadRoom : PySem.W.kitOne K (.ref xBadNote) (.ref xBadRoom) = some false)
    (wBadNoteBadQuarrel : PySem.W.kitOne K (.ref xBadNote) (.ref xBadQuarrel) = some false)
    (wBadNoteNoCrew : PySem.W.kitOne K (.ref xBadNote) (.ref xNoCrew) = some false)
    (e8xBadThingBadThing : PySem.W.exmOne K (.ref xBadThing) (.ref xBadThing) = some true)
    (e8xBadThingBadRoom : PySem.W.exmOne K (.ref xBadThing) (.ref xBadRoom) = some false)
    (e8xBadThingBadQuarrel : PySem.W.exmOne K (.ref xBadThing) (.ref xBadQuarrel) = some false)
    (e8xBadRoomBadThing : PySem.W.exmOne K (.ref xBadRoom) (.ref xBadThing) = some false)
    (e8xBadRoomBadRoom : PySem.W.exmOne K (.ref xBadRoom) (.ref xBadRoom) = some true)
    (e8xBadRoomBadQuarrel : PySem.W.exmOne K (.ref xBadRoom) (.ref xBadQuarrel) = some false)
    (e8xBadQuarrelBadThing : PySem.W.exmOne K (.ref xBadQuarrel) (.ref xBadThing) = some false)
    (e8xBadQuarrelBadRoom : PySem.W.exmOne K (.ref xBadQuarrel) (.ref xBadRoom) = some false)
    (e8xBadQuarrelBadQuarrel : PySem.W.exmOne K (.ref xBadQuarrel) (.ref xBadQuarrel) = some true) :
    ∃ fd : FuncData, (∀ (s : Shared) (v : Value), BindsTo s fd ⟨[v], []⟩ [("script", v)]) ∧ ∀ base : Heap, K.In base → base.Ns mainGlobals mg → FnOk l.prog w K mg base CX0 9 fa fd ["script"] (sp_law K) := by
  have e := hfa.symm.trans (PySem.W.mg_of X G a99)
  cases e
  have F1 := fun_mk (st := s_check_things) l1 c1 q1
  have b1 := F1.binds (ps := ["things"]) fun _ _ _ _ _ _ us hl => match us, hl with | [_], _ => rfl
  have F2 := fun_mk (st := s_check_room) l2 c2 q2
  have b2 := F2.binds (ps := ["room"]) fun _ _ _ _ _ _ us hl => match us, hl with | [_], _ => rfl
  have F3 := fun_mk (st := s_is_thing) l3 c3 q3
  have b3 := F3.binds (ps := ["number", "count"]) fun _ _ _ _ _ _ us hl => match us, hl with | [_, _], _ => rfl
  have F4 := fun_mk (st := s_is_pair) l4 c4 q4
  have b4 := F4.binds (ps := ["one", "other", "count"]) fun _ _ _ _ _ _ us hl => match us, hl with | [_, _, _], _ => rfl
  have F5 := fun_mk (st := s_is_keeper) l5 c5 q5
  have b5 := F5.binds (ps := ["keeper", "one", "other", "count"]) fun _ _ _ _ _ _ us hl => match us, hl with | [_, _, _, _], _ => rfl
  have F6 := fun_mk (st := s_check_quarrels) l6 c6 q6
  have b6 := F6.binds (ps := ["quarrels", "count"]) fun _ _ _ _ _ _ us hl => match us, hl with | [_, _], _ => rfl
  have F11 := fun_mk (st := s_is_number) l11 c11 q11
  have b11 := F11.binds (ps := ["word"]) fun _ _ _ _ _ _ us hl => match us, hl with | [_], _ => rfl
  have F12 := fun_mk (st := s_read_number) l12 c12 q12
  have b12 := F12.binds (ps := ["word"]) fun _ _ _ _ _ _ us hl => match us, hl with | [_], _ => rfl
  have F13 := fun_mk (st := s_read_words) l13 c13 q13
  have b13 := F13.binds (ps := ["line", "first", "count"]) fun _ _ _ _ _ _ us hl => match us, hl with | [_, _, _], _ => rfl
  have F14 := fun_mk (st := s_read_boat) l14 c14 q14
  have b14 := F14.binds (ps := ["line"]) fun _ _ _ _ _ _ us hl => match us, hl with | [_], _ => rfl
  have F15 := fun_mk (st := s_read_thing) l15 c15 q15
  have b15 := F15.binds (ps := ["line"]) fun _ _ _ _ _ _ us hl => match us, hl with | [_], _ => rfl
  have F16 := fun_mk (st := s_read_quarrel) l16 c16 q16
  have b16 := F16.binds (ps := ["line"]) fun _ _ _ _ _ _ us hl => match us, hl with | [_], _ => rfl
  have F17 := fun_mk (st := s_read) l17 c17 q17
  have b17 := F17.binds (ps := ["text"]) fun _ _ _ _ _ _ us hl => match us, hl with | [_], _ => rfl
  have F18 := fun_mk (st := s__law_cell_at) l18 c18 q18
  have b18 := F18.binds (ps := ["script", "k"]) fun _ _ _ _ _ _ us hl => match us, hl with | [_, _], _ => rfl
  have F19 := fun_mk (st := s__law_quarrel) l19 c19 q19
  have b19 := F19.binds (ps := ["cell", "many"]) fun _ _ _ _ _ _ us hl => match us, hl with | [_, _], _ => rfl
  have F20 := fun_mk (st := s__law_quarrels) l20 c20 q20
  have b20 := F20.binds (ps := ["script", "start", "many"]) fun _ _ _ _ _ _ us hl => match us, hl with | [_, _, _], _ => rfl
  have F21 := fun_mk (st := s__law_things) l21 c21 q21
  have b21 := F21.binds (ps := ["script", "start", "many"]) fun _ _ _ _ _ _ us hl => match us, hl with | [_, _, _], _ => rfl
  have F22 := fun_mk (st := s__law_night) l22 c22 q22
  have b22 := F22.binds (ps := ["script", "most"]) fun _ _ _ _ _ _ us hl => match us, hl with | [_, _], _ => rfl
  have F23 := fun_mk (st := s__law_lines) l23 c23 q23
  have b23 := F23.binds (ps := ["night"]) fun _ _ _ _ _ _ us hl => match us, hl with | [_], _ => rfl
  have F24 := fun_mk (st := s__law_spoiled) l24 c24 q24
  have b24 := F24.binds (ps := ["text", "way", "cell", "other"]) fun _ _ _ _ _ _ us hl => match us, hl with | [_, _, _, _], _ => rfl
  have F25 := fun_mk (st := s__law_odd) l25 c25 q25
  have b25 := F25.binds (ps := ["cell"]) fun _ _ _ _ _ _ us hl => match us, hl with | [_], _ => rfl
  have F26 := fun_mk (st := s__law_number) l26 c26 q26
  have b26 := F26.binds (ps := ["word", "most"]) fun _ _ _ _ _ _ us hl => match us, hl with | [_, _], _ => rfl
  have F27 := fun_mk (st := s__law_thing) l27 c27 q27
  have b27 := F27.binds (ps := ["words"]) fun _ _ _ _ _ _ us hl => match us, hl with | [_], _ => rfl
  have F28 := fun_mk (st := s__law_told_quarrel) l28 c28 q28
  have b28 := F28.binds (ps := ["words", "many"]) fun _ _ _ _ _ _ us hl => match us, hl with | [_, _], _ => rfl
  have F29 := fun_mk (st := s__law_due) l29 c29 q29
  have b29 := F29.binds (ps := ["text"]) fun _ _ _ _ _ _ us hl => match us, hl with | [_], _ => rfl
  have F30 := fun_mk (st := s__law_told) l30 c30 q30
  have b30 := F30.binds (ps := ["text"]) fun _ _ _ _ _ _ us hl => match us, hl with | [_], _ => rfl
  have F99 := fun_mk (st := s_law) l99 c99 q99
  have b99 := F99.binds (ps := ["script"]) fun _ _ _ _ _ _ us hl => match us, hl with | [_], _ => rfl
  have F7 := fun_mk (st := s_Night___init__) l7 c7 q7
  have b7 := F7.binds (ps := ["self", "things", "room", "quarrels"]) fun _ _ _ _ _ _ us hl => match us, hl with | [_, _, _, _], _ => rfl
  have F8 := fun_mk (st := s_Night_things) l8 c8 q8
  have b8 := F8.binds (ps := ["self"]) fun _ _ _ _ _ _ us hl => match us, hl with | [_], _ => rfl
  have F9 := fun_mk (st := s_Night_room) l9 c9 q9
  have b9 := F9.binds (ps := ["self"]) fun _ _ _ _ _ _ us hl => match us, hl with | [_], _ => rfl
  have F10 := fun_mk (st := s_Night_quarrels) l10 c10 q10
  have b10 := F10.binds (ps := ["self"]) fun _ _ _ _ _ _ us hl => match us, hl with | [_], _ => rfl
  let Z : Ad := ⟨kk1, kk2, kk3, kk4, kk5, kk6, kk0, xFerryError, xBadThing, xBadRoom, xBadQuarrel, xNoStanding, xBadStart, xNoCrew, xBadNote⟩
  have T : Txt K mg C Z := ⟨PySem.W.mg_none_of X G z0, PySem.W.mg_none_of X G z1, PySem.W.mg_none_of X G z2, PySem.W.mg_none_of X G z3, PySem.W.mg_none_of X G z4, PySem.W.mg_none_of X G z5, PySem.W.mg_none_of X G z6, PySem.W.mg_none_of X G z7, PySem.W.mg_none_of X G z8, PySem.W.mg_none_of X G z9, PySem.W.mg_none_of X G z10, PySem.W.mg_none_of X G z11, PySem.W.mg_none_of X G z12, PySem.W.mg_none_of X G z13, PySem.W.mg_none_of X G z14, PySem.W.mg_none_of X G z15, PySem.W.mg_none_of X G z16, PySem.W.mg_of X G y0, PySem.W.mg_of X G v0, PySem.W.mg_of X G v1, PySem.W.mg_of X G v2, PySem.W.mg_of X G v3, PySem.W.mg_of X G v4, PySem.W.mg_of X G v5, PySem.W.mg_of X G aC, ⟨pg, hd, po, sa⟩, na0, na1, na2, PySem.W.mg_of X G gFerryError, PySem.W.mg_of X G gBadThing, PySem.W.mg_of X G gBadRoom, PySem.W.mg_of X G gBadQuarrel, ⟨PySem.W.mg_of X G gBadNote, e1BadNote, ⟨e2BadNote, e3BadNote, e4BadNote, gt, tk, e5BadNote, e6BadNote, cls_of e5BadNote⟩, e8BadNote, e9BadNote⟩, ⟨PySem.W.mg_of X G gNoStanding, e1NoStanding, ⟨e2NoStanding, e3NoStanding, e4NoStanding, gt, tk, e5NoStanding, e6NoStanding, cls_of e5NoStanding⟩, e8NoStanding, e9NoStanding⟩, ⟨PySem.W.mg_of X G gBadStart, e1BadStart, ⟨e2BadStart, e3BadStart, e4BadStart, gt, tk, e5BadStart, e6BadStart, cls_of e5BadStart⟩, e8BadStart, e9BadStart⟩, ⟨PySem.W.mg_of X G gNoCrew, e1NoCrew, ⟨e2NoCrew, e3NoCrew, e4NoCrew, gt, tk, e5NoCrew, e6NoCrew, cls_of e5NoCrew⟩, e8NoCrew, e9NoCrew⟩, ⟨PySem.W.mg_of X G gBadThing, e1BadThing, ⟨e2BadThing, e3BadThing, e4BadThing, gt, tk, e5BadThing, e6BadThing, cls_of e5BadThing⟩, e8BadThing, e9BadThing⟩, ⟨PySem.W.mg_of X G gBadRoom, e1BadRoom, ⟨e2BadRoom, e3BadRoom, e4BadRoom, gt, tk, e5BadRoom, e6BadRoom, cls_of e5BadRoom⟩, e8BadRoom, e9BadRoom⟩, ⟨PySem.W.mg_of X G gBadQuarrel, e1BadQuarrel, ⟨e2BadQuarrel, e3BadQuarrel, e4BadQuarrel, gt, tk, e5BadQuarrel, e6BadQuarrel, cls_of e5BadQuarrel⟩, e8BadQuarrel, e9BadQuarrel⟩⟩
  let fs : Nat → Addr := fun i => match i with | 1 => f1 | 2 => f2 | 3 => f3 | 4 => f4 | 5 => f5 | 6 => f6 | 7 => f7 | 8 => f8 | 9 => f9 | 10 => f10 | 11 => f11 | 12 => f12 | 13 => f13 | 14 => f14 | 15 => f15 | 16 => f16 | 17 => f17 | 18 => f18 | 19 => f19 | 20 => f20 | 21 => f21 | 22 => f22 | 23 => f23 | 24 => f24 | 25 => f25 | 26 => f26 | 27 => f27 | 28 => f28 | 29 => f29 | 30 => f30 | _ => 0
  let ds : Nat → FuncData := fun i => match i with | 1 => PySem.W.fnOf "check_things" "check_things" (defArgs s_check_things) (defBody s_check_things) (defScope s_check_things) .none kV1 dc1 pm1 an1 cd1 ct1 | 2 => PySem.W.fnOf "check_room" "check_room" (defArgs s_check_room) (defBody s_check_room) (defScope s_check_room) .none kV2 dc2 pm2 an2 cd2 ct2 | 3 => PySem.W.fnOf "is_thing" "is_thing" (defArgs s_is_thing) (defBody s_is_thing) (defScope s_is_thing) .none kV3 dc3 pm3 an3 cd3 ct3 | 4 => PySem.W.fnOf "is_pair" "is_pair" (defArgs s_is_pair) (defBody s_is_pair) (defScope s_is_pair) .none kV4 dc4 pm4 an4 cd4 ct4 | 5 => PySem.W.fnOf "is_keeper" "is_keeper" (defArgs s_is_keeper) (defBody s_is_keeper) (defScope s_is_keeper) .none kV5 dc5 pm5 an5 cd5 ct5 | 6 => PySem.W.fnOf "check_quarrels" "check_quarrels" (defArgs s_check_quarrels) (defBody s_check_quarrels) (defScope s_check_quarrels) .none kV6 dc6 pm6 an6 cd6 ct6 | 7 => PySem.W.fnOf "__init__" "Night.__init__" (defArgs s_Night___init__) (defBody s_Night___init__) (defScope s_Night___init__) .none kV7 dc7 pm7 an7 cd7 ct7 | 8 => PySem.W.fnOf "things" "Night.things" (defArgs s_Night_things) (defBody s_Night_things) (defScope s_Night_things) .none kV8 dc8 pm8 an8 cd8 ct8 | 9 => PySem.W.fnOf "room" "Night.room" (defArgs s_Night_room) (defBody s_Night_room) (defScope s_Night_room) .none kV9 dc9 pm9 an9 cd9 ct9 | 10 => PySem.W.fnOf "quarrels" "Night.quarrels" (defArgs s_Night_quarrels) (defBody s_Night_quarrels) (defScope s_Night_quarrels) .none kV10 dc10 pm10 an10 cd10 ct10 | 11 => PySem.W.fnOf "is_number" "is_number" (defArgs s_is_number) (defBody s_is_number) (defScope s_is_number) .none kV11 dc11 pm11 an11 cd11 ct11 | 12 => PySem.W.fnOf "read_number" "read_number" (defArgs s_read_number) (defBody s_read_number) (defScope s_read_number) .none kV12 dc12 pm12 an12 cd12 ct12 | 13 => PySem.W.fnOf "read_words" "read_words" (defArgs s_read_words) (defBody s_read_words) (defScope s_read_words) .none kV13 dc13 pm13 an13 cd13 ct13 | 14 => PySem.W.fnOf "read_boat" "read_boat" (defArgs s_read_boat) (defBody s_read_boat) (defScope s_read_boat) .none kV14 dc14 pm14 an14 cd14 ct14 | 15 => PySem.W.fnOf "read_thing" "read_thing" (defArgs s_read_thing) (defBody s_read_thing) (defScope s_read_thing) .none kV15 dc15 pm15 an15 cd15 ct15 | 16 => PySem.W.fnOf "read_quarrel" "read_quarrel" (defArgs s_read_quarrel) (defBody s_read_quarrel) (defScope s_read_quarrel) .none kV16 dc16 pm16 an16 cd16 ct16 | 17 => PySem.W.fnOf "read" "read" (defArgs s_read) (defBody s_read) (defScope s_read) .none kV17 dc17 pm17 an17 cd17 ct17 | 18 => PySem.W.fnOf "_law_cell_at" "_law_cell_at" (defArgs s__law_cell_at) (defBody s__law_cell_at) (defScope s__law_cell_at) .none kV18 dc18 pm18 an18 cd18 ct18 | 19 => PySem.W.fnOf "_law_quarrel" "_law_quarrel" (defArgs s__law_quarrel) (defBody s__law_quarrel) (defScope s__law_quarrel) .none kV19 dc19 pm19 an19 cd19 ct19 | 20 => PySem.W.fnOf "_law_quarrels" "_law_quarrels" (defArgs s__law_quarrels) (defBody s__law_quarrels) (defScope s__law_quarrels) .none kV20 dc20 pm20 an20 cd20 ct20 | 21 => PySem.W.fnOf "_law_things" "_law_things" (defArgs s__law_things) (defBody s__law_things) (defScope s__law_things) .none kV21 dc21 pm21 an21 cd21 ct21 | 22 => PySem.W.fnOf "_law_night" "_law_night" (defArgs s__law_night) (defBody s__law_night) (defScope s__law_night) .none kV22 dc22 pm22 an22 cd22 ct22 | 23 => PySem.W.fnOf "_law_lines" "_law_lines" (defArgs s__law_lines) (defBody s__law_lines) (defScope s__law_lines) .none kV23 dc23 pm23 an23 cd23 ct23 | 24 => PySem.W.fnOf "_law_spoiled" "_law_spoiled" (defArgs s__law_spoiled) (defBody s__law_spoiled) (defScope s__law_spoiled) .none kV24 dc24 pm24 an24 cd24 ct24 | 25 => PySem.W.fnOf "_law_odd" "_law_odd" (defArgs s__law_odd) (defBody s__law_odd) (defScope s__law_odd) .none kV25 dc25 pm25 an25 cd25 ct25 | 26 => PySem.W.fnOf "_law_number" "_law_number" (defArgs s__law_number) (defBody s__law_number) (defScope s__law_number) .none kV26 dc26 pm26 an26 cd26 ct26 | 27 => PySem.W.fnOf "_law_thing" "_law_thing" (defArgs s__law_thing) (defBody s__law_thing) (defScope s__law_thing) .none kV27 dc27 pm27 an27 cd27 ct27 | 28 => PySem.W.fnOf "_law_told_quarrel" "_law_told_quarrel" (defArgs s__law_told_quarrel) (defBody s__law_told_quarrel) (defScope s__law_told_quarrel) .none kV28 dc28 pm28 an28 cd28 ct28 | 29 => PySem.W.fnOf "_law_due" "_law_due" (defArgs s__law_due) (defBody s__law_due) (defScope s__law_due) .none kV29 dc29 pm29 an29 cd29 ct29 | 30 => PySem.W.fnOf "_law_told" "_law_told" (defArgs s__law_told) (defBody s__law_told) (defScope s__law_told) .none kV30 dc30 pm30 an30 cd30 ct30 | _ => PySem.W.fnOf "law" "law" (defArgs s_law) (defBody s_law) (defScope s_law) .none kV99 dc99 pm99 an99 cd99 ct99
  have alBadNote : Alone K Z.BadNote [Z.NoStanding, Z.BadStart, Z.BadThing, Z.BadRoom, Z.BadQuarrel, Z.NoCrew] := fun E hE => by
    simp only [List.mem_cons, List.not_mem_nil, or_false] at hE
    rcases hE with rfl | rfl | rfl | rfl | rfl | rfl
    · exact wBadNoteNoStanding
    · exact wBadNoteBadStart
    · exact wBadNoteBadThing
    · exact wBadNoteBadRoom
    · exact wBadNoteBadQuarrel
    · exact wBadNoteNoCrew
  have E : Ext K Z := ⟨⟨exm3 e8xBadThingBadThing e8xBadThingBadRoom e8xBadThingBadQuarrel rfl, e6BadThing⟩, ⟨exm3 e8xBadRoomBadThing e8xBadRoomBadRoom e8xBadRoomBadQuarrel rfl, e6BadRoom⟩, ⟨exm3 e8xBadQuarrelBadThing e8xBadQuarrelBadRoom e8xBadQuarrelBadQuarrel rfl, e6BadQuarrel⟩, alBadNote⟩
  have A : All K mg C fs ds := ⟨⟨F1, b1, PySem.W.mg_of X G a1⟩, ⟨F2, b2, PySem.W.mg_of X G a2⟩, ⟨F3, b3, PySem.W.mg_of X G a3⟩, ⟨F4, b4, PySem.W.mg_of X G a4⟩, ⟨F5, b5, PySem.W.mg_of X G a5⟩, ⟨F6, b6, PySem.W.mg_of X G a6⟩, ⟨mk, a7, i7, kc⟩, ⟨F7, b7⟩, ⟨a8, i8, q8⟩, ⟨F8, b8⟩, ⟨a9, i9, q9⟩, ⟨F9, b9⟩, ⟨a10, i10, q10⟩, ⟨F10, b10⟩, ⟨F11, b11, PySem.W.mg_of X G a11⟩, ⟨F12, b12, PySem.W.mg_of X G a12⟩, ⟨F13, b13, PySem.W.mg_of X G a13⟩, ⟨F14, b14, PySem.W.mg_of X G a14⟩, ⟨F15, b15, PySem.W.mg_of X G a15⟩, ⟨F16, b16, PySem.W.mg_of X G a16⟩, ⟨F17, b17, PySem.W.mg_of X G a17⟩, ⟨F18, b18, PySem.W.mg_of X G a18⟩, ⟨F19, b19, PySem.W.mg_of X G a19⟩, ⟨F20, b20, PySem.W.mg_of X G a20⟩, ⟨F21, b21, PySem.W.mg_of X G a21⟩, ⟨F22, b22, PySem.W.mg_of X G a22⟩, ⟨F23, b23, PySem.W.mg_of X G a23⟩, ⟨F24, b24, PySem.W.mg_of X G a24⟩, ⟨F25, b25, PySem.W.mg_of X G a25⟩, ⟨F26, b26, PySem.W.mg_of X G a26⟩, ⟨F27, b27, PySem.W.mg_of X G a27⟩, ⟨F28, b28, PySem.W.mg_of X G a28⟩, ⟨F29, b29, PySem.W.mg_of X G a29⟩, ⟨F30, b30, PySem.W.mg_of X G a30⟩⟩
  exact ⟨PySem.W.fnOf "law" "law" (defArgs s_law) (defBody s_law) (defScope s_law) .none kV99 dc99 pm99 an99 cd99 ct99, fun s v => .of_eq rfl, fun base _ _ => ok_law ⟨F99, b99, PySem.W.mg_of X G a99⟩ T A E⟩
theorem walk {l : PySem.W.OpenLaw} {q : Program} {loose : List Str} {XP : (Str → Option Value) → Heap → Prop} {YP : World → Heap → Prop} {d : DefRec} {K : Params → PySem.W.Frag} (hn : l.most = some 63) (hdf : d.params.defaults = [])
    (hY : ∀ (w : World) (h : Heap), YP w h → (K w.params).In h)
    (F : ∀ (w : World) (mg : Str → Option Value) (fa : Addr) (h : Heap), (K w.params).In h → h.Ns mainGlobals mg → mg d.name = some (.ref fa) →
      ∃ fd : FuncData, (∀ (s : Shared) (u : Value), BindsTo s fd ⟨[u], []⟩ [("script", u)]) ∧ ∀ base : Heap, (K w.params).In base → base.Ns mainGlobals mg → FnOk l.prog w (K w.params) mg base CX0 9 fa fd ["script"] (sp_law (K w.params))) :
    PySem.W.WalkO q loose XP YP l.row.toRowW d [] (fun f vs => PySem.call f vs) :=
  L2.walk_of (n := 63) (k := 9) (x := "script") (CX := fun _ => CX0) (sp := fun w => sp_law (K w.params)) hn (by decide) hdf ⟨rfl, by decide, by decide⟩ hY F (fun _ _ a ns hl _ hS => ⟨a, ns, rfl, hS, hl, fun _ => rfl⟩) fun _ _ _ _ _ z => z
end FN
def PySem.W.Fast.tw7007861267277706208 : Unit := ()
def PySem.W.Fast.tw8346826350517155554 : Unit := ()
def PySem.W.Fast.tw8032067533251942915 : Unit := ()
def PySem.W.Fast.tw4933959719420442339 : Unit := ()
def PySem.W.Fast.tw7130790651116982792 : Unit := ()
def PySem.W.Fast.tw4765017064248101704 : Unit := ()
def PySem.W.Fast.tw13264326402058786218 : Unit := ()
def PySem.W.Fast.tw138286563941695563 : Unit := ()
def PySem.W.Fast.tw6163702019953819183 : Unit := ()
def PySem.W.Fast.tw14592013687569227536 : Unit := ()
def PySem.W.Fast.tw10377837322656540115 : Unit := ()
def PySem.W.Fast.tw9629545987400915060 : Unit := ()
def PySem.W.Fast.tw1122021352159341398 : Unit := ()
def PySem.W.Fast.tw17380209934125855546 : Unit := ()
def PySem.W.Fast.tw8054911062587191613 : Unit := ()
def PySem.W.Fast.tw922102763730624414 : Unit := ()
def PySem.W.Fast.tw3514626363693037183 : Unit := ()
open PySem PySem.W PyProof.Rows
set_option maxRecDepth 100000 in
set_option maxHeartbeats 0 in
theorem PySem.Challenge.cw_ferrynight_k09_texts_read_holds : PySem.Challenge.rw_ferrynight_k09_texts_read.Holds := by
  w_on; o_law; k_head; (case hw => w_witness2)
  k_fill
  refine FN.walk (l := PySem.Challenge.rw_ferrynight_k09_texts_read) rfl rfl (fun w h Y => PySem.W.kIn_of Y) ?F
  case F =>
    intro w mg fa h KX G hmg
    refine' FN.all_mk KX G hmg ?aC ?a1 ?l1 ?c1 ?q1 ?a2 ?l2 ?c2 ?q2 ?a3 ?l3 ?c3 ?q3 ?a4 ?l4 ?c4 ?q4 ?a5 ?l5 ?c5 ?q5 ?a6 ?l6 ?c6 ?q6 ?a11 ?l11 ?c11 ?q11 ?a12 ?l12 ?c12 ?q12 ?a13 ?l13 ?c13 ?q13 ?a14 ?l14 ?c14 ?q14 ?a15 ?l15 ?c15 ?q15 ?a16 ?l16 ?c16 ?q16 ?a17 ?l17 ?c17 ?q17 ?a18 ?l18 ?c18 ?q18 ?a19 ?l19 ?c19 ?q19 ?a20 ?l20 ?c20 ?q20 ?a21 ?l21 ?c21 ?q21 ?a22 ?l22 ?c22 ?q22 ?a23 ?l23 ?c23 ?q23 ?a24 ?l24 ?c24 ?q24 ?a25 ?l25 ?c25 ?q25 ?a26 ?l26 ?c26 ?q26 ?a27 ?l27 ?c27 ?q27 ?a28 ?l28 ?c28 ?q28 ?a29 ?l29 ?c29 ?q29 ?a30 ?l30 ?c30 ?q30 ?a99 ?l99 ?c99 ?q99 ?a7 ?i7 ?l7 ?c7 ?q7 ?a8 ?i8 ?l8 ?c8 ?q8 ?a9 ?i9 ?l9 ?c9 ?q9 ?a10 ?i10 ?l10 ?c10 ?q10 ?pg ?hd ?po ?sa ?mk ?kc ?na0 ?na1 ?na2 ?z0 ?z1 ?z2 ?z3 ?z4 ?z5 ?z6 ?z7 ?z8 ?z9 ?z10 ?z11 ?z12 ?z13 ?z14 ?z15 ?z16 ?v0 ?v1 ?v2 ?v3 ?v4 ?v5 ?y0 ?gFerryError ?gBadThing ?gBadRoom ?gBadQuarrel ?gNoStanding ?gBadStart ?gNoCrew ?gBadNote ?gt ?tk ?e1BadNote ?e2BadNote ?e3BadNote ?e4BadNote ?e5BadNote ?e6BadNote ?e8BadNote ?e9BadNote ?e1NoStanding ?e2NoStanding ?e3NoStanding ?e4NoStanding ?e5NoStanding ?e6NoStanding ?e8NoStanding ?e9NoStanding ?e1BadStart ?e2BadStart ?e3BadStart ?e4BadStart ?e5BadStart ?e6BadStart ?e8BadStart ?e9BadStart ?e1NoCrew ?e2NoCrew ?e3NoCrew ?e4NoCrew ?e5NoCrew ?e6NoCrew ?e8NoCrew ?e9NoCrew ?e1BadThing ?e2BadThing ?e3BadThing ?e4BadThing ?e5BadThing ?e6BadThing ?e8BadThing ?e9BadThing ?e1BadRoom ?e2BadRoom ?e3BadRoom ?e4BadRoom ?e5BadRoom ?e6BadRoom ?e8BadRoom ?e9BadRoom ?e1BadQuarrel ?e2BadQuarrel ?e3BadQuarrel ?e4BadQuarrel ?e5BadQuarrel ?e6BadQuarrel ?e8BadQuarrel ?e9BadQuarrel ?wBadNoteNoStanding ?wBadNoteBadStart ?wBadNoteBadThing ?wBadNoteBadRoom ?wBadNoteBadQuarrel ?wBadNoteNoCrew ?e8xBadThingBadThing ?e8xBadThingBadRoom ?e8xBadThingBadQuarrel ?e8xBadRoomBadThing ?e8xBadRoomBadRoom ?e8xBadRoomBadQuarrel ?e8xBadQuarrelBadThing ?e8xBadQuarrelBadRoom ?e8xBadQuarrelBadQuarrel
    (case aC => k_is)
    (case a1 => k_is)
    (case l1 => k_is)
    (case c1 => k_is)
    (case q1 => k_is)
    (case a2 => k_is)
    (case l2 => k_is)
    (case c2 => k_is)
    (case q2 => k_is)
    (case a3 => k_is)
    (case l3 => k_is)
    (case c3 => k_is)
    (case q3 => k_is)
    (case a4 => k_is)
    (case l4 => k_is)
    (case c4 => k_is)
    (case q4 => k_is)
    (case a5 => k_is)
    (case l5 => k_is)
    (case c5 => k_is)
    (case q5 => k_is)
    (case a6 => k_is)
    (case l6 => k_is)
    (case c6 => k_is)
    (case q6 => k_is)
    (case a11 => k_is)
    (case l11 => k_is)
    (case c11 => k_is)
    (case q11 => k_is)
    (case a12 => k_is)
    (case l12 => k_is)
    (case c12 => k_is)
    (case q12 => k_is)
    (case a13 => k_is)
    (case l13 => k_is)
    (case c13 => k_is)
    (case q13 => k_is)
    (case a14 => k_is)
    (case l14 => k_is)
    (case c14 => k_is)
    (case q14 => k_is)
    (case a15 => k_is)
    (case l15 => k_is)
    (case c15 => k_is)
    (case q15 => k_is)
    (case a16 => k_is)
    (case l16 => k_is)
    (case c16 => k_is)
    (case q16 => k_is)
    (case a17 => k_is)
    (case l17 => k_is)
    (case c17 => k_is)
    (case q17 => k_is)
    (case a18 => k_is)
    (case l18 => k_is)
    (case c18 => k_is)
    (case q18 => k_is)
    (case a19 => k_is)
    (case l19 => k_is)
    (case c19 => k_is)
    (case q19 => k_is)
    (case a20 => k_is)
    (case l20 => k_is)
    (case c20 => k_is)
    (case q20 => k_is)
    (case a21 => k_is)
    (case l21 => k_is)
    (case c21 => k_is)
    (case q21 => k_is)
    (case a22 => k_is)
    (case l22 => k_is)
    (case c22 => k_is)
    (case q22 => k_is)
    (case a23 => k_is)
    (case l23 => k_is)
    (case c23 => k_is)
    (case q23 => k_is)
    (case a24 => k_is)
    (case l24 => k_is)
    (case c24 => k_is)
    (case q24 => k_is)
    (case a25 => k_is)
    (case l25 => k_is)
    (case c25 => k_is)
    (case q25 => k_is)
    (case a26 => k_is)
    (case l26 => k_is)
    (case c26 => k_is)
    (case q26 => k_is)
    (case a27 => k_is)
    (case l27 => k_is)
    (case c27 => k_is)
    (case q27 => k_is)
    (case a28 => k_is)
    (case l28 => k_is)
    (case c28 => k_is)
    (case q28 => k_is)
    (case a29 => k_is)
    (case l29 => k_is)
    (case c29 => k_is)
    (case q29 => k_is)
    (case a30 => k_is)
    (case l30 => k_is)
    (case c30 => k_is)
    (case q30 => k_is)
    (case a99 => k_is)
    (case l99 => k_is)
    (case c99 => k_is)
    (case q99 => k_is)
    (case a7 => k_is)
    (case i7 => k_is)
    (case l7 => k_is)
    (case c7 => k_is)
    (case q7 => k_is)
    (case a8 => k_is)
    (case i8 => k_is)
    (case l8 => k_is)
    (case c8 => k_is)
    (case q8 => k_is)
    (case a9 => k_is)
    (case i9 => k_is)
    (case l9 => k_is)
    (case c9 => k_is)
    (case q9 => k_is)
    (case a10 => k_is)
    (case i10 => k_is)
    (case l10 => k_is)
    (case c10 => k_is)
    (case q10 => k_is)
    (case pg => k_is)
    (case hd => k_is)
    (case po => k_is)
    (case sa => k_is)
    (case mk => k_is)
    (case kc => k_is)
    (case na0 => k_is)
    (case na1 => k_is)
    (case na2 => k_is)
    (case z0 => k_is)
    (case z1 => k_is)
    (case z2 => k_is)
    (case z3 => k_is)
    (case z4 => k_is)
    (case z5 => k_is)
    (case z6 => k_is)
    (case z7 => k_is)
    (case z8 => k_is)
    (case z9 => k_is)
    (case z10 => k_is)
    (case z11 => k_is)
    (case z12 => k_is)
    (case z13 => k_is)
    (case z14 => k_is)
    (case z15 => k_is)
    (case z16 => k_is)
    (case v0 => k_is)
    (case v1 => k_is)
    (case v2 => k_is)
    (case v3 => k_is)
    (case v4 => k_is)
    (case v5 => k_is)
    (case y0 => k_is)
    (case gFerryError => k_is)
    (case gBadThing => k_is)
    (case gBadRoom => k_is)
    (case gBadQuarrel => k_is)
    (case gNoStanding => k_is)
    (case gBadStart => k_is)
    (case gNoCrew => k_is)
    (case gBadNote => k_is)
    (case gt => k_is)
    (case tk => k_is)
    (case e1BadNote => k_exc)
    (case e2BadNote => k_is)
    (case e3BadNote => k_is)
    (case e4BadNote => k_is)
    (case e5BadNote => k_is)
    (case e6BadNote => k_is)
    (case e8BadNote => kts_exm)
    (case e9BadNote => kit_is)
    (case e1NoStanding => k_exc)
    (case e2NoStanding => k_is)
    (case e3NoStanding => k_is)
    (case e4NoStanding => k_is)
    (case e5NoStanding => k_is)
    (case e6NoStanding => k_is)
    (case e8NoStanding => kts_exm)
    (case e9NoStanding => kit_is)
    (case e1BadStart => k_exc)
    (case e2BadStart => k_is)
    (case e3BadStart => k_is)
    (case e4BadStart => k_is)
    (case e5BadStart => k_is)
    (case e6BadStart => k_is)
    (case e8BadStart => kts_exm)
    (case e9BadStart => kit_is)
    (case e1NoCrew => k_exc)
    (case e2NoCrew => k_is)
    (case e3NoCrew => k_is)
    (case e4NoCrew => k_is)
    (case e5NoCrew => k_is)
    (case e6NoCrew => k_is)
    (case e8NoCrew => kts_exm)
    (case e9NoCrew => kit_is)
    (case e1BadThing => k_exc)
    (case e2BadThing => k_is)
    (case e3BadThing => k_is)
    (case e4BadThing => k_is)
    (case e5BadThing => k_is)
    (case e6BadThing => k_is)
    (case e8BadThing => kts_exm)
    (case e9BadThing => kit_is)
    (case e1BadRoom => k_exc)
    (case e2BadRoom => k_is)
    (case e3BadRoom => k_is)
    (case e4BadRoom => k_is)
    (case e5BadRoom => k_is)
    (case e6BadRoom => k_is)
    (case e8BadRoom => kts_exm)
    (case e9BadRoom => kit_is)
    (case e1BadQuarrel => k_exc)
    (case e2BadQuarrel => k_is)
    (case e3BadQuarrel => k_is)
    (case e4BadQuarrel => k_is)
    (case e5BadQuarrel => k_is)
    (case e6BadQuarrel => k_is)
    (case e8BadQuarrel => kts_exm)
    (case e9BadQuarrel => kit_is)
    (case wBadNoteNoStanding => kit_is)
    (case wBadNoteBadStart => kit_is)
    (case wBadNoteBadThing => kit_is)
    (case wBadNoteBadRoom => kit_is)
    (case wBadNoteBadQuarrel => kit_is)
    (case wBadNoteNoCrew => kit_is)
    (case e8xBadThingBadThing => kts_exm)
    (case e8xBadThingBadRoom => kts_exm)
    (case e8xBadThingBadQuarrel => kts_exm)
    (case e8xBadRoomBadThing => kts_exm)
    (case e8xBadRoomBadRoom => kts_exm)
    (case e8xBadRoomBadQuarrel => kts_exm)
    (case e8xBadQuarrelBadThing => kts_exm)
    (case e8xBadQuarrelBadRoom => kts_exm)
    (case e8xBadQuarrelBadQuarrel => kts_exm)

