import PyProof.Rows.All
import Wide.All
import OpenK.AllK
import Wide.FinOn
import Lean
import PyProof.EqAt
import PyProof.EqKinds
import PyProof.TupleCall
import PyProof.Rows.SortRuns
import PyProof.DictItems
import KE.KPairComp
import PySem.Challenge.RW_ferrynight_k05_whole_heights_of_all_stan
set_option linter.all false
def SS := @PySem.wpAny_bind
def SU := @PySem.wpAny_pure
def SV := @PySem.Heap.get?_push_of_some
def SW := @List.length_map.{0,0}
def SX := @Nat.le_refl
def SY := @List.mem_cons_of_mem.{0}
def S0 := @List.mem_cons_self.{0}
def S1 := @List.getElem?_eq_getElem.{0}
def S2 := @List.mem_cons.{0}
def S3 := @Bool.false_ne_true
def S4 := @List.map_append.{0,0}
def S5 := @Array.length_toList.{0}
def S6 := @PyProof.Rows.wpS_bind
def S7 := @PySem.Heap.get?_push_size
def S8 := @Nat.le_trans
def S9 := @decide_eq_true
def Ta := @List.take_of_length_le.{0}
def Tb := @List.size_toArray.{0}
def Tc := @List.getElem?_map.{0,0}
def Td := @PySem.Heap.lt_size
def Te := @PyProof.Rows.wpS_pure
def Tf := @List.append_assoc.{0}
def Tg := @List.getD_eq_getElem?_getD.{0}
def Ti := @List.map_cons.{0,0}
def Tj := @List.pairwise_append.{0}
def Tk := @List.getElem?_eq_some_iff.{0}
def Tl := @List.length_take.{0}
def Tn := @Bool.false_eq_true
def To := @List.take_add_one.{0}
def Tp := @decide_eq_false
def Tq := @List.length_append.{0}
def Tr := @List.length_filter_le.{0}
def Ts := @List.mem_append.{0}
def Tt := @of_decide_eq_true
def Tu := @Nat.ne_of_lt
def Tv := @List.filter_append.{0}
def Tw := @Nat.zero_le
def Tx := @List.mem_of_getElem?.{0}
def Tz := @Nat.lt_of_lt_of_le
def TB := @List.mem_singleton.{0}
def TC := @List.mem_append_right.{0}
def TD := @List.mem_map.{0,0}
def TF := @List.filter_cons.{0}
def TH := @List.mem_filter.{0}
def TJ := @PySem.wpAny_call_entry
def TK := @Bool.and_eq_true
def TL := @PySem.boot_len
def TM := @Bool.false_and
def TN := @List.map_map.{0,0,0}
def TQ := @PySem.wpAny_newObj_type
def TR := @PySem.PassesOwn.never
def TU := @Array.toList_append.{0}
def TV := @Option.map_eq_some_iff.{0,0}
def TW := @List.getElem?_append_right.{0}
def TY := @List.length_cons.{0}
def TZ := @bind_congr.{0,0}
def T0 := @List.pairwise_cons.{0}
def T3 := @if_false.{1}
def T4 := @List.mem_map_of_mem.{0,0}
def T5 := @PySem.wpAny_dictEntries
def T6 := @List.pairwise_map.{0,0}
def T7 := @PySem.wpAny_callSpecial?_slot
def T8 := @Option.some.inj.{0}
def T9 := @Array.getElem?_toList.{0}
def Ua := @PySem.Heap.SameBut.update
def Ub := @List.all_eq_true.{0}
def Uc := @Bool.not_true
def Ud := @PySem.wpAny_truthy_bool
def Ue := @Int.toNat_natCast
def Uf := @PySem.wpAny_field
def Ug := @PyProof.Rows.wpS_forRange
def Uh := @PySem.wpAny_setField_rec
def Ui := @List.nodup_cons.{0}
def Uj := @Nat.lt_irrefl
def Uk := @beq_eq_false_iff_ne.{0}
def Ul := @PyProof.Rows.slot_tuple_getitem
def Um := @congrArg.{1,1}
def Uo := @List.mem_iff_getElem.{0}
def Up := @PySem.wpAny_holding
def Uq := @PySem.Paired.length
def Ur := @List.getElem?_append_left.{0}
def Us := @PySem.wpAny_mono
def Ut := @Option.isSome_map.{0,0}
def Uu := @PySem.W.kia_one
def Uv := @List.forIn_cons.{0,0,0}
def Uw := @List.take_length.{0}
def Ux := @List.countP_cons.{0}
def Uy := @List.mem_of_mem_take.{0}
def Uz := @List.mem_append_left.{0}
def UA := @PySem.F.plainAttrs_list
def UB := @if_true.{1}
def UC := @PyProof.Rows.wpS_mono
def UD := @List.drop_drop.{0}
def UE := @Bool.and_false
def UF := @List.take_sublist.{0}
def UG := @Array.size_append.{0}
def UH := @PySem.mem_of_lookup
def UI := @PySem.wpAny_rule
def UJ := @PySem.wpAny_isInstance
def UK := @List.getElem_mem.{0}
def UL := @Option.isSome_iff_exists.{0}
def UM := @List.Pairwise.imp_of_mem.{0}
def UN := @PySem.wpAny_seqItems
def UO := @Nat.pow_le_pow_right
def UP := @PySem.F.slot_dict_itemiterator_next
def UQ := @List.drop_sublist.{0}
def UR := @PySem.wpAny_dictEpoch
def US := @List.find?_cons.{0}
def UT := @Array.size_push.{0}
def UU := @PySem.F.slot_dict_keyiterator_next
def UV := @PySem.sizeLine_eq
def UW := @PyProof.Rows.boot_tuple
def UX := @List.take_append_drop.{0}
def UY := @List.Perm.append_left.{0}
def UZ := @List.foldl_cons.{0,0}
def U0 := @Nat.le_succ
def U1 := @List.getElem_drop.{0}
def U2 := @PySem.Heap.get?_none_of_le
def U3 := @Array.toArray_toList.{0}
def U4 := @beq_iff_eq.{0}
def U5 := @PySem.wpAny_attempt
def U6 := @PySem.F.type_list_append
def U7 := @PySem.F.slot_list_append
def U8 := @PySem.Heap.size_push
def U9 := @List.lookup_cons.{0,0}
def Va := @PySem.wpAny_typeNameOfWhole_itemiter
def Vb := @PySem.wpAny_typeNameOfWhole_keyiter
def Vc := @True.intro
def Vd := @List.zip_cons_cons.{0,0}
def Ve := @Int.emod_lt_of_pos
def Vf := @Array.size_extract.{0}
def Vg := @List.Perm.append_right.{0}
def Vh := @PySem.wpAny_passesOwn
def Vi := @Bool.eq_iff_iff
def Vj := @List.perm_append_comm.{0}
def Vk := @List.mem_iff_getElem?.{0}
def Vl := @Ne.symm.{1}
def Vm := @List.getElem_take.{0}
def Vn := @PyProof.Rows.wpS_modify
def Vo := @List.forIn_nil.{0,0,0}
def Vp := @Array.toList_reverse.{0}
def Vq := @PySem.F.slot_tuple_iterator_next
def Vr := @Nat.ne_of_gt
def Vs := @Nat.le_of_lt
def Vt := @PySem.wpAny_eqBool_int
def Vu := @List.not_mem_nil.{0}
def Vv := @List.length_drop.{0}
def Vw := @List.drop_eq_getElem_cons.{0}
def Vx := @List.map_congr_left.{0,0}
def Vy := @List.length_pos_iff.{0}
def Vz := @List.filter_sublist.{0}
def VA := @PyProof.Rows.listUpdate_at
def VB := @PySem.W.mg_of
def VC := @Bool.true_and
def VD := @PySem.wpAny_specialOf
def VE := @PySem.size_of_entries
def VF := @PyProof.Rows.boot_isinstance
def VG := @List.append_nil.{0}
def VH := @Int.emod_nonneg
def VI := @PySem.wpAny_tupleItemsOf
def VJ := @PySem.wpAny_Call_Name_kw
def VL := @Nat.add_sub_cancel_left
def VM := @List.pairwise_singleton.{0}
abbrev VN := PySem.W.Frag
set_option Elab.async false
set_option linter.all false
set_option maxRecDepth 100000
namespace L2
open PySem PySem.Spec PyProof.Rows
abbrev Key := Sum Int Str
def ED : Key -> Value -> Bool
 | .inl k, v => Value.isInt k v
 | .inr x, v => Value.isStrOf x v
def KM (w : World) : Key -> Int
 | .inl k => hashInt k
 | .inr x => hashStr w x
theorem bZ : ∀ {k : Key} {v : Value}, ED k v = true -> (∃ i t, k = Sum.inl i /\ v = Value.int i t) \/ (∃ x t, k = Sum.inr x /\ v = Value.str x t)
 | .inl i, v, h => by
  obtain ⟨t, e⟩ := Value.isInt_shape (k := i) (v := v) h
  exact .inl ⟨i, t, rfl, e⟩
 | .inr x, v, h => by
  obtain ⟨t, e⟩ := Value.isStrOf_shape (x := x) (v := v) h
  exact .inr ⟨x, t, rfl, e⟩
theorem Fd (a b : Int) : decide ((Sum.inl a : Key) = Sum.inl b) = (a == b) := by
 by_cases e : a = b
 ·subst e; simp
 ·have h : ¬ (Sum.inl a : Key) = Sum.inl b := fun q => e (Sum.inl.inj q)
  rw [Tp h]
  exact (Uk.mpr e).symm
theorem EZ (a b : Str) : decide ((Sum.inr a : Key) = Sum.inr b) = decide (a = b) := by
 by_cases e : a = b
 ·subst e; simp
 ·have h : ¬ (Sum.inr a : Key) = Sum.inr b := fun q => e (Sum.inr.inj q)
  rw [Tp h, Tp e]
theorem GB (a : Int) (b : Str) : decide ((Sum.inl a : Key) = Sum.inr b) = false := Tp (fun q => nomatch q)
theorem F0 (a : Str) (b : Int) : decide ((Sum.inr a : Key) = Sum.inl b) = false := Tp (fun q => nomatch q)
def rW (prog : Program) (w : World) : PySem.KeyKind prog w Key where
 is := ED
 hash := KM w
 inj := fun v a b ha hb => by
  rcases bZ ha with ⟨i, t, rfl, rfl⟩ | ⟨x, t, rfl, rfl⟩
  ·rcases bZ hb with ⟨j, u, rfl, e⟩ | ⟨y, u, rfl, e⟩
   ·injection e with e1 _; rw [e1]
   ·exact nomatch e
  ·rcases bZ hb with ⟨j, u, rfl, e⟩ | ⟨y, u, rfl, e⟩
   ·exact nomatch e
   ·injection e with e1 _; rw [e1]
 byValue := fun k v h => by
  rcases bZ h with ⟨i, t, rfl, rfl⟩ | ⟨x, t, rfl, rfl⟩ <;> rfl
 pyHash := fun hv h => by
  rcases bZ hv with ⟨i, t, rfl, rfl⟩ | ⟨x, t, rfl, rfl⟩
  ·exact wpAny_pyHash_int h
  ·exact wpAny_pyHash_str h
 eqBool := fun hu hv h => by
  rcases bZ hu with ⟨i, t, rfl, rfl⟩ | ⟨x, t, rfl, rfl⟩
  ·rcases bZ hv with ⟨j, u, rfl, rfl⟩ | ⟨y, u, rfl, rfl⟩
   ·rw [Fd] at h; exact Vt h
   ·rw [GB] at h; exact SeqAt.EqAt.int_str i t y u _ _ _ _ h
  ·rcases bZ hv with ⟨j, u, rfl, rfl⟩ | ⟨y, u, rfl, rfl⟩
   ·rw [F0] at h; exact SeqAt.EqAt.str_int x t j u _ _ _ _ h
   ·rw [EZ] at h; exact wpAny_eqBool_str h
 «strs» := fun k x t v h => by
  rcases bZ h with ⟨i, u, rfl, e⟩ | ⟨y, u, rfl, e⟩
  ·exact nomatch e
  ·injection e with e1 _
   subst e1
   cases v <;> rfl
inductive V where
 | cq | bl (b : Bool) | int (i : Int) | str (x : Str) | xS (b : Array UInt8) | Gy (b : UInt64) | ref (a : Addr) | ty (n : String)
 deriving DecidableEq
def RelV : V -> Value -> Prop
 | .cq, u => u = Value.none
 | .bl b, u => u = Value.bool b
 | .int i, u => ∃ t, u = Value.int i t
 | .str x, u => ∃ t, u = Value.str x t
 | .xS b, u => ∃ t, u = Value.bytes b t
 | .Gy b, u => ∃ t, u = Value.float b t
 | .ref a, u => u = Value.ref a
 | .ty n, u => u = Value.type n
abbrev Vals : List V -> List Value -> Prop := Paired RelV
theorem Vals.length {xs : List V} {us : List Value} (r : Vals xs us) : xs.length = us.length := Uq r
theorem Vals.get : ∀ {xs : List V} {us : List Value} {i : Nat} {x : V}, Vals xs us -> xs[i]? = some x -> ∃ u, us[i]? = some u /\ RelV x u
 | _, _, _, _, .nil, e => by simp at e
 | _, _, 0, _, .cons r _, e => by simp at e; subst e; exact ⟨_, rfl, r⟩
 | _, _, i + 1, x, .cons _ t, e => by
  obtain ⟨u, h1, h2⟩ := Vals.get (i := i) (x := x) t (by simpa using e)
  exact ⟨u, by simpa using h1, h2⟩
theorem Vals.set {x : V} {u : Value} (r : RelV x u) : ∀ {xs : List V} {us : List Value} (i : Nat), Vals xs us -> Vals (xs.set i x) (us.set i u)
 | _, _, _, .nil => .nil
 | _, _, 0, .cons _ t => .cons r t
 | _, _, i + 1, .cons q t => .cons q (Vals.set r i t)
theorem Vals.append : ∀ {xs ys : List V} {us ws : List Value}, Vals xs us -> Vals ys ws -> Vals (xs ++ ys) (us ++ ws)
 | _, _, _, _, .nil, s => s
 | _, _, _, _, .cons r t, s => .cons r (Vals.append t s)
theorem Vals.take : ∀ {xs : List V} {us : List Value} (n : Nat), Vals xs us -> Vals (xs.take n) (us.take n)
 | _, _, 0, _ => .nil
 | _, _, _ + 1, .nil => .nil
 | _, _, n + 1, .cons r t => .cons r (Vals.take n t)
theorem Vals.drop : ∀ {xs : List V} {us : List Value} (n : Nat), Vals xs us -> Vals (xs.drop n) (us.drop n)
 | _, _, 0, r => r
 | _, _, _ + 1, .nil => .nil
 | _, _, n + 1, .cons _ t => Vals.drop n t
def lB : Option V -> Option Value -> Prop
 | some v, some u => RelV v u
 | none, none => True
 | _, _ => False
def KV {κ : Type} : List (κ × V) -> List (κ × Value) -> Prop := Paired fun (p : κ × V) (q : κ × Value) => p.1 = q.1 /\ RelV p.2 q.2
def kV : Key -> V
 | .inl i => .int i
 | .inr x => .str x
inductive HO where
 | lst (xs : List V)
 | tup (xs : List V)
 | dK (kvs : List (Key × V)) | dT (kvs : List (List Key × V))
 | set (S : Int -> Bool) (n : Nat)
 | ins (C dx : Addr) (fs : List (Str × V))
 | own (x : Addr)
 | xd (fs : List (Str × V))
 | met (f x : Addr)
 | Cf (lo hi : Int)
 | vo (o : Obj) (u : HO)
 | Ec (ps : Array Value)
 | ext (φ : Heap -> Prop)
abbrev Hp := Addr -> Option HO
def upd (H : Hp) (a : Addr) (o : HO) : Hp := fun b => if b = a then some o else H b
theorem ae {H : Hp} {a : Addr} {o : HO} : upd H a o a = some o := by unfold upd; rw [if_pos rfl]
theorem aq {H : Hp} {a b : Addr} {o : HO} (h : b ≠ a) : upd H a o b = H b := by unfold upd; rw [if_neg h]
theorem eu {H : Hp} {a b : Addr} {o u : HO} (h : H a = some o) (h' : H b = some u) (d : o ≠ u) : a ≠ b := by
 intro e; subst e; rw [h] at h'; exact d (T8 h')
theorem ax {H : Hp} {a b : Addr} {o : HO} (h : H a = some o) (h' : H b = none) : a ≠ b := by
 intro e; subst e; rw [h] at h'; cases h'
section
variable (P : Program) (w : World)
def bV (H : Hp) (h : Heap) (a : Addr) : HO -> Prop
 | .lst xs => xs.length <= sizeLine /\ ∃ (aA : List Value) (n : Nat), Vals xs aA /\ h.get? a = some { cls := .type "list", data := .seq aA.toArray n }
 | .tup xs => xs.length <= sizeLine /\ ∃ aA : List Value, Vals xs aA /\ IsTup h a aA.toArray
 | .dK kvs => kvs.length <= sizeLine /\ (a == sysModules) = false /\ ∃ vs, KV kvs vs /\ h.DictOf (rW P w) a vs
 | .dT kvs => kvs.length <= sizeLine /\ (a == sysModules) = false /\ ∃ xs : List (List Key × Addr × Value),
   Paired (fun (p : List Key × V) (q : List Key × Addr × Value) => p.1 = q.1 /\ H q.2.1 = some (.tup (p.1.map kV)) /\ RelV p.2 q.2.2) kvs xs /\
   ∃ o es ep, h.get? a = some o /\ o.ExactDict /\ o.data = .dict es ep /\ es.toList = xs.map (entryOfKey (tupleKind (rW P w))) /\ (xs.map (·.1)).Nodup
 | .set S n => h.SetOf (intKind P w) a S n
 | .ins C dx fs => H dx = some (.own a) /\ fs.length <= 1000 /\ dx ≠ a /\ h.get? a = some (PySem.W.instObj C dx) /\
   ∃ mA, h.Ns1 dx mA /\ (∀ f, lB (fs.lookup f) (mA f)) /\ PySem.Within mA (fs.map (·.1))
 | .own _ => ∃ o, h.get? a = some o
 | .xd fs => ∃ mA, h.Ns1 a mA /\ ∀ f, lB (fs.lookup f) (mA f)
 | .Cf lo hi => ∃ t u v, h.get? a = some { cls := .type "range", data := .fields #[.int lo t, .int hi u, .int 1 v] }
 | .vo o u => h.get? a = some o /\ bV H h a u
 | .Ec ps => h.get? a = some { cls := .none, data := .fields ps }
 | .met f x => h.get? a = some (PySem.W.methodObj (.ref f) (.ref x))
 | .ext φ => φ h /\ (∃ o, h.get? a = some o) /\ ∀ h1 h2 : Heap, φ h1 -> (∀ o, h1.get? a = some o -> h2.get? a = some o) -> φ h2
def jk (H : Hp) (h : Heap) : Prop := ∀ a o, H a = some o -> bV P w H h a o
end
section
variable {P : Program} {w : World} {H H' : Hp} {h h' : Heap} {a : Addr} {o : HO}
theorem bV.lt (x : bV P w H h a o) : a < h.objs.size := by
 cases o with
 | lst xs => obtain ⟨_, _, _, _, e⟩ := x; exact Td e
 | tup xs => obtain ⟨_, _, _, p⟩ := x; exact p.lt
 | dK kvs => obtain ⟨_, _, _, _, o, _, _, e, _⟩ := x; exact Td e
 | dT kvs => obtain ⟨_, _, _, _, o, _, _, e, _⟩ := x; exact Td e
 | set S n => obtain ⟨o, _, _, _, e, _⟩ := x; exact Td e
 | ins C dx fs => obtain ⟨_, _, _, e, _⟩ := x; exact Td e
 | own y => obtain ⟨_, e⟩ := x; exact Td e
 | xd fs => obtain ⟨_, ⟨_, _, _, e, _⟩, _⟩ := x; exact Td e
 | Cf lo hi => obtain ⟨_, _, _, e⟩ := x; exact Td e
 | vo ob u => obtain ⟨e, _⟩ := x; exact Td e
 | Ec ps => exact Td (show h.get? a = some _ from x)
 | met f y => exact Td (show h.get? a = some _ from x)
 | ext φ => obtain ⟨_, ⟨_, e⟩, _⟩ := x; exact Td e
theorem Paired.vQ {α β : Type} {F G : α -> β -> Prop} : ∀ {l₁ : List α} {l₂ : List β}, Paired F l₁ l₂ -> (∀ a b, F a b -> G a b) -> Paired G l₁ l₂
 | _, _, .nil, _ => .nil
 | _, _, .cons r t, f => .cons (f _ _ r) (Paired.vQ t f)
theorem Paired.imp' {α β : Type} {F G : α -> β -> Prop} (f : ∀ a b, F a b -> G a b) {l₁ : List α} {l₂ : List β} (r : Paired F l₁ l₂) : Paired G l₁ l₂ := Paired.vQ r f
theorem bV.j8 (x : bV P w H h a o) (k : ∀ b u, (b = a \/ H b = some (.own a)) -> h.get? b = some u -> h'.get? b = some u)
  (ho : ∀ b, H b = some (.own a) -> H' b = some (.own a)) (ht : ∀ b xs, H b = some (.tup xs) -> H' b = some (.tup xs)) : bV P w H' h' a o := by
 induction o with
 | lst xs => obtain ⟨z, aA, n, r, e⟩ := x; exact ⟨z, aA, n, r, k _ _ (.inl rfl) e⟩
 | tup xs => obtain ⟨z, aA, r, ob, e, c⟩ := x; exact ⟨z, aA, r, ob, k _ _ (.inl rfl) e, c⟩
 | dK kvs => obtain ⟨z, y, vs, r, ob, es, ep, e, c⟩ := x; exact ⟨z, y, vs, r, ob, es, ep, k _ _ (.inl rfl) e, c⟩
 | dT kvs =>
  obtain ⟨z, y, xs, r, ob, es, ep, e, c⟩ := x
  exact ⟨z, y, xs, Paired.vQ r fun p q z => ⟨z.1, ht _ _ z.2.1, z.2.2⟩, ob, es, ep, k _ _ (.inl rfl) e, c⟩
 | set S n => obtain ⟨ob, es, ep, t, e, c⟩ := x; exact ⟨ob, es, ep, t, k _ _ (.inl rfl) e, c⟩
 | ins C dx fs =>
  obtain ⟨d, z, ne, e, mA, ⟨od, es, ep, e2, c⟩, r⟩ := x
  exact ⟨ho _ d, z, ne, k _ _ (.inl rfl) e, mA, ⟨od, es, ep, k _ _ (.inr d) e2, c⟩, r⟩
 | own y => obtain ⟨ob, e⟩ := x; exact ⟨ob, k _ _ (.inl rfl) e⟩
 | xd fs => obtain ⟨mA, ⟨od, es, ep, e, c⟩, r⟩ := x; exact ⟨mA, ⟨od, es, ep, k _ _ (.inl rfl) e, c⟩, r⟩
 | Cf lo hi => obtain ⟨t, u, v, e⟩ := x; exact ⟨t, u, v, k _ _ (.inl rfl) e⟩
 | vo ob u ih => obtain ⟨e, q⟩ := x; exact ⟨k _ _ (.inl rfl) e, ih q⟩
 | Ec ps =>
  have e : h.get? a = some { cls := .none, data := .fields ps } := x
  show h'.get? a = some { cls := .none, data := .fields ps }
  exact k a _ (.inl rfl) e
 | met f y =>
  have e : h.get? a = some (PySem.W.methodObj (.ref f) (.ref y)) := x
  show h'.get? a = some (PySem.W.methodObj (.ref f) (.ref y))
  exact k a _ (.inl rfl) e
 | ext φ => obtain ⟨p, ⟨o, e⟩, st⟩ := x; exact ⟨st _ _ p fun o q => k _ _ (.inl rfl) q, ⟨o, k _ _ (.inl rfl) e⟩, st⟩
theorem jk.lt (x : jk P w H h) (e : H a = some o) : a < h.objs.size := (x a o e).lt
theorem jk.fresh (x : jk P w H h) (e : h.objs.size <= a) : H a = none := by
 cases q : H a with
 | none => rfl
 | some u => exact absurd (Tz (x.lt q) e) (Uj _)
theorem jk.kept (x : jk P w H h) (k : ∀ b u, h.get? b = some u -> h'.get? b = some u) : jk P w H h' := fun a o e =>
 (x a o e).j8 (fun b u _ q => k b u q) (fun _ q => q) fun _ _ q => q
theorem jk.laid (x : jk P w H h) (k : ∀ b u, h.get? b = some u -> h'.get? b = some u) (hp : h.objs.size <= a) (new : bV P w (upd H a o) h' a o) : jk P w (upd H a o) h' := fun b u e => by
 have hn := x.fresh hp
 by_cases hb : b = a
 ·subst hb; rw [ae] at e; cases e; exact new
 ·rw [aq hb] at e
  exact (x b u e).j8 (fun c v _ q => k c v q) (fun c q => by rw [aq (ax q hn)]; exact q) fun c xs q => by rw [aq (ax q hn)]; exact q
end
def Rd (H : Hp) (a : Addr) (u : HO) : Prop := H a = some u \/ ∃ o, H a = some (.vo o u)
theorem Rd.of {H : Hp} {a : Addr} {u : HO} (h : H a = some u) : Rd H a u := .inl h
theorem Rd.ok {P : Program} {w : World} {H : Hp} {h : Heap} {a : Addr} {u : HO} (r : Rd H a u) (x : jk P w H h) : bV P w H h a u := by
 rcases r with r | ⟨o, r⟩
 ·exact x a u r
 ·obtain ⟨_, q⟩ := x a _ r
  exact q
def J2 : Option HO -> Prop
 | some (.lst _) => True
 | some (.dK _) => True
 | some (.dT _) => True
 | some (.set _ _) => True
 | some (.ins _ _ _) => True
 | some (.ext _) => True
 | _ => False
section
variable {P : Program} {w : World} {H : Hp} {h h' : Heap} {x e : Addr} {o' : HO}
theorem jk.write (ok : jk P w H h) (mu : J2 (H x)) (he : e = x \/ H e = some (.own x)) (k : ∀ b u, b ≠ e -> h.get? b = some u -> h'.get? b = some u) (yE : ∃ u, h'.get? e = some u)
  (new : bV P w (upd H x o') h' x o') : jk P w (upd H x o') h' := fun b u q => by
 have Hb : ∀ c y, H c = some (.own y) -> c ≠ x := fun c y r z => by subst z; rw [r] at mu; exact mu
 have LS : ∀ c xs, H c = some (.tup xs) -> c ≠ x := fun c xs r z => by subst z; rw [r] at mu; exact mu
 by_cases hb : b = x
 ·subst hb; rw [ae] at q; cases q; exact new
 ·rw [aq hb] at q
  by_cases Gh : b = e
  ·have q' : H b = some (.own x) := by
    rcases he with z | z
    ·exact absurd (Gh.trans z) hb
    ·rw [Gh]; exact z
   rw [q] at q'; cases q'
   obtain ⟨v, hv⟩ := yE
   exact ⟨v, by rw [Gh]; exact hv⟩
  ·refine (ok b u q).j8 (fun c v hc r => k c v ?_ r) (fun c r => by rw [aq (Hb c b r)]; exact r) fun c xs r => by rw [aq (LS c xs r)]; exact r
   rcases hc with rfl | hc
   ·exact Gh
   ·rintro rfl
    rcases he with z | z
    ·exact Hb c b hc z
    ·rw [hc] at z; cases z; exact hb rfl
end
structure Un (fs ex : List Addr) (H H' : Hp) (h h' : Heap) : Prop where
 keep : ∀ b o, h.get? b = some o -> H b = none -> b ∉ fs -> b ∉ ex -> h'.get? b = some o
 slot : ∀ b o, h.get? b = some o -> H b = none -> b ∈ fs -> b ∉ ex -> ∃ sl, h'.get? b = some { o with slots := sl }
 free : ∀ b o, h.get? b = some o -> H b = none -> b ∉ ex -> H' b = none
 there : ∀ b o, h.get? b = some o -> b ∉ ex -> ∃ o', h'.get? b = some o'
 eL : ∀ b xs, H b = some (.tup xs) -> H' b = some (.tup xs)
 iR : ∀ b o u, H b = some (.vo o u) -> H' b = some (.vo o u)
 ji : ∀ b ps, H b = some (.Ec ps) -> ∃ more, H' b = some (.Ec (ps ++ more))
section
variable {fs Mw ex MC : List Addr} {H H1 H2 : Hp} {h h1 h2 h' : Heap} {a x e : Addr} {o : HO}
theorem Un.any (u : Un fs ex H H1 h h1) {b : Addr} {ob : Obj} (q : h.get? b = some ob) (n : H b = none) (hx : b ∉ ex) : ∃ sl, h1.get? b = some { ob with slots := sl } := by
 by_cases hb : b ∈ fs
 ·exact u.slot b ob q n hb hx
 ·exact ⟨ob.slots, u.keep b ob q n hb hx⟩
theorem Un.trans (a : Un fs ex H H1 h h1) (b : Un fs ex H1 H2 h1 h2) : Un fs ex H H2 h h2 where
 keep := fun c ob q n hc hx => b.keep c ob (a.keep c ob q n hc hx) (a.free c ob q n hx) hc hx
 slot := fun c ob q n hc hx => by
  obtain ⟨sl, e1⟩ := a.slot c ob q n hc hx
  obtain ⟨Dv, e2⟩ := b.slot c _ e1 (a.free c ob q n hx) hc hx
  exact ⟨Dv, e2⟩
 free := fun c ob q n hx => by
  obtain ⟨o', e1⟩ := a.there c ob q hx
  exact b.free c o' e1 (a.free c ob q n hx) hx
 there := fun c ob q hx => by
  obtain ⟨o', e1⟩ := a.there c ob q hx
  exact b.there c o' e1 hx
 eL := fun c xs q => b.eL c xs (a.eL c xs q)
 iR := fun c ob xs q => b.iR c ob xs (a.iR c ob xs q)
 ji := fun c ps q => by
  obtain ⟨m1, e1⟩ := a.ji c ps q
  obtain ⟨m2, e2⟩ := b.ji c _ e1
  exact ⟨m1 ++ m2, by rw [e2, Array.append_assoc]⟩
theorem Un.kept (k : ∀ b u, h.get? b = some u -> h'.get? b = some u) : Un fs ex H H h h' :=
 ⟨fun b ob q _ _ _ => k b ob q, fun b ob q _ _ _ => ⟨ob.slots, k b ob q⟩, fun _ _ _ n _ => n, fun b ob q _ => ⟨ob, k b ob q⟩, fun _ _ q => q, fun _ _ _ q => q, fun _ ps q => ⟨#[], by rw [q]; simp⟩⟩
theorem Un.refl : Un fs ex H H h h := Un.kept fun _ _ q => q
theorem Un.laid (k : ∀ b u, h.get? b = some u -> h'.get? b = some u) (hp : h.objs.size <= a) (hn : H a = none) : Un fs ex H (upd H a o) h h' where
 keep := fun b u q _ _ _ => k b u q
 slot := fun b u q _ _ _ => ⟨u.slots, k b u q⟩
 free := fun b u q n _ => by rw [aq (Tu (Tz (Td q) hp))]; exact n
 there := fun b u q _ => ⟨u, k b u q⟩
 eL := fun b xs q => by rw [aq (ax q hn)]; exact q
 iR := fun b u xs q => by rw [aq (ax q hn)]; exact q
 ji := fun b ps q => ⟨#[], by rw [aq (ax q hn), q]; simp⟩
theorem Un.write (mu : J2 (H x)) (he : e = x \/ H e = some (.own x)) (k : ∀ b u, b ≠ e -> h.get? b = some u -> h'.get? b = some u) (yE : ∃ u, h'.get? e = some u) : Un fs ex H (upd H x o) h h' := by
 have hx : ∀ b, H b = none -> b ≠ x := fun b n z => by subst z; rw [n] at mu; exact mu
 have hb : ∀ b, H b = none -> b ≠ e := fun b n z => by
  subst z
  rcases he with r | r
  ·exact hx b n r
  ·rw [n] at r; cases r
 have hm : ∀ b u, H b = some u -> ¬ J2 (some u) -> b ≠ x := fun b u q nm z => by subst z; rw [q] at mu; exact nm mu
 refine ⟨fun b u q n _ _ => k b u (hb b n) q, fun b u q n _ _ => ⟨u.slots, k b u (hb b n) q⟩, fun b u q n _ => by rw [aq (hx b n)]; exact n, fun b u q _ => ?_,
  fun b xs q => by rw [aq (hm b _ q fun z => z)]; exact q, fun b u xs q => by rw [aq (hm b _ q fun z => z)]; exact q, fun b ps q => ⟨#[], by rw [aq (hm b _ q fun z => z), q]; simp⟩⟩
 by_cases Gh : b = e
 ·subst Gh; exact yE
 ·exact ⟨u, k b u Gh q⟩
theorem Un.mono (u : Un fs ex H H1 h h1) (hs : ∀ b ∈ fs, b ∈ Mw) (hx : ∀ b ∈ ex, b ∈ MC) : Un Mw MC H H1 h h1 :=
 ⟨fun b ob q n hb he => u.keep b ob q n (fun z => hb (hs b z)) fun z => he (hx b z), fun _ _ q n _ he => u.any q n fun z => he (hx _ z), fun b ob q n he => u.free b ob q n fun z => he (hx b z), fun b ob q he => u.there b ob q fun z => he (hx b z), u.eL, u.iR, u.ji⟩
end
def E8 (h : Heap) (H : Hp) : List Addr := (List.range h.objs.size).filter fun a => (H a).isSome
def sF (h : Heap) (H : Hp) : Heap := PySem.W.hideAll h (E8 h H)
theorem yf (h : Heap) (H : Hp) : (sF h H).objs.size = h.objs.size := PySem.W.hideAll_size _ _
theorem Ap {h : Heap} {H : Hp} {b : Addr} {o : Obj} (e : h.get? b = some o) (n : H b = none) : (sF h H).get? b = some o :=
 PySem.W.hideAll_get _ e fun hm => by
  have q : (H b).isSome = true := (TH.mp hm).2
  rw [n] at q; simp at q
theorem C8 {h : Heap} {H : Hp} {b : Addr} {o : Obj} (e : (sF h H).get? b = some o) : h.get? b = some o /\ H b = none := by
 have e' : h.get? b = some o := PySem.W.of_hideAll (E8 h H) e
 refine ⟨e', ?_⟩
 cases q : H b with
 | none => rfl
 | some x =>
  have hm : b ∈ E8 h H := TH.mpr ⟨List.mem_range.mpr (Td e'), by simp [q]⟩
  have z : (sF h H).get? b = none := PySem.W.hideAll_none (E8 h H) hm
  rw [z] at e; cases e
def DQ (g h : Heap) (L : Addr) : List (Addr × Obj) := (List.range h.objs.size).filterMap fun a => if a = L \/ (g.get? a).isSome = true then none else (h.get? a).map fun o => (a, o)
def rest (g h : Heap) (L d : Addr) : List (Addr × Obj) := (DQ g h L).filter fun p => decide (p.1 ≠ d)
structure Mod (K : VN) (mg : Str -> Option Value) (base : Heap) : Prop where
 wZ : K.In base
 glob : base.Ns mainGlobals mg
 blt : ∃ mb, base.Ns builtinsNs mb /\ ∀ x : Str, x ≠ "__name__" -> mb x = bootBuiltins x
 nolimit : base.NoLimit
structure Cx where
 prog : Program
 w : World
 K : VN
 mg : Str -> Option Value
 base : Heap
 A : Around
 N : List Str
 s₀ : Shared
 H₀ : Hp
 env : Env
 outer : List Env
 stack : List Env
 ex : List Addr
 fn : Str -> Bool
 calm : Bool
 pn : List (Addr × Obj)
 xe : Value -> Shared -> Prop
def kC (l : List Env) : List Addr := l.filterMap (·.frame)
abbrev Cx.fs (X : Cx) : List Addr := kC X.outer
def Ks (sc : Scope) (x : Str) : Prop := sc.names.lookup x = some .local \/ sc.names.lookup x = some .cell \/ sc.names.lookup x = some .free
def Loc (sc : Scope) (x : Str) : Prop := sc.names.lookup x = some .local \/ sc.names.lookup x = some .cell
def Look (env : Env) (h : Heap) (m : Str -> Option Value) (x : Str) (u : Value) : Prop :=
 (env.kindOf x = some .local /\ m x = some u) \/ ((env.kindOf x = some .cell \/ env.kindOf x = some .free) /\ ∃ c, env.cells.lookup x = some c /\ h.IsCell c (some u))
structure Cx.Ok (X : Cx) : Prop where
 mod : Mod X.K X.mg X.base
 kind : X.env.scope.kind = .function
 glob : X.env.globals = mainGlobals
 blt : X.env.builtins = builtinsNs
 above : X.s₀.heap.objs.size <= X.env.locals
 inj : ∀ x y c, X.env.cells.lookup x = some c -> X.env.cells.lookup y = some c -> x = y
 has : ∀ x, (X.env.kindOf x = some .cell \/ X.env.kindOf x = some .free) -> ∃ c, X.env.cells.lookup x = some c
 GN : ∀ x c, X.fn x = true -> X.env.cells.lookup x = some c -> X.s₀.heap.objs.size <= c
 hd : X.calm = true -> X.A.handled = none
 frames : X.A.frames = some X.stack
 Ih : X.stack = X.outer \/ (X.stack = X.env :: X.outer /\ X.env.frame = some X.env.locals)
 IB : ∀ b ∈ X.ex, b ≠ X.env.locals /\ ∀ x c, X.env.cells.lookup x = some c -> c ≠ b
 bs : ∀ b o, X.base.get? b = some o -> X.s₀.heap.get? b = some o /\ X.H₀ b = none
 zD : X.base.objs.size <= X.s₀.heap.objs.size
 yV : ∀ b o, X.base.get? b = some o -> b ∉ X.ex
 zb : ∀ b ∈ X.ex, b ∉ X.fs
 lV : X.s₀.heap.FunFrames X.base X.outer
 Dz : ∀ b ∈ X.fs, X.H₀ b = none
structure Inv (X : Cx) (pins : List (Addr × Obj)) (σ : List (Option V)) (H : Hp) (s : Shared) : Prop where
 ok : X.Ok
 os : s.os = X.s₀.os
 bare : AllBare s.gens
 base : Un X.fs X.ex X.H₀ H X.s₀.heap s.heap
 loc : ∃ m, s.heap.Ns X.env.locals m /\ ∀ (i : Nat) (x : Str) (v : V), X.N[i]? = some x -> σ[i]? = some (some v) -> Ks X.env.scope x -> ∃ u, RelV v u /\ Look X.env s.heap m x u
 cell : ∀ x c, X.env.cells.lookup x = some c -> ∃ v, s.heap.IsCell c v
 free : H X.env.locals = none
 iK : ∀ x c, X.env.cells.lookup x = some c -> H c = none
 pin : ∀ p ∈ X.pn ++ pins, s.heap.get? p.1 = some p.2 /\ H p.1 = none /\ p.1 ≠ X.env.locals /\ p.1 ∉ X.fs /\ ∀ v, p.2.data ≠ .cell v
 aV : jk X.prog X.w H s.heap
 len : σ.length = X.N.length
section
variable {X : Cx} {pins : List (Addr × Obj)} {σ : List (Option V)} {H H' : Hp} {s : Shared} {h' : Heap}
theorem Cx.Ok.KI (ok : X.Ok) {b : Addr} {o : Obj} (e : X.base.get? b = some o) : b ∉ X.fs := fun hb => by
 have := (ok.lV.mem hb).1
 rw [e] at this; cases this
theorem Inv.bs (I : Inv X pins σ H s) : ∀ b o, X.base.get? b = some o -> s.heap.get? b = some o /\ H b = none := fun b o e =>
 ⟨I.base.keep b o (I.ok.bs b o e).1 (I.ok.bs b o e).2 (I.ok.KI e) (I.ok.yV b o e), I.base.free b o (I.ok.bs b o e).1 (I.ok.bs b o e).2 (I.ok.yV b o e)⟩
theorem Inv.bk (I : Inv X pins σ H s) : ∀ b o, X.base.get? b = some o -> s.heap.get? b = some o := fun b o e => (I.bs b o e).1
theorem Inv.mod (I : Inv X pins σ H s) : Mod X.K X.mg X.base := I.ok.mod
theorem Inv.nE (I : Inv X pins σ H s) : X.K.In s.heap := I.ok.mod.wZ.keeps I.bk
theorem Inv.nolimit (I : Inv X pins σ H s) : s.heap.NoLimit := I.ok.mod.nolimit.keeps I.bk
theorem Inv.fr (I : Inv X pins σ H s) : ∃ m, Fr X.base X.env.locals s.heap m :=
 let ⟨m, hn, _⟩ := I.loc
 ⟨m, hn, I.bk, S8 I.ok.zD I.ok.above⟩
theorem Inv.lt (I : Inv X pins σ H s) : X.env.locals < s.heap.objs.size := let ⟨_, hn, _⟩ := I.loc; hn.lt
theorem Inv.sz (I : Inv X pins σ H s) : X.s₀.heap.objs.size <= s.heap.objs.size := S8 I.ok.above (Vs I.lt)
theorem Inv.Iu (I : Inv X pins σ H s) {a : Addr} (h : s.heap.objs.size <= a) : a ∉ X.fs := fun hb => by
 obtain ⟨_, o, ho, _⟩ := I.ok.lV.mem hb
 exact absurd (Tz (Td ho) (S8 I.sz h)) (Uj _)
theorem Inv.Bs (I : Inv X pins σ H s) : ∀ x c, X.env.cells.lookup x = some c -> c ≠ X.env.locals := fun x c e z => by
 obtain ⟨v, o, ho, hd⟩ := I.cell x c e
 obtain ⟨m, ⟨o', es, ep, k8, vn, _⟩, _⟩ := I.loc
 rw [z, k8] at ho; cases ho; rw [vn] at hd; cases hd
theorem Inv.lV (I : Inv X pins σ H s) : s.heap.FunFrames X.base X.outer := by
 have all : ∀ (l : List Env), (∀ b ∈ kC l, b ∈ X.fs) -> X.s₀.heap.FunFrames X.base l -> s.heap.FunFrames X.base l := by
  intro l
  induction l with
  | nil => intro _ _; trivial
  | cons env r ih =>
   intro hs hl
   obtain ⟨hk, ⟨L, o, hf, hn, ho, hd⟩, hr⟩ := hl
   have hL : L ∈ X.fs := hs L (by unfold kC; rw [List.filterMap_cons, hf]; exact S0)
   obtain ⟨sl, e⟩ := I.base.slot L o ho (I.ok.Dz L hL) hL fun z => I.ok.zb L z hL
   exact ⟨hk, ⟨L, _, hf, hn, e, hd⟩, ih (fun b hb => hs b (by unfold kC; rw [List.filterMap_cons, hf]; exact SY _ hb)) hr⟩
 exact all X.outer (fun _ hb => hb) I.ok.lV
theorem Inv.stack (I : Inv X pins σ H s) : s.heap.FunFrames X.base X.stack := by
 rcases I.ok.Ih with e | ⟨e, hf⟩
 ·rw [e]; exact I.lV
 ·rw [e]
  obtain ⟨m, hn, _⟩ := I.loc
  refine .cons (by rw [I.ok.kind]; decide) hf hn ?_ I.lV
  exact U2 (S8 I.ok.zD I.ok.above)
theorem Inv.kg (I : Inv X pins σ H s) : ∀ b ∈ kC X.stack, b ∈ X.env.locals :: X.fs := fun b hb => by
 rcases I.ok.Ih with e | ⟨e, hf⟩
 ·rw [e] at hb; exact SY _ hb
 ·rw [e] at hb
  unfold kC at hb
  rw [List.filterMap_cons, hf] at hb
  exact hb
theorem Inv.nJ (I : Inv X pins σ H s) : ∀ b ∈ kC X.stack, H b = none := fun b hb => by
 rcases S2.mp (I.kg b hb) with e | hb
 ·rw [e]; exact I.free
 ·obtain ⟨_, o, ho, _⟩ := I.ok.lV.mem hb
  exact I.base.free b o ho (I.ok.Dz b hb) fun z => I.ok.zb b z hb
theorem Inv.step {g' : Array GenState} {t' : Nat} {d' : Drawn} {ch : List Addr} (I : Inv X pins σ H s)
  (nP : ∀ b ∈ ch, (b ∈ X.ex \/ X.s₀.heap.objs.size <= b) /\ b ≠ X.env.locals /\ (∀ x c, X.env.cells.lookup x = some c -> c ≠ b) /\ ∀ p ∈ X.pn ++ pins, p.1 ≠ b)
  (keep : ∀ b o, b ≠ X.env.locals -> b ∉ X.fs -> b ∉ ch -> s.heap.get? b = some o -> H b = none -> h'.get? b = some o)
  (slot : ∀ b o, b ≠ X.env.locals -> b ∈ X.fs -> b ∉ ch -> s.heap.get? b = some o -> H b = none -> ∃ sl, h'.get? b = some { o with slots := sl }) (free : ∀ b o, b ∉ ch -> s.heap.get? b = some o -> H b = none -> H' b = none)
  (there : ∀ b o, b ∉ ch -> s.heap.get? b = some o -> ∃ o', h'.get? b = some o')
  (eL : ∀ b xs, H b = some (.tup xs) -> H' b = some (.tup xs)) (iR : ∀ b o u, H b = some (.vo o u) -> H' b = some (.vo o u)) (ji : ∀ b ps, H b = some (.Ec ps) -> ∃ more, H' b = some (.Ec (ps ++ more)))
  (ns : ∀ m, s.heap.Ns X.env.locals m -> h'.Ns X.env.locals m) (aV : jk X.prog X.w H' h') (hg : AllBare g') :
  Inv X pins σ H' { s with heap := h', gens := g', drawn := d', toks := t' } := by
 have NT : ∀ b o, X.s₀.heap.get? b = some o -> b ≠ X.env.locals := fun b o e => Tu (Tz (Td e) I.ok.above)
 have Jw : ∀ b o, X.s₀.heap.get? b = some o -> b ∉ X.ex -> b ∉ ch := fun b o e hx hb => by
  rcases (nP b hb).1 with z | z
  ·exact hx z
  ·exact absurd (Tz (Td e) z) (Uj _)
 have cellK : ∀ x c, X.env.cells.lookup x = some c -> ∀ v, s.heap.IsCell c v -> h'.IsCell c v := fun x c e v ⟨o, ho, hd⟩ => by
  have zV : c ∉ ch := fun z => (nP c z).2.2.1 x c e rfl
  by_cases hc : c ∈ X.fs
  ·obtain ⟨sl, q⟩ := slot c o (I.Bs x c e) hc zV ho (I.iK x c e)
   exact ⟨_, q, hd⟩
  ·exact ⟨o, keep c o (I.Bs x c e) hc zV ho (I.iK x c e), hd⟩
 refine ⟨I.ok, I.os, hg, ⟨fun b o e n hb hx => ?_, fun b o e n hb hx => ?_, fun b o e n hx => ?_, fun b o e hx => ?_, fun b xs e => eL b xs (I.base.eL b xs e), fun b o xs e => iR b o xs (I.base.iR b o xs e), fun b ps e => ?_⟩, ?_, fun x c e => ?_, ?_, fun x c e => ?_, fun p hp => ?_, aV, I.len⟩
 ·exact keep b o (NT b o e) hb (Jw b o e hx) (I.base.keep b o e n hb hx) (I.base.free b o e n hx)
 ·obtain ⟨sl, e1⟩ := I.base.slot b o e n hb hx
  obtain ⟨Dv, e2⟩ := slot b _ (NT b o e) hb (Jw b o e hx) e1 (I.base.free b o e n hx)
  exact ⟨Dv, e2⟩
 ·obtain ⟨o', e1⟩ := I.base.there b o e hx
  exact free b o' (Jw b o e hx) e1 (I.base.free b o e n hx)
 ·obtain ⟨o', e1⟩ := I.base.there b o e hx
  exact there b o' (Jw b o e hx) e1
 ·obtain ⟨m1, e1⟩ := I.base.ji b ps e
  obtain ⟨m2, e2⟩ := ji b _ e1
  exact ⟨m1 ++ m2, by rw [e2, Array.append_assoc]⟩
 ·obtain ⟨m, hn, hl⟩ := I.loc
  refine ⟨m, ns m hn, fun i x v e1 e2 e3 => ?_⟩
  obtain ⟨u, r, l⟩ := hl i x v e1 e2 e3
  refine ⟨u, r, ?_⟩
  rcases l with l | ⟨k, c, e, z⟩
  ·exact .inl l
  ·exact .inr ⟨k, c, e, cellK x c e _ z⟩
 ·obtain ⟨v, z⟩ := I.cell x c e
  exact ⟨v, cellK x c e v z⟩
 ·obtain ⟨m, ⟨o, _, _, ho, _⟩, _⟩ := I.loc
  exact free _ o (fun z => (nP _ z).2.1 rfl) ho I.free
 ·obtain ⟨v, o, ho, hd⟩ := I.cell x c e
  exact free c o (fun z => (nP c z).2.2.1 x c e rfl) ho (I.iK x c e)
 ·obtain ⟨e, n, ne, nf, d⟩ := I.pin p hp
  have zV : p.1 ∉ ch := fun z => (nP p.1 z).2.2.2 p hp rfl
  exact ⟨keep p.1 p.2 ne nf zV e n, free p.1 p.2 zV e n, ne, nf, d⟩
theorem Inv.un {t' : Nat} (I : Inv X pins σ H s) (u : Un X.fs [] H H' s.heap h') (aV : jk X.prog X.w H' h') : Inv X pins σ H' { s with heap := h', toks := t' } := by
 obtain ⟨m, ⟨o, es, ep, ho, r⟩, _⟩ := id I.loc
 obtain ⟨sl, hL⟩ := u.any ho I.free (by simp)
 exact I.step (g' := s.gens) (d' := s.drawn) (ch := []) (fun _ z => nomatch z) (fun b o _ hb _ e n => u.keep b o e n hb (by simp)) (fun b o _ hb _ e n => u.slot b o e n hb (by simp)) (fun b o _ e n => u.free b o e n (by simp)) (fun b o _ e => u.there b o e (by simp)) u.eL u.iR u.ji (fun m' hm => by
  obtain ⟨o', zt, zB, k8, r'⟩ := hm
  rw [ho] at k8; cases k8
  exact ⟨_, zt, zB, hL, r'⟩) aV I.bare
theorem Inv.call {g' : Array GenState} {t' : Nat} {d' : Drawn} {ch : List Addr} (I : Inv X pins σ H s) (u : Un (kC X.stack) ch H H' s.heap h') (aV : jk X.prog X.w H' h') (hg : AllBare g')
  (nP : ∀ b ∈ ch, (b ∈ X.ex \/ X.s₀.heap.objs.size <= b) /\ b ≠ X.env.locals /\ (∀ x c, X.env.cells.lookup x = some c -> c ≠ b) /\ ∀ p ∈ X.pn ++ pins, p.1 ≠ b) :
  Inv X pins σ H' { s with heap := h', gens := g', drawn := d', toks := t' } := by
 obtain ⟨m, ⟨o, es, ep, ho, r⟩, _⟩ := id I.loc
 obtain ⟨sl, hL⟩ := u.any ho I.free fun z => (nP _ z).2.1 rfl
 exact I.step (ch := ch) nP (fun b o hL hb hc e n => u.keep b o e n (fun z => (S2.mp (I.kg b z)).elim hL hb) hc) (fun b o _ _ hc e n => u.any e n hc) (fun b o hc e n => u.free b o e n hc) (fun b o hc e => u.there b o e hc) u.eL u.iR u.ji (fun m' hm => by
  obtain ⟨o', zt, zB, k8, r'⟩ := hm
  rw [ho] at k8; cases k8
  exact ⟨_, zt, zB, hL, r'⟩) aV hg
theorem Inv.turned {t' : Nat} {it : Addr} (I : Inv X pins σ H s) (k : ∀ b o, b ≠ it -> s.heap.get? b = some o -> h'.get? b = some o) (hn : H it = none) (hL : it ≠ X.env.locals)
  (h1 : it ∈ X.ex \/ X.s₀.heap.objs.size <= it) (h2 : ∀ x c, X.env.cells.lookup x = some c -> c ≠ it) (h3 : ∀ p ∈ X.pn ++ pins, p.1 ≠ it) : Inv X pins σ H { s with heap := h', toks := t' } := by
 have Io : ∀ b u, H b = some u -> b ≠ it := fun b u e z => by rw [z, hn] at e; cases e
 refine I.step (g' := s.gens) (d' := s.drawn) (ch := [it]) (fun b hb => ?_) (fun b o _ _ hc e _ => k b o (fun z => hc (by simp [z])) e) (fun b o _ _ hc e _ => ⟨o.slots, k b o (fun z => hc (by simp [z])) e⟩) (fun _ _ _ _ n => n)
  (fun b o hc e => ⟨o, k b o (fun z => hc (by simp [z])) e⟩) (fun _ _ e => e) (fun _ _ _ e => e) (fun b ps e => ⟨#[], by rw [e]; simp⟩) (fun m hm => ?_) (fun b u e => ?_) I.bare
 ·have e : b = it := by simpa using hb
  subst e
  exact ⟨h1, hL, h2, h3⟩
 ·obtain ⟨o, es, ep, ho, r⟩ := hm
  exact ⟨o, es, ep, k _ o (Vl hL) ho, r⟩
 ·refine (I.aV b u e).j8 (fun c v hc q => k c v ?_ q) (fun _ q => q) fun _ _ q => q
  rcases hc with z | z
  ·rw [z]; exact Io b u e
  ·exact Io c _ z
theorem Inv.tok (I : Inv X pins σ H s) (t : Nat) : Inv X pins σ H { s with toks := t } := I.un (h' := s.heap) (t' := t) Un.refl I.aV
theorem Inv.kept {t' : Nat} (I : Inv X pins σ H s) (k : ∀ b u, s.heap.get? b = some u -> h'.get? b = some u) : Inv X pins σ H { s with heap := h', toks := t' } := I.un (Un.kept k) (I.aV.kept k)
theorem Inv.laid {a : Addr} {o : HO} {t' : Nat} (I : Inv X pins σ H s) (k : ∀ b u, s.heap.get? b = some u -> h'.get? b = some u) (hp : s.heap.objs.size <= a) (new : bV X.prog X.w (upd H a o) h' a o) :
  Inv X pins σ (upd H a o) { s with heap := h', toks := t' } := I.un (Un.laid k hp (I.aV.fresh hp)) (I.aV.laid k hp new)
theorem Inv.write {x e : Addr} {o : HO} {t' : Nat} (I : Inv X pins σ H s) (mu : J2 (H x)) (he : e = x \/ H e = some (.own x)) (k : ∀ b u, b ≠ e -> s.heap.get? b = some u -> h'.get? b = some u) (yE : ∃ u, h'.get? e = some u)
  (new : bV X.prog X.w (upd H x o) h' x o) : Inv X pins σ (upd H x o) { s with heap := h', toks := t' } := I.un (Un.write mu he k yE) (I.aV.write mu he k yE new)
theorem Inv.weak {σ' : List (Option V)} (I : Inv X pins σ H s) (hl : σ'.length = σ.length) (w : ∀ (i : Nat) v, σ'[i]? = some (some v) -> σ[i]? = some (some v)) : Inv X pins σ' H s :=
 ⟨I.ok, I.os, I.bare, I.base, let ⟨m, hn, lR⟩ := I.loc; ⟨m, hn, fun i x v e1 e2 e3 => lR i x v e1 (w i v e2) e3⟩, I.cell, I.free, I.iK, I.pin, I.aV, hl.trans I.len⟩
theorem Inv.w6 {Ez : List (Addr × Obj)} (I : Inv X pins σ H s) (h : ∀ p ∈ Ez, s.heap.get? p.1 = some p.2 /\ H p.1 = none /\ p.1 ≠ X.env.locals /\ p.1 ∉ X.fs /\ ∀ v, p.2.data ≠ .cell v) : Inv X Ez σ H s :=
 ⟨I.ok, I.os, I.bare, I.base, I.loc, I.cell, I.free, I.iK, fun p hp => (Ts.mp hp).elim (fun z => I.pin p (Uz _ z)) (h p), I.aV, I.len⟩
theorem uS {N : List Str} (hN : N.Nodup) {i j : Nat} {x : Str} (a : N[i]? = some x) (b : N[j]? = some x) : i = j := by
 obtain ⟨h1, e1⟩ := Tk.mp a
 obtain ⟨h2, e2⟩ := Tk.mp b
 exact (List.getElem_inj hN).mp (e1.trans e2.symm)
theorem re {M : Model} {A : Around} {E : Value -> Shared -> Prop} {i : Nat} {x : Str} {v : V} {u : Value} {Q : Unit -> Shared -> Prop} (I : Inv X pins σ H s) (hN : X.N.Nodup) (hi : X.N[i]? = some x) (hx : Loc X.env.scope x) (r : RelV v u)
  (h : ∀ s', Inv X pins (σ.set i (some v)) H s' -> (∃ a, Heap.SameBut a s.heap s'.heap /\ (a = X.env.locals \/ X.env.cells.lookup x = some a)) -> Q () s') (hf : X.fn x = true \/ X.env.scope.names.lookup x = some .local := by first | exact .inl rfl | exact .inr rfl | assumption) : wpAny M A (storeName X.env x u) Q E s := by
 obtain ⟨m, hn, hl⟩ := id I.loc
 have MB : (X.env.scope.kind == .class || (X.env.scope.kind == .module && X.env.locals != X.env.globals)) = false := by rw [I.ok.kind]; rfl
 have Iy : i < σ.length := by rw [I.len]; exact (Tk.mp hi).1
 have Bs := I.Bs
 have tracked : ∀ {a : Addr} {h' : Heap}, (∃ o, s.heap.get? a = some o /\ H a = none) -> Heap.SameBut a s.heap h' -> jk X.prog X.w H h' := fun {a h'} ha hs b ob e => by
  obtain ⟨_, _, EF⟩ := ha
  refine (I.aV b ob e).j8 (fun c w' hc q => (hs.2 c ?_).trans q) (fun _ q => q) fun _ _ q => q
  rintro rfl
  rcases hc with rfl | hc
  ·rw [EF] at e; cases e
  ·rw [EF] at hc; cases hc
 rcases hx with hk | hk
 ·refine wpAny_storeName_local hk hn (fun h' Rq hs => ?_) MB
  obtain ⟨oL, _, _, JG, _⟩ := id hn
  refine h _ ⟨I.ok, I.os, I.bare, ⟨fun b o e n hb hx => ?_, fun b o e n hb hx => ?_, I.base.free, fun b o e hx => ?_, I.base.eL, I.base.iR, I.base.ji⟩, ⟨_, Rq, fun j y v' e1 e2 e3 => ?_⟩, fun y c e => ?_, I.free, I.iK, fun p hp => ?_, tracked ⟨oL, JG, I.free⟩ hs, by simpa using I.len⟩ ⟨_, hs, .inl rfl⟩
  ·exact (hs.2 b (Tu (Tz (Td e) I.ok.above))).trans (I.base.keep b o e n hb hx)
  ·obtain ⟨sl, e1⟩ := I.base.slot b o e n hb hx
   exact ⟨sl, (hs.2 b (Tu (Tz (Td e) I.ok.above))).trans e1⟩
  ·obtain ⟨o', e1⟩ := I.base.there b o e hx
   exact ⟨o', (hs.2 b (Tu (Tz (Td e) I.ok.above))).trans e1⟩
  ·by_cases hj : j = i
   ·subst hj
    rw [hi] at e1; cases e1
    rw [List.getElem?_set_self Iy] at e2
    cases e2
    exact ⟨u, r, .inl ⟨hk, by simp⟩⟩
   ·rw [List.getElem?_set_ne (Vl hj)] at e2
    obtain ⟨u', r', q⟩ := hl j y v' e1 e2 e3
    refine ⟨u', r', ?_⟩
    rcases q with ⟨k, e⟩ | ⟨k, c, e, z⟩
    ·refine .inl ⟨k, ?_⟩
     have : y ≠ x := fun e => hj (uS hN e1 (e ▸ hi))
     simp [this, e]
    ·exact .inr ⟨k, c, e, z.sameBut hs (Bs y c e)⟩
  ·obtain ⟨w', z⟩ := I.cell y c e
   exact ⟨w', z.sameBut hs (Bs y c e)⟩
  ·obtain ⟨e, n, ne, nf, d⟩ := I.pin p hp
   exact ⟨(hs.2 p.1 ne).trans e, n, ne, nf, d⟩
 ·have L9 : X.fn x = true := by
   rcases hf with z | z
   ·exact z
   ·rw [z] at hk; cases hk
  obtain ⟨c, hc⟩ := I.ok.has x (.inl hk)
  obtain ⟨w', z⟩ := I.cell x c hc
  refine wpAny_storeName_cell I.ok.kind hk hc z (fun h' w5 hs => ?_)
  obtain ⟨oc, MD, Kr⟩ := id z
  refine h { s with heap := h' } ⟨I.ok, I.os, I.bare, ⟨fun b o e n hb hx => ?_, fun b o e n hb hx => ?_, I.base.free, fun b o e hx => ?_, I.base.eL, I.base.iR, I.base.ji⟩, ⟨m, hn.sameBut hs (Vl (Bs x c hc)), fun j y v' e1 e2 e3 => ?_⟩, fun y c' e => ?_, I.free, I.iK, fun p hp => ?_, tracked ⟨oc, MD, I.iK x c hc⟩ hs, by simpa using I.len⟩ ⟨c, hs, .inr hc⟩
  ·exact (hs.2 b (Tu (Tz (Td e) (I.ok.GN x c L9 hc)))).trans (I.base.keep b o e n hb hx)
  ·obtain ⟨sl, e1⟩ := I.base.slot b o e n hb hx
   exact ⟨sl, (hs.2 b (Tu (Tz (Td e) (I.ok.GN x c L9 hc)))).trans e1⟩
  ·obtain ⟨o', e1⟩ := I.base.there b o e hx
   exact ⟨o', (hs.2 b (Tu (Tz (Td e) (I.ok.GN x c L9 hc)))).trans e1⟩
  ·by_cases hj : j = i
   ·subst hj
    rw [hi] at e1; cases e1
    rw [List.getElem?_set_self Iy] at e2
    cases e2
    exact ⟨u, r, .inr ⟨.inl hk, c, hc, w5⟩⟩
   ·rw [List.getElem?_set_ne (Vl hj)] at e2
    obtain ⟨u', r', q⟩ := hl j y v' e1 e2 e3
    refine ⟨u', r', ?_⟩
    rcases q with q | ⟨k, c', e, z'⟩
    ·exact .inl q
    ·refine .inr ⟨k, c', e, z'.sameBut hs ?_⟩
     rintro rfl
     exact hj (uS hN e1 (I.ok.inj _ _ _ e hc ▸ hi))
  ·by_cases Nd : c' = c
   ·subst Nd; exact ⟨_, w5⟩
   ·obtain ⟨w2, z2⟩ := I.cell y c' e
    exact ⟨w2, z2.sameBut hs Nd⟩
  ·obtain ⟨e, n, ne, nf, d⟩ := I.pin p hp
   refine ⟨(hs.2 p.1 ?_).trans e, n, ne, nf, d⟩
   intro q
   rw [q, MD] at e
   have q' : oc = p.2 := T8 e
   exact d w' (by rw [<- q']; exact Kr)
theorem uz {M : Model} {A : Around} {E : Value -> Shared -> Prop} {i : Nat} {x : Str} {v : V} {u : Value} {Q : Unit -> Shared -> Prop} (I : Inv X pins σ H s) (hN : X.N.Nodup) (hi : X.N[i]? = some x) (hx : Loc X.env.scope x) (r : RelV v u)
  (h : ∀ s', Inv X pins (σ.set i (some v)) H s' -> Q () s') (hf : X.fn x = true \/ X.env.scope.names.lookup x = some .local := by first | exact .inl rfl | exact .inr rfl | assumption) : wpAny M A (storeName X.env x u) Q E s :=
 re I hN hi hx r (fun s' I' _ => h s' I') hf
theorem Inv.D8 {s' : Shared} {ch : List Addr} (I : Inv X pins σ H s) (ho : s'.os = s.os) (u : Un (kC X.stack) ch H H' s.heap s'.heap) (aV : jk X.prog X.w H' s'.heap) (hg : AllBare s'.gens)
  (nP : ∀ b ∈ ch, (b ∈ X.ex \/ X.s₀.heap.objs.size <= b) /\ b ≠ X.env.locals /\ (∀ x c, X.env.cells.lookup x = some c -> c ≠ b) /\ ∀ p ∈ X.pn ++ pins, p.1 ≠ b) : Inv X pins σ H' s' := by
 obtain ⟨h', g', d', t', o'⟩ := s'
 have e : o' = s.os := ho
 subst e
 exact I.call (g' := g') (t' := t') (d' := d') u aV hg nP
end
abbrev XK := Value -> Option Addr -> Hp -> Prop
abbrev St := List (Option V)
abbrev VK := V -> Hp -> Prop
abbrev TE := St -> Hp -> VK -> Prop
abbrev TT := St -> Hp -> (Bool -> Hp -> Prop) -> Prop
abbrev TA := St -> Hp -> (List V -> Hp -> Prop) -> Prop
structure Ends where
 nx : St -> Hp -> Prop
 rt : VK
 bk : St -> Hp -> Prop := fun _ _ => False
 ct : St -> Hp -> Prop := fun _ _ => False
abbrev TS := Ends -> St -> Hp -> Prop
def EP (X : Cx) (pins : List (Addr × Obj)) (σ : St) (Q : VK) (u : Value) (s' : Shared) : Prop := ∃ v H', Inv X pins σ H' s' /\ RelV v u /\ Q v H'
def TP (X : Cx) (pins : List (Addr × Obj)) (σ : St) (Q : Bool -> Hp -> Prop) (b : Bool) (s' : Shared) : Prop := ∃ H', Inv X pins σ H' s' /\ Q b H'
def AP (X : Cx) (pins : List (Addr × Obj)) (σ : St) (Q : List V -> Hp -> Prop) (us : List Value) (s' : Shared) : Prop := ∃ vs H', Inv X pins σ H' s' /\ Vals vs us /\ Q vs H'
def SP (X : Cx) (pins : List (Addr × Obj)) (D : Ends) (f : Flow) (s' : Shared) : Prop :=
 match f with
 | .next => ∃ σ' H', Inv X pins σ' H' s' /\ D.nx σ' H'
 | .brk => ∃ σ' H', Inv X pins σ' H' s' /\ D.bk σ' H'
 | .cont => ∃ σ' H', Inv X pins σ' H' s' /\ D.ct σ' H'
 | .ret u => ∃ v σ' H', Inv X pins σ' H' s' /\ RelV v u /\ D.rt v H'
def PE (X : Cx) (e : Expr) (t : TE) : Prop :=
 ∀ (pins : List (Addr × Obj)) (s : Shared) (σ : St) (H : Hp) (Q : VK), Inv X pins σ H s -> t σ H Q -> wpAny (model X.prog X.w) X.A (eval e X.env) (EP X pins σ Q) X.xe s
def PT (X : Cx) (e : Expr) (t : TT) : Prop :=
 ∀ (pins : List (Addr × Obj)) (s : Shared) (σ : St) (H : Hp) (Q : Bool -> Hp -> Prop), Inv X pins σ H s -> t σ H Q -> wpAny (model X.prog X.w) X.A (isTrue e X.env (eval e X.env)) (TP X pins σ Q) X.xe s
def PW (X : Cx) (e : Expr) (t : TT) : Prop :=
 ∀ (whole : Sem Value) (pins : List (Addr × Obj)) (s : Shared) (σ : St) (H : Hp) (Q : Bool -> Hp -> Prop), Inv X pins σ H s -> t σ H Q -> wpAny (model X.prog X.w) X.A (isTrue e X.env whole) (TP X pins σ Q) X.xe s
theorem PW.pt {X : Cx} {e : Expr} {t : TT} (h : PW X e t) : PT X e t := h _
def PA (X : Cx) (es : List Expr) (t : TA) : Prop :=
 ∀ (pos : Pos) (pins : List (Addr × Obj)) (s : Shared) (σ : St) (H : Hp) (Q : List V -> Hp -> Prop), Inv X pins σ H s -> t σ H Q -> wpAny (model X.prog X.w) X.A (spliced (backTo pos (starEach es X.env))) (AP X pins σ Q) X.xe s
def PS (X : Cx) (st : Stmt) (t : TS) : Prop :=
 ∀ (pins : List (Addr × Obj)) (s : Shared) (σ : St) (H : Hp) (D : Ends), Inv X pins σ H s -> t D σ H -> wpAny (model X.prog X.w) X.A (exec st X.env) (SP X pins D) X.xe s
def rL (X : Cx) (st : List Stmt) (t : TS) : Prop :=
 ∀ (pins : List (Addr × Obj)) (s : Shared) (σ : St) (H : Hp) (D : Ends), Inv X pins σ H s -> t D σ H -> wpAny (model X.prog X.w) X.A (execs st X.env) (SP X pins D) X.xe s
theorem bU {α : Type} {t : Sem α} {Q Q' : α -> Shared -> Prop} {M : Model} {A : Around} {E : Value -> Shared -> Prop} {s : Shared} (h : wpAny M A t Q E s) (hQ : ∀ a s, Q a s -> Q' a s) : wpAny M A t Q' E s := Us h hQ fun _ _ x => x
section
variable {X : Cx}
theorem bin {a b : Expr} {ta tb : TE} (ha : PE X a ta) (hb : PE X b tb) {pins : List (Addr × Obj)} {s : Shared} {σ : St} {H : Hp} {R : V -> V -> Hp -> Prop} (I : Inv X pins σ H s) (h : ta σ H fun x H1 => tb σ H1 fun y H2 => R x y H2)
  {α : Type} {Q : α -> Shared -> Prop} {f : Value -> Value -> Sem α}
  (hf : ∀ v u s2 x y H2, Inv X pins σ H2 s2 -> RelV x v -> RelV y u -> R x y H2 -> wpAny (model X.prog X.w) X.A (f v u) Q X.xe s2) :
  wpAny (model X.prog X.w) X.A (eval a X.env) (fun v s₁ => wpAny (model X.prog X.w) X.A (eval b X.env) (fun u s₂ => wpAny (model X.prog X.w) X.A (f v u) Q X.xe s₂) X.xe s₁) X.xe s := by
 refine bU (ha pins s σ H _ I h) fun v s1 ⟨x, H1, I1, r1, q1⟩ => ?_
 refine bU (hb pins s1 σ H1 _ I1 q1) fun u s2 ⟨y, H2, I2, r2, q2⟩ => ?_
 exact hf v u s2 x y H2 I2 r1 r2 q2
def HY (i : Nat) : TE := fun σ H Q => ∃ v, σ[i]? = some (some v) /\ Q v H
def tC (v : V) : TE := fun _ H Q => Q v H
theorem Fy {i : Nat} {x : Str} {pos : Pos} (hN : X.N[i]? = some x) (hv : Ks X.env.scope x) (hd : (x == ("__debug__" : Str)) = false := by decide) (vE : (x == ("__classdict__" : Str)) = false := by decide) : PE X (.Name x pos) (HY i) := by
 intro pins s σ H Q I h
 obtain ⟨v, e, h⟩ := h
 obtain ⟨m, hn, hl⟩ := I.loc
 obtain ⟨u, r, l⟩ := hl i x v hN e hv
 have fin : EP X pins σ Q u s := ⟨v, H, I, r, h⟩
 rcases l with ⟨hk, hm⟩ | ⟨hk, c, hc, xE⟩
 ·exact wpAny_Name (wpAny_loadName_local I.ok.kind hk hn hm fin) hd
 ·rcases hk with hk | hk
  ·exact wpAny_Name (wpAny_loadName_cell I.ok.kind hk hc xE fin) hd
  ·exact wpAny_Name (wpAny_loadName_free I.ok.kind hk hc xE fin vE) hd
theorem ai {i j pos} : PE X (.Constant (.int i) j pos) (tC (.int i)) := fun _ _ _ H _ I h => wpAny_Constant_int ⟨.int i, H, I.tok _, ⟨_, rfl⟩, h⟩
theorem gW {b j pos} : PE X (.Constant (.bool b) j pos) (tC (.bl b)) := fun _ _ _ H _ I h => Constant_bool ⟨.bl b, H, I, rfl, h⟩
theorem vV {j pos} : PE X (.Constant .none j pos) (tC .cq) := fun _ _ _ H _ I h => Constant_none ⟨.cq, H, I, rfl, h⟩
theorem zQ {x j pos} : PE X (.Constant (.str x) j pos) (tC (.str x)) := fun _ _ _ H _ I h => Calls.Constant_str ⟨.str x, H, I.tok _, ⟨_, rfl⟩, h⟩
def Gl (X : Cx) (x : Str) : Prop := X.env.kindOf x = some .globalImplicit
theorem k9 {E : Value -> Shared -> Prop} {pins : List (Addr × Obj)} {s : Shared} {σ : St} {H : Hp} {x : Str} {u : Value} {pos : Pos} {Q : Value -> Shared -> Prop} (I : Inv X pins σ H s) (hg : Gl X x) (hm : X.mg x = some u) (h : Q u s)
  (hd : (x == ("__debug__" : Str)) = false := by decide) : wpAny (model X.prog X.w) X.A (eval (.Name x pos) X.env) Q E s :=
 Calls.Name_function_global I.ok.kind hg (Calls.loadGlobal_global (by rw [I.ok.glob]; exact I.mod.glob.keeps I.bk) hm h) hd
theorem mL {E : Value -> Shared -> Prop} {pins : List (Addr × Obj)} {s : Shared} {σ : St} {H : Hp} {x : Str} {u : Value} {pos : Pos} {Q : Value -> Shared -> Prop} (I : Inv X pins σ H s) (hg : Gl X x) (hm : X.mg x = none) (hv : bootBuiltins x = some u) (h : Q u s)
  (hn : x ≠ "__name__" := by decide) (hd : (x == ("__debug__" : Str)) = false := by decide) : wpAny (model X.prog X.w) X.A (eval (.Name x pos) X.env) Q E s := by
 obtain ⟨mb, h1, h2⟩ := I.mod.blt
 exact Calls.Name_function_global I.ok.kind hg (Calls.loadGlobal_builtin (by rw [I.ok.glob]; exact I.mod.glob.keeps I.bk) hm (by rw [I.ok.blt]; exact h1.keeps I.bk) ((h2 x hn).trans hv) h) hd
theorem iG {x : Str} {v : V} {u : Value} {pos : Pos} (hg : Gl X x) (hm : X.mg x = some u) (r : RelV v u) (hd : (x == ("__debug__" : Str)) = false := by decide) : PE X (.Name x pos) (tC v) :=
 fun _ _ _ H _ I h => k9 I hg hm ⟨v, H, I, r, h⟩ hd
theorem jv {x : Str} {v : V} {u : Value} {pos : Pos} (hg : Gl X x) (hm : X.mg x = none) (hv : bootBuiltins x = some u) (r : RelV v u) (hn : x ≠ "__name__" := by decide) (hd : (x == ("__debug__" : Str)) = false := by decide) : PE X (.Name x pos) (tC v) :=
 fun _ _ _ H _ I h => mL I hg hm hv ⟨v, H, I, r, h⟩ hn hd
variable {a b : Expr} {ta tb : TE} {pos : Pos}
def PC (X : Cx) (op : CmpOp) (a b : Expr) (t : TE) : Prop :=
 ∀ (pins : List (Addr × Obj)) (s : Shared) (σ : St) (H : Hp) (Q : VK), Inv X pins σ H s -> t σ H Q ->
  wpAny (model X.prog X.w) X.A (eval a X.env) (fun v s₁ => wpAny (model X.prog X.w) X.A (eval b X.env) (fun u s₂ => wpAny (model X.prog X.w) X.A (compareOp op v u) (EP X pins σ Q) X.xe s₂) X.xe s₁) X.xe s
theorem Bu (b : Expr) {op : CmpOp} (h : op ≠ .In) (h2 : op ≠ .NotIn) : behindInMarks op b = false := by
 have e1 : (op == CmpOp.In) = false := by cases op <;> first | rfl | exact absurd rfl h
 have e2 : (op == CmpOp.NotIn) = false := by cases op <;> first | rfl | exact absurd rfl h2
 cases b <;> simp [behindInMarks, e1, e2]
def tB (t : TE) : TT := fun σ H Q => t σ H fun x H1 => ∃ c, x = .bl c /\ Q c H1
theorem L4 {op : CmpOp} {t : TE} (h : PC X op a b t) (h1 : behindInMarks op b = false := by first | exact Bu _ (by decide) (by decide) | rfl) : PT X (.Compare a [op] [b] pos) (tB t) := by
 intro pins s σ H Q I hw
 refine wpAny_isTrue_Compare1 (bU (h pins s σ H _ I hw) fun v s1 h1 => bU h1 fun u s2 h2 => bU h2 fun c s3 ⟨x, H1, I1, r1, q1⟩ => ?_) h1
 obtain ⟨d, rfl, q⟩ := q1
 cases r1
 exact Ud ⟨H1, I1, q⟩
theorem cF {e : Expr} {t : TE} (h : PE X e t) (he : ∀ whole, isTrue e X.env whole = (do let v <- whole; standAt e.pos; holding [v] (truthy v)) := by intro _; rfl) : PT X e (tB t) := by
 intro pins s σ H Q I hw
 refine isTrue_plain (bU (h pins s σ H _ I hw) fun v s1 ⟨x, H1, I1, r1, q1⟩ => ?_) (he _)
 obtain ⟨d, rfl, q⟩ := q1
 cases r1
 exact Ud ⟨H1, I1, q⟩
variable {tA J6 : TT} {rest : List Expr}
def Kw (t u : TT) : TT := fun σ H Q => t σ H fun c H1 => if c = true then u σ H1 Q else Q false H1
def OO (t u : TT) : TT := fun σ H Q => t σ H fun c H1 => if c = true then Q true H1 else u σ H1 Q
def K6 (t : TT) : TT := fun σ H Q => t σ H fun c H1 => Q (!c) H1
theorem pw_and1 (ha : PT X a tA) : PW X (.BoolOp .And [a] pos) tA := by
 intro wh pins s σ H Q I h
 refine isTrue_and (bU (ha pins s σ H Q I h) fun c s1 e => ?_)
 cases c with
 | true => exact isTrue_and_nil e
 | false => exact e
theorem pw_or1 (ha : PT X a tA) : PW X (.BoolOp .Or [a] pos) tA := by
 intro wh pins s σ H Q I h
 refine isTrue_or (bU (ha pins s σ H Q I h) fun c s1 e => ?_)
 cases c with
 | false => exact isTrue_or_nil e
 | true => exact e
theorem pw_and (ha : PT X a tA) (hb : PW X (.BoolOp .And (b :: rest) pos) J6) : PW X (.BoolOp .And (a :: b :: rest) pos) (Kw tA J6) := by
 intro wh pins s σ H Q I h
 refine isTrue_and (bU (ha pins s σ H _ I h) fun c s1 ⟨H1, I1, q1⟩ => ?_)
 cases c with
 | true => exact hb wh pins s1 σ H1 Q I1 q1
 | false => exact ⟨H1, I1, q1⟩
theorem pw_or (ha : PT X a tA) (hb : PW X (.BoolOp .Or (b :: rest) pos) J6) : PW X (.BoolOp .Or (a :: b :: rest) pos) (OO tA J6) := by
 intro wh pins s σ H Q I h
 refine isTrue_or (bU (ha pins s σ H _ I h) fun c s1 ⟨H1, I1, q1⟩ => ?_)
 cases c with
 | true => exact ⟨H1, I1, q1⟩
 | false => exact hb wh pins s1 σ H1 Q I1 q1
theorem eI (ha : PT X a tA) : PT X (.UnaryOp .Not a pos) (K6 tA) := by
 intro pins s σ H Q I h
 exact isTrue_not (ha pins s σ H (fun c H1 => Q (!c) H1) I h)
def HG (ta tb : TE) : TE := fun σ H Q => ta σ H fun x H1 => ∃ c, x = .bl c /\ if c = true then tb σ H1 Q else Q (.bl false) H1
def G5 (ta : TE) : TE := fun σ H Q => ta σ H fun x H1 => ∃ c, x = .bl c /\ Q (.bl (!c)) H1
theorem ii {op} {t : TE} (h : PE X a t) : PE X (.BoolOp op [a] pos) t := fun pins s σ H Q I hw => BoolOp_one (h pins s σ H Q I hw)
theorem eN (ha : PE X a ta) (hb : PE X (.BoolOp .And (b :: rest) pos) tb) : PE X (.BoolOp .And (a :: b :: rest) pos) (HG ta tb) := by
 intro pins s σ H Q I h
 refine BoolOp_and (bU (ha pins s σ H _ I h) fun v s1 ⟨x, H1, I1, r1, q1⟩ => ?_)
 obtain ⟨c, rfl, q1⟩ := q1
 cases r1
 refine Ud ?_
 cases c with
 | true => exact hb pins s1 σ H1 Q I1 q1
 | false => exact ⟨.bl false, H1, I1, rfl, q1⟩
theorem EJ (ha : PE X a ta) : PE X (.UnaryOp .Not a pos) (G5 ta) := by
 intro pins s σ H Q I h
 refine UnaryOp_ (bU (ha pins s σ H _ I h) fun v s1 ⟨x, H1, I1, r1, q1⟩ => ?_)
 obtain ⟨c, rfl, q1⟩ := q1
 cases r1
 exact not_of (Ud ⟨.bl (!c), H1, I1, rfl, q1⟩)
def Rf (t : TT) (ta tb : TE) : TE := fun σ H Q => t σ H fun c H1 => if c = true then ta σ H1 Q else tb σ H1 Q
theorem Ak {c : Expr} (hc : PT X c tA) (ha : PE X a ta) (hb : PE X b tb) : PE X (.IfExp c a b pos) (Rf tA ta tb) := by
 intro pins s σ H Q I h
 refine wpAny_IfExp (bU (hc pins s σ H _ I h) fun d s1 ⟨H1, I1, q1⟩ => ?_)
 cases d with
 | true => exact ha pins s1 σ H1 Q I1 q1
 | false => exact hb pins s1 σ H1 Q I1 q1
end
def a6 (K : VN) (H : Hp) (a : Addr) (xs : List V) : Prop :=
 Rd H a (.lst xs) \/
  ∃ (o : Obj) (aA : Array Value) (n : Nat), K.lookup a = some o /\ o.cls = .type "list" /\ o.dict = none /\ o.data = .seq aA n /\ aA.size <= sizeLine /\ Vals xs aA.toList
def aX (K : VN) (H : Hp) (a : Addr) (xs : List V) : Prop :=
 Rd H a (.tup xs) \/
  ∃ (o : Obj) (aA : Array Value) (n : Nat), K.lookup a = some o /\ o.cls = .type "tuple" /\ o.data = .seq aA n /\ aA.size <= sizeLine /\ Vals xs aA.toList
def Ld : Value -> Option V
 | .none => some .cq
 | .bool b => some (.bl b)
 | .int i _ => some (.int i)
 | .str x _ => some (.str x)
 | .bytes b _ => some (.xS b)
 | .float b _ => some (.Gy b)
 | .ref a => some (.ref a)
 | .type n => some (.ty n)
 | _ => none
theorem RelV.abs {x : V} {u : Value} (r : RelV x u) : Ld u = some x := by
 cases x with
 | cq => cases r; rfl
 | bl _ => cases r; rfl
 | int _ => obtain ⟨t, rfl⟩ := r; rfl
 | str _ => obtain ⟨t, rfl⟩ := r; rfl
 | xS _ => obtain ⟨t, rfl⟩ := r; rfl
 | Gy _ => obtain ⟨t, rfl⟩ := r; rfl
 | ref _ => cases r; rfl
 | ty _ => cases r; rfl
theorem RelV.inj {x y : V} {u : Value} (r : RelV x u) (q : RelV y u) : x = y := T8 (r.abs.symm.trans q.abs)
theorem Vals.inj : ∀ {xs ys : List V} {us : List Value}, Vals xs us -> Vals ys us -> xs = ys
 | _, _, _, .nil, .nil => rfl
 | _, _, _, .cons r t, .cons r' t' => by rw [r.inj r', Vals.inj t t']
section
variable {X : Cx} {pins : List (Addr × Obj)} {σ : St} {H : Hp} {s : Shared} {a : Addr} {xs ys : List V}
theorem a6.of {K : VN} (h : H a = some (.lst xs)) : a6 K H a xs := .inl (.inl h)
theorem aX.of {K : VN} (h : H a = some (.tup xs)) : aX K H a xs := .inl (.inl h)
theorem Inv.list (I : Inv X pins σ H s) (h : a6 X.K H a xs) : ∃ aA : List Value, Vals xs aA /\ PlainL s.heap a aA.toArray /\ xs.length <= sizeLine := by
 rcases h with h | ⟨o, aA, n, hk, hc, hd, hs, hz, r⟩
 ·obtain ⟨z, aA, n, r, e⟩ := h.ok I.aV
  exact ⟨aA, r, ⟨_, n, e, rfl, rfl, rfl⟩, z⟩
 ·refine ⟨aA.toList, r, ⟨o, n, I.nE a o hk, hc, hd, by simpa using hs⟩, ?_⟩
  have e := r.length
  simp only [S5] at e
  omega
theorem Inv.tuple (I : Inv X pins σ H s) (h : aX X.K H a xs) : ∃ aA : List Value, Vals xs aA /\ IsTup s.heap a aA.toArray /\ xs.length <= sizeLine := by
 rcases h with h | ⟨o, aA, n, hk, hc, hs, hz, r⟩
 ·obtain ⟨z, aA, r, p⟩ := h.ok I.aV
  exact ⟨aA, r, p, z⟩
 ·refine ⟨aA.toList, r, ⟨o, I.nE a o hk, hc, n, by simpa using hs⟩, ?_⟩
  have e := r.length
  simp only [S5] at e
  omega
theorem Inv.zU (I : Inv X pins σ H s) (h : a6 X.K H a xs) (h' : a6 X.K H a ys) : xs = ys := by
 obtain ⟨aA, r, ⟨o, n, e, _, _, d⟩, _⟩ := I.list h
 obtain ⟨its', r', ⟨o', n', e', _, _, d'⟩, _⟩ := I.list h'
 rw [e] at e'; cases e'
 rw [d] at d'
 injection d' with d1 _
 have : aA = its' := by simpa using Um Array.toList d1
 subst this
 exact r.inj r'
theorem Inv.yU (I : Inv X pins σ H s) (h : aX X.K H a xs) (h' : aX X.K H a ys) : xs = ys := by
 obtain ⟨aA, r, ⟨o, e, _, n, d⟩, _⟩ := I.tuple h
 obtain ⟨its', r', ⟨o', e', _, n', d'⟩, _⟩ := I.tuple h'
 rw [e] at e'; cases e'
 rw [d] at d'
 injection d' with d1 _
 have : aA = its' := by simpa using Um Array.toList d1
 subst this
 exact r.inj r'
end
abbrev Cx.m6 (X : Cx) (E : Value -> Shared -> Prop) : Cx := { X with xe := E }
abbrev Cx.Df (X : Cx) : Cx := X.m6 fun _ _ => False
theorem Cx.Ok.m6 {X : Cx} (ok : X.Ok) (E : Value -> Shared -> Prop) : (X.m6 E).Ok :=
 ⟨ok.mod, ok.kind, ok.glob, ok.blt, ok.above, ok.inj, ok.has, ok.GN, ok.hd, ok.frames, ok.Ih, ok.IB, ok.bs, ok.zD, ok.yV, ok.zb, ok.lV, ok.Dz⟩
theorem Cx.Ok.gG {X : Cx} {E : Value -> Shared -> Prop} (ok : (X.m6 E).Ok) : X.Ok :=
 ⟨ok.mod, ok.kind, ok.glob, ok.blt, ok.above, ok.inj, ok.has, ok.GN, ok.hd, ok.frames, ok.Ih, ok.IB, ok.bs, ok.zD, ok.yV, ok.zb, ok.lV, ok.Dz⟩
section
variable {X : Cx} {pins : List (Addr × Obj)} {σ : St} {H : Hp} {s : Shared} {E : Value -> Shared -> Prop}
theorem Inv.m6 (I : Inv X pins σ H s) (E : Value -> Shared -> Prop) : Inv (X.m6 E) pins σ H s := ⟨I.ok.m6 E, I.os, I.bare, I.base, I.loc, I.cell, I.free, I.iK, I.pin, I.aV, I.len⟩
theorem Inv.gG (I : Inv (X.m6 E) pins σ H s) : Inv X pins σ H s := ⟨I.ok.gG, I.os, I.bare, I.base, I.loc, I.cell, I.free, I.iK, I.pin, I.aV, I.len⟩
theorem SP.gG {D : Ends} {f : Flow} {s' : Shared} (h : SP (X.m6 E) pins D f s') : SP X pins D f s' := by
 cases f with
 | next => obtain ⟨σ', H', I, q⟩ := h; exact ⟨σ', H', I.gG, q⟩
 | brk => obtain ⟨σ', H', I, q⟩ := h; exact ⟨σ', H', I.gG, q⟩
 | cont => obtain ⟨σ', H', I, q⟩ := h; exact ⟨σ', H', I.gG, q⟩
 | ret u => obtain ⟨v, σ', H', I, r, q⟩ := h; exact ⟨v, σ', H', I.gG, r, q⟩
theorem PE.Df {e : Expr} {t : TE} (h : PE X.Df e t) : PE X e t := fun pins s σ H Q I hw =>
 Us (h pins s σ H Q (I.m6 _) hw) (fun _ _ ⟨v, H', I', r, q⟩ => ⟨v, H', I'.gG, r, q⟩) fun _ _ z => False.elim z
theorem PT.Df {e : Expr} {t : TT} (h : PT X.Df e t) : PT X e t := fun pins s σ H Q I hw =>
 Us (h pins s σ H Q (I.m6 _) hw) (fun _ _ ⟨H', I', q⟩ => ⟨H', I'.gG, q⟩) fun _ _ z => False.elim z
theorem rL.Df {st : List Stmt} {t : TS} (h : rL X.Df st t) : rL X st t := fun pins s σ H D I hw =>
 Us (h pins s σ H D (I.m6 _) hw) (fun _ _ q => q.gG) fun _ _ z => False.elim z
end
section
variable {X : Cx} {st : Stmt} {rest : List Stmt} {t u : TS} {e : Expr} {te : TE} {pos : Pos}
def G2 : TS := fun D σ H => D.nx σ H
def Mg (t u : TS) : TS := fun D σ H => t { D with nx := u D } σ H
theorem aP : rL X [] G2 := fun _ _ σ H _ I h => wpAny_execs_nil ⟨σ, H, I, h⟩
theorem ah (h1 : PS X st t) (h2 : rL X rest u) : rL X (st :: rest) (Mg t u) := by
 intro pins s σ H D I h
 refine wpAny_execs_cons (bU (h1 pins s σ H { D with nx := u D } I h) fun f s1 q => ?_)
 cases f with
 | next =>
  obtain ⟨σ', H', I', q⟩ := q
  exact h2 pins s1 σ' H' D I' q
 | ret v => exact q
 | brk => exact q
 | cont => exact q
theorem aj (h1 : PS X st t) : rL X [st] t := by
 intro pins s σ H D I h
 refine wpAny_execs_cons (bU (h1 pins s σ H D I h) fun f s1 q => ?_)
 cases f with
 | next => exact wpAny_execs_nil q
 | ret v => exact q
 | brk => exact q
 | cont => exact q
theorem Inv.quiet {pins : List (Addr × Obj)} {σ : St} {H : Hp} {s : Shared} (I : Inv X pins σ H s) : interactive X.env = false := by simp [interactive, I.ok.kind]
def II (te : TE) : TS := fun D σ H => te σ H fun _ H1 => D.nx σ H1
theorem dn (he : PE X e te) (hs : swapsWith e none pos.line X.env = pure false := by rfl) : PS X (.Expr e pos) (II te) := by
 intro pins s σ H D I h
 exact wpAny_Expr_any (bU (he pins s σ H _ I h) fun v s1 ⟨x, H1, I1, r1, q1⟩ => ⟨σ, H1, I1, q1⟩) I.quiet hs
def KH (te : TE) : TS := fun D σ H => te σ H D.rt
theorem az (he : PE X e te) : PS X (.Return (some e) pos) (KH te) := by
 intro pins s σ H D I h
 exact wpAny_Return_some (bU (he pins s σ H _ I h) fun v s1 ⟨x, H1, I1, r1, q1⟩ => ⟨x, σ, H1, I1, r1, q1⟩)
def LU (c : TT) (t u : TS) : TS := fun D σ H => c σ H fun b H1 => if b = true then t D σ H1 else u D σ H1
theorem bM {c : Expr} {a b : List Stmt} {tc : TT} (hc : PT X c tc) (ha : rL X a t) (hb : rL X b u) : PS X (.If c a b pos) (LU tc t u) := by
 intro pins s σ H D I h
 refine wpAny_If (bU (hc pins s σ H _ I h) fun d s1 ⟨H1, I1, q1⟩ => ?_)
 cases d with
 | true => exact ha pins s1 σ H1 D I1 q1
 | false => exact hb pins s1 σ H1 D I1 q1
def EM : TS := fun _ _ _ => False
theorem hV : PS X st EM := fun _ _ _ _ _ _ h => h.elim
end
abbrev TG := V -> St -> Hp -> (St -> Hp -> Prop) -> Prop
abbrev Et := List V -> St -> Hp -> (St -> Hp -> Prop) -> Prop
def PG (X : Cx) (target : Expr) (t : TG) : Prop :=
 ∀ (pins : List (Addr × Obj)) (s : Shared) (σ : St) (H : Hp) (v : V) (u : Value) (Q : St -> Hp -> Prop), Inv X pins σ H s -> RelV v u -> t v σ H Q ->
  wpAny (model X.prog X.w) X.A (assign target X.env u) (fun _ s' => ∃ σ' H', Inv X pins σ' H' s' /\ Q σ' H') X.xe s
def Il (X : Cx) (ts : List Expr) (t : Et) : Prop :=
 ∀ (pins : List (Addr × Obj)) (s : Shared) (σ : St) (H : Hp) (vs : List V) (us : List Value) (Q : St -> Hp -> Prop), Inv X pins σ H s -> Vals vs us -> t vs σ H Q ->
  wpAny (model X.prog X.w) X.A (assignInOrder ((assignEach ts X.env).map (·.2)) us) (fun _ s' => ∃ σ' H', Inv X pins σ' H' s' /\ Q σ' H') X.xe s
abbrev FG := V -> V -> V -> Hp -> (Hp -> Prop) -> Prop
def GD (X : Cx) (t : FG) : Prop :=
 ∀ (pins : List (Addr × Obj)) (s : Shared) (σ : St) (H : Hp) (o i v : V) (ov iv u : Value) (Q : Hp -> Prop), Inv X pins σ H s -> RelV o ov -> RelV i iv -> RelV v u -> t o i v H Q ->
  wpAny (model X.prog X.w) X.A (setItem ov iv u) (fun _ s' => ∃ H', Inv X pins σ H' s' /\ Q H') X.xe s
section
variable {X : Cx} {pos : Pos}
def ue (i : Nat) : TG := fun v σ H Q => Q (σ.set i (some v)) H
theorem DC {i : Nat} {x : Str} (hN : X.N.Nodup) (hi : X.N[i]? = some x) (hx : Loc X.env.scope x) (hf : X.fn x = true \/ X.env.scope.names.lookup x = some .local := by first | exact .inl rfl | exact .inr rfl | assumption) : PG X (.Name x pos) (ue i) := by
 intro pins s σ H v u Q I r h
 exact wpAny_assign_Name (uz I hN hi hx r (fun s' I' => ⟨_, H, I', h⟩) hf)
def KF : Et := fun vs σ H Q => vs = [] /\ Q σ H
def HB (t : TG) (u : Et) : Et := fun vs σ H Q => ∃ v r, vs = v :: r /\ t v σ H fun σ' H' => u r σ' H' Q
theorem gg : Il X [] KF := by
 intro pins s σ H vs us Q I r h
 obtain ⟨e, h⟩ := h
 subst e
 cases r
 exact assignInOrder_nil ⟨σ, H, I, h⟩
theorem aY {e : Expr} {es : List Expr} {t : TG} {u : Et} (h1 : PG X e t) (h2 : Il X es u)
  (hs : (assignEach (e :: es) X.env).map (·.2) = assign e X.env :: (assignEach es X.env).map (·.2) := by rfl) : Il X (e :: es) (HB t u) := by
 intro pins s σ H vs us Q I r h
 obtain ⟨v, vr, e1, h⟩ := h
 subst e1
 cases r with
 | cons r rr =>
  rw [hs]
  refine assignInOrder_cons (bU (h1 pins s σ H _ _ _ I r h) fun _ s1 ⟨σ1, H1, I1, q1⟩ => ?_)
  exact h2 pins s1 σ1 H1 _ _ Q I1 rr q1
def Im (K : VN) (n : Nat) (t : Et) : TG := fun v σ H Q => ∃ a xs, v = .ref a /\ aX K H a xs /\ xs.length = n /\ t xs σ H Q
theorem mG {es : List Expr} {k : Nat} {t : Et} {n : Nat} (hc : X.calm = true) (h : Il X es t)
  (hn : (assignEach es X.env).length = n := by rfl) (oq : (assignEach es X.env).findIdx? (·.1) = none := by rfl) : PG X (.Tuple es k pos) (Im X.K n t) := by
 intro pins s σ H v u Q I r hw
 obtain ⟨a, xs, e1, hq, hl, hw⟩ := hw
 subst e1
 cases r
 obtain ⟨aA, rv, ht, hz⟩ := I.tuple hq
 refine assign_Tuple_tuple (I.ok.hd hc) ht (by simp [hn, <- hl, rv.length]) oq fun h' hx => ?_
 have I1 : Inv X pins σ H { s with heap := h' } := I.kept (t' := s.toks) fun b o e => hx b o (Tu (Td e)) e
 exact h pins _ σ H xs _ Q I1 (by simpa using rv) hw
def KZ (to ti : TE) (t : FG) : TG := fun v σ H Q => to σ H fun o H1 => ti σ H1 fun i H2 => t o i v H2 fun H3 => Q σ H3
theorem wt {o i : Expr} {to ti : TE} {t : FG} (ho : PE X o to) (hi : PE X i ti) (hs : GD X t)
  (ha : ∀ v, assign (.Subscript o i pos) X.env v = (do
   let ov <- holding [v] (eval o X.env)
   let iv <- holding [v, ov] (eval i X.env)
   standAt pos
   holding [v, ov, iv] (setItem ov iv v)
   release [v, ov, iv] []) := by intro _; rfl) : PG X (.Subscript o i pos) (KZ to ti t) := by
 intro pins s σ H v u Q I r h
 rw [ha]
 refine SS (Up (bU (ho pins s σ H _ I h) fun ov s1 ⟨x, H1, I1, r1, q1⟩ => ?_))
 refine SS (Up (bU (hi pins s1 σ H1 _ I1 q1) fun iv s2 ⟨y, H2, I2, r2, q2⟩ => ?_))
 refine SS (wpAny_standAt (SS (Up (bU (hs pins s2 σ H2 x y v ov iv u _ I2 r1 r2 r q2) fun _ s3 ⟨H3, I3, q3⟩ => ?_))))
 exact wpAny_release ⟨σ, H3, I3, q3⟩
def DP (te : TE) (g : TG) : TS := fun D σ H => te σ H fun x H1 => g x σ H1 D.nx
theorem vv {tg e : Expr} {te : TE} {g : TG} (he : PE X e te) (hg : PG X tg g) (hs : swapsWithSole [tg] e pos.line X.env = pure false := by rfl) (hw : swappedStores [tg] e X.env = pure none := by rfl)
  (h1 : (assignEach [tg] X.env).map (·.2) = [assign tg X.env] := by rfl) : PS X (.Assign [tg] e pos) (DP te g) := by
 intro pins s σ H D I h
 refine wpAny_Assign_stores (bU (he pins s σ H _ I h) fun v s1 ⟨x, H1, I1, r1, q1⟩ => ?_) hs hw
 rw [h1]
 exact bU (hg pins s1 σ H1 x v _ I1 r1 q1) fun _ s2 q => q
theorem E4 {i : Nat} {x : Str} {e : Expr} {te : TE} {pos' : Pos} (hN : X.N.Nodup) (hi : X.N[i]? = some x) (hx : Loc X.env.scope x) (he : PE X e te) (hs : swapsWith e (some (.Name x pos')) pos.line X.env = pure false := by rfl) (hf : X.fn x = true \/ X.env.scope.names.lookup x = some .local := by first | exact .inl rfl | exact .inr rfl | assumption) :
  PS X (.Assign [.Name x pos'] e pos) (DP te (ue i)) := by
 intro pins s σ H D I h
 refine wpAny_Assign_Name (bU (he pins s σ H _ I h) fun v s1 ⟨y, H1, I1, r1, q1⟩ => ?_) hs
 exact uz I1 hN hi hx r1 (fun s2 I2 => ⟨_, H1, I2, q1⟩) hf
end
section
variable {X : Cx} {pos : Pos}
def Gk (c : TT) (tb : TS) : TS := fun D σ H => ∃ W : Nat -> St -> Hp -> Prop, (∃ m, W m σ H) /\ ∀ m σ H, W m σ H ->
 c σ H fun b H1 => if b = true then ∃ N : St -> Hp -> Prop, (∀ σ' H', N σ' H' -> ∃ m', m' < m /\ W m' σ' H') /\ tb { D with nx := N, ct := N, bk := D.nx } σ H1 else D.nx σ H1
theorem uf {c : Expr} {body : List Stmt} {tc : TT} {tb : TS} (hp : PassesOwn (model X.prog X.w) X.A X.env X.xe) (hc : PT X c tc) (hb : rL X body tb) : PS X (.While c body [] pos) (Gk tc tb) := by
 intro pins s σ H D I h
 obtain ⟨W, ⟨m0, w0⟩, turn⟩ := h
 refine wpAny_While (codeAny_whileLoop (fun n s' => ∃ σ' H', Inv X pins σ' H' s' /\ W n σ' H') ?_ m0 ⟨σ, H, I, w0⟩)
 rintro n s1 ⟨σ1, H1, I1, w1⟩
 refine Vh hp (bU (hc pins s1 σ1 H1 _ I1 (turn n σ1 H1 w1)) fun b s2 ⟨H2, I2, q2⟩ => ?_)
 cases b with
 | true =>
  obtain ⟨N, hN, q2⟩ := q2
  rw [if_pos rfl]
  refine Vh hp (bU (hb pins s2 σ1 H2 _ I2 q2) fun f s3 q3 => ?_)
  cases f with
  | next =>
   obtain ⟨σ3, H3, I3, n3⟩ := q3
   obtain ⟨m', hm, w3⟩ := hN σ3 H3 n3
   exact ⟨m', hm, σ3, H3, I3, w3⟩
  | cont =>
   obtain ⟨σ3, H3, I3, n3⟩ := q3
   obtain ⟨m', hm, w3⟩ := hN σ3 H3 n3
   exact ⟨m', hm, σ3, H3, I3, w3⟩
  | brk => exact q3
  | ret v => exact q3
 | false =>
  rw [if_neg S3]
  exact wpAny_execs_nil ⟨σ1, H2, I2, q2⟩
end
structure It where
 go : Nat -> Hp -> Prop
 Eo : Nat -> Hp -> V -> Hp -> Prop
 stop : Nat -> Hp -> Prop
def rY (X : Cx) (pins : List (Addr × Obj)) (H : Hp) (b : Addr) : Prop :=
 H b = none /\ b ≠ X.env.locals /\ b ∉ X.fs /\ (b ∈ X.ex \/ X.s₀.heap.objs.size <= b) /\ (∀ x c, X.env.cells.lookup x = some c -> c ≠ b) /\ ∀ p ∈ X.pn ++ pins, p.1 ≠ b
theorem Inv.yu {X : Cx} {pins : List (Addr × Obj)} {σ : St} {H H' : Hp} {s : Shared} {b : Addr} (I : Inv X pins σ H s) (hb : s.heap.objs.size <= b) (hn : H' b = none) : rY X pins H' b := by
 refine ⟨hn, Vr (Tz I.lt hb), I.Iu hb, .inr (S8 I.sz hb), fun x c e z => ?_, fun p hp z => ?_⟩
 ·obtain ⟨v, q⟩ := I.cell x c e
  exact absurd (Tz q.lt (by rw [z]; exact hb)) (Uj _)
 ·exact absurd (Tz (Td (I.pin p hp).1) (by rw [z]; exact hb)) (Uj _)
structure Turn (P : Program) (w : World) (K : VN) (tg : Expr) (J : It) (fp : List Addr) (it : Addr) (tn : Nat -> Heap -> Prop) : Prop where
 mem : it ∈ fp
 obj : ∀ i h, tn i h -> ∀ b ∈ fp, ∃ o, h.get? b = some o /\ ∀ v, o.data ≠ .cell v
 keep : ∀ i h h', tn i h -> (∀ b ∈ fp, ∀ o, h.get? b = some o -> h'.get? b = some o) -> tn i h'
 item : ∀ (X : Cx), X.prog = P -> X.w = w -> X.K = K -> X.calm = true -> ∀ (i : Nat) (pins : List (Addr × Obj)) (s : Shared) (σ : St) (H : Hp) (E : Value -> Shared -> Prop), Inv X pins σ H s -> (∀ b ∈ fp, rY X pins H b) -> tn i s.heap -> J.go i H ->
  wpAny (model P w) X.A (pyNext (.ref it)) (fun r s1 => ∃ u, r = some u /\
   wpAny (model P w) X.A (letOwnedTupleGo tg (.ref it) u) (fun _ s2 => ∃ x H', Inv X pins σ H' s2 /\ RelV x u /\ J.Eo i H x H' /\ tn (i + 1) s2.heap /\ ∀ b ∈ fp, H' b = none) E s1) E s
 done : ∀ (X : Cx), X.prog = P -> X.w = w -> X.K = K -> X.calm = true -> ∀ (i : Nat) (pins : List (Addr × Obj)) (s : Shared) (σ : St) (H : Hp) (E : Value -> Shared -> Prop), Inv X pins σ H s -> (∀ b ∈ fp, rY X pins H b) -> tn i s.heap -> J.stop i H ->
  wpAny (model P w) X.A (pyNext (.ref it)) (fun r s1 => r = none /\ Inv X pins σ H s1) E s
 self : ∀ (A : Around) (i : Nat) (s : Shared) (Q : Value -> Shared -> Prop) (E : Value -> Shared -> Prop), tn i s.heap -> Q (.ref it) s -> wpAny (model P w) A (pyIter (.ref it)) Q E s
abbrev TI := St -> Hp -> (It -> Hp -> Prop) -> Prop
def MR (X : Cx) (pins : List (Addr × Obj)) (σ : St) (tg : Expr) (R : It -> Hp -> Prop) (LC : Value) (s2 : Shared) : Prop :=
 ∃ (it : Addr) (fp : List Addr) (tn : Nat -> Heap -> Prop) (J : It) (H' : Hp), LC = .ref it /\ Inv X pins σ H' s2 /\ Turn X.prog X.w X.K tg J fp it tn /\ tn 0 s2.heap /\ (∀ b ∈ fp, rY X pins H' b) /\ R J H'
def PI (X : Cx) (tg iter : Expr) (wi : TI) : Prop :=
 ∀ (pins : List (Addr × Obj)) (s : Shared) (σ : St) (H : Hp) (R : It -> Hp -> Prop), Inv X pins σ H s -> wi σ H R ->
  wpAny (model X.prog X.w) X.A (eval iter X.env) (fun v s1 => wpAny (model X.prog X.w) X.A (pyIter v) (MR X pins σ tg R) X.xe s1) X.xe s
theorem xc {M : Model} {A : Around} {E : Value -> Shared -> Prop} {s : Shared} {tg : Expr} {it : Addr} {u : Value} {o : Obj} {n : String} {vs : Array Value} {Q : Unit -> Shared -> Prop} (ho : s.heap.get? it = some o) (hc : o.cls = .type n) (hd : o.data = .fields vs)
  (hn : ["enumerate", "zip", "dict_itemiterator", "dict_reverseitemiterator", "odict_iterator", "itertools.zip_longest", "itertools.pairwise"].contains n = false) (hQ : Q () s) : wpAny M A (letOwnedTupleGo tg (.ref it) u) Q E s := by
 unfold letOwnedTupleGo
 cases tg <;> first
  | exact SU hQ
  | (cases u <;> first
    | exact SU hQ
    | (
      refine SS (wpAny_load ho ?_)
      rw [hc, hd]
      show wpAny M A (if (["enumerate", "zip", "dict_itemiterator", "dict_reverseitemiterator", "odict_iterator", "itertools.zip_longest", "itertools.pairwise"].contains n && vs[0]? == some (rawInt _)) = true then _ else _) Q E s
      rw [if_neg (by intro h; rw [hn, TM] at h; cases h)]
      exact SU hQ))
def GU (K : VN) (a : Addr) : It :=
 ⟨fun i H => ∃ xs x, a6 K H a xs /\ xs[i]? = some x, fun i H x H' => H' = H /\ ∀ xs, a6 K H a xs -> xs[i]? = some x, fun i H => ∃ xs, a6 K H a xs /\ xs.length <= i⟩
def GR (K : VN) (a : Addr) : It :=
 ⟨fun i H => ∃ xs x, aX K H a xs /\ xs[i]? = some x, fun i H x H' => H' = H /\ ∀ xs, aX K H a xs -> xs[i]? = some x, fun i H => ∃ xs, aX K H a xs /\ xs.length <= i⟩
def EX (lo : Int) (n : Nat) : It := ⟨fun i _ => i < n, fun i H x H' => H' = H /\ x = .int (lo + i), fun i _ => n <= i⟩
theorem yK {P : Program} {w : World} {K : VN} {tg : Expr} (a it : Addr) : Turn P w K tg (GU K a) [it] it (fun i h => h.IsListIter it a i) where
 mem := by simp
 obj := fun i h st b hb => by
  have e : b = it := by simpa using hb
  subst e
  obtain ⟨o, e, c, d⟩ := st
  exact ⟨o, e, fun v z => by rw [d] at z; cases z⟩
 keep := fun i h h' st k => st.at fun o e => k it (by simp) o e
 item := by
  intro X hP hw hK hc i pins s σ H E I hf st hg
  subst hP hw hK
  obtain ⟨xs, x, hq, hx⟩ := hg
  obtain ⟨aA, rv, p, hz⟩ := I.list hq
  obtain ⟨u, hu, ru⟩ := rv.get hx
  obtain ⟨f0, f1, f2, f3, f4, f5⟩ := hf it (by simp)
  refine wpAny_pyNext_list_item st p.isList (x := u) (by simpa using hu) fun h' aB sb => ?_
  have I1 : Inv X pins σ H { s with heap := h' } := I.turned (t' := s.toks) (fun b o hb e => (sb.2 b hb).trans e) f0 f1 f3 f4 f5
  obtain ⟨o, e, c, d⟩ := id aB
  exact ⟨u, rfl, xc (s := { s with heap := h' }) e c d (by decide) ⟨x, H, I1, ru, ⟨rfl, fun ys hy => by rw [I.zU hy hq]; exact hx⟩, aB, fun b hb => (hf b hb).1⟩⟩
 done := by
  intro X hP hw hK hc i pins s σ H E I hf st hg
  subst hP hw hK
  obtain ⟨xs, hq, hx⟩ := hg
  obtain ⟨aA, rv, p, hz⟩ := I.list hq
  obtain ⟨f0, f1, f2, f3, f4, f5⟩ := hf it (by simp)
  have hl := rv.length
  exact wpAny_pyNext_list_end (I.ok.hd hc) st p.isList (by simp; omega) fun h' eb => ⟨rfl, I.turned (t' := s.toks) (fun b o hb e => eb b o hb e) f0 f1 f3 f4 f5⟩
 self := fun _ _ _ _ _ st h => wpAny_pyIter_listiter st h
theorem vK {P : Program} {w : World} {K : VN} {tg : Expr} (a it : Addr) : Turn P w K tg (GR K a) [it] it (fun i h => h.IsTupleIter it a i) where
 mem := by simp
 obj := fun i h st b hb => by
  have e : b = it := by simpa using hb
  subst e
  obtain ⟨o, e, c, d⟩ := st
  exact ⟨o, e, fun v z => by rw [d] at z; cases z⟩
 keep := fun i h h' st k => st.at fun o e => k it (by simp) o e
 item := by
  intro X hP hw hK hc i pins s σ H E I hf st hg
  subst hP hw hK
  obtain ⟨xs, x, hq, hx⟩ := hg
  obtain ⟨aA, rv, p, hz⟩ := I.tuple hq
  obtain ⟨u, hu, ru⟩ := rv.get hx
  obtain ⟨f0, f1, f2, f3, f4, f5⟩ := hf it (by simp)
  refine wpAny_pyNext_tuple_item st (show s.heap.IsTuple a aA.toArray from p) (x := u) (by simpa using hu) fun h' aB sb => ?_
  have I1 : Inv X pins σ H { s with heap := h' } := I.turned (t' := s.toks) (fun b o hb e => (sb.2 b hb).trans e) f0 f1 f3 f4 f5
  obtain ⟨o, e, c, d⟩ := id aB
  exact ⟨u, rfl, xc (s := { s with heap := h' }) e c d (by decide) ⟨x, H, I1, ru, ⟨rfl, fun ys hy => by rw [I.yU hy hq]; exact hx⟩, aB, fun b hb => (hf b hb).1⟩⟩
 done := by
  intro X hP hw hK hc i pins s σ H E I hf st hg
  subst hP hw hK
  obtain ⟨xs, hq, hx⟩ := hg
  obtain ⟨aA, rv, p, hz⟩ := I.tuple hq
  obtain ⟨f0, f1, f2, f3, f4, f5⟩ := hf it (by simp)
  have hl := rv.length
  exact wpAny_pyNext_tuple_end (I.ok.hd hc) st (show s.heap.IsTuple a aA.toArray from p) (by simp; omega) fun h' eb => ⟨rfl, I.turned (t' := s.toks) (fun b o hb e => eb b o hb e) f0 f1 f3 f4 f5⟩
 self := fun _ _ _ _ _ st h => wpAny_pyIter_tupleiter st h
theorem wO {P : Program} {w : World} {K : VN} {tg : Expr} (it : Addr) (lo : Int) (n : Nat) : Turn P w K tg (EX lo n) [it] it (fun i h => IsRangeIter h it (lo + (i : Nat) * 1) ((n : Int) - (i : Nat)) 1) where
 mem := by simp
 obj := fun i h st b hb => by
  have e : b = it := by simpa using hb
  subst e
  exact ⟨_, st, fun v z => by
   have z' : Data.fields _ = Data.cell v := z
   cases z'⟩
 keep := fun i h h' st k => k it (by simp) _ st
 item := by
  intro X hP hw hK hc i pins s σ H E I hf st hg
  subst hP hw hK
  obtain ⟨f0, f1, f2, f3, f4, f5⟩ := hf it (by simp)
  have W := Walks.range (prog := X.prog) (w := X.w) (I.ok.hd hc) it lo 1 n
  refine W.item i s _ _ hg st fun v h' tk hv aB kk => ?_
  obtain ⟨t, rfl⟩ := hv
  have I1 : Inv X pins σ H { s with heap := h', toks := tk } := I.turned (fun b o hb e => kk b o (by simpa using hb) e) f0 f1 f3 f4 f5
  refine ⟨_, rfl, xc (s := { s with heap := h', toks := tk }) (n := "range_iterator") aB rfl rfl (by decide) ⟨.int (lo + i), H, I1, ⟨t, ?_⟩, ⟨rfl, rfl⟩, aB, fun b hb => (hf b hb).1⟩⟩
  rw [Int.mul_one]
 done := by
  intro X hP hw hK hc i pins s σ H E I hf st hg
  subst hP hw hK
  obtain ⟨f0, f1, f2, f3, f4, f5⟩ := hf it (by simp)
  exact wpAny_pyNext_range_end (I.ok.hd hc) st (by have : n <= i := hg; omega) fun h' eb => ⟨rfl, I.turned (t' := s.toks) (fun b o hb e => eb b o hb e) f0 f1 f3 f4 f5⟩
 self := fun _ _ _ _ _ st h => wpAny_pyIter_rangeiter st h
section
variable {X : Cx} {tg : Expr}
def HV (K : VN) (tl : TE) : TI := fun σ H R => tl σ H fun x H1 => ∃ a, x = .ref a /\ (∃ xs, a6 K H1 a xs) /\ R (GU K a) H1
def Ky (K : VN) (tl : TE) : TI := fun σ H R => tl σ H fun x H1 => ∃ a, x = .ref a /\ (∃ xs, aX K H1 a xs) /\ R (GR K a) H1
theorem bL {l : Expr} {tl : TE} (hl : PE X l tl) : PI X tg l (HV X.K tl) := by
 intro pins s σ H R I h
 refine bU (hl pins s σ H _ I h) fun v s1 ⟨x, H1, I1, r1, q1⟩ => ?_
 obtain ⟨a, e, ⟨xs, hq⟩, q⟩ := q1
 subst e
 cases r1
 obtain ⟨aA, rv, p, hz⟩ := I1.list hq
 refine wpAny_pyIter_list p.isList ?_
 refine ⟨s1.heap.objs.size, [s1.heap.objs.size], _, _, H1, rfl, I1.kept (t' := s1.toks) fun b o e => SV _ e, yK a _, ⟨_, S7 _ rfl, rfl, rfl⟩, fun b hb => ?_, q⟩
 have e : b = s1.heap.objs.size := by simpa using hb
 subst e
 exact I1.yu (SX _) (I1.aV.fresh (SX _))
theorem fv {l : Expr} {tl : TE} (hl : PE X l tl) : PI X tg l (Ky X.K tl) := by
 intro pins s σ H R I h
 refine bU (hl pins s σ H _ I h) fun v s1 ⟨x, H1, I1, r1, q1⟩ => ?_
 obtain ⟨a, e, ⟨xs, hq⟩, q⟩ := q1
 subst e
 cases r1
 obtain ⟨aA, rv, p, hz⟩ := I1.tuple hq
 refine wpAny_pyIter_tuple (show s1.heap.IsTuple a aA.toArray from p) ?_
 refine ⟨s1.heap.objs.size, [s1.heap.objs.size], _, _, H1, rfl, I1.kept (t' := s1.toks) fun b o e => SV _ e, vK a _, ⟨_, S7 _ rfl, rfl, rfl⟩, fun b hb => ?_, q⟩
 have e : b = s1.heap.objs.size := by simpa using hb
 subst e
 exact I1.yu (SX _) (I1.aV.fresh (SX _))
theorem Ac {pins : List (Addr × Obj)} {σ : St} {H : Hp} {s : Shared} {R : It -> Hp -> Prop} {E : Value -> Shared -> Prop} {lo hi : Int} {t u v : Tok} {tk : Nat} (I : Inv X pins σ H s) (h1 : -(2 ^ 62) <= lo) (h2 : lo < 2 ^ 62) (h3 : -(2 ^ 62) <= hi) (h4 : hi < 2 ^ 62)
  (q : R (EX lo (hi - lo).toNat) H) : wpAny (model X.prog X.w) X.A (pyIter (.ref s.heap.objs.size)) (MR X pins σ tg R) E { s with heap := s.heap.push { cls := .type "range", data := .fields #[.int lo t, .int hi u, .int 1 v] }, toks := tk } := by
 refine wpAny_pyIter_range (IsRange.new ..) (small_one h1 h2 h3 h4) ?_
 have I1 : Inv X pins σ H { s with heap := s.heap.push { cls := .type "range", data := .fields #[.int lo t, .int hi u, .int 1 v] }, toks := tk } := I.kept fun b o e => SV _ e
 refine ⟨(s.heap.push { cls := .type "range", data := .fields #[.int lo t, .int hi u, .int 1 v] }).objs.size, [(s.heap.push { cls := .type "range", data := .fields #[.int lo t, .int hi u, .int 1 v] }).objs.size], _, _, H, rfl,
  I1.kept (t' := tk) fun b o e => SV _ e, wO _ lo (hi - lo).toNat, ?_, fun b hb => ?_, q⟩
 ·have e1 : lo + ((0 : Nat) : Int) * 1 = lo := by simp
  have e2 : (((hi - lo).toNat : Nat) : Int) - ((0 : Nat) : Int) = Builtin.Range.rangeSize lo hi 1 := by rw [rangeSize_one]; split <;> omega
  show IsRangeIter _ _ (lo + ((0 : Nat) : Int) * 1) ((((hi - lo).toNat : Nat) : Int) - ((0 : Nat) : Int)) 1
  rw [e1, e2]
  exact S7 _ rfl
 ·have e : b = (s.heap.push { cls := .type "range", data := .fields #[.int lo t, .int hi u, .int 1 v] }).objs.size := by simpa using hb
  subst e
  exact I1.yu (SX _) (I1.aV.fresh (SX _))
def HZ (ta : TA) : TI := fun σ H R => ta σ H fun vs H1 => ∃ j : Int, vs = [.int j] /\ -(2 ^ 62) <= j /\ j < 2 ^ 62 /\ R (EX 0 j.toNat) H1
theorem cA {a : Expr} {ta : TA} {p pos : Pos} (hg : Gl X "range") (hm : X.mg "range" = none) (ha : PA X [a] ta) (hs : starEach [a] X.env = [(false, eval a X.env)] := by rfl) : PI X tg (.Call (.Name "range" p) [a] [] pos) (HZ ta) := by
 intro pins s σ H R I h
 refine Call_ (mL I hg hm boot_range (PyProof.Rows.callWith_type1 (bU (ha pos pins s σ H _ I h) fun us s1 ⟨vs, H1, I1, r1, q1⟩ => ?_) hs rfl))
 obtain ⟨j, e, q1, q2, q⟩ := q1
 subst e
 cases r1 with
 | cons r rr =>
  cases rr
  obtain ⟨t, rfl⟩ := r
  exact call_range_1 (Ac I1 (by omega) (by omega) q1 q2 (by simpa using q))
def KC (wi : TI) (g : TG) (tb : TS) : TS := fun D σ H => wi σ H fun J H1 => ∃ W : Nat -> Nat -> St -> Hp -> Prop, (∃ m, W 0 m σ H1) /\ ∀ i m σ H, W i m σ H ->
 (J.stop i H /\ D.nx σ H) \/ (J.go i H /\ ∃ N : St -> Hp -> Prop, (∀ σ' H', N σ' H' -> ∃ m', m' < m /\ W (i + 1) m' σ' H') /\ ∀ x H', J.Eo i H x H' -> g x σ H' fun σ2 H2 => tb { D with nx := N, ct := N, bk := D.nx } σ2 H2)
def nX (fp : List Addr) (h : Heap) : List (Addr × Obj) := fp.filterMap fun b => (h.get? b).map fun o => (b, o)
theorem iz {fp : List Addr} {h : Heap} {b : Addr} {o : Obj} (hb : b ∈ fp) (e : h.get? b = some o) : (b, o) ∈ nX fp h := List.mem_filterMap.mpr ⟨b, hb, by rw [e]; rfl⟩
theorem y8 {fp : List Addr} {h : Heap} {p : Addr × Obj} (hp : p ∈ nX fp h) : p.1 ∈ fp /\ h.get? p.1 = some p.2 := by
 obtain ⟨b, hb, e⟩ := List.mem_filterMap.mp hp
 cases q : h.get? b with
 | none => rw [q] at e; cases e
 | some o =>
  rw [q] at e
  have e' : (b, o) = p := T8 e
  subst e'
  exact ⟨hb, q⟩
theorem Inv.pinned {pins : List (Addr × Obj)} {σ : St} {H : Hp} {s : Shared} {fp : List Addr} (I : Inv X pins σ H s) (hf : ∀ b ∈ fp, rY X pins H b) (ho : ∀ b ∈ fp, ∃ o, s.heap.get? b = some o /\ ∀ v, o.data ≠ .cell v) : Inv X (pins ++ nX fp s.heap) σ H s :=
 I.w6 fun p hp => (Ts.mp hp).elim (fun z => I.pin p (TC _ z)) fun z => by
  obtain ⟨hb, e⟩ := y8 z
  obtain ⟨f0, f1, f2, _⟩ := hf p.1 hb
  obtain ⟨o, e', d⟩ := ho p.1 hb
  rw [e] at e'; cases e'
  exact ⟨e, f0, f1, f2, d⟩
theorem Inv.lT {pins pl : List (Addr × Obj)} {σ : St} {H : Hp} {s : Shared} (I : Inv X (pins ++ pl) σ H s) : Inv X pins σ H s := I.w6 fun p hp => I.pin p (TC _ (Uz _ hp))
theorem cY {iter : Expr} {body : List Stmt} {wi : TI} {g : TG} {tb : TS} {pos : Pos} (hp : PassesOwn (model X.prog X.w) X.A X.env X.xe) (hc : X.calm = true) (hi : PI X tg iter wi) (hg : PG X tg g) (hb : rL X body tb)
  (hs : ∀ x, foldedSetIterable iter X.env x = pure x := by intro _; rfl) : PS X (.For tg iter body [] pos) (KC wi g tb) := by
 intro pins s σ H D I h
 refine wpAny_For (bU (hi pins s σ H _ I h) fun v s1 h1 => bU h1 fun LC s2 h2 => ?_) hs
 obtain ⟨it, fp, tn, J, H2, e, I2, T, Ej, f2, W, ⟨m0, w0⟩, turn⟩ := h2
 subst e
 have Fp : ∀ {H' : Hp}, (∀ b ∈ fp, H' b = none) -> ∀ b ∈ fp, rY X pins H' b := fun hn b hb => ⟨hn b hb, (f2 b hb).2⟩
 refine codeAny_forLoop_any (fun n s' => ∃ i σ' H', Inv X pins σ' H' s' /\ tn i s'.heap /\ (∀ b ∈ fp, H' b = none) /\ W i n σ' H') ?_ m0 ⟨0, σ, H2, I2, Ej, fun b hb => (f2 b hb).1, w0⟩
 rintro n s3 ⟨i, σ3, H3, I3, EA, MX, w3⟩
 rcases turn i n σ3 H3 w3 with ⟨stop, qn⟩ | ⟨go, N, hN, step⟩
 ·refine Vh hp (bU (T.done X rfl rfl rfl hc i pins s3 σ3 H3 X.xe I3 (Fp MX) EA stop) fun r s4 ⟨hr, I4⟩ => ?_)
  subst hr
  exact wpAny_execs_nil ⟨σ3, H3, I4, qn⟩
 ·refine Vh hp (bU (T.item X rfl rfl rfl hc i pins s3 σ3 H3 X.xe I3 (Fp MX) EA go) fun r s4 ⟨u, hr, h4⟩ => ?_)
  subst hr
  refine Vh hp (bU h4 fun _ s5 ⟨x, H5, I5, r5, y5, Ja, RZ⟩ => ?_)
  have Of := I5.pinned (Fp RZ) (T.obj _ _ Ja)
  refine Vh hp (bU (hg _ s5 σ3 H5 x u _ Of r5 (step x H5 y5)) fun _ s6 ⟨σ6, H6, I6, q6⟩ => ?_)
  refine Vh hp (bU (hb _ s6 σ6 H6 _ I6 q6) fun f s7 q7 => ?_)
  have again : ∀ {σ7 : St} {H7 : Hp}, Inv X (pins ++ nX fp s5.heap) σ7 H7 s7 -> N σ7 H7 -> ∃ m, m < n /\ ∃ i σ' H', Inv X pins σ' H' s7 /\ tn i s7.heap /\ (∀ b ∈ fp, H' b = none) /\ W i m σ' H' := fun {σ7 H7} I7 n7 => by
   obtain ⟨m', hm, w7⟩ := hN σ7 H7 n7
   refine ⟨m', hm, i + 1, σ7, H7, I7.lT, T.keep _ _ _ Ja fun b hb o e => (I7.pin (b, o) (TC _ (TC _ (iz hb e)))).1, fun b hb => ?_, w7⟩
   obtain ⟨o, e, d⟩ := T.obj _ _ Ja b hb
   exact (I7.pin (b, o) (TC _ (TC _ (iz hb e)))).2.1
  cases f with
  | next => obtain ⟨σ7, H7, I7, n7⟩ := q7; exact again I7 n7
  | cont => obtain ⟨σ7, H7, I7, n7⟩ := q7; exact again I7 n7
  | brk => obtain ⟨σ7, H7, I7, q7⟩ := q7; exact ⟨σ7, H7, I7.lT, q7⟩
  | ret v => obtain ⟨x7, σ7, H7, I7, r7, q7⟩ := q7; exact ⟨x7, σ7, H7, I7.lT, r7, q7⟩
end
theorem dN {K : VN} {a : Addr} {xs : List V} {g : TG} {tb : TS} {D : Ends} {σ : St} {H : Hp} (Pv : Nat -> St -> Hp -> Prop) (h0 : Pv 0 σ H) (hl : ∀ i σ H, i <= xs.length -> Pv i σ H -> a6 K H a xs)
  (hs : ∀ i x σ H, xs[i]? = some x -> Pv i σ H -> g x σ H fun σ2 H2 => tb { D with nx := Pv (i + 1), ct := Pv (i + 1), bk := D.nx } σ2 H2) (hd : ∀ σ H, Pv xs.length σ H -> D.nx σ H) :
  ∃ W : Nat -> Nat -> St -> Hp -> Prop, (∃ m, W 0 m σ H) /\ ∀ i m σ H, W i m σ H ->
   ((GU K a).stop i H /\ D.nx σ H) \/ ((GU K a).go i H /\ ∃ N : St -> Hp -> Prop, (∀ σ' H', N σ' H' -> ∃ m', m' < m /\ W (i + 1) m' σ' H') /\ ∀ x H', (GU K a).Eo i H x H' -> g x σ H' fun σ2 H2 => tb { D with nx := N, ct := N, bk := D.nx } σ2 H2) := by
 refine ⟨fun i m σ H => m = xs.length - i /\ i <= xs.length /\ Pv i σ H, ⟨xs.length, by simp, Tw _, h0⟩, ?_⟩
 rintro i m σ H ⟨rfl, hi, p⟩
 have q := hl i σ H hi p
 by_cases gc : i < xs.length
 ·refine .inr ⟨⟨xs, xs[i], q, by simp [gc]⟩, Pv (i + 1), fun σ' H' p' => ⟨xs.length - (i + 1), by omega, rfl, gc, p'⟩, fun x H' y => ?_⟩
  obtain ⟨e, y⟩ := y
  subst e
  exact hs i x σ _ (y xs q) p
 ·have e : i = xs.length := by omega
  subst e
  exact .inl ⟨⟨xs, q, SX _⟩, hd σ H p⟩
theorem xk {K : VN} {a : Addr} {xs : List V} {g : TG} {tb : TS} {D : Ends} {σ : St} {H : Hp} (Pv : Nat -> St -> Hp -> Prop) (h0 : Pv 0 σ H) (hl : ∀ i σ H, i <= xs.length -> Pv i σ H -> aX K H a xs)
  (hs : ∀ i x σ H, xs[i]? = some x -> Pv i σ H -> g x σ H fun σ2 H2 => tb { D with nx := Pv (i + 1), ct := Pv (i + 1), bk := D.nx } σ2 H2) (hd : ∀ σ H, Pv xs.length σ H -> D.nx σ H) :
  ∃ W : Nat -> Nat -> St -> Hp -> Prop, (∃ m, W 0 m σ H) /\ ∀ i m σ H, W i m σ H ->
   ((GR K a).stop i H /\ D.nx σ H) \/ ((GR K a).go i H /\ ∃ N : St -> Hp -> Prop, (∀ σ' H', N σ' H' -> ∃ m', m' < m /\ W (i + 1) m' σ' H') /\ ∀ x H', (GR K a).Eo i H x H' -> g x σ H' fun σ2 H2 => tb { D with nx := N, ct := N, bk := D.nx } σ2 H2) := by
 refine ⟨fun i m σ H => m = xs.length - i /\ i <= xs.length /\ Pv i σ H, ⟨xs.length, by simp, Tw _, h0⟩, ?_⟩
 rintro i m σ H ⟨rfl, hi, p⟩
 have q := hl i σ H hi p
 by_cases gc : i < xs.length
 ·refine .inr ⟨⟨xs, xs[i], q, by simp [gc]⟩, Pv (i + 1), fun σ' H' p' => ⟨xs.length - (i + 1), by omega, rfl, gc, p'⟩, fun x H' y => ?_⟩
  obtain ⟨e, y⟩ := y
  subst e
  exact hs i x σ _ (y xs q) p
 ·have e : i = xs.length := by omega
  subst e
  exact .inl ⟨⟨xs, q, SX _⟩, hd σ H p⟩
theorem jF {lo : Int} {n : Nat} {g : TG} {tb : TS} {D : Ends} {σ : St} {H : Hp} (Pv : Nat -> St -> Hp -> Prop) (h0 : Pv 0 σ H)
  (hs : ∀ i σ H, i < n -> Pv i σ H -> g (.int (lo + i)) σ H fun σ2 H2 => tb { D with nx := Pv (i + 1), ct := Pv (i + 1), bk := D.nx } σ2 H2) (hd : ∀ σ H, Pv n σ H -> D.nx σ H) :
  ∃ W : Nat -> Nat -> St -> Hp -> Prop, (∃ m, W 0 m σ H) /\ ∀ i m σ H, W i m σ H ->
   ((EX lo n).stop i H /\ D.nx σ H) \/ ((EX lo n).go i H /\ ∃ N : St -> Hp -> Prop, (∀ σ' H', N σ' H' -> ∃ m', m' < m /\ W (i + 1) m' σ' H') /\ ∀ x H', (EX lo n).Eo i H x H' -> g x σ H' fun σ2 H2 => tb { D with nx := N, ct := N, bk := D.nx } σ2 H2) := by
 refine ⟨fun i m σ H => m = n - i /\ i <= n /\ Pv i σ H, ⟨n, by simp, Tw _, h0⟩, ?_⟩
 rintro i m σ H ⟨rfl, hi, p⟩
 by_cases gc : i < n
 ·refine .inr ⟨gc, Pv (i + 1), fun σ' H' p' => ⟨n - (i + 1), by omega, rfl, gc, p'⟩, fun x H' y => ?_⟩
  obtain ⟨e, y⟩ := y
  subst e y
  exact hs i σ _ gc p
 ·have e : i = n := by omega
  subst e
  exact .inl ⟨SX _, hd σ H p⟩
abbrev R2 := V -> V -> Hp -> VK -> Prop
def h9 (X : Cx) (f : Value -> Value -> Sem Value) (r : R2) : Prop :=
 ∀ (pins : List (Addr × Obj)) (s : Shared) (σ : St) (H : Hp) (x y : V) (v u : Value) (Q : VK), Inv X pins σ H s -> RelV x v -> RelV y u -> r x y H Q ->
  wpAny (model X.prog X.w) X.A (f v u) (EP X pins σ Q) X.xe s
def Lq (X : Cx) (f : Value -> Sem Value) (r : V -> Hp -> VK -> Prop) : Prop :=
 ∀ (pins : List (Addr × Obj)) (s : Shared) (σ : St) (H : Hp) (x : V) (v : Value) (Q : VK), Inv X pins σ H s -> RelV x v -> r x H Q ->
  wpAny (model X.prog X.w) X.A (f v) (EP X pins σ Q) X.xe s
def dH (X : Cx) (f : Value) (r : List V -> Hp -> VK -> Prop) : Prop :=
 ∀ (pins : List (Addr × Obj)) (s : Shared) (σ : St) (H : Hp) (xs : List V) (us : List Value) (Q : VK), Inv X pins σ H s -> Vals xs us -> r xs H Q ->
  wpAny (model X.prog X.w) X.A (call f us) (EP X pins σ Q) X.xe s
def Km (X : Cx) (r : V -> Hp -> (Bool -> Hp -> Prop) -> Prop) : Prop :=
 ∀ (pins : List (Addr × Obj)) (s : Shared) (σ : St) (H : Hp) (x : V) (v : Value) (Q : Bool -> Hp -> Prop), Inv X pins σ H s -> RelV x v -> r x H Q ->
  wpAny (model X.prog X.w) X.A (truthy v) (TP X pins σ Q) X.xe s
def JE (r : R2) (ta tb : TE) : TE := fun σ H Q => ta σ H fun x H1 => tb σ H1 fun y H2 => r x y H2 Q
def PN (r : V -> Hp -> VK -> Prop) (ta : TE) : TE := fun σ H Q => ta σ H fun x H1 => r x H1 Q
def rI (C : Int -> Int -> Prop) (g : Int -> Int -> V) : R2 := fun x y H Q => ∃ i j, x = .int i /\ y = .int j /\ C i j /\ Q (g i j) H
def Gj (g : Int -> Int -> V) : R2 := fun x y H Q => ∃ i j, x = .int i /\ y = .int j /\ Q (g i j) H
def rU (g : Int -> V) : V -> Hp -> VK -> Prop := fun x H Q => ∃ i, x = .int i /\ Q (g i) H
section
variable {X : Cx} {a b c : Expr} {ta tb tc : TE} {pos : Pos}
theorem Gx (ha : PE X a ta) (hb : PE X b tb) {pins : List (Addr × Obj)} {s : Shared} {σ : St} {H : Hp} {R : V -> V -> Hp -> Prop} (I : Inv X pins σ H s)
  (h : ta σ H fun x H1 => tb σ H1 fun y H2 => R x y H2) {Q : Value -> Shared -> Prop} {f : Value -> Value -> Sem Value}
  (hf : ∀ v u s2 x y H2, Inv X pins σ H2 s2 -> RelV x v -> RelV y u -> R x y H2 -> wpAny (model X.prog X.w) X.A (f v u) Q X.xe s2) :
  wpAny (model X.prog X.w) X.A (eval a X.env) (fun v s₁ => wpAny (model X.prog X.w) X.A (eval b X.env) (fun u s₂ => wpAny (model X.prog X.w) X.A (f v u) Q X.xe s₂) X.xe s₁) X.xe s := by
 refine bU (ha pins s σ H _ I h) fun v s1 ⟨x, H1, I1, r1, q1⟩ => ?_
 refine bU (hb pins s1 σ H1 _ I1 q1) fun u s2 ⟨y, H2, I2, r2, q2⟩ => ?_
 exact hf v u s2 x y H2 I2 r1 r2 q2
theorem bo {op : Operator} {r : R2} (ho : h9 X (binaryOp op) r) (ha : PE X a ta) (hb : PE X b tb) : PE X (.BinOp a op b pos) (JE r ta tb) := by
 intro pins s σ H Q I h
 exact wpAny_BinOp (Gx ha hb I h fun v u s2 x y H2 I2 rx ry q => ho pins s2 σ H2 x y v u Q I2 rx ry q)
theorem HL {op : UnaryOp} {r : V -> Hp -> VK -> Prop} (ho : Lq X (unaryOp op) r) (ha : PE X a ta) : PE X (.UnaryOp op a pos) (PN r ta) := by
 intro pins s σ H Q I h
 exact UnaryOp_ (bU (ha pins s σ H _ I h) fun v s1 ⟨x, H1, I1, r1, q1⟩ => ho pins s1 σ H1 x v Q I1 r1 q1)
theorem Jy {f : Value -> Value -> Sem Value} {C : Int -> Int -> Prop} {g : Int -> Int -> Int}
  (rule : ∀ (i j : Int) (t u : Tok) (s : Shared) (Q : Value -> Shared -> Prop) (E : Value -> Shared -> Prop), C i j -> Q (.int (g i j) s.toks) { s with toks := s.toks + 1 } -> wpAny (model X.prog X.w) X.A (f (.int i t) (.int j u)) Q E s) :
  h9 X f (rI C fun i j => .int (g i j)) := by
 intro pins s σ H x y v u Q I rx ry h
 obtain ⟨i, j, rfl, rfl, hc, q⟩ := h
 obtain ⟨t, rfl⟩ := rx
 obtain ⟨t', rfl⟩ := ry
 exact rule i j t t' s _ _ hc ⟨.int (g i j), H, I.tok _, ⟨_, rfl⟩, q⟩
theorem Hr {f : Value -> Value -> Sem Value} {g : Int -> Int -> Int}
  (rule : ∀ (i j : Int) (t u : Tok) (s : Shared) (Q : Value -> Shared -> Prop) (E : Value -> Shared -> Prop), Q (.int (g i j) s.toks) { s with toks := s.toks + 1 } -> wpAny (model X.prog X.w) X.A (f (.int i t) (.int j u)) Q E s) :
  h9 X f (Gj fun i j => .int (g i j)) := by
 intro pins s σ H x y v u Q I rx ry h
 obtain ⟨i, j, rfl, rfl, q⟩ := h
 obtain ⟨t, rfl⟩ := rx
 obtain ⟨t', rfl⟩ := ry
 exact rule i j t t' s _ _ ⟨.int (g i j), H, I.tok _, ⟨_, rfl⟩, q⟩
theorem EO {f : Value -> Value -> Sem Value} {g : Int -> Int -> Bool}
  (rule : ∀ (i j : Int) (t u : Tok) (s : Shared) (Q : Value -> Shared -> Prop) (E : Value -> Shared -> Prop), Q (.bool (g i j)) s -> wpAny (model X.prog X.w) X.A (f (.int i t) (.int j u)) Q E s) :
  h9 X f (Gj fun i j => .bl (g i j)) := by
 intro pins s σ H x y v u Q I rx ry h
 obtain ⟨i, j, rfl, rfl, q⟩ := h
 obtain ⟨t, rfl⟩ := rx
 obtain ⟨t', rfl⟩ := ry
 exact rule i j t t' s _ _ ⟨.bl (g i j), H, I, rfl, q⟩
def Mj (i j : Int) : Prop := 0 < j /\ j < 1073741824
def KJ (i j : Int) : Prop := 0 <= j /\ j <= 1000000 /\ i.natAbs < 2 ^ 64
def FW (i j : Int) : Prop := (-(2 ^ 64) < i /\ i < 2 ^ 64) \/ (-(2 ^ 64) < j /\ j < 2 ^ 64)
theorem FW.ok {i j : Int} (h : FW i j) : IntMulOk i j := by
 rcases h with ⟨h1, h2⟩ | ⟨h1, h2⟩
 ·exact .of_left (intBits_le_64 h1 h2)
 ·exact .of_right (intBits_le_64 h1 h2)
theorem gK : h9 X (binaryOp .Add) (Gj fun i j => .int (i + j)) := Hr fun _ _ _ _ _ _ _ q => add_int q
theorem BL : h9 X (binaryOp .Sub) (Gj fun i j => .int (i - j)) := Hr fun _ _ _ _ _ _ _ q => sub_int q
theorem Ft : h9 X (binaryOp .Mult) (rI FW fun i j => .int (i * j)) := Jy fun _ _ _ _ _ _ _ hc q => mul_int q hc.ok
theorem js : h9 X (binaryOp .FloorDiv) (rI Mj fun i j => .int (i / j)) := Jy fun i j _ _ _ _ _ hc q => by
 have h1 : (0 : Int) < j := hc.1
 have h2 : j < 1073741824 := hc.2
 exact floordiv_int (by omega) (by rw [Int.fdiv_eq_ediv_of_nonneg i (by omega)]; exact q) (.inl (PyProof.noPylong_small (by omega)))
theorem dZ : h9 X (binaryOp .Mod) (rI (fun _ j => 0 < j) fun i j => .int (i % j)) := Jy fun i j _ _ _ _ _ hc q => by
 have h1 : (0 : Int) < j := hc
 exact mod_int' (by omega) (by rw [Int.fmod_eq_emod_of_nonneg i (by omega)]; exact q)
theorem Bp : h9 X (binaryOp .Pow) (rI KJ fun i j => .int (i ^ j.toNat)) := Jy fun _ _ _ _ _ _ _ hc q => pow_int_small hc.1 hc.2.1 hc.2.2 q
theorem QP {f : Value -> Sem Value} {g : Int -> Int}
  (rule : ∀ (i : Int) (t : Tok) (s : Shared) (Q : Value -> Shared -> Prop) (E : Value -> Shared -> Prop), Q (.int (g i) s.toks) { s with toks := s.toks + 1 } -> wpAny (model X.prog X.w) X.A (f (.int i t)) Q E s) :
  Lq X f (rU fun i => .int (g i)) := by
 intro pins s σ H x v Q I rx h
 obtain ⟨i, rfl, q⟩ := h
 obtain ⟨t, rfl⟩ := rx
 exact rule i t s _ _ ⟨.int (g i), H, I.tok _, ⟨_, rfl⟩, q⟩
theorem Ge : Lq X (unaryOp .USub) (rU fun i => .int (-i)) := QP fun _ _ _ _ _ q => neg_int q
end
def HP : V -> V -> Bool
 | .cq, .cq => true | .cq, .int _ => true | .int _, .cq => true | .cq, .bl _ => true | .bl _, .cq => true | .cq, .str _ => true | .str _, .cq => true
 | .int _, .int _ => true | .bl _, .bl _ => true | .str _, .str _ => true | .xS _, .xS _ => true
 | .int _, .str _ => true | .str _, .int _ => true | .bl _, .str _ => true | .str _, .bl _ => true
 | _, _ => false
def OG : R2 := fun x y H Q => HP x y = true /\ Q (.bl (decide (x = y))) H
def Pp : R2 := fun x y H Q => HP x y = true /\ Q (.bl (!decide (x = y))) H
theorem xI {i j : Int} : decide (V.int i = V.int j) = (i == j) := by
 rw [Vi]
 simp
theorem Aw {i j : Bool} : decide (V.bl i = V.bl j) = (i == j) := by
 rw [Vi]
 simp
theorem xn {i j : Str} : decide (V.str i = V.str j) = (i == j) := by
 rw [Vi]
 simp
theorem xB {i j : Array UInt8} : decide (V.xS i = V.xS j) = (i.toList == j.toList) := by
 rw [Vi]
 cases i
 cases j
 simp
section
variable {X : Cx} {a b c : Expr} {ta tb tc : TE} {pos : Pos}
theorem a8 {pins : List (Addr × Obj)} {σ : St} {H : Hp} {s : Shared} {Q : VK} {k k' : Bool} (I : Inv X pins σ H s) (q : Q (.bl k) H) (e : k = k') : EP X pins σ Q (.bool k') s := by
 subst e
 exact ⟨.bl k, H, I, rfl, q⟩
theorem jX : h9 X (compareOp .Eq) OG := by
 intro pins s σ H x y v u Q I rx ry h
 obtain ⟨hs, q⟩ := h
 cases x with
 | cq =>
  cases rx
  cases y with
  | cq => cases ry; exact PySem.EqNone.eq_none_none (a8 I q (by simp))
  | bl j => cases ry; exact PySem.EqNone.eq_none_bool (a8 I q (by simp))
  | int j => obtain ⟨t', rfl⟩ := ry; exact PySem.EqNone.eq_none_int (a8 I q (by simp))
  | str j => obtain ⟨t', rfl⟩ := ry; exact PySem.EqNone.eq_none_str (a8 I q (by simp))
  | _ => exact absurd (show false = true from hs) S3
 | bl i =>
  cases rx
  cases y with
  | cq => cases ry; exact PySem.EqNone.eq_bool_none (a8 I q (by simp))
  | bl j => cases ry; exact eq_bool (a8 I q Aw)
  | str j => obtain ⟨t', rfl⟩ := ry; exact PySem.EqMixed.eq_bool_str (a8 I q (by simp))
  | _ => exact absurd (show false = true from hs) S3
 | int i =>
  obtain ⟨t, rfl⟩ := rx
  cases y with
  | cq => cases ry; exact PySem.EqNone.eq_int_none (a8 I q (by simp))
  | int j => obtain ⟨t', rfl⟩ := ry; exact eq_int (a8 I q xI)
  | str j => obtain ⟨t', rfl⟩ := ry; exact PySem.EqMixed.eq_int_str (a8 I q (by simp))
  | _ => exact absurd (show false = true from hs) S3
 | str i =>
  obtain ⟨t, rfl⟩ := rx
  cases y with
  | cq => cases ry; exact PySem.EqNone.eq_str_none (a8 I q (by simp))
  | bl j => cases ry; exact PySem.EqMixed.eq_str_bool (a8 I q (by simp))
  | int j => obtain ⟨t', rfl⟩ := ry; exact PySem.EqMixed.eq_str_int (a8 I q (by simp))
  | str j => obtain ⟨t', rfl⟩ := ry; exact eq_str (a8 I q xn)
  | _ => exact absurd (show false = true from hs) S3
 | xS i =>
  obtain ⟨t, rfl⟩ := rx
  cases y with
  | xS j => obtain ⟨t', rfl⟩ := ry; exact PySem.W.eq_bytes (a8 I q xB)
  | _ => exact absurd (show false = true from hs) S3
 | _ => cases y <;> exact absurd (show false = true from hs) S3
theorem lP : h9 X (compareOp .NotEq) Pp := by
 intro pins s σ H x y v u Q I rx ry h
 obtain ⟨hs, q⟩ := h
 cases x with
 | cq =>
  cases rx
  cases y with
  | cq => cases ry; exact PySem.EqNone.ne_none_none (a8 I q (by simp))
  | bl j => cases ry; exact PySem.EqNone.ne_none_bool (a8 I q (by simp))
  | int j => obtain ⟨t', rfl⟩ := ry; exact PySem.EqNone.ne_none_int (a8 I q (by simp))
  | str j => obtain ⟨t', rfl⟩ := ry; exact PySem.EqNone.ne_none_str (a8 I q (by simp))
  | _ => exact absurd (show false = true from hs) S3
 | bl i =>
  cases rx
  cases y with
  | cq => cases ry; exact PySem.EqNone.ne_bool_none (a8 I q (by simp))
  | bl j => cases ry; exact ne_bool (a8 I q (Um not Aw))
  | str j => obtain ⟨t', rfl⟩ := ry; exact PySem.EqMixed.ne_bool_str (a8 I q (by simp))
  | _ => exact absurd (show false = true from hs) S3
 | int i =>
  obtain ⟨t, rfl⟩ := rx
  cases y with
  | cq => cases ry; exact PySem.EqNone.ne_int_none (a8 I q (by simp))
  | int j => obtain ⟨t', rfl⟩ := ry; exact ne_int (a8 I q (Um not xI))
  | str j => obtain ⟨t', rfl⟩ := ry; exact PySem.EqMixed.ne_int_str (a8 I q (by simp))
  | _ => exact absurd (show false = true from hs) S3
 | str i =>
  obtain ⟨t, rfl⟩ := rx
  cases y with
  | cq => cases ry; exact PySem.EqNone.ne_str_none (a8 I q (by simp))
  | bl j => cases ry; exact PySem.EqMixed.ne_str_bool (a8 I q (by simp))
  | int j => obtain ⟨t', rfl⟩ := ry; exact PySem.EqMixed.ne_str_int (a8 I q (by simp))
  | str j => obtain ⟨t', rfl⟩ := ry; exact ne_str (a8 I q (Um not xn))
  | _ => exact absurd (show false = true from hs) S3
 | xS i =>
  obtain ⟨t, rfl⟩ := rx
  cases y with
  | xS j => obtain ⟨t', rfl⟩ := ry; exact PySem.W.ne_bytes (a8 I q (Um not xB))
  | _ => exact absurd (show false = true from hs) S3
 | _ => cases y <;> exact absurd (show false = true from hs) S3
theorem uw : h9 X (compareOp .Lt) (Gj fun i j => .bl (decide (i < j))) := EO fun _ _ _ _ _ _ _ q => lt_int q
theorem jc : h9 X (compareOp .LtE) (Gj fun i j => .bl (decide (i <= j))) := EO fun _ _ _ _ _ _ _ q => le_int q
theorem xP : h9 X (compareOp .Gt) (Gj fun i j => .bl (decide (j < i))) := EO fun _ _ _ _ _ _ _ q => gt_int q
theorem BE : h9 X (compareOp .Is) (fun x y H Q => y = .cq /\ Q (.bl (decide (x = .cq))) H) := by
 intro pins s σ H x y v u Q I rx ry h
 obtain ⟨rfl, q⟩ := h
 cases ry
 refine is_none_gen (a8 I q ?_)
 cases x <;> first
  | (cases rx; rfl)
  | (obtain ⟨t, rfl⟩ := rx; rfl)
theorem h9.or {f : Value -> Value -> Sem Value} {r r' : R2} (h : h9 X f r) (h' : h9 X f r') : h9 X f (fun x y H Q => r x y H Q \/ r' x y H Q) := by
 intro pins s σ H x y v u Q I rx ry q
 rcases q with q | q
 ·exact h pins s σ H x y v u Q I rx ry q
 ·exact h' pins s σ H x y v u Q I rx ry q
theorem a7 (b : Expr) {op : CmpOp} (h : op ≠ .In := by decide) (h2 : op ≠ .NotIn := by decide) : behindInMarks op b = false := by
 have e1 : (op == CmpOp.In) = false := by cases op <;> first | rfl | exact absurd rfl h
 have e2 : (op == CmpOp.NotIn) = false := by cases op <;> first | rfl | exact absurd rfl h2
 cases b <;> simp [behindInMarks, e1, e2]
theorem fB {op : CmpOp} {r : R2} (ho : h9 X (compareOp op) r) (ha : PE X a ta) (hb : PE X b tb) (hm : behindInMarks op b = false) : PE X (.Compare a [op] [b] pos) (JE r ta tb) := by
 intro pins s σ H Q I h
 exact wpAny_Compare1 (Gx ha hb I h fun v u s2 x y H2 I2 rx ry q => ho pins s2 σ H2 x y v u Q I2 rx ry q) hm
def DY (t : TE) : TT := fun σ H Q => t σ H fun x H' => ∃ k, x = .bl k /\ Q k H'
theorem aE {op : CmpOp} {r : R2} (ho : h9 X (compareOp op) r) (ha : PE X a ta) (hb : PE X b tb) (hm : behindInMarks op b = false) : PT X (.Compare a [op] [b] pos) (DY (JE r ta tb)) := by
 intro pins s σ H Q I h
 refine wpAny_isTrue_Compare1 (bU (ha pins s σ H _ I h) fun v s1 ⟨x, H1, I1, r1, q1⟩ => bU (hb pins s1 σ H1 _ I1 q1) fun u s2 ⟨y, H2, I2, r2, q2⟩ =>
  bU (ho pins s2 σ H2 x y v u _ I2 r1 r2 q2) fun c s3 ⟨z, H3, I3, r3, k, e, q3⟩ => ?_) hm
 subst e
 cases r3
 exact Ud ⟨H3, I3, q3⟩
def Bi (r r' : R2) (ta tb tc : TE) : TE := fun σ H Q => ta σ H fun x H1 => tb σ H1 fun y H2 => r x y H2 fun z H3 => ∃ k, z = .bl k /\
 (if k = true then tc σ H3 fun w' H4 => r' y w' H4 Q else Q (.bl false) H3)
theorem uZ {op FP : CmpOp} {r r' : R2} (ho : h9 X (compareOp op) r) (k8 : h9 X (compareOp FP) r') (ha : PE X a ta) (hb : PE X b tb) (hc : PE X c tc)
  (hm : lastMarks [op, FP] [b, c] = false := by with_unfolding_all rfl) : PE X (.Compare a [op, FP] [b, c] pos) (Bi r r' ta tb tc) := by
 intro pins s σ H Q I h
 refine Compare_chain (bU (ha pins s σ H _ I h) fun v s1 ⟨x, H1, I1, r1, q1⟩ => chain_link (bU (hb pins s1 σ H1 _ I1 q1) fun u s2 ⟨y, H2, I2, r2, q2⟩ =>
  bU (ho pins s2 σ H2 x y v u _ I2 r1 r2 q2) fun d s3 ⟨z, H3, I3, r3, k, e, q3⟩ => ?_)) hm
 subst e
 cases r3
 refine Ud ?_
 cases k with
 | false => exact ite_ff ⟨.bl false, H3, I3, rfl, q3⟩
 | true => exact ite_tt (chain_last (bU (hc pins s3 σ H3 _ I3 q3) fun w' s4 ⟨z', H4, I4, r4, q4⟩ => k8 pins s4 σ H4 y z' u w' Q I4 r2 r4 q4))
theorem kN {op FP : CmpOp} {r r' : R2} (ho : h9 X (compareOp op) r) (k8 : h9 X (compareOp FP) r') (ha : PE X a ta) (hb : PE X b tb) (hc : PE X c tc)
  (hm : lastMarks [op, FP] [b, c] = false := by with_unfolding_all rfl) : PT X (.Compare a [op, FP] [b, c] pos) (DY (Bi r r' ta tb tc)) := by
 intro pins s σ H Q I h
 refine isTrue_chain (bU (ha pins s σ H _ I h) fun v s1 ⟨x, H1, I1, r1, q1⟩ => test_link (bU (hb pins s1 σ H1 _ I1 q1) fun u s2 ⟨y, H2, I2, r2, q2⟩ =>
  bU (ho pins s2 σ H2 x y v u _ I2 r1 r2 q2) fun d s3 ⟨z, H3, I3, r3, k, e, q3⟩ => ?_)) hm
 subst e
 cases r3
 refine Ud ?_
 cases k with
 | false =>
  obtain ⟨k', e', q'⟩ := q3
  cases e'
  exact ite_ff ⟨H3, I3, q'⟩
 | true =>
  refine ite_tt (test_last (bU (hc pins s3 σ H3 _ I3 q3) fun w' s4 ⟨z', H4, I4, r4, q4⟩ => bU (k8 pins s4 σ H4 y z' u w' _ I4 r2 r4 q4) fun d' s5 ⟨z2, H5, I5, r5, k2, e2, q5⟩ => ?_))
  subst e2
  cases r5
  exact Ud ⟨H5, I5, q5⟩
def IX (K : VN) (x : V) (H : Hp) (k : Bool) : Prop :=
 match x with
 | .cq => k = false
 | .bl b => k = b
 | .int i => k = (i != 0)
 | .str y => y.length <= sizeLine /\ k = ((y.length : Int) != 0)
 | .xS y => y.size <= sizeLine /\ k = ((y.size : Int) != 0)
 | .ref p => (∃ xs, a6 K H p xs /\ k = !xs.isEmpty) \/ (∃ xs, aX K H p xs /\ k = !xs.isEmpty) \/ ∃ kvs, H p = some (.dK kvs) /\ k = !kvs.isEmpty
 | _ => False
theorem vW {κ : Type} {kvs : List (κ × V)} {vs : List (κ × Value)} (r : KV kvs vs) : (!vs.isEmpty) = !kvs.isEmpty := by
 cases r <;> rfl
theorem nV {xs : List V} {aA : List Value} (r : Vals xs aA) : (!aA.toArray.isEmpty) = !xs.isEmpty := by
 cases r <;> simp
theorem sV : (sizeLine : Nat) < 2 ^ 63 := by rw [UV]; decide
theorem Fm : Km X (fun x H Q => ∃ k, IX X.K x H k /\ Q k H) := by
 intro pins s σ H x v Q I rx h
 obtain ⟨k, e, q⟩ := h
 have hl := sV
 have hs : sizeLine = 16777216 := UV
 cases x with
 | cq =>
  cases rx
  have e' : k = false := e
  subst e'
  exact truthy_none ⟨H, I, q⟩
 | bl b =>
  cases rx
  have e' : k = b := e
  subst e'
  exact Ud ⟨H, I, q⟩
 | int i =>
  obtain ⟨t, rfl⟩ := rx
  have e' : k = (i != 0) := e
  subst e'
  exact PySem.P.truthy_int ⟨H, I, q⟩
 | str y =>
  obtain ⟨t, rfl⟩ := rx
  obtain ⟨hy, e'⟩ : y.length <= sizeLine /\ k = ((y.length : Int) != 0) := e
  subst e'
  exact PySem.P.truthy_str (by omega) ⟨H, I.tok _, q⟩
 | xS y =>
  obtain ⟨t, rfl⟩ := rx
  obtain ⟨hy, e'⟩ : y.size <= sizeLine /\ k = ((y.size : Int) != 0) := e
  subst e'
  exact PySem.W.truthy_bytes (by omega) ⟨H, I.tok _, q⟩
 | ref p =>
  cases rx
  have e' : (∃ xs, a6 X.K H p xs /\ k = !xs.isEmpty) \/ (∃ xs, aX X.K H p xs /\ k = !xs.isEmpty) \/ ∃ kvs, H p = some (.dK kvs) /\ k = !kvs.isEmpty := e
  rcases e' with ⟨xs, hx, e'⟩ | ⟨xs, hx, e'⟩ | ⟨kvs, hx, e'⟩
  ·subst e'
   obtain ⟨aA, r, pl, hz⟩ := I.list hx
   have hlen := r.length
   exact wpAny_truthy_list pl.isList (by simp only [Tb]; omega) ⟨H, I.tok _, by rw [nV r]; exact q⟩
  ·subst e'
   obtain ⟨aA, r, pl, hz⟩ := I.tuple hx
   have hlen := r.length
   exact truthy_tuple pl (by simp only [Tb]; omega) ⟨H, I.tok _, by rw [nV r]; exact q⟩
  ·subst e'
   obtain ⟨hz, hS, vs, r, m⟩ : kvs.length <= sizeLine /\ (p == sysModules) = false /\ ∃ vs, KV kvs vs /\ s.heap.DictOf (rW X.prog X.w) p vs := I.aV p _ hx
   have hlen : kvs.length = vs.length := Uq r
   exact wpAny_truthy_dict hS m (by omega) ⟨H, I.tok _, by rw [vW r]; exact q⟩
 | _ => exact (show False from e).elim
theorem zW (ha : PE X a ta) (he : ∀ whole, isTrue a X.env whole = (do let v <- whole; standAt a.pos; holding [v] (truthy v))) :
  PT X a (fun σ H Q => ta σ H fun x H' => ∃ k, IX X.K x H' k /\ Q k H') := by
 intro pins s σ H Q I h
 exact isTrue_plain (bU (ha pins s σ H _ I h) fun v s1 ⟨x, H1, I1, r1, q1⟩ => Fm pins s1 σ H1 x v Q I1 r1 q1) (he _)
theorem vals1 {x : V} {us : List Value} (r : Vals [x] us) : ∃ u, us = [u] /\ RelV x u := by
 cases r with
 | cons r1 r2 => cases r2; exact ⟨_, rfl, r1⟩
theorem vals2 {x y : V} {us : List Value} (r : Vals [x, y] us) : ∃ u w', us = [u, w'] /\ RelV x u /\ RelV y w' := by
 cases r with
 | cons r1 r2 =>
  cases r2 with
  | cons r3 r4 => cases r4; exact ⟨_, _, rfl, r1, r3⟩
end
structure vO (h : Heap) (x dx C : Addr) (mA : Str -> Option Value) : Prop where
 obj : h.get? x = some (PySem.W.instObj C dx)
 ns : h.Ns1 dx mA
 ne : dx ≠ x
theorem yO {h : Heap} {dx : Addr} {mA : Str -> Option Value} (n : h.Ns1 dx mA) : ∃ od, h.get? dx = some od /\ ∀ name, PySem.W.lookIn name od = some (mA name) := by
 obtain ⟨o, es, ep, ho, hd, hk, _, hm⟩ := n
 refine ⟨o, ho, fun name => ?_⟩
 have e := hm name
 unfold nsFind findBy at e
 rw [<- Array.find?_toList] at e
 unfold PySem.W.lookIn
 rw [hd]
 dsimp only
 split
 ·rename_i y q
  rw [q] at e
  exact Um some e
 ·rename_i q
  rw [q] at e
  have a : es.toList.any (·.refKey) = false := by
   rw [List.any_eq_false]
   intro y hy
   obtain ⟨z, t, LH⟩ := hk y (Array.mem_toList_iff.mp hy)
   simp [DictEntry.refKey, LH]
  have a' : ¬ es.toList.any (·.refKey) = true := by rw [a]; exact S3
  rw [if_neg a']
  exact Um some e
theorem vO.look {h : Heap} {x dx C : Addr} {mA : Str -> Option Value} (I : vO h x dx C mA) : ∃ od, PySem.W.InstAt h x (PySem.W.instObj C dx) C (some od) /\ ∀ name, PySem.W.lookIn name od = some (mA name) :=
 let ⟨od, ho, hl⟩ := yO I.ns
 ⟨od, ⟨I.obj, rfl, rfl, ho⟩, hl⟩
section
variable {prog : Program} {w : World} {A : Around} {E : Value -> Shared -> Prop} {s : Shared} {K : VN} {x dx C f : Addr} {mA : Str -> Option Value} {name : Str} {v : Value}
theorem get_map {expr : Bool} {Q : Value -> Shared -> Prop} (X : K.In s.heap) (I : vO s.heap x dx C mA) (hg : PySem.W.plainGet K C name = true) (hh : PySem.W.hasDictIn K C = true)
  (ha : PySem.W.findIn K (.ref C) name = some none) (hv : mA name = some v) (Ql : PySem.W.handedIn v = true) (h : Q v { s with toks := s.toks + 1 }) :
  wpAny (model prog w) A (getAttr (.ref x) name expr) Q E s := by
 obtain ⟨od, J, hl⟩ := I.look
 exact PySem.W.get_value X J (PySem.W.plainGet_of hg).1 (PySem.W.findObj_own hh ha rfl (by rw [hl, hv])) Ql h
theorem BM {pl : Sem Bool} {Q : Value × List Value -> Shared -> Prop} (X : K.In s.heap) (I : vO s.heap x dx C mA) (hg : PySem.W.plainGet K C name = true)
  (hf : PySem.W.findIn K (.ref C) name = some (some (.ref f))) (ht : PySem.W.isFn K (.ref f) = true) (hv : mA name = none) (h : Q (.ref f, [.ref x]) s) :
  wpAny (model prog w) A (getMethod (.ref x) name pl) Q E s := by
 obtain ⟨od, J, hl⟩ := I.look
 exact PySem.W.method_fn X J (PySem.W.plainGet_of hg).1 (PySem.W.plainGet_of hg).2 hf (U4.mp ht) (by show (PySem.W.lookIn name od).map (·.isSome) = some false; rw [hl, hv]; rfl) h
theorem CH {ns : List Str} {Q : Unit -> Shared -> Prop} (X : K.In s.heap) (I : vO s.heap x dx C mA)
  (hs : PySem.W.findIn K (.ref C) "__setattr__" = some (some (.builtin "object.__setattr__"))) (hp : PySem.W.plainOver K C = true) (ht : PySem.W.takerIn K C name = some none) (hh : PySem.W.hasDictIn K C = true)
  (hw : PySem.Within mA ns) (hsz : ns.length <= sizeLine)
  (h : ∀ h', vO h' x dx C (fun y => if y = name then some v else mA y) -> Heap.SameBut dx s.heap h' -> Q () { s with heap := h', toks := s.toks + 2 }) :
  wpAny (model prog w) A (setAttr (.ref x) name v) Q E s := by
 obtain ⟨od, J, hl⟩ := I.look
 refine PySem.W.set_plain X J hs (PySem.W.osa_open (s := { s with toks := s.toks + 1 }) (r := none) X J hp ht fun b => ?_)
 obtain ⟨cd, hc, vn⟩ := PySem.W.any_some hh
 have hx : s.heap.get? x = some ⟨.ref C, some dx, .plain, #[]⟩ := I.obj
 refine SS (SU (SS (SS (wpAny_loadPart hx (SS (PySem.W.Looks.here (s := { s with toks := s.toks + 1 }) (PySem.W.looks_clsIn X hc) ?_))))))
 rw [vn]
 refine SU (a := some dx) (SS (SU (SS ?_)))
 refine wpAny_nsSet1 (s := { s with toks := s.toks + 1 }) I.ns fun h' JK HW => ?_
 obtain ⟨oD, SE, Sj, Ot, Rx, OJ⟩ := JK.count (PySem.Within.cons name v hw)
 refine SS (wpAny_lookBehind Ot (by rw [Rx]; exact pastItsLine_dict (S8 OJ (by rw [TY]; omega))) ?_)
 exact SU (h _ ⟨(HW.2 _ (Vl I.ne)).trans I.obj, JK, I.ne⟩ HW)
theorem zT {R : Result -> Shared -> Prop} {vs : List Value} {kw : List (Str × Value)} (X : K.In s.heap) (hm : PySem.W.makesIn K C = true)
  (hi : PySem.W.findIn K (.ref C) "__init__" = some (some (.ref f))) (hf : PySem.W.typeIn K (.ref f) = some (.type "function"))
  (h : codeAny (model prog w) (A.under (.builtin "type.__call__" ⟨.ref C :: vs, kw⟩)) (.call (.ref f) ⟨.ref (s.heap.objs.size + 1) :: vs, kw⟩) (PySem.W.InitBack (s.heap.objs.size + 1) R)
   { s with heap := (s.heap.push PySem.W.emptyDict).push (PySem.W.instObj C s.heap.objs.size) }) :
  codeAny (model prog w) A (.call (.ref C) ⟨vs, kw⟩) R s := by
 obtain ⟨hh, g, d, t, os⟩ := s
 exact PySem.W.make_core (PySem.W.makes_of X hm) (PySem.W.looks_findIn X hi) (fun self => PySem.W.bind_fn X self hf) (.inl rfl) h
end
def dE (f : Str) (v : V) : List (Str × V) -> List (Str × V)
 | [] => [(f, v)]
 | (g, x) :: r => if g = f then (g, v) :: r else (g, x) :: dE f v r
theorem bA (f g : Str) (v : V) : ∀ fs : List (Str × V), (dE f v fs).lookup g = if g = f then some v else fs.lookup g
 | [] => by
  show List.lookup g [(f, v)] = _
  by_cases h : g = f
  ·have hb : (g == f) = true := U4.mpr h
   simp only [List.lookup, hb, if_pos h]
  ·have hb : (g == f) = false := Uk.mpr h
   simp only [List.lookup, hb, if_neg h]
 | (k, x) :: r => by
  have ih := bA f g v r
  rw [show dE f v ((k, x) :: r) = (if k = f then (k, v) :: r else (k, x) :: dE f v r) from rfl]
  by_cases hk : k = f
  ·rw [if_pos hk]
   by_cases h : g = k
   ·have hb : (g == k) = true := U4.mpr h
    simp only [List.lookup, hb, if_pos (h.trans hk)]
   ·have hb : (g == k) = false := Uk.mpr h
    simp only [List.lookup, hb, if_neg (fun e : g = f => h (e.trans hk.symm))]
  ·rw [if_neg hk]
   by_cases h : g = k
   ·have hb : (g == k) = true := U4.mpr h
    simp only [List.lookup, hb, if_neg (fun e : g = f => hk (h.symm.trans e))]
   ·have hb : (g == k) = false := Uk.mpr h
    simp only [List.lookup, hb]
    exact ih
theorem mv (f : Str) (v : V) : ∀ fs : List (Str × V), f ∈ (dE f v fs).map (·.1) /\ ∀ g, g ∈ fs.map (·.1) -> g ∈ (dE f v fs).map (·.1)
 | [] => ⟨by simp [dE], fun g h => by simp at h⟩
 | (k, x) :: r => by
  obtain ⟨i1, i2⟩ := mv f v r
  rw [show dE f v ((k, x) :: r) = (if k = f then (k, v) :: r else (k, x) :: dE f v r) from rfl]
  by_cases hk : k = f
  ·rw [if_pos hk]
   subst hk
   exact ⟨by simp, fun g h => by simpa using h⟩
  ·rw [if_neg hk]
   refine ⟨?_, fun g h => ?_⟩
   ·rw [Ti]
    exact SY _ i1
   ·rw [Ti] at h ⊢
    rcases S2.mp h with e | e
    ·exact S2.mpr (.inl e)
    ·exact SY _ (i2 g e)
theorem mX (f : Str) (v : V) : ∀ fs : List (Str × V), (dE f v fs).length <= fs.length + 1
 | [] => by simp [dE]
 | (k, x) :: r => by
  have ih := mX f v r
  rw [show dE f v ((k, x) :: r) = (if k = f then (k, v) :: r else (k, x) :: dE f v r) from rfl]
  by_cases hk : k = f
  ·rw [if_pos hk, TY, TY]; omega
  ·rw [if_neg hk, TY, TY]; omega
theorem lB.some_of {v : V} {o : Option Value} (r : lB (some v) o) : ∃ u, o = some u /\ RelV v u := by
 cases o with
 | none => exact (show False from r).elim
 | some u => exact ⟨u, rfl, r⟩
theorem lB.none_of {o : Option Value} (r : lB none o) : o = none := by
 cases o with
 | none => rfl
 | some u => exact (show False from r).elim
theorem zr {v : V} {u : Value} (r : RelV v u) : PySem.W.handedIn u = true := by
 cases v with
 | cq => cases (show u = Value.none from r); rfl
 | bl b => cases (show u = Value.bool b from r); rfl
 | int i => obtain ⟨t, e⟩ := (show ∃ t, u = Value.int i t from r); cases e; rfl
 | str x => obtain ⟨t, e⟩ := (show ∃ t, u = Value.str x t from r); cases e; rfl
 | xS b => obtain ⟨t, e⟩ := (show ∃ t, u = Value.bytes b t from r); cases e; rfl
 | Gy b => obtain ⟨t, e⟩ := (show ∃ t, u = Value.float b t from r); cases e; rfl
 | ref a => cases (show u = Value.ref a from r); rfl
 | ty n => cases (show u = Value.type n from r); rfl
section
variable {P : Program} {w : World} {H H' : Hp} {h h' : Heap} {a C dx : Addr} {fs Mw : List (Str × V)}
theorem nQ (aV : jk P w H h) (e : H a = some (.ins C dx fs)) : ∃ mA, vO h a dx C mA /\ (∀ f, lB (fs.lookup f) (mA f)) /\ PySem.Within mA (fs.map (·.1)) /\ fs.length <= 1000 /\ H dx = some (.own a) := by
 obtain ⟨d, z, ne, ob, mA, n, r, q⟩ := (show bV P w H h a (.ins C dx fs) from aV a _ e)
 exact ⟨mA, ⟨ob, n, ne⟩, r, q, z, d⟩
end
structure zz (K : VN) (C : Addr) : Prop where
 pg : PySem.W.plainGet K C Str.empty = true
 hd : PySem.W.hasDictIn K C = true
 po : PySem.W.plainOver K C = true
 sa : PySem.W.findIn K (.ref C) "__setattr__" = some (some (.builtin "object.__setattr__"))
theorem zz.get {K : VN} {C : Addr} (c : zz K C) (f : Str) : PySem.W.plainGet K C f = true := c.pg
def gU (K : VN) (C : Addr) (f : Str) : Prop := PySem.W.findIn K (.ref C) f = some none
theorem gU.G0 {K : VN} {C : Addr} {f : Str} (n : gU K C f) : PySem.W.takerIn K C f = some none := by
 unfold PySem.W.takerIn
 rw [show PySem.W.findIn K (.ref C) f = some none from n]
 rfl
structure Meth (K : VN) (C : Addr) (m : Str) (f : Addr) : Prop where
 at_ : PySem.W.findIn K (.ref C) m = some (some (.ref f))
 fn : PySem.W.isFn K (.ref f) = true
 kp : PySem.W.keepIn K (.ref f) = true
section
variable {X : Cx} {pins : List (Addr × Obj)} {σ : St} {H : Hp} {s : Shared} {a C dx : Addr} {fs : List (Str × V)} {f : Str} {v : V} {A : Around} {E : Value -> Shared -> Prop}
theorem vH {b : Bool} {Q : Value -> Shared -> Prop} (I : Inv X pins σ H s) (e : H a = some (.ins C dx fs)) (c : zz X.K C) (n : gU X.K C f) (l : fs.lookup f = some v)
  (h : ∀ u s', Inv X pins σ H s' -> RelV v u -> Q u s') : wpAny (model X.prog X.w) A (getAttr (.ref a) f b) Q E s := by
 obtain ⟨mA, O, r, _, _, _⟩ := nQ I.aV e
 obtain ⟨u, hu, ru⟩ := lB.some_of (v := v) (o := mA f) (by rw [<- l]; exact r f)
 exact get_map I.nE O (c.get f) c.hd n hu (zr ru) (h u _ (I.tok _) ru)
theorem kj {m : Str} {g : Addr} {pl : Sem Bool} {Q : Value × List Value -> Shared -> Prop} (I : Inv X pins σ H s) (e : H a = some (.ins C dx fs)) (c : zz X.K C) (k : Meth X.K C m g) (l : fs.lookup m = none)
  (h : Q (.ref g, [.ref a]) s) : wpAny (model X.prog X.w) A (getMethod (.ref a) m pl) Q E s := by
 obtain ⟨mA, O, r, _, _, _⟩ := nQ I.aV e
 have hn : mA m = none := lB.none_of (by rw [<- l]; exact r m)
 exact BM I.nE O (c.get m) k.at_ k.fn hn h
theorem vy {y : V} {u : Value} {Q : Unit -> Shared -> Prop} (I : Inv X pins σ H s) (e : H a = some (.ins C dx fs)) (c : zz X.K C) (n : gU X.K C f) (hl : fs.length < 1000) (ry : RelV y u)
  (h : ∀ s', Inv X pins σ (upd H a (.ins C dx (dE f y fs))) s' -> Q () s') : wpAny (model X.prog X.w) A (setAttr (.ref a) f u) Q E s := by
 obtain ⟨mA, O, r, wi, _, ho⟩ := nQ I.aV e
 have hz : (fs.map (·.1)).length <= sizeLine := by rw [SW, UV]; omega
 refine CH I.nE O c.sa c.po n.G0 c.hd wi hz fun h' O' sb => h _ ?_
 have hd : ∃ o, h'.get? dx = some o := let ⟨o, _, _, e', _⟩ := O'.ns; ⟨o, e'⟩
 refine I.write (x := a) (e := dx) (by rw [e]; exact Vc) (.inr ho) (fun b q hb z => (sb.2 b hb).trans z) hd ?_
 refine ⟨by rw [aq O.ne]; exact ho, ?_, O.ne, O'.obj, _, O'.ns, fun g => ?_, fun g hg => ?_⟩
 ·have := mX f y fs; omega
 ·show lB ((dE f y fs).lookup g) (if g = f then some u else mA g)
  rw [bA]
  by_cases q : g = f
  ·rw [if_pos q, if_pos q]; exact ry
  ·rw [if_neg q, if_neg q]; exact r g
 ·by_cases q : g = f
  ·rw [q]; exact (mv f y fs).1
  ·refine (mv f y fs).2 g (wi g fun z => hg ?_)
   show (if g = f then some u else mA g) = none
   rw [if_neg q]; exact z
theorem Inv.made (I : Inv X pins σ H s) : Inv X pins σ (upd (upd H s.heap.objs.size (.own (s.heap.objs.size + 1))) (s.heap.objs.size + 1) (.ins C s.heap.objs.size []))
  { s with heap := (s.heap.push PySem.W.emptyDict).push (PySem.W.instObj C s.heap.objs.size) } := by
 have e1 : (s.heap.push PySem.W.emptyDict).get? s.heap.objs.size = some PySem.W.emptyDict := S7 s.heap rfl
 have e2 : ((s.heap.push PySem.W.emptyDict).push (PySem.W.instObj C s.heap.objs.size)).get? (s.heap.objs.size + 1) = some (PySem.W.instObj C s.heap.objs.size) := by
  have := S7 (s.heap.push PySem.W.emptyDict) (o := PySem.W.instObj C s.heap.objs.size) rfl
  rwa [U8] at this
 have e3 : (s.heap.push PySem.W.emptyDict).Ns s.heap.objs.size (fun _ => none) := ⟨PySem.W.emptyDict, #[], _, e1, rfl, (fun e he => absurd he (by simp)), fun _ => rfl⟩
 have I1 := I.laid (a := s.heap.objs.size) (o := .own (s.heap.objs.size + 1)) (h' := s.heap.push PySem.W.emptyDict) (t' := s.toks) (fun b u q => SV _ q) (SX _) ⟨_, e1⟩
 refine I1.laid (a := s.heap.objs.size + 1) (o := .ins C s.heap.objs.size []) (t' := s.toks) (fun b u q => SV _ q) (Nat.le_of_eq (U8 _ _)) ?_
 have ne : s.heap.objs.size ≠ s.heap.objs.size + 1 := Tu (Nat.lt_succ_self _)
 refine ⟨by rw [aq ne, ae], Tw _, ne, e2, fun _ => none, (Heap.Ns1.of_empty e3).at fun o q => SV _ q, fun _ => Vc, fun y hy => absurd rfl hy⟩
theorem CQ {prog : Program} {w : World} {env : Env} {e : Expr} {f : Str} {pos : Pos} {s : Shared} {Q : Value -> Shared -> Prop} (hb : attributeBase e f env (eval e env) = eval e env)
  (h : wpAny (model prog w) A (eval e env) (fun o s₁ => wpAny (model prog w) A (getAttr o f true) Q E s₁) E s) : wpAny (model prog w) A (eval (.Attribute e f pos) env) Q E s :=
 Attribute_any_ h (by rw [arm_eval_Attribute, hb])
end
def KA (K : VN) (ta : TE) (f : Str) : TE := fun σ H Q => ta σ H fun x H1 => ∃ a C dx fs v, x = .ref a /\ H1 a = some (.ins C dx fs) /\ zz K C /\ gU K C f /\ fs.lookup f = some v /\ Q v H1
def Lj (K : VN) (ta tv : TE) (f : Str) : TS := fun D σ H => tv σ H fun y H1 => ta σ H1 fun x H2 => ∃ a C dx fs, x = .ref a /\ H2 a = some (.ins C dx fs) /\ zz K C /\ gU K C f /\ fs.length < 1000 /\
 D.nx σ (upd H2 a (.ins C dx (dE f y fs)))
section
variable {X : Cx} {o e value : Expr} {f : Str} {pos pos' DD : Pos} {ta tv : TE}
theorem sK (he : PE X e ta) (hb : attributeBase e f X.env (eval e X.env) = eval e X.env) : PE X (.Attribute e f pos) (KA X.K ta f) := by
 intro pins s σ H Q I h
 refine CQ hb (bU (he pins s σ H _ I h) fun u s1 ⟨x, H1, I1, rx, a, C, dx, fs, v, ex, ea, c, n, l, q⟩ => ?_)
 subst ex
 obtain rfl : u = Value.ref a := rx
 exact vH I1 ea c n l fun u' s2 I2 ru => ⟨v, H1, I2, ru, q⟩
theorem wr (ha : PE X o ta) (hv : PE X value tv) (hs : swapsWith value (some (.Attribute o f pos')) pos.line X.env = pure false) : PS X (.Assign [.Attribute o f pos'] value pos) (Lj X.K ta tv f) := by
 intro pins s σ H D I h
 refine plainObj_wpAny_Assign_Attribute (bU (hv pins s σ H _ I h) fun u s1 ⟨y, H1, I1, ry, q⟩ => bU (ha pins s1 σ H1 _ I1 q) fun ov s2 ⟨x, H2, I2, rx, a, C, dx, fs, ex, ea, c, n, l, q2⟩ => ?_) hs
 subst ex
 obtain rfl : ov = Value.ref a := rx
 exact vy I2 ea c n l ry fun s3 I3 => ⟨σ, _, I3, q2⟩
theorem D3 {pl : Sem Bool} {m : Str} {apos : Pos} {args : List Expr} {pins : List (Addr × Obj)} {s : Shared} {σ : St} {H : Hp} {Q : Value -> Shared -> Prop} {te : TE} (he : PE X e te) (I : Inv X pins σ H s)
  (h : te σ H fun x H1 => ∃ a C dx fs g, x = .ref a /\ H1 a = some (.ins C dx fs) /\ zz X.K C /\ Meth X.K C m g /\ fs.lookup m = none /\
   ∀ s1, Inv X pins σ H1 s1 -> wpAny (model X.prog X.w) X.A (callWith pos (.ref g) [.ref a] (backTo pos (starEach args X.env)) (backToKw pos (keywordEach [] X.env))) Q X.xe s1)
  (ht : eval (.Call (.Attribute e m apos) args [] pos) X.env = (do
   let ov <- eval e X.env
   standAt apos.atName
   let (f, first) <- holding [ov] (getMethod ov m pl)
   callWith pos f first (backTo pos (starEach args X.env)) (backToKw pos (keywordEach [] X.env)))) :
  wpAny (model X.prog X.w) X.A (eval (.Call (.Attribute e m apos) args [] pos) X.env) Q X.xe s := by
 refine PySem.W.methodCall_KW (pl := pl) (bU (he pins s σ H _ I h) fun u s1 ⟨x, H1, I1, rx, a, C, dx, fs, g, ex, ea, c, k, l, q⟩ => ?_) ht
 subst ex
 obtain rfl : u = Value.ref a := rx
 exact kj I1 ea c k l (q s1 I1)
end
section
variable {X : Cx} {pins : List (Addr × Obj)} {σ : St} {H : Hp} {s : Shared} {A : Around} {E : Value -> Shared -> Prop} {Q : Value -> Shared -> Prop} {c : Value} {b : Bool}
inductive l9 (K : VN) (H : Hp) : V -> Value -> Prop where
 | cq : l9 K H .cq (.type "NoneType")
 | bl (x : Bool) : l9 K H (.bl x) (.type "bool")
 | int (i : Int) : l9 K H (.int i) (.type "int")
 | str (x : Str) : l9 K H (.str x) (.type "str")
 | Gy (x : UInt64) : l9 K H (.Gy x) (.type "float")
 | lst {a : Addr} {xs : List V} (e : H a = some (.lst xs)) : l9 K H (.ref a) (.type "list")
 | vo {a : Addr} {o : Obj} {xs : List V} (e : H a = some (.vo o (.lst xs))) : l9 K H (.ref a) (.type "list")
 | tup {a : Addr} {xs : List V} (e : H a = some (.tup xs)) : l9 K H (.ref a) (.type "tuple")
 | dK {a : Addr} {kvs : List (Key × V)} (e : H a = some (.dK kvs)) : l9 K H (.ref a) (.type "dict")
 | dT {a : Addr} {kvs : List (List Key × V)} (e : H a = some (.dT kvs)) : l9 K H (.ref a) (.type "dict")
 | ins {a C dx : Addr} {fs : List (Str × V)} (e : H a = some (.ins C dx fs)) (cl : zz K C) (ha : PySem.W.findIn K (.ref C) "__class__" = some (some (.builtin "object.__class__")))
   (hn : PySem.W.specialIn K (.builtin "object.__class__") "__get__" = some (some (.builtin "getset_descriptor.__get__"))) (MG : PySem.W.takesIn K (.builtin "object.__class__") = some true)
   (hm : PySem.W.mroIn K C (.type "object") = some true) : l9 K H (.ref a) (.ref C)
theorem yp {x : V} {u t : Value} (I : Inv X pins σ H s) (rx : RelV x u) (ty : l9 X.K H x t) (e : PySem.W.kitOne X.K t c = some b) (h : ∀ tk, Q (.bool b) { s with toks := tk }) :
  wpAny (model X.prog X.w) A (call (.builtin "isinstance") [u, c]) Q E s := by
 cases ty with
 | cq => cases (show u = Value.none from rx); exact Uu PySem.W.kitx_none I.nE Vc e (fun z => nomatch z) h
 | bl y => cases (show u = Value.bool y from rx); exact Uu PySem.W.kitx_bool I.nE Vc e (fun z => nomatch z) h
 | int i => obtain ⟨t, q⟩ := (show ∃ t, u = Value.int i t from rx); cases q; exact Uu PySem.W.kitx_int I.nE Vc e (fun z => nomatch z) h
 | str y => obtain ⟨t, q⟩ := (show ∃ t, u = Value.str y t from rx); cases q; exact Uu PySem.W.kitx_str I.nE Vc e (fun z => nomatch z) h
 | Gy y => obtain ⟨t, q⟩ := (show ∃ t, u = Value.float y t from rx); cases q; exact Uu PySem.W.kitx_float I.nE Vc e (fun z => nomatch z) h
 | @lst a xs ea =>
  cases (show u = Value.ref a from rx)
  obtain ⟨_, _, n, _, h1⟩ := (show bV X.prog X.w H s.heap a (.lst xs) from I.aV a _ ea)
  exact Uu PySem.W.kitx_list I.nE ⟨_, h1, rfl⟩ e (fun z => nomatch z) h
 | @vo a ob xs ea =>
  cases (show u = Value.ref a from rx)
  obtain ⟨_, _, _, n, _, h1⟩ := (show bV X.prog X.w H s.heap a (.vo ob (.lst xs)) from I.aV a _ ea)
  exact Uu PySem.W.kitx_list I.nE ⟨_, h1, rfl⟩ e (fun z => nomatch z) h
 | @tup a xs ea =>
  cases (show u = Value.ref a from rx)
  obtain ⟨_, _, _, p⟩ := (show bV X.prog X.w H s.heap a (.tup xs) from I.aV a _ ea)
  obtain ⟨o, h1, h2, _⟩ := p
  exact Uu PySem.W.kitx_tuple I.nE ⟨o, h1, h2⟩ e (fun z => nomatch z) h
 | @dK a kvs ea =>
  cases (show u = Value.ref a from rx)
  obtain ⟨_, _, vs, _, p⟩ := (show bV X.prog X.w H s.heap a (.dK kvs) from I.aV a _ ea)
  obtain ⟨o, es, ep, h1, h2, _⟩ := p
  exact Uu PySem.W.kitx_dict I.nE ⟨o, h1, h2.1⟩ e (fun z => nomatch z) h
 | @dT a kvs ea =>
  cases (show u = Value.ref a from rx)
  obtain ⟨_, _, xs, _, o, es, ep, h1, h2, _⟩ := (show bV X.prog X.w H s.heap a (.dT kvs) from I.aV a _ ea)
  exact Uu PySem.W.kitx_dict I.nE ⟨o, h1, h2.1⟩ e (fun z => nomatch z) h
 | @ins a C dx fs ea cl ha hn MG hm =>
  cases (show u = Value.ref a from rx)
  obtain ⟨mA, O, _⟩ := nQ I.aV ea
  obtain ⟨od, J, _⟩ := O.look
  exact Uu (PySem.W.kitx_own (cl.get _) cl.hd ha hn MG hm) I.nE J e (fun z => nomatch z) h
end
structure dJ (k : Nat) (A : Around) : Prop where
 hd : A.handled = none
 dp : A.depth + 3 * k + 5 < recursionLimit
 un : A.units + 16 * k + 200 < cLine
theorem dJ.mono {j k : Nat} {A : Around} (r : dJ k A) (h : j <= k) : dJ j A := ⟨r.hd, by have := r.dp; omega, by have := r.un; omega⟩
theorem dJ.deeper {k : Nat} {A : Around} (r : dJ (k + 1) A) (env : Env) : dJ k (A.deeper env) :=
 ⟨r.hd, by have := r.dp; show A.depth + 1 + 3 * k + 5 < _; omega, by have := r.un; show A.units + 3 + 16 * k + 200 < _; omega⟩
theorem dJ.in1 {k : Nat} {A : Around} (r : dJ (k + 1) A) : dJ k A.in1 :=
 ⟨r.hd, by have := r.dp; show A.depth + 3 * k + 5 < _; omega, by have := r.un; show A.units + 1 + 16 * k + 200 < _; omega⟩
theorem wn {A : Around} {C : Addr} {us : List Value} {kw : List (Str × Value)} : (A.under (.builtin "type.__call__" ⟨.ref C :: us, kw⟩)).depth = A.depth + 1 := by
 first | rfl | simp [Around.under, Code.weight, Code.isCreation, Code.isGuard, Code.isCaller, Code.frames, Code.isFrame, guardIds]
theorem vB {A : Around} {C : Addr} {us : List Value} {kw : List (Str × Value)} : (A.under (.builtin "type.__call__" ⟨.ref C :: us, kw⟩)).units = A.units + 1 := by
 first | rfl | simp [Around.under, Code.cUnits, Code.frames, Code.isFrame]
theorem dJ.make {k : Nat} {A : Around} (r : dJ (k + 1) A) (C : Addr) (us : List Value) (kw : List (Str × Value)) : dJ k (A.under (.builtin "type.__call__" ⟨.ref C :: us, kw⟩)) :=
 ⟨r.hd, by have := r.dp; rw [wn]; omega, by have := r.un; rw [vB]; omega⟩
theorem dJ.depth {k : Nat} {A : Around} (r : dJ k A) : A.depth < recursionLimit := by have := r.dp; omega
theorem dJ.units {k : Nat} {A : Around} (r : dJ k A) : A.units + 64 < cLine := by have := r.un; omega
def Hi : TA := fun _ H Q => Q [] H
def Iq (ta : TE) (tr : TA) : TA := fun σ H Q => ta σ H fun x H1 => tr σ H1 fun xs H2 => Q (x :: xs) H2
section
variable {X : Cx} {e : Expr} {es : List Expr} {te : TE} {t : TA} {pos : Pos}
theorem af : PA X [] Hi := fun _ _ _ _ H Q I h => Calls.spliced_nil ⟨[], H, I, .nil, h⟩
theorem aa (ha : PE X e te) (hr : PA X es t) (hs : starEach (e :: es) X.env = (false, eval e X.env) :: starEach es X.env := by rfl) : PA X (e :: es) (Iq te t) := by
 intro pos pins s σ H Q I h
 rw [hs]
 show wpAny _ _ (spliced ((false, eval e X.env) :: backTo pos (starEach es X.env))) _ _ s
 refine Calls.spliced_cons (bU (ha pins s σ H _ I h) fun u s1 ⟨x, H1, I1, r1, q1⟩ => ?_)
 exact bU (hr pos pins s1 σ H1 _ I1 q1) fun us s2 ⟨xs, H2, I2, r2, q2⟩ => ⟨x :: xs, H2, I2, .cons r1 r2, q2⟩
def L6 (t : TA) : TE := fun σ H Q => t σ H fun xs H1 => xs.length <= sizeLine /\ ∀ p, H1 p = none -> Q (.ref p) (upd H1 p (.tup xs))
def LO (t : TA) : TE := fun σ H Q => t σ H fun xs H1 => xs.length <= sizeLine /\ ∀ p, H1 p = none -> Q (.ref p) (upd H1 p (.lst xs))
theorem bW {x1} (h : PA X es t) : PE X (.Tuple es x1 pos) (L6 t) := by
 intro pins s σ H Q I hq
 refine wpAny_Tuple_spliced (bU (h pos pins s σ H _ I hq) fun us s1 ⟨xs, H1, I1, r, z, q⟩ => ⟨by rw [<- r.length]; exact z, ?_⟩)
 have hf : H1 s1.heap.objs.size = none := I1.aV.fresh (SX _)
 refine ⟨.ref s1.heap.objs.size, upd H1 s1.heap.objs.size (.tup xs), I1.laid (t' := s1.toks) (fun b u e => SV _ e) (SX _) ?_, rfl, q _ hf⟩
 exact ⟨z, us, r, ⟨_, S7 _ rfl, rfl, _, rfl⟩⟩
theorem gL (h : PA X es t) : PE X (.List es pos) (LO t) := by
 intro pins s σ H Q I hq
 refine wpAny_List_spliced (bU (h pos pins s σ H _ I hq) fun us s1 ⟨xs, H1, I1, r, z, q⟩ => ⟨by rw [<- r.length]; exact z, ?_⟩)
 have hf : H1 s1.heap.objs.size = none := I1.aV.fresh (SX _)
 refine ⟨.ref s1.heap.objs.size, upd H1 s1.heap.objs.size (.lst xs), I1.laid (t' := s1.toks) (fun b u e => SV _ e) (SX _) ?_, rfl, q _ hf⟩
 exact ⟨z, us, 0, r, S7 _ rfl⟩
end
abbrev Sp := List V -> Hp -> VK -> XK -> Prop
abbrev wC := List Env -> Hp -> Shared -> XK -> Value -> Shared -> Prop
structure n5 (P : Program) (w : World) (K : VN) (mg : Str -> Option Value) (base : Heap) (A : Around) (outer : List Env) (s : Shared) (H : Hp) : Prop where
 frames : A.frames = some outer
 mod : Mod K mg base
 bs : ∀ b o, base.get? b = some o -> s.heap.get? b = some o /\ H b = none
 zD : base.objs.size <= s.heap.objs.size
 lV : s.heap.FunFrames base outer
 Dz : ∀ b ∈ kC outer, H b = none
 aV : jk P w H s.heap
 bare : AllBare s.gens
def CE (outer : List Env) (P : Program) (w : World) (H : Hp) (s : Shared) (Q : VK) (u : Value) (s' : Shared) : Prop :=
 ∃ v H', s'.os = s.os /\ AllBare s'.gens /\ Un (kC outer) [] H H' s.heap s'.heap /\ jk P w H' s'.heap /\ RelV v u /\ Q v H'
def CR (CX : wC) (outer : List Env) (P : Program) (w : World) (H : Hp) (s : Shared) (Q : VK) (E : XK) (r : Result) (s' : Shared) : Prop :=
 match r with
 | .ok (.ret u) => CE outer P w H s Q u s'
 | .ok _ => False
 | .error e => CX outer H s E e s'
structure av (P : Program) (w : World) (K : VN) (mg : Str -> Option Value) (base : Heap) (CX : wC) (k : Nat) (f : Addr) (fd : FuncData) (ps : List Str) (sp : Sp) : Prop where
 len : ∀ vs H Q E, sp vs H Q E -> vs.length = ps.length
 run : ∀ (A : Around) (outer : List Env) (s : Shared) (H : Hp) (args : Args) (us : List Value) (vs : List V) (Q : VK) (E : XK), dJ k A -> n5 P w K mg base A outer s H -> BindsTo s fd args (ps.zip us) -> Vals vs us -> sp vs H Q E ->
  codeAny (model P w) A (.call (.ref f) args) (CR CX outer P w H s Q E) s
theorem av.mono {P : Program} {w : World} {K : VN} {mg : Str -> Option Value} {base : Heap} {CX : wC} {j k : Nat} {f : Addr} {fd : FuncData} {ps : List Str} {sp : Sp} (F : av P w K mg base CX j f fd ps sp) (h : j <= k) :
  av P w K mg base CX k f fd ps sp := ⟨F.len, fun A outer s H args us vs Q E hr => F.run A outer s H args us vs Q E (hr.mono h)⟩
theorem av.imp {P : Program} {w : World} {K : VN} {mg : Str -> Option Value} {base : Heap} {CX : wC} {k : Nat} {f : Addr} {fd : FuncData} {ps : List Str} {sp MV : Sp} (F : av P w K mg base CX k f fd ps sp)
  (h : ∀ vs H Q E, MV vs H Q E -> sp vs H Q E) : av P w K mg base CX k f fd ps MV :=
 ⟨fun vs H Q E q => F.len vs H Q E (h _ _ _ _ q), fun A outer s H args us vs Q E hr he hb hv hs => F.run A outer s H args us vs Q E hr he hb hv (h _ _ _ _ hs)⟩
theorem n5.make {P : Program} {w : World} {K : VN} {mg : Str -> Option Value} {base : Heap} {A : Around} {outer : List Env} {s : Shared} {H : Hp} (e : n5 P w K mg base A outer s H) (C : Addr) (us : List Value) (kw : List (Str × Value)) :
  n5 P w K mg base (A.under (.builtin "type.__call__" ⟨.ref C :: us, kw⟩)) outer s H := ⟨by first | exact e.frames | (simpa [Around.under, Code.envs, Code.isFrame, pushEnvs] using e.frames), e.mod, e.bs, e.zD, e.lV, e.Dz, e.aV, e.bare⟩
theorem n5.in1 {P : Program} {w : World} {K : VN} {mg : Str -> Option Value} {base : Heap} {A : Around} {outer : List Env} {s : Shared} {H : Hp} (e : n5 P w K mg base A outer s H) :
  n5 P w K mg base A.in1 outer s H := ⟨e.frames, e.mod, e.bs, e.zD, e.lV, e.Dz, e.aV, e.bare⟩
section
variable {X : Cx} {pins : List (Addr × Obj)} {σ : St} {H : Hp} {s s' : Shared}
theorem Inv.Fu (I : Inv X pins σ H s) : n5 X.prog X.w X.K X.mg X.base X.A X.stack s H :=
 ⟨I.ok.frames, I.ok.mod, I.bs, S8 I.ok.zD I.sz, I.stack, I.nJ, I.aV, I.bare⟩
theorem Inv.after {Q : VK} {u : Value} (I : Inv X pins σ H s) (h : CE X.stack X.prog X.w H s Q u s') : EP X pins σ Q u s' := by
 obtain ⟨v, H', os, bare, un, aV, r, q⟩ := h
 obtain ⟨hh, g, d, t, KL⟩ := s'
 obtain rfl : KL = s.os := os
 exact ⟨v, H', I.call (h' := hh) (g' := g) (d' := d) (t' := t) (ch := []) un aV bare (fun b z => absurd z (by simp)), r, q⟩
end
def En (sp : Sp) (m5 : List V) (E : XK) (t : TA) : TE := fun σ H Q => t σ H fun vs H1 => sp (vs ++ m5) H1 Q E
def Ea (C : Addr) (m : Str) (sp : Sp) (m5 : List V) (E : XK) (ta : TE) (t : TA) : TE := fun σ H Q => ta σ H fun x H1 => ∃ a dx fs, x = .ref a /\ H1 a = some (.ins C dx fs) /\ fs.lookup m = none /\
 t σ H1 fun vs H2 => sp (x :: (vs ++ m5)) H2 Q E
def IM (C : Addr) (sp : Sp) (m5 : List V) (E : XK) (t : TA) : TE := fun σ H Q => t σ H fun vs H1 => ∀ x dx, H1 x = none -> H1 dx = none -> dx ≠ x ->
 sp (.ref x :: (vs ++ m5)) (upd (upd H1 dx (.own x)) x (.ins C dx [])) (fun v H2 => v = .cq /\ Q (.ref x) H2) E
def Binds (K : VN) (fd : FuncData) (ps : List Str) (ds : List Value) : Prop :=
 ∀ (s : Shared) (us : List Value), K.In s.heap -> (us ++ ds).length = ps.length -> BindsTo s fd ⟨us, []⟩ (ps.zip (us ++ ds))
theorem Binds.all {K : VN} {fd : FuncData} {ps : List Str} (h : ∀ us : List Value, us.length = ps.length -> bindArgs fd ⟨us, []⟩ = pure (ps.zip us)) : Binds K fd ps [] := fun s us _ hl => by
 rw [VG] at hl ⊢
 exact .of_eq (h us hl)
def Passes (CX : wC) (X : Cx) (E : XK) : Prop := ∀ (pins : List (Addr × Obj)) (σ : St) (H : Hp) (s : Shared) (e : Value) (s' : Shared), Inv X pins σ H s -> CX X.stack H s E e s' -> X.xe e s'
section
variable {X : Cx} {CX : wC} {k : Nat} {f C : Addr} {fd : FuncData} {ps : List Str} {sp : Sp} {m5 : List V} {ds : List Value} {E : XK} {x m : Str} {p pos apos : Pos} {e o : Expr} {es : List Expr} {ta : TE} {t : TA}
theorem wK {pins : List (Addr × Obj)} {σ : St} {H : Hp} {s : Shared} {Q : VK} {us : List Value} {vs : List V} (F : av X.prog X.w X.K X.mg X.base CX k f fd ps sp) (hr : dJ k X.A) (hb : Binds X.K fd ps ds) (hd : Vals m5 ds) (hx : Passes CX X E)
  (I : Inv X pins σ H s) (r : Vals vs us) (h : sp (vs ++ m5) H Q E) : wpAny (model X.prog X.w) X.A (call (.ref f) us) (EP X pins σ Q) X.xe s := by
 have r2 : Vals (vs ++ m5) (us ++ ds) := r.append hd
 have hl : (us ++ ds).length = ps.length := by rw [<- r2.length]; exact F.len _ _ _ _ h
 refine wpAny_call (codeAny_mono (F.run X.A X.stack s H ⟨us, []⟩ (us ++ ds) (vs ++ m5) Q E hr I.Fu (hb s us I.nE hl) r2 h) fun r s' hq => ?_)
 cases r with
 | error e => exact hx pins σ H s e s' I hq
 | ok fl =>
  cases fl with
  | ret u => exact I.after hq
  | next => exact False.elim hq
  | brk => exact False.elim hq
  | cont => exact False.elim hq
theorem CU (F : av X.prog X.w X.K X.mg X.base CX k f fd ps sp) (hr : dJ k X.A) (hg : Gl X x) (hm : X.mg x = some (.ref f)) (hk : PySem.W.keepIn X.K (.ref f) = true) (hb : Binds X.K fd ps ds) (hd : Vals m5 ds) (hx : Passes CX X E)
  (ha : PA X (e :: es) t) (qc : (x == ("__debug__" : Str)) = false := by decide) (he : starEach (e :: es) X.env = (false, eval e X.env) :: starEach es X.env := by rfl) (zy : (backTo pos (starEach es X.env)).any (·.1) = false := by rfl) :
  PE X (.Call (.Name x p) (e :: es) [] pos) (En sp m5 E t) := by
 intro pins s σ H Q I h
 refine VJ (k9 I hg hm ?_ qc)
 refine PySem.W.callWith_K (h₀ := X.base) I.ok.mod.wZ hk (bU (ha pos pins s σ H _ I h) fun us s1 ⟨vs, H1, I1, r, q⟩ => ⟨I1.nE, ?_⟩) he zy
 exact wK F hr hb hd hx I1 r q
theorem wT {pl : Sem Bool} (he : PE X o ta) (c : zz X.K C) (hm : Meth X.K C m f) (F : av X.prog X.w X.K X.mg X.base CX k f fd ps sp) (hr : dJ k X.A) (hb : Binds X.K fd ps ds) (hd : Vals m5 ds) (hx : Passes CX X E) (ha : PA X (e :: es) t)
  (oq : starEach (e :: es) X.env = (false, eval e X.env) :: starEach es X.env := by rfl) (zy : (backTo pos (starEach es X.env)).any (·.1) = false := by rfl)
  (ht : eval (.Call (.Attribute o m apos) (e :: es) [] pos) X.env = (do
   let ov <- eval o X.env
   standAt apos.atName
   let (f, first) <- holding [ov] (getMethod ov m pl)
   callWith pos f first (backTo pos (starEach (e :: es) X.env)) (backToKw pos (keywordEach [] X.env))) := by rfl) :
  PE X (.Call (.Attribute o m apos) (e :: es) [] pos) (Ea C m sp m5 E ta t) := by
 intro pins s σ H Q I h
 refine PySem.W.methodCall_KW (pl := pl) (bU (he pins s σ H _ I h) fun u s1 ⟨x, H1, I1, rx, a, dx, fs, ex, ea, l, q⟩ => ?_) ht
 subst ex
 obtain rfl : u = Value.ref a := rx
 refine kj I1 ea c hm l ?_
 refine PySem.W.callWith_K (first := [.ref a]) (h₀ := X.base) I.ok.mod.wZ hm.kp (bU (ha pos pins s1 σ H1 _ I1 q) fun us s2 ⟨vs, H2, I2, r, q2⟩ => ⟨I2.nE, ?_⟩) oq zy
 exact wK (us := .ref a :: us) (vs := .ref a :: vs) F hr hb hd hx I2 (.cons rfl r) q2
theorem fQ {pl : Sem Bool} (he : PE X o ta) (c : zz X.K C) (hm : Meth X.K C m f) (F : av X.prog X.w X.K X.mg X.base CX k f fd ps sp) (hr : dJ k X.A) (hb : Binds X.K fd ps ds) (hd : Vals m5 ds) (hx : Passes CX X E)
  (ht : eval (.Call (.Attribute o m apos) [] [] pos) X.env = (do
   let ov <- eval o X.env
   standAt apos.atName
   let (f, first) <- holding [ov] (getMethod ov m pl)
   callWith pos f first (backTo pos (starEach [] X.env)) (backToKw pos (keywordEach [] X.env))) := by rfl) :
  PE X (.Call (.Attribute o m apos) [] [] pos) (Ea C m sp m5 E ta Hi) := by
 intro pins s σ H Q I h
 refine PySem.W.methodCall_KW (pl := pl) (bU (he pins s σ H _ I h) fun u s1 ⟨x, H1, I1, rx, a, dx, fs, ex, ea, l, q⟩ => ?_) ht
 subst ex
 obtain rfl : u = Value.ref a := rx
 refine kj I1 ea c hm l ?_
 exact PySem.W.callWith_K0 (first := [.ref a]) I1.nE hm.kp (wK (us := [.ref a]) (vs := [.ref a]) F hr hb hd hx I1 (.cons rfl .nil) q)
structure Mk (K : VN) (C f : Addr) : Prop where
 makes : PySem.W.makesIn K C = true
 init : PySem.W.findIn K (.ref C) "__init__" = some (some (.ref f))
 fn : PySem.W.isFn K (.ref f) = true
 kp : PySem.W.keepIn K (.ref C) = true
theorem Bc {pins : List (Addr × Obj)} {σ : St} {H : Hp} {s : Shared} {Q : VK} {us : List Value} {vs : List V} (M : Mk X.K C f) (F : av X.prog X.w X.K X.mg X.base CX k f fd ps sp) (hr : dJ (k + 1) X.A) (hb : Binds X.K fd ps ds) (hd : Vals m5 ds)
  (hx : Passes CX X E) (I : Inv X pins σ H s) (r : Vals vs us)
  (h : ∀ x dx, H x = none -> H dx = none -> dx ≠ x -> sp (.ref x :: (vs ++ m5)) (upd (upd H dx (.own x)) x (.ins C dx [])) (fun v H2 => v = .cq /\ Q (.ref x) H2) E) :
  wpAny (model X.prog X.w) X.A (call (.ref C) us) (EP X pins σ Q) X.xe s := by
 have hq := h (s.heap.objs.size + 1) s.heap.objs.size (I.aV.fresh (U0 _)) (I.aV.fresh (SX _)) (Tu (Nat.lt_succ_self _))
 have I2 := Inv.made (C := C) I
 have r2 : Vals (V.ref (s.heap.objs.size + 1) :: (vs ++ m5)) (Value.ref (s.heap.objs.size + 1) :: (us ++ ds)) := .cons rfl (r.append hd)
 have hl : (Value.ref (s.heap.objs.size + 1) :: us ++ ds).length = ps.length := by
  have e := r2.length
  rw [F.len _ _ _ _ hq] at e
  exact e.symm
 refine wpAny_call (zT (f := f) I.nE M.makes M.init (U4.mp M.fn) (codeAny_mono (F.run _ X.stack _ _ ⟨Value.ref (s.heap.objs.size + 1) :: us, []⟩ (Value.ref (s.heap.objs.size + 1) :: (us ++ ds)) _ _ E (hr.make C us [])
  (I2.Fu.make C us []) (hb _ (Value.ref (s.heap.objs.size + 1) :: us) I2.nE hl) r2 hq) fun r s' vh => ?_))
 cases r with
 | error e => exact hx pins σ _ _ e s' I2 vh
 | ok fl =>
  cases fl with
  | ret u =>
   obtain ⟨v, H', I3, rv, ev, q3⟩ := I2.after vh
   subst ev
   exact ⟨rv, ⟨V.ref (s.heap.objs.size + 1), H', I3, rfl, q3⟩⟩
  | next => exact False.elim vh
  | brk => exact False.elim vh
  | cont => exact False.elim vh
theorem CA (M : Mk X.K C f) (F : av X.prog X.w X.K X.mg X.base CX k f fd ps sp) (hr : dJ (k + 1) X.A) (hg : Gl X x) (hm : X.mg x = some (.ref C)) (hb : Binds X.K fd ps ds) (hd : Vals m5 ds) (hx : Passes CX X E)
  (ha : PA X (e :: es) t) (qc : (x == ("__debug__" : Str)) = false := by decide) (he : starEach (e :: es) X.env = (false, eval e X.env) :: starEach es X.env := by rfl) (zy : (backTo pos (starEach es X.env)).any (·.1) = false := by rfl) :
  PE X (.Call (.Name x p) (e :: es) [] pos) (IM C sp m5 E t) := by
 intro pins s σ H Q I h
 refine VJ (k9 I hg hm ?_ qc)
 refine PySem.W.callWith_K (h₀ := X.base) I.ok.mod.wZ M.kp (bU (ha pos pins s σ H _ I h) fun us s1 ⟨vs, H1, I1, r, q⟩ => ⟨I1.nE, ?_⟩) he zy
 exact Bc M F hr hb hd hx I1 r q
end
structure au (N P : List Str) (sc : Scope) : Prop where
 kind : sc.kind = .function
 co : sc.isCoroutine = false
 gen : sc.isGenerator = false
 nd : N.Nodup
 pre : N.take P.length = P
 par : ∀ x ∈ P, sc.names.lookup x = some .local \/ sc.names.lookup x = some .cell
 FL : ∀ y ∈ sc.names, y.2 ≠ .free
theorem qW {kindOf : Str -> Option NameKind} {x : Str} : ∀ {binds : List (Str × Value)} {m : Str -> Option Value}, (∀ v, (x, v) ∉ binds) -> bindL kindOf binds m x = m x
 | [], _, _ => rfl
 | (n, v) :: r, m, h => by
  unfold bindL
  rw [qW fun w hw => h w (SY _ hw)]
  split
  ·have : x ≠ n := by rintro rfl; exact h v S0
   simp [this]
  ·rfl
theorem rh {kindOf : Str -> Option NameKind} {x : Str} : ∀ {binds : List (Str × Value)} {m : Str -> Option Value}, (∀ v, (x, v) ∉ binds) -> bindC kindOf binds m x = m x
 | [], _, _ => rfl
 | (n, v) :: r, m, h => by
  unfold bindC
  rw [rh fun w hw => h w (SY _ hw)]
  split
  ·rfl
  ·have : x ≠ n := by rintro rfl; exact h v S0
   simp [this]
theorem q9 {kindOf : Str -> Option NameKind} {x : Str} {v : Value} : ∀ {P : List Str} {vs : List Value} {i : Nat} {m : Str -> Option Value}, P.Nodup -> P[i]? = some x -> vs[i]? = some v -> kindOf x = some .local ->
  bindL kindOf (P.zip vs) m x = some v
 | [], _, _, _, _, h, _, _ => by simp at h
 | _ :: _, [], _, _, _, _, h, _ => by simp at h
 | p :: P, w :: vs, 0, m, nd, h1, h2, hk => by
  simp at h1 h2; subst h1; subst h2
  show bindL kindOf ((p, w) :: P.zip vs) m p = _
  unfold bindL
  rw [qW fun v hv => (Ui.mp nd).1 (List.of_mem_zip hv).1, if_pos hk]
  simp
 | p :: P, w :: vs, i + 1, m, nd, h1, h2, hk => by
  show bindL kindOf ((p, w) :: P.zip vs) m x = _
  unfold bindL
  exact q9 (i := i) (Ui.mp nd).2 (by simpa using h1) (by simpa using h2) hk
theorem qv {kindOf : Str -> Option NameKind} {x : Str} {v : Value} : ∀ {P : List Str} {vs : List Value} {i : Nat} {m : Str -> Option Value}, P.Nodup -> P[i]? = some x -> vs[i]? = some v -> kindOf x ≠ some .local ->
  bindC kindOf (P.zip vs) m x = some v
 | [], _, _, _, _, h, _, _ => by simp at h
 | _ :: _, [], _, _, _, _, h, _ => by simp at h
 | p :: P, w :: vs, 0, m, nd, h1, h2, hk => by
  simp at h1 h2; subst h1; subst h2
  show bindC kindOf ((p, w) :: P.zip vs) m p = _
  unfold bindC
  rw [rh fun v hv => (Ui.mp nd).1 (List.of_mem_zip hv).1, if_neg hk]
  simp
 | p :: P, w :: vs, i + 1, m, nd, h1, h2, hk => by
  show bindC kindOf ((p, w) :: P.zip vs) m x = _
  unfold bindC
  exact qv (i := i) (Ui.mp nd).2 (by simpa using h1) (by simpa using h2) hk
def start (N : List Str) (vs : List V) : St := vs.map some ++ List.replicate (N.length - vs.length) none
def ug (CX : wC) (P : Program) (w : World) (K : VN) (mg : Str -> Option Value) (base : Heap) (N : List Str) (qual : Str) (scope : Scope) (f : Addr) (cd : Value) (A : Around) (outer : List Env) (s : Shared) (H : Hp) (E : XK) : Cx where
 prog := P
 w := w
 K := K
 mg := mg
 base := base
 A := A.deeper (envOfC qual scope s.heap.objs.size f cd)
 N := N
 s₀ := s
 H₀ := H
 env := envOfC qual scope s.heap.objs.size f cd
 outer := outer
 stack := envOfC qual scope s.heap.objs.size f cd :: outer
 ex := []
 calm := true
 fn := fun _ => true
 pn := []
 xe := fun e s' => wpAny (model P w) (A.deeper (envOfC qual scope s.heap.objs.size f cd)) (leaving (envOfC qual scope s.heap.objs.size f cd) e) (fun _ tz => CX outer H s E e tz) (fun e' tz => CX outer H s E e' tz) s'
theorem vd {sc : Scope} {n : Nat} {x : Str} (h : sc.names.lookup x = some .cell) : ∃ c, (cellsFrom n sc.names []).lookup x = some c := by
 have q := PySem.W.cellsFrom_some sc.names n [] (.inl h)
 exact UL.mp q
theorem zq {CX : wC} {P : Program} {w : World} {K : VN} {mg : Str -> Option Value} {base : Heap} {N ps : List Str} {qual : Str} {scope : Scope} {f : Addr} {cd : Value} {A : Around} {outer : List Env} {s s1 : Shared} {H : Hp} {E : XK} {us : List Value} {vs : List V}
  (S : au N ps scope) (hd : A.handled = none) (e0 : n5 P w K mg base A outer s H) (hl : vs.length = ps.length) (r : Vals vs us)
  (x : InCallC s s.heap.objs.size (bindL (envOfC qual scope s.heap.objs.size f cd).kindOf (ps.zip us) fun _ => none) (cellsFrom (s.heap.objs.size + 1) scope.names []) (bindC (envOfC qual scope s.heap.objs.size f cd).kindOf (ps.zip us) fun _ => none) s1) :
  Inv (ug CX P w K mg base N qual scope f cd A outer s H E) [] (start N vs) H s1 := by
 have zy : ps.length <= N.length := by have := Um List.length S.pre; rw [Tl] at this; omega
 obtain ⟨h1, tk, rfl, hk⟩ := x.done
 have ID : ∀ b : Addr, b ∉ (ug CX P w K mg base N qual scope f cd A outer s H E).ex := fun b z => absurd (show b ∈ ([] : List Addr) from z) (by simp)
 refine ⟨⟨e0.mod, S.kind, rfl, rfl, SX _, fun y z c h1 h2 => ?_, fun y hy => ?_, fun y c _ h => ?_, fun _ => hd, Around.frames_deeper e0.frames, .inr ⟨rfl, rfl⟩, fun b z => absurd z (ID b), e0.bs, e0.zD, fun b _ _ => ID b, fun b z => absurd z (ID b), e0.lV, e0.Dz⟩,
  rfl, e0.bare, Un.kept hk, ⟨_, x.toInCall.ns, fun i y v h1 h2 h3 => ?_⟩, fun y c h => ⟨_, x.cell y c h⟩, e0.aV.fresh (SX _), fun y c h => ?_, fun p hp => absurd (show p ∈ ([] : List (Addr × Obj)) from hp) (by simp), e0.aV.kept hk, ?_⟩
 ·exact name_of_addr x.apart (UH h1) (UH h2)
 ·have hy : scope.names.lookup y = some .cell \/ scope.names.lookup y = some .free := hy
  rcases hy with hy | hy
  ·exact vd hy
  ·exact absurd rfl (S.FL _ (UH hy))
 ·exact Vs (x.above y c (UH h))
 ·have hi : i < vs.length := by
   unfold start at h2
   by_cases hi : i < vs.length
   ·exact hi
   ·rw [TW (by simpa using hi)] at h2
    rw [List.getElem?_replicate] at h2
    split at h2 <;> cases h2
  have ha : vs[i]? = some v := by
   unfold start at h2
   rw [Ur (by simpa using hi), Tc] at h2
   cases e : vs[i]? with
   | none => rw [e] at h2; cases h2
   | some a => rw [e] at h2; cases h2; rfl
  obtain ⟨u, hu, rv⟩ := r.get ha
  have hp : ps[i]? = some y := by
   rw [<- S.pre, List.getElem?_take_of_lt (by omega)]; exact h1
  have Nn : ps.Nodup := by rw [<- S.pre]; exact S.nd.sublist (UF _ _)
  refine ⟨u, rv, ?_⟩
  rcases S.par y (Tx hp) with k | k
  ·exact .inl ⟨k, q9 Nn hp hu k⟩
  ·obtain ⟨c, e⟩ := vd (n := s.heap.objs.size + 1) k
   refine .inr ⟨.inl k, c, e, ?_⟩
   have q := x.cell y c e
   rw [qv Nn hp hu (by show scope.names.lookup y ≠ _; rw [k]; decide)] at q
   exact q
 ·exact e0.aV.fresh (Vs (x.above y c (UH h)))
 ·unfold start
  show _ = N.length
  rw [Tq, SW, List.length_replicate]
  omega
theorem EB {CX : wC} {P : Program} {w : World} {K : VN} {mg : Str -> Option Value} {base : Heap} {k : Nat} {f : Addr} {name qual : Str} {params : Arguments} {body : List Stmt} {scope : Scope} {dV kV doc pm b8 ct oc : Value} {an od : Option Addr}
  {CW : Array (Option Value)} {N ps : List Str} {sp : Sp} (lk : K.lookup f = some ⟨oc, od, .func (PySem.W.fnOf name qual params body scope dV kV doc pm an b8 ct), CW⟩) (vE : PySem.W.codeIn K b8 qual = true) (S : au N ps scope)
  (len : ∀ vs H Q E, sp vs H Q E -> vs.length = ps.length)
  (uM : ∀ (A : Around) (outer : List Env) (s : Shared) (H : Hp) (vs : List V) (Q : VK) (E : XK), dJ k (A.deeper (envOfC qual scope s.heap.objs.size f b8)) -> sp vs H Q E ->
   ∃ t, rL (ug CX P w K mg base N qual scope f b8 A outer s H E) body t /\ t { nx := fun _ H' => Q .cq H', rt := Q } (start N vs) H) :
  av P w K mg base CX (k + 1) f (PySem.W.fnOf name qual params body scope dV kV doc pm an b8 ct) ps sp := by
 refine ⟨len, fun A outer s H args us vs Q E hr e0 hb r xV => ?_⟩
 have hl := len _ _ _ _ xV
 have KX : K.In s.heap := e0.mod.wZ.keeps fun b o e => (e0.bs b o e).1
 have lim : s.heap.NoLimit := e0.mod.nolimit.keeps fun b o e => (e0.bs b o e).1
 have HR : ∀ y ∈ ps.zip us, scope.names.lookup y.1 = some .local \/ (scope.names.lookup y.1 = some .cell /\ ((cellsFrom (s.heap.objs.size + 1) scope.names []).lookup y.1).isSome = true) := fun ⟨n, v⟩ hy => by
  rcases S.par n (List.of_mem_zip hy).1 with q | q
  ·exact .inl q
  ·exact .inr ⟨q, PySem.W.cellsFrom_some _ _ _ (.inl q)⟩
 refine codeAny_call_function hr.depth (KX _ _ lk) rfl S.co S.gen rfl (PySem.W.codeRec_of KX vE) (hb _ _ _ _ ?_)
 refine wpAny_newFunctionEnv_cells S.kind HR fun env he s1 x => ?_
 subst he
 refine ⟨lim.keeps x.toInCall.keep, codeAny_func ?_⟩
 obtain ⟨t, ht, hq⟩ := uM A outer s H vs Q E (hr.deeper _) xV
 have I : Inv (ug CX P w K mg base N qual scope f b8 A outer s H E) [] (start N vs) H s1 := zq S hr.hd e0 hl r x
 refine Us (ht [] s1 (start N vs) H _ I hq) (fun fl s' hs => ?_) fun e s' hs => hs
 have fin : ∀ {σ' : St} {H' : Hp} {v : V} {u : Value}, Inv (ug CX P w K mg base N qual scope f b8 A outer s H E) [] σ' H' s' -> RelV v u -> Q v H' -> CE outer P w H s Q u s' :=
  fun {σ' H' v u} J rv q => ⟨v, H', J.os, J.bare, J.base, J.aV, rv, q⟩
 cases fl with
 | ret u =>
  obtain ⟨v, σ', H', J, rv, q⟩ := hs
  exact fin J rv q
 | next =>
  obtain ⟨σ', H', J, q⟩ := hs
  exact fin (v := V.cq) (u := Value.none) J rfl q
 | brk =>
  obtain ⟨_, _, _, q⟩ := hs
  exact False.elim q
 | cont =>
  obtain ⟨_, _, _, q⟩ := hs
  exact False.elim q
section
variable {X : Cx} {x : Str} {p pos : Pos} {e : Expr} {es : List Expr} {t : TA} {id T : String} {r : List V -> Hp -> VK -> Prop}
def LA (r : List V -> Hp -> VK -> Prop) (t : TA) : TE := fun σ H Q => t σ H fun vs H1 => r vs H1 Q
theorem ay (hc : dH X (.builtin id) r) (hg : Gl X x) (hm : X.mg x = none) (hv : bootBuiltins x = some (.builtin id)) (ha : PA X (e :: es) t) (hn : x ≠ "__name__" := by decide) (qc : (x == ("__debug__" : Str)) = false := by decide)
  (he : starEach (e :: es) X.env = (false, eval e X.env) :: starEach es X.env := by rfl) (zy : (backTo pos (starEach es X.env)).any (·.1) = false := by rfl) : PE X (.Call (.Name x p) (e :: es) [] pos) (LA r t) := by
 intro pins s σ H Q I h
 refine VJ (mL I hg hm hv ?_ hn qc)
 exact PyProof.Rows.callWith_builtin1 (bU (ha pos pins s σ H _ I h) fun us s1 ⟨vs, H1, I1, r1, q1⟩ => hc pins s1 σ H1 vs us Q I1 r1 q1) he zy
theorem bu (hc : dH X (.type T) r) (hg : Gl X x) (hm : X.mg x = none) (hv : bootBuiltins x = some (.type T)) (ha : PA X (e :: es) t) (hn : x ≠ "__name__" := by decide) (qc : (x == ("__debug__" : Str)) = false := by decide)
  (he : starEach (e :: es) X.env = (false, eval e X.env) :: starEach es X.env := by rfl) (zy : (backTo pos (starEach es X.env)).any (·.1) = false := by rfl) : PE X (.Call (.Name x p) (e :: es) [] pos) (LA r t) := by
 intro pins s σ H Q I h
 refine VJ (mL I hg hm hv ?_ hn qc)
 exact PyProof.Rows.callWith_type1 (bU (ha pos pins s σ H _ I h) fun us s1 ⟨vs, H1, I1, r1, q1⟩ => hc pins s1 σ H1 vs us Q I1 r1 q1) he zy
end
end L2
namespace HT
open PySem PyProof.Rows
def lexLt : List Int -> List Int -> Bool
 | [], [] => false
 | [], _ :: _ => true
 | _ :: _, [] => false
 | x :: xs, y :: ys => if x = y then lexLt xs ys else decide (x < y)
theorem fY (x y : Int) (xs ys : List Int) : lexLt (x :: xs) (y :: ys) = if x = y then lexLt xs ys else decide (x < y) := rfl
section
variable {prog : Program} {w : World} {A : Around} {E : Value -> Shared -> Prop} {s : Shared}
theorem DO {t b : Addr} {vs ws : List Value} {Q : Value -> Shared -> Prop} (ht : IsTup s.heap t vs.toArray) (hb : IsTup s.heap b ws.toArray) (hv : vs ≠ [])
  (h1 : ws = [] -> Q (.ref t) s) (h2 : ws ≠ [] -> Q (.ref s.heap.objs.size) { s with heap := s.heap.push { cls := .type "tuple", data := .seq (vs ++ ws).toArray } })
  (hsz : vs.length + ws.length <= sizeLine) : wpAny (model prog w) A (binaryOp .Add (.ref t) (.ref b)) Q E s := by
 obtain ⟨⟨cls, dd, data, sl⟩, ho, hc, n, hd⟩ := id ht
 obtain ⟨⟨Rw, NE, data2, JZ⟩, pQ, Cw, n2, hd2⟩ := id hb
 simp only at hc hd Cw hd2
 subst hc hd Cw hd2
 have e : vs.toArray ++ ws.toArray = (vs ++ ws).toArray := by simp
 by_cases hw : ws = []
 ·exact concat_meets ⟨_, ho, rfl⟩ ⟨_, pQ, rfl⟩ noFill_tuple_add seq_tuple_add PySem.F.slot_tuple_add PySem.F.entry_tuple_add (PySem.F.args_tuple_add_2 _ _)
   (tuple_addW1 t b vs.toArray ws.toArray n n2 dd NE sl JZ (by simpa using hv) (by simp [hw])) ⟨ho, pQ, h1 hw⟩
 ·refine concat_meets ⟨_, ho, rfl⟩ ⟨_, pQ, rfl⟩ noFill_tuple_add seq_tuple_add PySem.F.slot_tuple_add PySem.F.entry_tuple_add (PySem.F.args_tuple_add_2 _ _)
   (tuple_addW2 t b vs.toArray ws.toArray n n2 dd NE sl JZ (by simpa using hv) (by simpa using hw) (by rw [Tb, Tb]; exact hsz)) ⟨ho, pQ, ?_⟩
  rw [e]
  exact h2 hw
def dC (n d : Nat) : Option Int -> Nat
 | none => d
 | some v => if v < 0 then (v + (n : Int)).toNat else min v.toNat n
theorem CL (n d k : Nat) : dC n d (some (k : Int)) = min k n := by
 show (if (k : Int) < 0 then ((k : Int) + (n : Int)).toNat else min (k : Int).toNat n) = min k n
 rw [if_neg (by omega), Ue]
theorem Gf (n d : Nat) (hd : d <= n) (o : Option Int) : dC n d o <= n := by
 cases o with
 | none => exact hd
 | some v =>
  show (if v < 0 then (v + (n : Int)).toNat else min v.toNat n) <= n
  by_cases hv : v < 0
  ·rw [if_pos hv]; omega
  ·rw [if_neg hv]; exact Nat.min_le_right _ _
theorem xT (v : Int) (n d : Nat) : (if v < 0 then max (v + (n : Int)) 0 else min v (n : Int)) = ((dC n d (some v) : Nat) : Int) := by
 show (if v < 0 then max (v + (n : Int)) 0 else min v (n : Int)) = (((if v < 0 then (v + (n : Int)).toNat else min v.toNat n) : Nat) : Int)
 by_cases hv : v < 0
 ·simp only [if_pos hv]; omega
 ·simp only [if_neg hv]; omega
theorem vL (lo hi : Option Int) (n : Nat) : Builtin.Slice.sliceAdjust lo hi 1 (n : Int) = (((dC n 0 lo : Nat) : Int), ((dC n n hi : Nat) : Int)) := by
 have h1 : ¬ ((1 : Int) < 0) := by omega
 unfold Builtin.Slice.sliceAdjust
 simp only [h1, T3]
 refine Prod.ext ?_ ?_
 ·cases lo with
  | none => rfl
  | some v => exact xT v n 0
 ·cases hi with
  | none => rfl
  | some v => exact xT v n n
theorem wm (i j : Nat) : Builtin.Slice.slicePlaces (i : Int) (j : Int) 1 = j - i := by
 unfold Builtin.Slice.slicePlaces
 have h1 : (1 : Int) > 0 := by omega
 simp only [h1, UB, Int.ediv_one]
 split <;> omega
theorem o7 {v : Value} {o : Option Int} {Q : Option Int -> Shared -> Prop} (p : IsPart v o) (h : Q o s) : wpAny (model prog w) A (Builtin.Slice.slicePartIndex v) Q E s := by
 cases p with
 | none => exact slicePart_none h
 | int i t => exact slicePart_int h
theorem g9 {sl : Addr} {vl vu : Value} {lo hi : Option Int} {n : Nat} {Q : Int × Int × Nat -> Shared -> Prop} (hs : s.heap.IsSliceOf sl vl vu .none) (pl : IsPart vl lo) (pu : IsPart vu hi)
  (h : Q (((dC n 0 lo : Nat) : Int), 1, dC n n hi - dC n 0 lo) s) : wpAny (model prog w) A (Builtin.Slice.sliceApplied (.ref sl) (pure (n : Int))) Q E s := by
 obtain ⟨os, Bk, J3, Ic⟩ := id hs
 unfold Builtin.Slice.sliceApplied Builtin.Slice.sliceFields
 refine SS (SS (Uf Bk Ic (x := vl) rfl (SS (Uf Bk Ic (x := vu) rfl (SS (Uf Bk Ic (x := .none) rfl (SU ?_)))))))
 refine SS (slicePart_none ?_)
 show wpAny _ _ (if ((1 : Int) == 0) = true then _ else _) _ _ s
 rw [if_neg (by decide)]
 refine SS (o7 pl (SS (o7 pu (SS (SU ?_)))))
 show wpAny _ _ (match Builtin.Slice.sliceAdjust lo hi 1 (n : Int) with | (lo, hi) => pure (lo, (1 : Int), Builtin.Slice.slicePlaces lo hi 1)) _ _ s
 rw [vL lo hi n]
 show wpAny _ _ (pure (((dC n 0 lo : Nat) : Int), (1 : Int), Builtin.Slice.slicePlaces ((dC n 0 lo : Nat) : Int) ((dC n n hi : Nat) : Int) 1)) _ _ s
 rw [wm]
 exact SU h
theorem AU (xs : Array Value) (i k : Nat) : ((List.range k).filterMap fun (m : Nat) => xs[((i : Int) + (m : Int) * 1).toNat]?).toArray = ((xs.toList.drop i).take k).toArray := by
 have e : (fun (m : Nat) => xs[((i : Int) + (m : Int) * 1).toNat]?) = fun m => xs[i + m]? := by
  funext m
  have : ((i : Int) + (m : Int) * 1).toNat = i + m := by omega
  rw [this]
 rw [e]
 have := pick_run xs i k
 rw [List.filterMap_map] at this
 have e2 : ((fun x => xs[x]?) ∘ fun x => i + x) = fun m => xs[i + m]? := rfl
 rw [e2] at this
 rw [this]
theorem lW {t sl : Addr} {items : Array Value} {vl vu : Value} {lo hi : Option Int} {Q : Value -> Shared -> Prop} (ht : IsTup s.heap t items) (hs : s.heap.IsSliceOf sl vl vu .none) (pl : IsPart vl lo) (pu : IsPart vu hi)
  (hw : ¬ (dC items.size 0 lo = 0 /\ dC items.size items.size hi = items.size))
  (h : Q (.ref s.heap.objs.size) { s with heap := s.heap.push { cls := .type "tuple", data := .seq ((items.toList.drop (dC items.size 0 lo)).take (dC items.size items.size hi - dC items.size 0 lo)).toArray } })
  (hsz : items.size <= sizeLine) : wpAny (model prog w) A (getItem (.ref t) (.ref sl)) Q E s := by
 have xG : sizeOk (.seq ((items.toList.drop (dC items.size 0 lo)).take (dC items.size items.size hi - dC items.size 0 lo)).toArray) := by
  show ((items.toList.drop (dC items.size 0 lo)).take (dC items.size items.size hi - dC items.size 0 lo)).toArray.size <= sizeLine
  rw [Tb, Tl, Vv, S5]
  omega
 have hj : dC items.size items.size hi <= items.size := Gf _ _ (SX _) hi
 obtain ⟨os, Bk, J3, Ic⟩ := id hs
 have PZ : s.TypeIs (.ref sl) "slice" := ⟨os, Bk, J3⟩
 unfold getItem
 try with_reducible refine Up ?_
 first | refine SS (SU ?_) | skip
 refine SS (wpAny_sequenceKey ht.typeIs (by decide) ?_)
 refine SS (T7 (name := Str.ofString "__getitem__") ht.typeIs Ul
  (TJ Ul ht.typeIs entry_tuple_getitem ?_ (args_tuple_getitem _ _)))
 show wpAny _ _ (Builtin.Tuple.tupleItemsOf (.ref t) >>= _) _ _ s
 refine SS (tupleItemsOf_ ht ?_)
 refine SS (wpAny_typeOf PZ ?_)
 rw [if_pos (by decide)]
 refine SS (g9 hs pl pu ?_)
 have Le : ¬ ((((dC items.size 0 lo : Nat) : Int) == 0 && (1 : Int) == 1 && (dC items.size items.size hi - dC items.size 0 lo) == items.size) = true) := by
  intro q
  rw [TK, TK] at q
  have q1 : ((dC items.size 0 lo : Nat) : Int) = 0 := eq_of_beq q.1.1
  have q2 : dC items.size items.size hi - dC items.size 0 lo = items.size := eq_of_beq q.2
  exact hw ⟨by omega, by omega⟩
 show wpAny _ _ (if (((dC items.size 0 lo : Nat) : Int) == 0 && (1 : Int) == 1 && (dC items.size items.size hi - dC items.size 0 lo) == items.size) = true then _ else _) _ _ s
 rw [if_neg Le, AU]
 first
  | exact SS (m := Builtin.Tuple.tupleExact _) (TQ (SU ⟨_, rfl, SU h⟩) xG)
  | exact SS (m := Builtin.Tuple.tupleExact _) (TQ (SS (SU (SU ⟨_, rfl, SU h⟩))) xG)
  | exact SS (SS (m := Builtin.Tuple.tupleExact _) (TQ (SU (SU ⟨_, rfl, SU h⟩)) xG))
  | exact SS (SS (m := Builtin.Tuple.tupleExact _) (TQ (SU ⟨_, rfl, SU h⟩) xG))
end
end HT
namespace L2
open PySem PySem.Spec PyProof.Rows
abbrev TO := St -> Hp -> (Option Int -> Hp -> Prop) -> Prop
def PO (X : Cx) (e : Option Expr) (t : TO) : Prop :=
 ∀ (pins : List (Addr × Obj)) (s : Shared) (σ : St) (H : Hp) (Q : Option Int -> Hp -> Prop), Inv X pins σ H s -> t σ H Q ->
  wpAny (model X.prog X.w) X.A (evalPart e X.env) (fun u s' => ∃ o H', Inv X pins σ H' s' /\ IsPart u o /\ Q o H') X.xe s
def CZ : TO := fun _ H Q => Q none H
def Js (t : TE) : TO := fun σ H Q => t σ H fun x H1 => ∃ i, x = .int i /\ Q (some i) H1
theorem intsAre_of {ns : List Int} : ∀ {us : List Value}, Vals (ns.map V.int) us -> IntsAre us ns := by
 induction ns with
 | nil => intro us r; rw [List.map_nil] at r; cases r; exact .nil
 | cons n ns ih =>
  intro us r
  rw [Ti] at r
  cases r with
  | cons r1 r2 =>
   obtain ⟨t, e⟩ := r1
   subst e
   exact .cons n t (ih r2)
section
variable {X : Cx} {e : Expr} {te : TE} {lo hi : Option Expr} {tl th : TO} {pos p2 : Pos}
theorem DK : PO X none CZ := by
 intro pins s σ H Q I h
 rw [evalPart_none]
 exact SU ⟨none, H, I, .none, h⟩
theorem Dk (h : PE X e te) : PO X (some e) (Js te) := by
 intro pins s σ H Q I hw
 rw [evalPart_some]
 refine bU (h pins s σ H _ I hw) fun u s1 ⟨x, H1, I1, r1, q1⟩ => ?_
 obtain ⟨i, rfl, q⟩ := q1
 obtain ⟨t, rfl⟩ := r1
 exact ⟨some i, H1, I1, .int i t, q⟩
def BQ (X : Cx) (r : V -> Option Int -> Option Int -> Hp -> VK -> Prop) : Prop :=
 ∀ (pins : List (Addr × Obj)) (s : Shared) (σ : St) (H : Hp) (x : V) (v vl vu : Value) (lo hi : Option Int) (sl : Addr) (Q : VK), Inv X pins σ H s -> RelV x v -> s.heap.IsSliceOf sl vl vu .none -> IsPart vl lo -> IsPart vu hi -> r x lo hi H Q ->
  ∃ T id, typeLookup (.type T) "__getitem__" = pure (some (.builtin id)) /\ s.TypeIs v T /\ wpAny (model X.prog X.w) X.A (getItem v (.ref sl)) (EP X pins σ Q) X.xe s
theorem BQ.or {r r' : V -> Option Int -> Option Int -> Hp -> VK -> Prop} (h : BQ X r) (h' : BQ X r') : BQ X (fun x lo hi H Q => r x lo hi H Q \/ r' x lo hi H Q) := by
 intro pins s σ H x v vl vu lo hi sl Q I rx hs pl pu q
 rcases q with q | q
 ·exact h pins s σ H x v vl vu lo hi sl Q I rx hs pl pu q
 ·exact h' pins s σ H x v vl vu lo hi sl Q I rx hs pl pu q
def Oa (r : V -> Option Int -> Option Int -> Hp -> VK -> Prop) (te : TE) (tl th : TO) : TE := fun σ H Q => te σ H fun x H1 => tl σ H1 fun l H2 => th σ H2 fun u H3 => r x l u H3 Q
theorem Bj {r : V -> Option Int -> Option Int -> Hp -> VK -> Prop} (hr : BQ X r) (he : PE X e te) (hl : PO X lo tl) (hu : PO X hi th) : PE X (.Subscript e (.Slice lo hi none p2) pos) (Oa r te tl th) := by
 intro pins s σ H Q I h
 refine Subscript_ (bU (he pins s σ H _ I h) fun v s1 ⟨x, H1, I1, r1, q1⟩ => ?_)
 refine wpAny_Slice (bU (hl pins s1 σ H1 _ I1 q1) fun vl s2 ⟨l, H2, I2, pl, q2⟩ => bU (hu pins s2 σ H2 _ I2 q2) fun vu s3 ⟨u, H3, I3, pu, q3⟩ => ?_)
 rw [evalPart_none]
 refine SU ?_
 have I4 : Inv X pins σ H3 { s3 with heap := s3.heap.push { cls := .type "slice", data := .fields #[vl, vu, .none] } } := I3.kept (t' := s3.toks) fun b ob q => SV _ q
 obtain ⟨T, id, hT, ht, hg⟩ := hr pins { s3 with heap := s3.heap.push { cls := .type "slice", data := .fields #[vl, vu, .none] } } σ H3 x v vl vu l u s3.heap.objs.size Q I4 r1 (Heap.IsSliceOf.new ..) pl pu q3
 show wpAny (model X.prog X.w) X.A (subscriptTail e (.Slice lo hi none p2) v (.ref s3.heap.objs.size)) (EP X pins σ Q) X.xe { s3 with heap := s3.heap.push { cls := .type "slice", data := .fields #[vl, vu, .none] } }
 exact tail_any (ops := [.ref s3.heap.objs.size, v]) ht hT hg (by with_unfolding_all rfl)
def t3 (xs : List V) (lo hi : Option Int) : List V := (xs.drop (HT.dC xs.length 0 lo)).take (HT.dC xs.length xs.length hi - HT.dC xs.length 0 lo)
theorem mP (xs : List V) (lo hi : Option Int) : (t3 xs lo hi).length <= xs.length := by
 unfold t3
 rw [Tl, Vv]
 omega
def HX (K : VN) : V -> Option Int -> Option Int -> Hp -> VK -> Prop := fun x lo hi H Q => ∃ a xs, x = .ref a /\ aX K H a xs /\
 ¬ (HT.dC xs.length 0 lo = 0 /\ HT.dC xs.length xs.length hi = xs.length) /\ ∀ p, H p = none -> Q (.ref p) (upd H p (.tup (t3 xs lo hi)))
theorem Ff : BQ X (HX X.K) := by
 intro pins s σ H x v vl vu lo hi sl Q I rx hs pl pu h
 obtain ⟨a, xs, rfl, hx, hw, q⟩ := h
 cases rx
 obtain ⟨aA, r, ht, hz⟩ := I.tuple hx
 have hlen : aA.toArray.size = xs.length := by rw [Tb]; exact r.length.symm
 refine ⟨"tuple", _, Ul.lookup, ht.typeIs, ?_⟩
 refine HT.lW ht hs pl pu (by rw [hlen]; exact hw) ?_ (by rw [hlen]; exact hz)
 rw [hlen]
 refine ⟨.ref s.heap.objs.size, _, I.laid (t' := s.toks) (o := .tup (t3 xs lo hi)) (fun b ob q => SV _ q) (SX _) ?_, rfl, q _ (I.aV.fresh (SX _))⟩
 exact ⟨S8 (mP xs lo hi) hz, _, (r.drop (HT.dC xs.length 0 lo)).take (HT.dC xs.length xs.length hi - HT.dC xs.length 0 lo), IsTup.new _ _⟩
theorem Vals.nM {xs : List V} {us : List Value} (r : Vals xs us) : us = [] ↔ xs = [] := by
 cases r with
 | nil => simp
 | cons _ _ => simp
end
def GJ (n : Nat) (i : Int) : Option Nat := if 0 <= i then (if i < n then some i.toNat else none) else if -(n : Int) <= i then some (i + n).toNat else none
def zx {α : Type} (xs : List α) (i : Int) : Option α := (GJ xs.length i).bind fun j => xs[j]?
theorem DB {n : Nat} {i : Int} {j : Nat} (h : GJ n i = some j) : seqIndex? i n = some j /\ j < n /\ -(n : Int) <= i /\ i < n := by
 unfold GJ at h
 by_cases h0 : 0 <= i
 ·rw [if_pos h0] at h
  by_cases h1 : i < n
  ·rw [if_pos h1] at h
   have e : i.toNat = j := T8 h
   exact ⟨by rw [seqIndex_of h0 h1, e], by omega, by omega, h1⟩
  ·rw [if_neg h1] at h; cases h
 ·rw [if_neg h0] at h
  by_cases h1 : -(n : Int) <= i
  ·rw [if_pos h1] at h
   have e : (i + n).toNat = j := T8 h
   exact ⟨by rw [seqIndex_neg (by omega) h1, e], by omega, h1, by omega⟩
  ·rw [if_neg h1] at h; cases h
theorem x3 {α : Type} {xs : List α} {i : Int} {v : α} (h : zx xs i = some v) : ∃ j, seqIndex? i xs.length = some j /\ xs[j]? = some v /\ j < xs.length /\ -(xs.length : Int) <= i /\ i < xs.length := by
 unfold zx at h
 cases e : GJ xs.length i with
 | none => rw [e] at h; cases h
 | some j =>
  rw [e] at h
  obtain ⟨h1, h2, h3, h4⟩ := DB e
  exact ⟨j, h1, h, h2, h3, h4⟩
theorem eV {α : Type} {xs : List α} {j : Nat} {v : α} (h : xs[j]? = some v) : zx xs (j : Int) = some v := by
 have hj : j < xs.length := (Tk.mp h).1
 have e : GJ xs.length (j : Int) = some j := by
  unfold GJ
  rw [if_pos (by omega), if_pos (by omega)]; simp
 unfold zx; rw [e]; exact h
def CF (b : Expr) : Prop := ∀ o i, subscripted b false o i = operate [o, i] (getItem o i)
def z9 (X : Cx) (r : R2) : Prop :=
 ∀ (value slice : Expr) (pins : List (Addr × Obj)) (s : Shared) (σ : St) (H : Hp) (x y : V) (v u : Value) (Q : VK), Inv X pins σ H s -> RelV x v -> RelV y u -> r x y H Q ->
  subscripted slice false v u = operate [v, u] (getItem v u) -> wpAny (model X.prog X.w) X.A (subscriptTail value slice v u) (EP X pins σ Q) X.xe s
def Es (X : Cx) (id : String) (r : V -> List V -> Hp -> VK -> Prop) : Prop :=
 ∀ (pins : List (Addr × Obj)) (s : Shared) (σ : St) (H : Hp) (x : V) (xs : List V) (v : Value) (us : List Value) (Q : VK), Inv X pins σ H s -> RelV x v -> Vals xs us -> r x xs H Q ->
  wpAny (model X.prog X.w) X.A (call (.builtin id) (v :: us)) (EP X pins σ Q) X.xe s
section
variable {X : Cx} {a b : Expr} {ta tb : TE} {pos : Pos}
theorem z9.or {r r' : R2} (h : z9 X r) (h' : z9 X r') : z9 X (fun x y H Q => r x y H Q \/ r' x y H Q) := by
 intro value slice pins s σ H x y v u Q I rx ry q hs
 rcases q with q | q
 ·exact h value slice pins s σ H x y v u Q I rx ry q hs
 ·exact h' value slice pins s σ H x y v u Q I rx ry q hs
theorem Es.or {id : String} {r r' : V -> List V -> Hp -> VK -> Prop} (h : Es X id r) (h' : Es X id r') : Es X id (fun x xs H Q => r x xs H Q \/ r' x xs H Q) := by
 intro pins s σ H x xs v us Q I rx rs q
 rcases q with q | q
 ·exact h pins s σ H x xs v us Q I rx rs q
 ·exact h' pins s σ H x xs v us Q I rx rs q
theorem aF {r : R2} (hr : z9 X r) (ha : PE X a ta) (hb : PE X b tb) (hs : CF b) : PE X (.Subscript a b pos) (JE r ta tb) := by
 intro pins s σ H Q I h
 exact Subscript_ (Gx ha hb I h fun v u s2 x y H2 I2 rx ry q => hr a b pins s2 σ H2 x y v u Q I2 rx ry q (hs _ _))
def IT (K : VN) : R2 := fun x y H Q => ∃ p xs i v, x = .ref p /\ y = .int i /\ a6 K H p xs /\ zx xs i = some v /\ Q v H
def HF (K : VN) : R2 := fun x y H Q => ∃ p xs i v, x = .ref p /\ y = .int i /\ aX K H p xs /\ zx xs i = some v /\ Q v H
theorem eX : z9 X (IT X.K) := by
 intro value slice pins s σ H x y v u Q I rx ry h hs
 obtain ⟨p, xs, i, z, rfl, rfl, hq, he, q⟩ := h
 cases rx
 obtain ⟨t, rfl⟩ := ry
 obtain ⟨aA, r, pl, hz⟩ := I.list hq
 obtain ⟨j, h1, h2, h3, h4, h5⟩ := x3 he
 obtain ⟨w, ew, HC⟩ := r.get h2
 have hl := r.length
 have hn := sV
 have fin : EP X pins σ Q w s := ⟨z, H, I, HC, q⟩
 by_cases h0 : 0 <= i
 ·have hj : i.toNat = j := by
   rw [seqIndex_of h0 h5] at h1
   exact T8 h1
  exact item_listR pl.isList h0 (by omega) (by rw [hj]; simpa using ew) fin hs
 ·have hj : (i + (aA.toArray.size : Int)).toNat = j := by
   rw [seqIndex_neg (by omega) h4] at h1
   rw [Tb, <- hl]
   exact T8 h1
  exact subscriptTail_builtinR (x := w) pl.isList.typeIs slot_list_getitem.lookup
   (wpAny_getItem_list_neg (Q := fun r s' => r = w /\ EP X pins σ Q r s') pl.isList (by omega) (by rw [Tb] <;> omega) (by omega) (by rw [hj]; simpa using ew) ⟨rfl, fin⟩) hs
theorem aI : z9 X (HF X.K) := by
 intro value slice pins s σ H x y v u Q I rx ry h hs
 obtain ⟨p, xs, i, z, rfl, rfl, hq, he, q⟩ := h
 cases rx
 obtain ⟨t, rfl⟩ := ry
 obtain ⟨aA, r, pl, hz⟩ := I.tuple hq
 obtain ⟨j, h1, h2, h3, h4, h5⟩ := x3 he
 obtain ⟨w, ew, HC⟩ := r.get h2
 have hl := r.length
 have hn := sV
 have fin : EP X pins σ Q w s := ⟨z, H, I, HC, q⟩
 exact subscriptTail_builtinR (x := w) pl.typeIs slot_tuple_getitem.lookup
  (getItem_tuple (j := j) (Q := fun r s' => r = w /\ EP X pins σ Q r s') pl (by omega) (by omega) (by rw [Tb, <- hl]; exact h1) (by simpa using ew) ⟨rfl, fin⟩) hs
theorem Inv.lst {pins : List (Addr × Obj)} {σ : St} {H : Hp} {s : Shared} {p : Addr} {xs : List V} (I : Inv X pins σ H s) (h : H p = some (.lst xs)) :
  ∃ (aA : List Value) (n : Nat), Vals xs aA /\ s.heap.get? p = some { cls := .type "list", data := .seq aA.toArray n } /\ xs.length <= sizeLine := by
 obtain ⟨z, aA, n, r, e⟩ := I.aV p _ h
 exact ⟨aA, n, r, e, z⟩
theorem rG (lo hi : Option Int) (n : Nat) : (sliceBounds lo hi none n).1 = ((HT.dC n 0 lo : Nat) : Int) /\ (sliceBounds lo hi none n).2.1 = ((HT.dC n n hi : Nat) : Int) /\ (sliceBounds lo hi none n).2.2 = 1 := by
 refine ⟨?_, ?_, rfl⟩
 ·cases lo with
  | none => simp [sliceBounds, HT.dC]
  | some i =>
   simp only [sliceBounds, HT.dC, Option.getD_none, show (1 : Int) > 0 by decide, UB]
   by_cases h : i < 0
   ·simp only [h, UB] <;> omega
   ·simp only [h, T3] <;> omega
 ·cases hi with
  | none => simp [sliceBounds, HT.dC]
  | some i =>
   simp only [sliceBounds, HT.dC, Option.getD_none, show (1 : Int) > 0 by decide, UB]
   by_cases h : i < 0
   ·simp only [h, UB] <;> omega
   ·simp only [h, T3] <;> omega
theorem qg (aA : List Value) (lo hi : Option Int) : slicePick aA.toArray lo hi none = ((aA.drop (HT.dC aA.length 0 lo)).take (HT.dC aA.length aA.length hi - HT.dC aA.length 0 lo)).toArray := by
 obtain ⟨h1, h2, h3⟩ := rG lo hi aA.toArray.size
 unfold slicePick
 rw [h1, h2, h3]
 simp only [sliceRange_one, pick_run, Tb] <;> rfl
def Lb (K : VN) : V -> Option Int -> Option Int -> Hp -> VK -> Prop := fun x lo hi H Q => ∃ a xs, x = .ref a /\ a6 K H a xs /\ ∀ p, H p = none -> Q (.ref p) (upd H p (.lst (t3 xs lo hi)))
theorem Jx : BQ X (Lb X.K) := by
 intro pins s σ H x v vl vu lo hi sl Q I rx hs pl pu h
 obtain ⟨a, xs, rfl, hx, q⟩ := h
 cases rx
 obtain ⟨aA, r, ht, hz⟩ := I.list hx
 have hlen := r.length
 refine ⟨"list", _, slot_list_getitem.lookup, ht.isList.typeIs, ?_⟩
 refine wpAny_getItem_list_slice ht.isList hs pl pu .none (by simp) ?_ (by rw [Tb] <;> omega)
 rw [qg, <- hlen]
 refine ⟨.ref s.heap.objs.size, _, I.laid (t' := s.toks) (o := .lst (t3 xs lo hi)) (fun b ob q => SV _ q) (SX _) ?_, rfl, q _ (I.aV.fresh (SX _))⟩
 exact ⟨S8 (mP xs lo hi) hz, _, 0, (r.drop (HT.dC xs.length 0 lo)).take (HT.dC xs.length xs.length hi - HT.dC xs.length 0 lo), S7 _ rfl⟩
def k7 : V -> Bool
 | .cq => true
 | .bl _ => true
 | .int _ => true
 | .str _ => true
 | _ => false
def Ex : V -> V -> Bool
 | .cq, .cq => true
 | .bl a, .bl b => a == b
 | .bl a, .int b => (if a then 1 else 0) == b
 | .int a, .bl b => a == (if b then 1 else 0)
 | .int a, .int b => a == b
 | .str a, .str b => a == b
 | _, _ => false
theorem FU {A : Around} {s : Shared} {y x : V} {u v : Value} (ry : RelV y u) (rx : RelV x v) (fy : k7 y = true) (fx : k7 x = true) : SeqAt.EqAt A s u v (Ex y x) := by
 cases y with
 | cq =>
  cases ry
  cases x with
  | cq => cases rx; exact SeqAt.EqAt.same _
  | bl b => cases rx; exact SeqAt.EqAt.none_bool b
  | int b => obtain ⟨t, rfl⟩ := rx; exact SeqAt.EqAt.none_int b t
  | str b => obtain ⟨t, rfl⟩ := rx; exact SeqAt.EqAt.none_str b t
  | _ => exact absurd (show false = true from fx) S3
 | bl a =>
  cases ry
  cases x with
  | cq => cases rx; exact SeqAt.EqAt.bool_none a
  | bl b => cases rx; exact SeqAt.EqAt.bool_bool a b
  | int b => obtain ⟨t, rfl⟩ := rx; exact SeqAt.EqAt.bool_int a b t
  | str b => obtain ⟨t, rfl⟩ := rx; exact SeqAt.EqAt.bool_str a b t
  | _ => exact absurd (show false = true from fx) S3
 | int a =>
  obtain ⟨t', rfl⟩ := ry
  cases x with
  | cq => cases rx; exact SeqAt.EqAt.int_none a t'
  | bl b => cases rx; exact SeqAt.EqAt.int_bool a t' b
  | int b => obtain ⟨t, rfl⟩ := rx; exact SeqAt.EqAt.int_int a t' b t
  | str b => obtain ⟨t, rfl⟩ := rx; exact SeqAt.EqAt.int_str a t' b t
  | _ => exact absurd (show false = true from fx) S3
 | str a =>
  obtain ⟨t', rfl⟩ := ry
  cases x with
  | cq => cases rx; exact SeqAt.EqAt.str_none a t'
  | bl b => cases rx; exact SeqAt.EqAt.str_bool a t' b
  | int b => obtain ⟨t, rfl⟩ := rx; exact SeqAt.EqAt.str_int a t' b t
  | str b => obtain ⟨t, rfl⟩ := rx; exact SeqAt.EqAt.str_str a t' b t
  | _ => exact absurd (show false = true from fx) S3
 | _ => exact absurd (show false = true from fy) S3
def vF (x : V) (u : Value) : Bool := match u with
 | .none => Ex .cq x
 | .bool b => Ex (.bl b) x
 | .int i _ => Ex (.int i) x
 | .str z _ => Ex (.str z) x
 | _ => false
theorem AR {x y : V} {u : Value} (r : RelV y u) (f : k7 y = true) : vF x u = Ex y x := by
 cases y with
 | cq => cases r; rfl
 | bl b => cases r; rfl
 | int i => obtain ⟨t, rfl⟩ := r; rfl
 | str z => obtain ⟨t, rfl⟩ := r; rfl
 | _ => exact absurd (show false = true from f) S3
theorem kR {x : V} : ∀ {xs : List V} {us : List Value}, Vals xs us -> xs.all k7 = true -> us.any (vF x) = xs.any fun y => Ex y x
 | _, _, .nil, _ => rfl
 | y :: xs, u :: us, .cons r t, f => by
  rw [List.all_cons, TK] at f
  rw [List.any_cons, List.any_cons, AR r f.1, kR t f.2]
theorem jr {A : Around} {s : Shared} {x : V} {v : Value} (rx : RelV x v) (fx : k7 x = true) : ∀ {xs : List V} {us : List Value}, Vals xs us -> xs.all k7 = true -> ∀ u ∈ us, SeqAt.EqAt A s u v (vF x u)
 | _, _, .nil, _ => fun u hu => by cases hu
 | y :: xs, u :: us, .cons r t, f => fun u' hu => by
  rw [List.all_cons, TK] at f
  rcases S2.mp hu with rfl | hu
  ·rw [AR r f.1]; exact FU r rx f.1 fx
  ·exact jr rx fx t f.2 u' hu
def tH (x : V) (xs : List V) : Bool := xs.any fun y => Ex y x
def Kj (K : VN) (neg : Bool) : R2 := fun x y H Q => ∃ p xs, y = .ref p /\ (a6 K H p xs \/ aX K H p xs) /\ k7 x = true /\ xs.all k7 = true /\ Q (.bl (if neg then !tH x xs else tH x xs)) H
theorem fK : h9 X (compareOp .In) (Kj X.K false) := by
 intro pins s σ H x y v u Q I rx ry h
 obtain ⟨p, xs, rfl, hq, fx, fs, q⟩ := h
 cases ry
 rcases hq with hq | hq
 ·obtain ⟨aA, r, pl, hz⟩ := I.list hq
  refine SeqAt.in_listAt (vF x) pl.isList (fun w hw => jr rx fx r fs w (by simpa using hw)) ⟨.bl _, H, I, rfl, ?_⟩
  rw [show aA.toArray.any (vF x) = aA.any (vF x) by simp, kR r fs]
  exact q
 ·obtain ⟨aA, r, pl, hz⟩ := I.tuple hq
  refine SeqAt.in_tupleAt (vF x) pl (fun w hw => jr rx fx r fs w (by simpa using hw)) ⟨.bl _, H, I, rfl, ?_⟩
  rw [show aA.toArray.any (vF x) = aA.any (vF x) by simp, kR r fs]
  exact q
theorem iq : h9 X (compareOp .NotIn) (Kj X.K true) := by
 intro pins s σ H x y v u Q I rx ry h
 obtain ⟨p, xs, rfl, hq, fx, fs, q⟩ := h
 cases ry
 rcases hq with hq | hq
 ·obtain ⟨aA, r, pl, hz⟩ := I.list hq
  refine SeqAt.notIn_listAt (vF x) pl.isList (fun w hw => jr rx fx r fs w (by simpa using hw)) ⟨.bl _, H, I, rfl, ?_⟩
  rw [show aA.toArray.any (vF x) = aA.any (vF x) by simp, kR r fs]
  exact q
 ·obtain ⟨aA, r, pl, hz⟩ := I.tuple hq
  refine SeqAt.notIn_tupleAt (vF x) pl (fun w hw => jr rx fx r fs w (by simpa using hw)) ⟨.bl _, H, I, rfl, ?_⟩
  rw [show aA.toArray.any (vF x) = aA.any (vF x) by simp, kR r fs]
  exact q
theorem aC : dH X (.builtin "len") (fun xs H Q => ∃ p ys, xs = [.ref p] /\ (a6 X.K H p ys \/ aX X.K H p ys) /\ Q (.int ys.length) H) := by
 intro pins s σ H xs us Q I r h
 obtain ⟨p, ys, rfl, hq, q⟩ := h
 obtain ⟨u, rfl, rx⟩ := vals1 r
 cases rx
 have hn := sV
 rcases hq with hq | hq
 ·obtain ⟨aA, r', pl, hz⟩ := I.list hq
  have hlen := r'.length
  exact Calls.call_len_list pl.isList (by simp only [Tb] <;> omega) ⟨.int ys.length, H, I.tok _, ⟨s.toks + 1, by rw [Tb, hlen]⟩, q⟩
 ·obtain ⟨aA, r', pl, hz⟩ := I.tuple hq
  have hlen := r'.length
  exact len_tuple pl (by simp only [Tb] <;> omega) ⟨.int ys.length, H, I.tok _, ⟨s.toks + 1, by rw [Tb, hlen]⟩, q⟩
theorem dH.or {f : Value} {r r' : List V -> Hp -> VK -> Prop} (h : dH X f r) (h' : dH X f r') : dH X f (fun xs H Q => r xs H Q \/ r' xs H Q) := by
 intro pins s σ H xs us Q I rs q
 rcases q with q | q
 ·exact h pins s σ H xs us Q I rs q
 ·exact h' pins s σ H xs us Q I rs q
theorem iC : dH X (.type "list") (fun xs H Q => ∃ p ys, xs = [.ref p] /\ (a6 X.K H p ys \/ aX X.K H p ys) /\ ∀ l, H l = none -> Q (.ref l) (upd H l (.lst ys))) := by
 intro pins s σ H xs us Q I r h
 obtain ⟨p, ys, rfl, hq, q⟩ := h
 obtain ⟨u, rfl, rx⟩ := vals1 r
 cases rx
 have fin : ∀ (aA : List Value), Vals ys aA -> ys.length <= sizeLine -> ∀ (h' : Heap) (c' : Nat), (∀ b o', s.heap.get? b = some o' -> h'.get? b = some o') ->
   h'.get? s.heap.objs.size = some { cls := .type "list", dict := none, data := .seq aA.toArray c', slots := #[] } -> EP X pins σ Q (.ref s.heap.objs.size) { s with heap := h' } := fun aA r' hz h' c' kp e =>
  ⟨.ref s.heap.objs.size, _, I.laid (t' := s.toks) kp (SX _) (show bV X.prog X.w _ h' _ (.lst ys) from ⟨hz, aA, c', r', e⟩), rfl, q _ (I.aV.fresh (SX _))⟩
 rcases hq with hq | hq
 ·obtain ⟨aA, r', pl, hz⟩ := I.list hq
  have hlen := r'.length
  obtain ⟨o, ho, hc, n, hd⟩ := pl.isList
  exact call_list_seq p (.inl rfl) ho hc hd (fun h' c' kp e => fin aA r' hz h' c' kp e) (by simp only [Tb] <;> omega)
 ·obtain ⟨aA, r', pl, hz⟩ := I.tuple hq
  have hlen := r'.length
  obtain ⟨o, ho, hc, n, hd⟩ := pl
  exact call_list_seq p (.inr rfl) ho hc hd (fun h' c' kp e => fin aA r' hz h' c' kp e) (by simp only [Tb] <;> omega)
theorem bv : dH X (.type "tuple") (fun xs H Q => ∃ p ys, xs = [.ref p] /\ ((a6 X.K H p ys /\ ∀ l, H l = none -> Q (.ref l) (upd H l (.tup ys))) \/ (aX X.K H p ys /\ Q (.ref p) H))) := by
 intro pins s σ H xs us Q I r h
 obtain ⟨p, ys, rfl, h⟩ := h
 obtain ⟨u, rfl, rx⟩ := vals1 r
 cases rx
 rcases h with ⟨hq, q⟩ | ⟨hq, q⟩
 ·obtain ⟨aA, r', pl, hz⟩ := I.list hq
  have hlen := r'.length
  refine call_tuple_list pl.isList (fun h' kp => ?_) (by simp only [Tb] <;> omega)
  have I1 : Inv X pins σ H { s with heap := h' } := I.kept (t' := s.toks) kp
  have I2 : Inv X pins σ (upd H h'.objs.size (.tup ys)) { s with heap := h'.push { cls := .type "tuple", data := .seq aA.toArray } } :=
   I1.laid (t' := s.toks) (fun b o e => SV _ e) (SX _) (show bV X.prog X.w _ _ _ (.tup ys) from ⟨hz, aA, r', IsTup.new _ _⟩)
  exact ⟨.ref h'.objs.size, _, I2, rfl, q _ (I1.aV.fresh (SX _))⟩
 ·obtain ⟨aA, r', pl, hz⟩ := I.tuple hq
  exact call_tuple_same pl ⟨.ref p, H, I, rfl, q⟩
def Ls (K : VN) (T : String) (x : V) (H : Hp) : Prop := match x with
 | .str _ => T = "str"
 | .int _ => T = "int"
 | .ref p => (T = "list" /\ ∃ xs, a6 K H p xs) \/ (T = "tuple" /\ ∃ o, K.lookup p = some o /\ o.cls = .type "tuple" /\ o.dict = none) \/
   (T = "dict" /\ ((∃ kvs, H p = some (.dK kvs)) \/ ∃ kvs, H p = some (.dT kvs))) \/ (T = "set" /\ ∃ S n, H p = some (.set S n))
 | _ => False
theorem AG {pins : List (Addr × Obj)} {σ : St} {H : Hp} {s : Shared} {T : String} {x : V} {v : Value} (I : Inv X pins σ H s) (r : RelV x v) (ty : Ls X.K T x H) :
  s.TypeIs v T /\ ∀ a, v = .ref a -> ∃ ob, s.heap.get? a = some ob /\ ob.dict = none := by
 cases x with
 | str z =>
  obtain ⟨t, rfl⟩ := r
  cases (show T = "str" from ty)
  exact ⟨typeIs_str s z t, fun _ e => nomatch e⟩
 | int i =>
  obtain ⟨t, rfl⟩ := r
  cases (show T = "int" from ty)
  exact ⟨typeIs_int s i t, fun _ e => nomatch e⟩
 | ref p =>
  cases r
  rcases ty with ⟨rfl, xs, hq⟩ | ⟨rfl, o, hk, hc, hd⟩ | ⟨rfl, hk⟩ | ⟨rfl, S, n, hk⟩
  ·obtain ⟨aA, _, pl, _⟩ := I.list hq
   refine ⟨pl.isList.typeIs, fun a e => ?_⟩
   cases e
   obtain ⟨o, n, e, c, hd, _⟩ := pl
   exact ⟨o, e, hd⟩
  ·refine ⟨⟨o, I.nE p o hk, hc⟩, fun a e => ?_⟩
   cases e
   exact ⟨o, I.nE _ o hk, hd⟩
  ·have z : ∃ o, s.heap.get? p = some o /\ o.ExactDict := by
    rcases hk with ⟨kvs, hk⟩ | ⟨kvs, hk⟩
    ·obtain ⟨_, _, _, _, o, _, _, e, ex, _⟩ := I.aV p _ hk
     exact ⟨o, e, ex⟩
    ·obtain ⟨_, _, _, _, o, _, _, e, ex, _⟩ := I.aV p _ hk
     exact ⟨o, e, ex⟩
   obtain ⟨o, e, ex⟩ := z
   refine ⟨⟨o, e, ex.1⟩, fun a e2 => ?_⟩
   cases e2
   exact ⟨o, e, ex.2.1⟩
  ·obtain ⟨o, _, _, _, e, ex, _⟩ := I.aV p _ hk
   refine ⟨⟨o, e, ex.1⟩, fun a e2 => ?_⟩
   cases e2
   exact ⟨o, e, ex.2.1⟩
 | _ => exact False.elim ty
def Lf (K : VN) (T : String) (r : V -> List V -> Hp -> VK -> Prop) (to : TE) : TE := fun σ H Q => to σ H fun x H1 => Ls K T x H1 /\ r x [] H1 Q
def Qv (K : VN) (T : String) (r : V -> List V -> Hp -> VK -> Prop) (to : TE) (t : TA) : TE := fun σ H Q => to σ H fun x H1 => Ls K T x H1 /\ t σ H1 fun xs H2 => r x xs H2 Q
variable {o e : Expr} {es : List Expr} {to : TE} {t : TA} {name : Str} {apos cR : Pos} {T id : String} {r : V -> List V -> Hp -> VK -> Prop}
theorem Fb (pa : PlainAttrs T) (slot : Slot T name id) (Mb : typeOf (.builtin id) = pure (.type "method_descriptor")) (hm : Es X id r) (ho : PE X o to)
  (jj : attributeBase o name X.env (eval o X.env) = eval o X.env := by rfl) (iY : (apos.endLine == cR.line) = true := by rfl) : PE X (.Call (.Attribute o name apos) [] [] cR) (Lf X.K T r to) := by
 intro pins s σ H Q I h
 refine wpAny_Call_method0_late jj iY (bU (ho pins s σ H _ I h) fun v s1 ⟨x, H1, I1, r1, ty, q1⟩ => ?_)
 obtain ⟨h1, h2⟩ := AG I1 r1 ty
 exact ⟨T, id, pa, slot, Mb, h1, h2, Calls.callWith_builtin rfl (PySem.evalArgs_none (hm pins s1 σ H1 x [] v [] Q I1 r1 .nil q1))⟩
theorem qS (pa : PlainAttrs T) (slot : Slot T name id) (Mb : typeOf (.builtin id) = pure (.type "method_descriptor")) (hm : Es X id r) (ho : PE X o to) (ha : PA X (e :: es) t)
  (jj : attributeBase o name X.env (eval o X.env) = eval o X.env := by rfl)
  (A1 : ((backTo cR (starEach (e :: es) X.env)).all (fun x => !x.1) && (backToKw cR (keywordEach [] X.env)).all (fun x => x.1.isSome)
   && decide ((e :: es).length + ([] : List Keyword).length + (if ([] : List Keyword).isEmpty then 0 else 1) < 30)) = true := by rfl)
  (iY : (apos.endLine == cR.line) = true := by rfl) (hs : starEach (e :: es) X.env = (false, eval e X.env) :: starEach es X.env := by rfl) (ku : (backTo cR (starEach es X.env)).any (·.1) = false := by rfl) :
  PE X (.Call (.Attribute o name apos) (e :: es) [] cR) (Qv X.K T r to t) := by
 intro pins s σ H Q I h
 refine wpAny_Call_method_late jj A1 iY rfl (bU (ho pins s σ H _ I h) fun v s1 ⟨x, H1, I1, r1, ty, q1⟩ => ?_)
 obtain ⟨h1, h2⟩ := AG I1 r1 ty
 refine ⟨T, id, pa, slot, Mb, h1, h2, ?_⟩
 have hA := ha cR pins s1 σ H1 _ I1 q1
 rw [hs] at hA ⊢
 refine Calls.callWith_builtin (by show (false || (backTo cR (starEach es X.env)).any (·.1)) = false; rw [ku] <;> rfl) (Calls.evalArgs_plain ?_)
 exact bU hA fun us s2 ⟨vs, H2, I2, r2, q2⟩ => hm pins s2 σ H2 x vs v us Q I2 r1 r2 q2
/- xs.append(e), list.index on a HD tuple .. are Es facts of 06m -/
end
def Ka (X : Cx) (id : String) (r : V -> List V -> Hp -> VK -> Prop) : Prop :=
 ∀ (pins : List (Addr × Obj)) (s : Shared) (σ : St) (H : Hp) (x : V) (xs : List V) (v : Value) (us : List Value) (Q : VK), Inv X pins σ H s -> RelV x v -> Vals xs us -> r x xs H Q ->
  wpAny (model X.prog X.w) X.A (call (.builtin id) (v :: us)) (EP X pins σ Q) X.xe s
theorem Vals.one : ∀ {x : V} {us : List Value}, Vals [x] us -> ∃ u, us = [u] /\ RelV x u
 | _, _, .cons r .nil => ⟨_, rfl, r⟩
theorem Vals.zero : ∀ {us : List Value}, Vals [] us -> us = []
 | _, .nil => rfl
theorem Vals.dropLast {xs : List V} {us : List Value} (h : Vals xs us) : Vals xs.dropLast us.dropLast := by
 induction h with
 | nil => exact .nil
 | cons r t ih =>
  cases t with
  | nil => exact .nil
  | cons q t' => exact .cons r ih
theorem Vals.eraseIdx : ∀ {xs : List V} {us : List Value} (i : Nat), Vals xs us -> Vals (xs.eraseIdx i) (us.eraseIdx i)
 | _, _, _, .nil => .nil
 | _, _, 0, .cons _ t => t
 | _, _, i + 1, .cons r t => .cons r (Vals.eraseIdx i t)
theorem Vals.reverse {xs : List V} {us : List Value} (h : Vals xs us) : Vals xs.reverse us.reverse := by
 induction h with
 | nil => exact .nil
 | cons r t ih => rw [List.reverse_cons, List.reverse_cons]; exact Vals.append ih (.cons r .nil)
theorem vU {α : Type} (l : List α) : l.eraseIdx (l.length - 1) = l.dropLast := by
 induction l with
 | nil => rfl
 | cons a r ih =>
  cases r with
  | nil => rfl
  | cons b r =>
   have e : (a :: b :: r).length - 1 = ((b :: r).length - 1) + 1 := by
    have h1 : (a :: b :: r).length = r.length + 2 := rfl
    have h2 : (b :: r).length = r.length + 1 := rfl
    omega
   rw [e, List.eraseIdx_cons_succ, ih]
   all_goals rfl
section
variable {X : Cx} {pins : List (Addr × Obj)} {σ : St} {H : Hp} {s : Shared} {l b : Addr} {xs ys zs : List V}
theorem Inv.Cy {aA its' : List Value} {n : Nat} {f : Array Value -> Array Value} {t' : Nat} (I : Inv X pins σ H s) (hH : H l = some (.lst xs))
  (e : s.heap.get? l = some { cls := .type "list", data := .seq aA.toArray n }) (hf : f aA.toArray = its'.toArray) (hv : Vals ys its') (hz : ys.length <= sizeLine) :
  Inv X pins σ (upd H l (.lst ys)) { s with heap := s.heap.update l (Obj.mapSeq f), toks := t' } := by
 have q := PySem.IsL.update e f
 rw [hf] at q
 refine I.write (x := l) (e := l) (by rw [hH]; exact trivial) (.inl rfl) (fun b' u hb hu => (Heap.get?_update_other s.heap (Obj.mapSeq f) (Vl hb)).trans hu) ⟨_, q⟩ ?_
 exact ⟨hz, its', _, hv, q⟩
theorem Inv.LR {aA : List Value} {t' : Nat} (I : Inv X pins σ H s) (hv : Vals ys aA) (hz : ys.length <= sizeLine) :
  Inv X pins σ (upd H s.heap.objs.size (.lst ys)) { s with heap := s.heap.push { cls := .type "list", data := .seq aA.toArray }, toks := t' } :=
 I.laid (fun _ _ q => SV _ q) (SX _) ⟨hz, aA, 0, hv, S7 _ rfl⟩
theorem Inv.fresh (I : Inv X pins σ H s) : H s.heap.objs.size = none := I.aV.fresh (SX _)
theorem Inv.wE (I : Inv X pins σ H s) (hH : H l = some (.lst xs)) : xs.length <= sizeLine /\ ∃ (aA : List Value) (n : Nat), Vals xs aA /\ xs.length = aA.length /\ s.heap.get? l = some { cls := .type "list", data := .seq aA.toArray n } := by
 obtain ⟨z, aA, n, r, e⟩ := I.aV l _ hH
 exact ⟨z, aA, n, r, r.length, e⟩
theorem As {n : Nat} (h : n <= sizeLine) : Builtin.List.listTooLong n = false := by
 unfold Builtin.List.listTooLong
 exact Tp (by omega)
end
section
variable {X : Cx}
def Ca : V -> List V -> Hp -> VK -> Prop := fun x vs H Q => ∃ l xs y, x = .ref l /\ vs = [y] /\ H l = some (.lst xs) /\ xs.length < sizeLine /\ Q .cq (upd H l (.lst (xs ++ [y])))
theorem fL : Ka X "list.append" Ca := by
 intro pins s σ H x vs v us Q I rx rv h
 obtain ⟨l, xs, y, rfl, rfl, hH, hz, q⟩ := h
 cases rx
 obtain ⟨u, rfl, ru⟩ := rv.one
 obtain ⟨z, aA, n, r, hl, e⟩ := I.wE hH
 refine call_meets F.slot_list_append ⟨_, e, rfl⟩ F.entry_list_append (F.args_list_append_2 _ _) (PySem.list_append l aA.toArray n u (by rw [Tb]; omega)) ⟨e, ?_⟩
 refine ⟨.cq, _, I.Cy (its' := aA ++ [u]) hH e (by simp) (r.append (.cons ru .nil)) ?_, rfl, q⟩
 rw [Tq, List.length_singleton]
 omega
def C1 : V -> List V -> Hp -> VK -> Prop := fun x vs H Q => ∃ l b xs zs, x = .ref l /\ vs = [.ref b] /\ H l = some (.lst xs) /\ H b = some (.lst zs) /\ xs.length + zs.length <= sizeLine /\ Q .cq (upd H l (.lst (xs ++ zs)))
theorem yY : Ka X "list.extend" C1 := by
 intro pins s σ H x vs v us Q I rx rv h
 obtain ⟨l, b, xs, zs, rfl, rfl, hH, hB, hz, q⟩ := h
 cases rx
 obtain ⟨u, rfl, ru⟩ := rv.one
 cases ru
 obtain ⟨z, aA, n, r, hl, e⟩ := I.wE hH
 obtain ⟨z2, jN, n2, r2, og, e2⟩ := I.wE hB
 have hsz : aA.toArray.size + jN.toArray.size <= sizeLine := by rw [Tb, Tb]; omega
 have Jr : ¬ (!aA.toArray.isEmpty && Builtin.List.listTooLong (aA.toArray.size + jN.toArray.size)) = true := by
  rw [As hsz, UE]
  exact S3
 refine call_meets F.slot_list_extend ⟨_, e, rfl⟩ F.entry_list_extend (F.args_list_extend_2 _ _)
  (AutoSeq1.list_extend_list_list_0 l aA.toArray n b jN.toArray n2 Jr (by rw [Tb]; omega) (by omega)) ⟨e, e2, ?_⟩
 refine ⟨.cq, _, I.Cy (its' := aA ++ jN) hH e (by simp) (r.append r2) ?_, rfl, q⟩
 rw [Tq]
 omega
def K9 : V -> List V -> Hp -> VK -> Prop := fun x vs H Q => ∃ l xs y, x = .ref l /\ vs = [] /\ H l = some (.lst xs) /\ xs[xs.length - 1]? = some y /\ Q y (upd H l (.lst xs.dropLast))
theorem KY : Ka X "list.pop" K9 := by
 intro pins s σ H x vs v us Q I rx rv h
 obtain ⟨l, xs, y, rfl, rfl, hH, hy, q⟩ := h
 cases rx
 have KQ := rv.zero
 subst KQ
 obtain ⟨z, aA, n, r, hl, e⟩ := I.wE hH
 obtain ⟨u, hu, ru⟩ := r.get hy
 have gd : aA.toArray[aA.toArray.size - 1]? = some u := by
  show aA.toArray[aA.length - 1]? = some u
  rw [<- T9, <- hl]
  exact hu
 refine call_meets F.slot_list_pop ⟨_, e, rfl⟩ F.entry_list_pop (F.args_list_pop_1 _) (MeetsSeq.list_pop_last l aA.toArray n u gd (by rw [Tb]; omega)) ⟨e, ?_⟩
 refine ⟨y, _, I.Cy (its' := aA.dropLast) hH e ?_ r.dropLast ?_, ru, q⟩
 ·show aA.toArray.eraseIdxIfInBounds (aA.toArray.size - 1) = aA.dropLast.toArray
  rw [Tb, List.eraseIdxIfInBounds_toArray, vU]
 ·rw [List.length_dropLast]
  omega
def FX : V -> List V -> Hp -> VK -> Prop := fun x vs H Q => ∃ l xs, x = .ref l /\ vs = [] /\ H l = some (.lst xs) /\ Q .cq (upd H l (.lst []))
theorem Bo : Ka X "list.clear" FX := by
 intro pins s σ H x vs v us Q I rx rv h
 obtain ⟨l, xs, rfl, rfl, hH, q⟩ := h
 cases rx
 have KQ := rv.zero
 subst KQ
 obtain ⟨z, aA, n, r, hl, e⟩ := I.wE hH
 refine call_meets F.slot_list_clear ⟨_, e, rfl⟩ F.entry_list_clear (F.args_list_clear_1 _) (AutoSeq1.list_clear_list_0 l aA.toArray n (by rw [Tb]; omega)) ⟨e, ?_⟩
 exact ⟨.cq, _, I.Cy (its' := []) (ys := []) hH e rfl .nil (Tw _), rfl, q⟩
def Lo : R2 := fun x y H Q => ∃ l b xs zs, x = .ref l /\ y = .ref b /\ H l = some (.lst xs) /\ H b = some (.lst zs) /\ xs.length + zs.length <= sizeLine /\ ∀ p, H p = none -> Q (.ref p) (upd H p (.lst (xs ++ zs)))
theorem BJ : h9 X (binaryOp .Add) Lo := by
 intro pins s σ H x y v u Q I rx ry h
 obtain ⟨l, b, xs, zs, rfl, rfl, hH, hB, hz, q⟩ := h
 cases rx
 cases ry
 obtain ⟨z, aA, n, r, hl, e⟩ := I.wE hH
 obtain ⟨z2, jN, n2, r2, og, e2⟩ := I.wE hB
 refine PySem.P.add_list e e2 ?_ (by rw [Tb, Tb]; omega)
 have ea : aA.toArray ++ jN.toArray = (aA ++ jN).toArray := by simp
 rw [ea]
 exact ⟨.ref _, _, I.LR (t' := s.toks) (r.append r2) (by rw [Tq]; omega), rfl, q _ I.fresh⟩
end
end L2
namespace Ni
open PySem PySem.W PySem.Calls PyProof.Rows
theorem nv {P : Params} {h : Heap} : ∀ (ns : List Int) (vs : List Value), WellAll P h vs (ns.map WData.int) -> IntsAre vs ns := by
 intro ns
 induction ns with
 | nil =>
  intro vs w
  rw [List.map_nil] at w
  cases w
  exact .nil
 | cons n ns ih =>
  intro vs w
  rw [Ti] at w
  cases w with
  | cons a b =>
   cases a
   exact .cons _ _ (ih _ b)
theorem yb {l : OpenLaw} {n : Nat} (hn : l.most = some n) {P : Params} {h : Heap} {args : List WData} {vals : List Value}
  (jO : l.row.toRowW.claim.pre args = true) (KG : WellAll P h vals args) :
  ∃ a vs ns, vals = [Value.ref a] /\ args = [WData.list (ns.map WData.int)] /\ h.get? a = some { cls := .type "list", data := .seq vs.toArray } /\ IntsAre vs ns /\ ns.length <= n := by
 have R0 : WShape.hasAll [] args [.list .int] = true := (pre_splitW jO).1
 have hc : l.pre.holds [] { args := args } = true := (pre_splitW jO).2
 obtain ⟨d, r, rfl, h1, h2⟩ := hasAllW_cons R0
 obtain rfl := hasAllW_nil h2
 obtain ⟨xs, rfl, h3⟩ := hasW_list h1
 obtain ⟨ns, rfl⟩ := items_int h3
 have hlen : ns.length <= n := by
  unfold OpenLaw.pre at hc
  have h4 : (WTm.not (.lt (.lit (.int (n : Int))) (.len (.arg 0)))).holds [] { args := [.list (ns.map .int)] } = true := by
   have h4 := (holds_andW hc).1
   rw [hn] at h4
   exact h4
  have h5 := condW_of h4 (w_not (w_lt w_lit (w_len_list (w_arg rfl))))
  rw [SW] at h5
  refine Nat.le_of_not_lt fun q => ?_
  have q' : (n : Int) < ((ns.length : Nat) : Int) := by omega
  first
   | (rw [S9 q'] at h5; exact absurd h5 (by decide))
   | (simp at h5; omega)
 cases KG with
 | cons w1 w2 =>
  cases w2
  cases w1 with
  | list ho yT => exact ⟨_, _, ns, rfl, rfl, ho, nv ns _ yT, hlen⟩
theorem yG (l : OpenLaw) (args : List WData) : l.row.toRowW.claim.post args (.bool true) args = true :=
 postW_of (r := l.row.toRowW) (X := (true == true))
  (show WShape.has [] (.bool true) .bool = true by first | rfl | decide | simp [WShape.has, WShape.arms, WShape.armsAll])
  (show (WTm.eq .res (.lit (.bool true))).value [] { args := args, res := some (.bool true), after := args } = some (.bool (true == true)) from w_eq_bool (w_res rfl) w_lit) rfl
theorem uP {l : OpenLaw} {n : Nat} {q : Program} {loose : List Str} {XP : (Str -> Option Value) -> Heap -> Prop} {YP : World -> Heap -> Prop} {d : DefRec}
  (hn : l.most = some n) (IP : d.params.defaults = [])
  (call : ∀ (w : World) (s₀ s₁ : Shared) (mg mb : Str -> Option Value) (fa : Addr) (o : Obj) (pm cd doc : Value) (a : Addr) (vs : List Value) (ns : List Int),
   Ground q loose [] XP w s₀ mg mb s₁.heap -> YP w s₁.heap ->
   s₁.heap.get? fa = some o -> o.data = .func (docDef d.name d.params d.body d.scope pm cd doc) -> s₁.heap.CodeRec cd d.name -> mg d.name = some (.ref fa) ->
   s₁.heap.get? a = some { cls := .type "list", data := .seq vs.toArray } -> IntsAre vs ns -> ns.length <= n -> s₁.gens = #[] ->
   codeAny (model l.prog w) callerA (.call (.ref fa) ⟨[.ref a], []⟩) (fun r s' => r = .ok (.ret (.bool true)) /\ OldK s₁.heap s'.heap /\ s'.os = s₁.os /\ AllBare s'.gens) s₁) :
  WalkO q loose XP YP l.row.toRowW d [] (fun f vs => PySem.call f vs) := by
 intro w s₀ s₁ mg mb G Y fa o pm cd doc dV kV ho hd vE hD Hz hg args vals as jO Hv SB KG Sq
 obtain rfl : dV = .none := Dflts.none hD IP
 obtain rfl : kV = .none := Dflts.noKw hD
 obtain ⟨a, vs, ns, rfl, rfl, Gu, hints, hlen⟩ := yb hn jO KG
 refine enter_call (codeAny_mono (call w s₀ s₁ mg mb fa o pm cd doc a vs ns G Y ho (fd_plain hd) vE Hz Gu hints hlen hg) fun r s' hq => ?_)
 obtain ⟨rfl, h2, h3, h4⟩ := hq
 exact ⟨.inl ⟨.bool true, .bool true, [], rfl, fun _ => rfl, .bool true, yG l _, fun _ => ⟨List.Pairwise.nil, fun _ hm => (nomatch hm)⟩⟩, h2, h3, h4⟩
end Ni
namespace L2
open PySem PySem.Spec PyProof.Rows
theorem mM : ∀ {vs : List Value} {ns : List Int}, IntsAre vs ns -> Vals (ns.map V.int) vs
 | _, _, .nil => .nil
 | _, _, .cons n t h => .cons ⟨t, rfl⟩ (mM h)
def EI (H : Hp) : Prop := ∀ b, H b = none \/ ∃ o xs, H b = some (.vo o (.lst xs))
theorem A7 {P : Program} {w : World} {K : VN} {mg mb : Str -> Option Value} {CX : wC} {k : Nat} {fa a : Addr} {fd : FuncData} {x : Str} {sp : Sp} {s₁ : Shared} {vs : List Value} {ns : List Int}
  (KX : K.In s₁.heap) (MM : s₁.heap.Ns mainGlobals mg) (hb : s₁.heap.Ns builtinsNs mb) (Ph : ∀ x : Str, x ≠ "__name__" -> mb x = bootBuiltins x) (KD : s₁.heap.NoLimit) (hg : s₁.gens = #[])
  (ha : s₁.heap.get? a = some { cls := .type "list", data := .seq vs.toArray }) (hi : IntsAre vs ns) (hl : ns.length <= sizeLine) (hr : dJ k callerA)
  (F : ∀ base : Heap, K.In base -> base.Ns mainGlobals mg -> av P w K mg base CX k fa fd [x] sp) (HI : ∀ (s : Shared) (u : Value), BindsTo s fd ⟨[u], []⟩ [(x, u)])
  (xV : ∀ H : Hp, EI H -> a6 K H a (ns.map V.int) -> sp [.ref a] H (fun v _ => v = .bl true) fun _ _ _ => False)
  (KU : ∀ H e s', CX [] H s₁ (fun _ _ _ => False) e s' -> False) :
  codeAny (model P w) callerA (.call (.ref fa) ⟨[.ref a], []⟩) (fun r s' => r = .ok (.ret (.bool true)) /\ OldK s₁.heap s'.heap /\ s'.os = s₁.os /\ AllBare s'.gens) s₁ := by
 have rv := mM hi
 have KP := hi.length
 have core : ∀ H : Hp, EI H -> a6 K H a (ns.map V.int) -> jk P w H s₁.heap -> (∀ b, H b ≠ none -> b = a) -> (H a ≠ none -> K.lookup a = none) ->
   codeAny (model P w) callerA (.call (.ref fa) ⟨[.ref a], []⟩) (fun r s' => r = .ok (.ret (.bool true)) /\ OldK s₁.heap s'.heap /\ s'.os = s₁.os /\ AllBare s'.gens) s₁ := by
  intro H hO hS aV hA hK
  have wY : ∀ {b : Addr} {o : Obj}, s₁.heap.get? b = some o -> H b = none -> (sF s₁.heap H).get? b = some o := fun e n => Ap e n
  have ID : ∀ {b : Addr} {o : Obj} {es : Array DictEntry} {ep : Nat}, s₁.heap.get? b = some o -> o.data = .dict es ep -> H b = none := fun {b o es ep} e d => by
   cases q : H b with
   | none => rfl
   | some u =>
    have e' : b = a := hA b (by rw [q]; simp)
    subst e'
    rw [ha] at e; cases e
    have d' : Data.seq vs.toArray _ = Data.dict es ep := d
    cases d'
  have JU : ∀ {b : Addr} {m : Str -> Option Value}, s₁.heap.Ns b m -> (sF s₁.heap H).Ns b m := fun {b m} ⟨o, es, ep, e, d, r⟩ => ⟨o, es, ep, wY e (ID e d), d, r⟩
  have NH : K.In (sF s₁.heap H) := fun b o e => wY (KX b o e) (by
   cases q : H b with
   | none => rfl
   | some u =>
    have e' : b = a := hA b (by rw [q]; simp)
    subst e'
    rw [hK (by rw [q]; simp)] at e; cases e)
  have hM : Mod K mg (sF s₁.heap H) := ⟨NH, JU MM, ⟨mb, JU hb, Ph⟩, let ⟨mc, h1, h2⟩ := KD; ⟨mc, JU h1, h2⟩⟩
  have e0 : n5 P w K mg (sF s₁.heap H) callerA [] s₁ H := ⟨rfl, hM, fun b o e => C8 e, Nat.le_of_eq (yf _ _), trivial, fun b hb => absurd (show b ∈ ([] : List Addr) from hb) (by simp), aV, .of_eq hg⟩
  refine codeAny_mono ((F _ NH (JU MM)).run callerA [] s₁ H ⟨[.ref a], []⟩ [.ref a] [.ref a] _ _ hr e0 (HI s₁ (.ref a)) (.cons rfl .nil) (xV H hO hS)) fun r s' h => ?_
  cases r with
  | error e => exact (KU H e s' h).elim
  | ok fl =>
   cases fl with
   | next => exact False.elim h
   | brk => exact False.elim h
   | cont => exact False.elim h
   | ret u =>
    obtain ⟨v, H', os, bare, un, Lc, r', q⟩ := h
    have q' : v = .bl true := q
    subst q'
    obtain rfl : u = Value.bool true := r'
    refine ⟨rfl, OldK.of_keep fun b o e => ?_, os, bare⟩
    cases q : H b with
    | none => exact un.keep b o e q (by intro z; exact absurd (show b ∈ ([] : List Addr) from z) (by simp)) (by simp)
    | some u =>
     rcases hO b with z | ⟨ob, xs, z⟩
     ·rw [q] at z; cases z
     ·have z2 := un.iR b ob _ z
      obtain ⟨e1, _⟩ := aV b _ z
      obtain ⟨e2, _⟩ := Lc b _ z2
      rw [e] at e1; cases e1
      exact e2
 cases hk : K.lookup a with
 | some o =>
  have e := KX a o hk
  rw [ha] at e
  cases e
  refine core (fun _ => none) (fun _ => .inl rfl) (.inr ⟨_, vs.toArray, _, hk, rfl, rfl, rfl, by rw [Tb, KP]; exact hl, by simpa using rv⟩) (fun b u z => by have z' : (none : Option HO) = some u := z; cases z') (fun b z => absurd rfl z) fun z => absurd rfl z
 | none =>
  refine core (fun b => if b = a then some (.vo { cls := .type "list", data := .seq vs.toArray } (.lst (ns.map V.int))) else none) (fun b => ?_) (.inl (.inr ⟨{ cls := .type "list", data := .seq vs.toArray }, if_pos rfl⟩)) (fun b u z => ?_) (fun b z => ?_) fun _ => hk
  ·by_cases hb : b = a
   ·exact .inr ⟨_, _, if_pos hb⟩
   ·exact .inl (if_neg hb)
  ·by_cases hb : b = a
   ·have z' := (if_pos hb).symm.trans z
    cases z'
    subst hb
    exact ⟨ha, by rw [SW]; exact hl, vs, _, rv, ha⟩
   ·have z' := (if_neg hb).symm.trans z
    cases z'
  ·by_cases hb : b = a
   ·exact hb
   ·exact absurd (if_neg hb) z
theorem CJ {l : PySem.W.OpenLaw} {n k : Nat} {q : Program} {loose : List Str} {XP : (Str -> Option Value) -> Heap -> Prop} {YP : World -> Heap -> Prop} {d : DefRec} {K : Params -> VN} {CX : World -> wC} {sp : World -> Sp} {x : Str}
  (hn : l.most = some n) (JK : n <= sizeLine) (IP : d.params.defaults = []) (hr : dJ k callerA)
  (hY : ∀ (w : World) (h : Heap), YP w h -> (K w.params).In h)
  (F : ∀ (w : World) (mg : Str -> Option Value) (fa : Addr) (h : Heap), (K w.params).In h -> h.Ns mainGlobals mg -> mg d.name = some (.ref fa) ->
   ∃ fd : FuncData, (∀ (s : Shared) (u : Value), BindsTo s fd ⟨[u], []⟩ [(x, u)]) /\
    ∀ base : Heap, (K w.params).In base -> base.Ns mainGlobals mg -> av l.prog w (K w.params) mg base (CX w) k fa fd [x] (sp w))
  (xV : ∀ (w : World) (H : Hp) (a : Addr) (ns : List Int), ns.length <= n -> EI H -> a6 (K w.params) H a (ns.map V.int) -> sp w [.ref a] H (fun v _ => v = .bl true) fun _ _ _ => False)
  (KU : ∀ (w : World) (H : Hp) (s : Shared) (e : Value) (s' : Shared), CX w [] H s (fun _ _ _ => False) e s' -> False) :
  PySem.W.WalkO q loose XP YP l.row.toRowW d [] (fun f vs => PySem.call f vs) := by
 refine Ni.uP hn IP fun w s₀ s₁ mg mb fa o pm cd doc a vs ns G Y ho hd vE Hz Gu hints hlen hg => ?_
 have KX := hY w _ Y
 obtain ⟨fd, hb, hF⟩ := F w mg fa _ KX G.T.g Hz
 exact A7 KX G.T.g G.T.b G.T.builtins G.T.nolimit hg Gu hints (S8 hlen JK) hr hF hb (fun H hO hS => xV w H a ns hlen hO hS) fun H e s' => KU w H s₁ e s'
end L2
/- SC Pn JD (shape; Sy, My.* are ML):
  My.Sw: a structure of MF addresses PH Pz Nh names (classes, GM); My.Txt K t: a structure (Prop) of MF equations over K;
  My.Kk : {K} {implicit addresses ..} (e1 : nsIn K mainGlobals "law" = some (some (.ref f))) (e2 : K.lookup f = some ⟨oc, od, .func (fnOf "law" "law" params body scope dV kV doc pm an b8 ct), sl⟩) (e3 : codeIn K b8 "law" = true) .. : ∃ t, My.Txt K t
(MF tactic k_is has no namespace: write k_is) -/
namespace L2
open PySem PySem.Spec PyProof.Rows
def inClass (s : Stmt) (j : Nat) : Stmt := match s with
 | .ClassDef _ _ _ body _ _ _ _ _ _ _ => body.getD j (.Pass ⟨0, 0, 0, 0⟩)
 | _ => .Pass ⟨0, 0, 0, 0⟩
def eR (s : Stmt) : Arguments := match s with
 | .FunctionDef _ a _ _ _ _ _ _ _ _ => a
 | _ => { posonlyargs := [], args := [], vararg := none, kwonlyargs := [], kw_defaults := [], kwarg := none, defaults := [] }
def b7 (s : Stmt) : List Stmt := match s with
 | .FunctionDef _ _ b _ _ _ _ _ _ _ => b
 | _ => []
def ak (s : Stmt) : Scope := match s with
 | .FunctionDef _ _ _ _ _ _ sc _ _ _ => sc
 | _ => { kind := .function, names := [], isGenerator := false, isCoroutine := false }
abbrev bp : wC := fun _ _ _ _ _ _ => False
abbrev E0 : XK := fun _ _ _ => False
theorem aD {X : Cx} : Passes bp X E0 := fun _ _ _ _ _ _ _ h => h.elim
structure CY (K : VN) (x qual : Str) (st : Stmt) (f : Addr) (fd : FuncData) : Prop where
 ex : ∃ (oc : Value) (od : Option Addr) (kV doc pm : Value) (an : Option Addr) (b8 ct : Value) (CW : Array (Option Value)),
  fd = PySem.W.fnOf x qual (eR st) (b7 st) (ak st) .none kV doc pm an b8 ct /\ K.lookup f = some ⟨oc, od, .func fd, CW⟩ /\ PySem.W.codeIn K b8 qual = true
 kp : PySem.W.keepIn K (.ref f) = true
section
variable {P : Program} {w : World} {K : VN} {mg : Str -> Option Value} {base : Heap}
theorem CY.ok {x qual : Str} {st : Stmt} {f : Addr} {fd : FuncData} {N ps : List Str} {k : Nat} {sp : Sp} (F : CY K x qual st f fd) (S : au N ps (ak st)) (len : ∀ vs H Q E, sp vs H Q E -> vs.length = ps.length)
  (uM : ∀ (b8 : Value) (A : Around) (outer : List Env) (s : Shared) (H : Hp) (vs : List V) (Q : VK) (E : XK), dJ k (A.deeper (envOfC qual (ak st) s.heap.objs.size f b8)) -> sp vs H Q E ->
   ∃ t, rL (ug bp P w K mg base N qual (ak st) f b8 A outer s H E).Df (b7 st) t /\ t { nx := fun _ H' => Q .cq H', rt := Q } (start N vs) H) : av P w K mg base bp (k + 1) f fd ps sp := by
 obtain ⟨oc, od, kV, doc, pm, an, b8, ct, CW, rfl, lk, vE⟩ := F.ex
 refine EB lk vE S len fun A outer s H vs Q E hr xV => ?_
 obtain ⟨t, h, q⟩ := uM b8 A outer s H vs Q E hr xV
 exact ⟨t, h.Df, q⟩
theorem CY.binds {x qual : Str} {st : Stmt} {f : Addr} {fd : FuncData} {ps : List Str} (F : CY K x qual st f fd)
  (h : ∀ (kV doc pm : Value) (an : Option Addr) (b8 ct : Value) (us : List Value), us.length = ps.length -> bindArgs (PySem.W.fnOf x qual (eR st) (b7 st) (ak st) .none kV doc pm an b8 ct) ⟨us, []⟩ = pure (ps.zip us)) : Binds K fd ps [] := by
 obtain ⟨oc, od, kV, doc, pm, an, b8, ct, CW, rfl, lk, vE⟩ := F.ex
 exact .all (h kV doc pm an b8 ct)
theorem l7 {x qual : Str} {st : Stmt} {f : Addr} {oc : Value} {od an : Option Addr} {CW : Array (Option Value)} {kV doc pm b8 ct : Value} (l : K.lookup f = some ⟨oc, od, .func (PySem.W.fnOf x qual (eR st) (b7 st) (ak st) .none kV doc pm an b8 ct), CW⟩)
  (c : PySem.W.codeIn K b8 qual = true) (k : PySem.W.keepIn K (.ref f) = true) : CY K x qual st f (PySem.W.fnOf x qual (eR st) (b7 st) (ak st) .none kV doc pm an b8 ct) := ⟨⟨oc, od, kV, doc, pm, an, b8, ct, CW, rfl, l, c⟩, k⟩
end
section
variable {X : Cx}
theorem pv (i : Nat) {x : Str} {pos : Pos} (hN : X.N[i]? = some x := by rfl) (hv : Ks X.env.scope x := by first | exact Or.inl rfl | exact Or.inr (Or.inl rfl) | exact Or.inr (Or.inr rfl)) (hd : (x == ("__debug__" : Str)) = false := by decide)
  (vE : (x == ("__classdict__" : Str)) = false := by decide) : PE X (.Name x pos) (HY i) := Fy hN hv hd vE
end
theorem dQ {A B : Prop} (h : B) : if false = true then A else B := by
 rw [if_neg S3]
 exact h
theorem ni {A B : Prop} (h : A) : if true = true then A else B := by
 rw [if_pos rfl]
 exact h
theorem BH {c A B : Prop} [Decidable c] (h1 : c -> A) (h2 : ¬ c -> B) : if c then A else B := by
 by_cases h : c
 ·rw [if_pos h]
  exact h1 h
 ·rw [if_neg h]
  exact h2 h
theorem D7 {c A B : Prop} [Decidable c] (hc : c) (h : B) : if (!decide c) = true then A else B := by
 rw [S9 hc]
 exact dQ h
def am (H H' : Hp) : Prop := ∀ b o, H b = some o -> H' b = some o
theorem am.refl (H : Hp) : am H H := fun _ _ h => h
theorem am.trans {H H1 H2 : Hp} (a : am H H1) (b : am H1 H2) : am H H2 := fun c o h => b c o (a c o h)
theorem am.free {H H' : Hp} (e : am H H') {l : Addr} (h : H' l = Option.none) : H l = Option.none := by
 cases q : H l with
 | none => rfl
 | some o =>
  rw [e l o q] at h
  cases h
theorem am.seq {K : VN} {H H' : Hp} {a : Addr} {xs : List V} (e : am H H') (h : a6 K H a xs) : a6 K H' a xs := by
 rcases h with (h | ⟨o, h⟩) | h
 ·exact .inl (.inl (e _ _ h))
 ·exact .inl (.inr ⟨o, e _ _ h⟩)
 ·exact .inr h
end L2
set_option maxHeartbeats 4000000
namespace SO
open PySem PyProof.Rows
def zn : Bool -> Keyed -> Array Keyed -> Nat -> Nat -> Nat -> StateT SortSt Sem (Option Nat) := sortPriv% PySem.Builtin.gallop
def look (lf : Bool) (ky : Keyed) (ar : Array Keyed) (bs i : Nat) : StateT SortSt Sem (Option Bool) := do
 let x <- elem' ar (bs + i)
 if lf then lt' x ky else return (<- lt' ky x).map (!·)
theorem FM (lf : Bool) (ky : Keyed) (ar : Array Keyed) (bs n h : Nat) : zn lf ky ar bs n h = (do
  let mut l := 0
  let mut o := 1
  let mut p := 0
  let mut q := 0
  let some rt <- look lf ky ar bs h | return none
  if rt then
   let mx := n - h
   for _ in [0:n] do
    if o >= mx then break
    let some mm <- look lf ky ar bs (h + o) | return none
    if !mm then break
    l := o
    o := 2 * o + 1
   p := h + l + 1
   q := h + min o mx
  else
   let mx := h + 1
   for _ in [0:n] do
    if o >= mx then break
    let some ff <- look lf ky ar bs (h - o) | return none
    if ff then break
    l := o
    o := 2 * o + 1
   p := h + 1 - min o mx
   q := h - l
  for _ in [0:n] do
   if p >= q then break
   let m := p + (q - p) / 2
   let some mm <- look lf ky ar bs m | return none
   if mm then p := m + 1 else q := m
  return some q) := rfl
section
variable {prog : Program} {w : World} {A : Around} {E : Value -> Shared -> Prop} {s : Shared} {rk : Keyed -> Nat} {S : Keyed -> Prop} {kd : SortKind}
def mR (prog : Program) (w : World) (A : Around) (E : Value -> Shared -> Prop) (s : Shared) (rk : Keyed -> Nat) (S : Keyed -> Prop) (kd : SortKind) : Prop :=
 ∀ (x y : Keyed) (st : SortSt) (Q : Option Bool -> SortSt -> Prop), S x -> S y -> kindOf st = kd -> Q (some (decide (rk x < rk y))) st -> wpS (model prog w) A E s (lt' x y) Q st
def B (rk : Keyed -> Nat) (lf : Bool) (ky : Keyed) (ar : Array Keyed) (bs i : Nat) : Bool := match ar[bs + i]? with
 | some x => if lf then decide (rk x < rk ky) else !decide (rk ky < rk x)
 | none => false
theorem lU {lf : Bool} {ky : Keyed} {ar : Array Keyed} {bs i : Nat} {st : SortSt} {Q : Option Bool -> SortSt -> Prop} (hc : mR prog w A E s rk S kd) (hi : (bs + i) < (ar.size)) (hS : ∀ x ∈ ar.toList, S x) (hk : S ky) (kk : kindOf st = kd)
  (h : Q (some (B rk lf ky ar bs i)) st) : wpS (model prog w) A E s (look lf ky ar bs i) Q st := by
 unfold look
 have e : ar[bs + i]? = some (ar[bs + i]'hi) := getElem?_pos ar (bs + i) hi
 have hm : S (ar[bs + i]'hi) := hS _ (by simp)
 unfold B at h
 rw [e] at h
 rw [elem'_eq, e]
 refine S6 (Te ?_)
 cases lf with
 | true => exact hc _ _ st _ hm hk kk h
 | false =>
  refine S6 (hc _ _ st _ hk hm kk ?_)
  exact Te h
def bin (lf : Bool) (ky : Keyed) (ar : Array Keyed) (bs n p₀ q₀ : Nat) : StateT SortSt Sem (Option Nat) := do
 let mut p := p₀
 let mut q := q₀
 for _ in [0:n] do
  if p >= q then break
  let m := p + (q - p) / 2
  let some mm <- look lf ky ar bs m | return none
  if mm then p := m + 1 else q := m
 return some q
theorem xW {lf : Bool} {ky : Keyed} {ar : Array Keyed} {bs n p q : Nat} {st : SortSt} {Q : Option Nat -> SortSt -> Prop} (hc : mR prog w A E s rk S kd) (hn : bs + n <= ar.size) (hS : ∀ x ∈ ar.toList, S x) (hk : S ky) (kk : kindOf st = kd)
  (mono : ∀ i j, i <= j -> j < n -> B rk lf ky ar bs j = true -> B rk lf ky ar bs i = true) (J9 : p <= q) (Mo : q <= n) (hp : ∀ i, i < p -> B rk lf ky ar bs i = true) (vh : ∀ i, q <= i -> i < n -> B rk lf ky ar bs i = false)
  (hq : ∀ q, q <= n -> (∀ i, i < q -> B rk lf ky ar bs i = true) -> (∀ i, q <= i -> i < n -> B rk lf ky ar bs i = false) -> Q (some q) st) : wpS (model prog w) A E s (bin lf ky ar bs n p q) Q st := by
 unfold bin
 have xm : ∀ i j, i <= j -> j < n -> B rk lf ky ar bs i = false -> B rk lf ky ar bs j = false := fun i j BS hj hb => by
  cases e : B rk lf ky ar bs j with
  | false => rfl
  | true => rw [mono i j BS hj e] at hb; cases hb
 refine S6 (UC (Ug (I := fun x c aB => aB = st /\ ∃ p q, c = (none, p, q) /\ p <= q /\ q <= n /\ q - p <= n - x /\ (∀ i, i < p -> B rk lf ky ar bs i = true) /\ (∀ i, q <= i -> i < n -> B rk lf ky ar bs i = false))
  (Q := fun c aB => aB = st /\ ∃ q, c = (none, q, q) /\ q <= n /\ (∀ i, i < q -> B rk lf ky ar bs i = true) /\ (∀ i, q <= i -> i < n -> B rk lf ky ar bs i = false)) ?step ?fin ⟨rfl, p, q, rfl, J9, Mo, by omega, hp, vh⟩) ?post)
 case fin =>
  rintro c aB ⟨rfl, p, q, rfl, h1, h2, h3, h4, h5⟩
  have : p = q := by omega
  subst this
  exact ⟨rfl, p, rfl, h2, h4, h5⟩
 case post =>
  rintro c aB ⟨rfl, q, rfl, h2, h4, h5⟩
  exact Te (hq q h2 h4 h5)
 case step =>
  rintro x c aB _ hx ⟨rfl, p, q, rfl, h1, h2, h3, h4, h5⟩
  dsimp only
  by_cases sO : p >= q
  ·rw [if_pos sO]
   have : p = q := by omega
   subst this
   exact Te ⟨rfl, p, rfl, h2, h4, h5⟩
  ·rw [if_neg sO]
   refine S6 (lU hc (by omega) hS hk kk ?_)
   dsimp only
   cases e : B rk lf ky ar bs (p + (q - p) / 2) with
   | true =>
    rw [if_pos rfl]
    refine Te ⟨rfl, _, q, rfl, by omega, h2, by omega, fun i hi => ?_, h5⟩
    exact mono i _ (by omega) (by omega) e
   | false =>
    rw [if_neg S3]
    refine Te ⟨rfl, p, _, rfl, by omega, by omega, by omega, h4, fun i hi pT => ?_⟩
    exact xm _ i hi pT e
theorem Du {lf : Bool} {ky : Keyed} {ar : Array Keyed} {bs n h : Nat} {st : SortSt} {Q : Option Nat -> SortSt -> Prop} (hc : mR prog w A E s rk S kd) (hn : bs + n <= ar.size) (hh : h < n) (hS : ∀ x ∈ ar.toList, S x) (hk : S ky) (kk : kindOf st = kd)
  (mono : ∀ i j, i <= j -> j < n -> B rk lf ky ar bs j = true -> B rk lf ky ar bs i = true)
  (hq : ∀ q, q <= n -> (∀ i, i < q -> B rk lf ky ar bs i = true) -> (∀ i, q <= i -> i < n -> B rk lf ky ar bs i = false) -> Q (some q) st) : wpS (model prog w) A E s (zn lf ky ar bs n h) Q st := by
 rw [FM]
 have xm : ∀ i j, i <= j -> j < n -> B rk lf ky ar bs i = false -> B rk lf ky ar bs j = false := fun i j BS hj hb => by
  cases e : B rk lf ky ar bs j with
  | false => rfl
  | true => rw [mono i j BS hj e] at hb; cases hb
 refine S6 (lU hc (by omega) hS hk kk ?_)
 dsimp only
 cases eB : B rk lf ky ar bs h with
 | true =>
  rw [if_pos rfl]
  refine S6 (UC (Ug (I := fun x c aB => aB = st /\ ∃ l o, c = (none, l, o) /\ l < o /\ x + 1 <= o /\ h + l < n /\ B rk lf ky ar bs (h + l) = true)
   (Q := fun c aB => aB = st /\ ∃ l o, c = (none, l, o) /\ l < o /\ h + l < n /\ B rk lf ky ar bs (h + l) = true /\ (o >= n - h \/ B rk lf ky ar bs (h + o) = false)) ?step ?fin ⟨rfl, 0, 1, rfl, by omega, by omega, by omega, eB⟩) ?post)
  case fin =>
   rintro c aB ⟨rfl, l, o, rfl, h1, h2, h3, h4⟩
   exact ⟨rfl, l, o, rfl, h1, h3, h4, .inl (by omega)⟩
  case post =>
   rintro c aB ⟨rfl, l, o, rfl, h1, h3, h4, h5⟩
   show wpS _ _ _ _ (bin lf ky ar bs n (h + l + 1) (h + min o (n - h))) Q _
   refine xW hc hn hS hk kk mono (by omega) (by omega) (fun i hi => mono i (h + l) (by omega) h3 h4) (fun i hi pT => ?_) hq
   rcases h5 with z | z
   ·omega
   ·by_cases hz : o >= n - h
    ·omega
    ·exact xm (h + o) i (by omega) pT z
  case step =>
   rintro x c aB _ hx ⟨rfl, l, o, rfl, h1, h2, h3, h4⟩
   dsimp only
   by_cases sO : o >= n - h
   ·rw [if_pos sO]
    exact Te ⟨rfl, l, o, rfl, h1, h3, h4, .inl sO⟩
   ·rw [if_neg sO]
    refine S6 (lU hc (by omega) hS hk kk ?_)
    dsimp only
    cases e : B rk lf ky ar bs (h + o) with
    | true =>
     rw [if_neg (by simp)]
     exact Te ⟨rfl, o, 2 * o + 1, rfl, by omega, by omega, by omega, e⟩
    | false =>
     rw [if_pos (by simp)]
     exact Te ⟨rfl, l, o, rfl, h1, h3, h4, .inr e⟩
 | false =>
  rw [if_neg S3]
  refine S6 (UC (Ug (I := fun x c aB => aB = st /\ ∃ l o, c = (none, l, o) /\ l < o /\ x + 1 <= o /\ l <= h /\ B rk lf ky ar bs (h - l) = false)
   (Q := fun c aB => aB = st /\ ∃ l o, c = (none, l, o) /\ l < o /\ l <= h /\ B rk lf ky ar bs (h - l) = false /\ (o >= h + 1 \/ B rk lf ky ar bs (h - o) = true)) ?step ?fin ⟨rfl, 0, 1, rfl, by omega, by omega, by omega, eB⟩) ?post)
  case fin =>
   rintro c aB ⟨rfl, l, o, rfl, h1, h2, h3, h4⟩
   exact ⟨rfl, l, o, rfl, h1, h3, h4, .inl (by omega)⟩
  case post =>
   rintro c aB ⟨rfl, l, o, rfl, h1, h3, h4, h5⟩
   show wpS _ _ _ _ (bin lf ky ar bs n (h + 1 - min o (h + 1)) (h - l)) Q _
   refine xW hc hn hS hk kk mono (by omega) (by omega) (fun i hi => ?_) (fun i hi pT => xm (h - l) i hi pT h4) hq
   rcases h5 with z | z
   ·omega
   ·by_cases hz : o >= h + 1
    ·omega
    ·exact mono i (h - o) (by omega) (by omega) z
  case step =>
   rintro x c aB _ hx ⟨rfl, l, o, rfl, h1, h2, h3, h4⟩
   dsimp only
   by_cases sO : o >= h + 1
   ·rw [if_pos sO]
    exact Te ⟨rfl, l, o, rfl, h1, h3, h4, .inl sO⟩
   ·rw [if_neg sO]
    refine S6 (lU hc (by omega) hS hk kk ?_)
    dsimp only
    cases e : B rk lf ky ar bs (h - o) with
    | true =>
     rw [if_pos rfl]
     exact Te ⟨rfl, l, o, rfl, h1, h3, h4, .inr e⟩
    | false =>
     rw [if_neg S3]
     exact Te ⟨rfl, o, 2 * o + 1, rfl, by omega, by omega, by omega, e⟩
end
abbrev SM := StateT SortSt Sem
abbrev sy (st : SortSt) (g : Nat) : SortSt := SortSt.mk' (kindOf st) (arrOf st) (pendingOf st) g (failedOf st)
def rZ (g : Nat) : SM Unit := modify fun s => sy s g
def Kc : Array Keyed -> Array Keyed -> SM (Array Keyed) := sortPriv% PySem.Builtin.mergeLo
def ie (a b out : Array Keyed) (i j : Nat) : Array Keyed := out ++ a.extract i a.size ++ b.extract j b.size
def fin2 (a b out : Array Keyed) (i j : Nat) : Array Keyed := out ++ b.extract j b.size ++ a.extract i a.size
abbrev L1 := Option (Array Keyed) × Array Keyed × Nat × Nat × Nat × Nat
abbrev L2 := Option (Array Keyed) × Array Keyed × Nat × Nat × Nat × Nat × Nat
abbrev L3 := Option (Array Keyed) × Array Keyed × Nat × Nat × Nat
def lo1 (a b : Array Keyed) (g : Nat) (out : Array Keyed) (i j ca cb : Nat) : SM (ForInStep L1) := do
 let x <- elem' b j
 let y <- elem' a i
 match <- lt' x y with
 | some bw =>
  if bw = true then do
   let z <- elem' b j
   if (j + 1 == b.size) = true then pure (.done (some (ie a b (out.push z) i (j + 1)), out.push z, i, j + 1, 0, cb + 1))
   else if cb + 1 >= g then pure (.done (none, out.push z, i, j + 1, 0, cb + 1))
   else pure (.yield (none, out.push z, i, j + 1, 0, cb + 1))
  else do
   let z <- elem' a i
   if (i + 1 + 1 == a.size) = true then pure (.done (some (fin2 a b (out.push z) (i + 1) j), out.push z, i + 1, j, ca + 1, 0))
   else if ca + 1 >= g then pure (.done (none, out.push z, i + 1, j, ca + 1, 0))
   else pure (.yield (none, out.push z, i + 1, j, ca + 1, 0))
 | _ => pure (.done (some (ie a b out i j), out, i, j, ca, cb))
def JT (a b : Array Keyed) (out : Array Keyed) (i j g ca cb : Nat) : SM (ForInStep L2) := do
 let x <- elem' a i
 if (i + 1 + 1 == a.size) = true then pure (.done (some (fin2 a b (out.push x) (i + 1) j), out.push x, i + 1, j, g, ca, cb))
 else if (decide (ca < 7) && decide (cb < 7)) = true then pure (.done (none, out.push x, i + 1, j, g, ca, cb))
 else pure (.yield (none, out.push x, i + 1, j, g, ca, cb))
def Me (a b : Array Keyed) (out : Array Keyed) (i j g ca cb : Nat) : SM (ForInStep L2) := do
 let x <- elem' a i
 match <- zn true x b j (b.size - j) 0 with
 | some k =>
  if k > 0 then
   if (j + k == b.size) = true then pure (.done (some (ie a b (out ++ b.extract j (j + k)) i (j + k)), out ++ b.extract j (j + k), i, j + k, g, ca, k))
   else JT a b (out ++ b.extract j (j + k)) i (j + k) g ca k
  else JT a b out i j g ca k
 | _ => pure (.done (some (ie a b out i j), out, i, j, g, ca, cb))
def JN (a b : Array Keyed) (out : Array Keyed) (i j g ca cb : Nat) : SM (ForInStep L2) := do
 let x <- elem' b j
 if (j + 1 == b.size) = true then pure (.done (some (ie a b (out.push x) i (j + 1)), out.push x, i, j + 1, g, ca, cb))
 else Me a b (out.push x) i (j + 1) g ca cb
def JH (a b : Array Keyed) (out : Array Keyed) (i j g ca cb : Nat) : SM (ForInStep L2) := do
 rZ g
 let x <- elem' b j
 match <- zn false x a i (a.size - i) 0 with
 | some k =>
  if k > 0 then
   if (i + k + 1 == a.size) = true then pure (.done (some (fin2 a b (out ++ a.extract i (i + k)) (i + k) j), out ++ a.extract i (i + k), i + k, j, g, k, cb))
   else if (i + k == a.size) = true then pure (.done (some (ie a b (out ++ a.extract i (i + k)) (i + k) j), out ++ a.extract i (i + k), i + k, j, g, k, cb))
   else JN a b (out ++ a.extract i (i + k)) (i + k) j g k cb
  else JN a b out i j g k cb
 | _ => pure (.done (some (ie a b out i j), out, i, j, g, ca, cb))
def KO (a b : Array Keyed) (out : Array Keyed) (i j g ca cb : Nat) : SM (ForInStep L2) := if g > 1 then JH a b out i j (g - 1) ca cb else JH a b out i j g ca cb
def Kb (a b : Array Keyed) (out : Array Keyed) (i j g : Nat) : SM (ForInStep L3) := do
 let c <- forIn [0:a.size + b.size] ((none, out, i, j, 0, 0) : L1) fun _ c => lo1 a b g c.2.1 c.2.2.1 c.2.2.2.1 c.2.2.2.2.1 c.2.2.2.2.2
 match c.1 with
 | some r => pure (.done (some r, c.2.1, c.2.2.1, c.2.2.2.1, g))
 | none => do
  rule "list.sort.gallop"
  let d <- forIn [0:a.size + b.size] ((none, c.2.1, c.2.2.1, c.2.2.2.1, g + 1, c.2.2.2.2.1, c.2.2.2.2.2) : L2) fun _ d => KO a b d.2.1 d.2.2.1 d.2.2.2.1 d.2.2.2.2.1 d.2.2.2.2.2.1 d.2.2.2.2.2.2
  match d.1 with
  | some r => pure (.done (some r, d.2.1, d.2.2.1, d.2.2.2.1, d.2.2.2.2.1))
  | none => do
   rZ (d.2.2.2.2.1 + 1)
   pure (.yield (none, d.2.1, d.2.2.1, d.2.2.2.1, d.2.2.2.2.1 + 1))
theorem Gi (a b : Array Keyed) : Kc a b = (do
  rule "list.sort.merge-lo"
  let tt := a.size + b.size
  let mut out : Array Keyed := #[<- elem' b 0]
  let mut i := 0
  let mut j := 1
  if j == b.size then return ie a b out i j
  if i + 1 == a.size then return fin2 a b out i j
  let mut g := gallopOf (<- get)
  for _ in [0:tt] do
   let mut ca := 0
   let mut cb := 0
   for _ in [0:tt] do
    let some bw <- lt' (<- elem' b j) (<- elem' a i) | return ie a b out i j
    if bw then
     out := out.push (<- elem' b j); j := j + 1; cb := cb + 1; ca := 0
     if j == b.size then return ie a b out i j
     if cb >= g then break
    else
     out := out.push (<- elem' a i); i := i + 1; ca := ca + 1; cb := 0
     if i + 1 == a.size then return fin2 a b out i j
     if ca >= g then break
   rule "list.sort.gallop"
   g := g + 1
   for _ in [0:tt] do
    if g > 1 then g := g - 1
    rZ g
    let some k <- zn false (<- elem' b j) a i (a.size - i) 0 | return ie a b out i j
    ca := k
    if k > 0 then
     out := out ++ a.extract i (i + k); i := i + k
     if i + 1 == a.size then return fin2 a b out i j
     if i == a.size then return ie a b out i j
    out := out.push (<- elem' b j); j := j + 1
    if j == b.size then return ie a b out i j
    let some k <- zn true (<- elem' a i) b j (b.size - j) 0 | return ie a b out i j
    cb := k
    if k > 0 then
     out := out ++ b.extract j (j + k); j := j + k
     if j == b.size then return ie a b out i j
    out := out.push (<- elem' a i); i := i + 1
    if i + 1 == a.size then return fin2 a b out i j
    if ca < 7 && cb < 7 then break
   g := g + 1
   rZ g
  unsupported "internal:list.sort.merge-bound") := rfl
theorem Cn (a b : Array Keyed) : Kc a b = (do
  rule "list.sort.merge-lo"
  let z <- elem' b 0
  if (1 == b.size) = true then pure (ie a b #[z] 0 1)
  else if (0 + 1 == a.size) = true then pure (fin2 a b #[z] 0 1)
  else do
   let st <- get
   let c <- forIn [0:a.size + b.size] ((none, #[z], 0, 1, gallopOf st) : L3) fun _ c => Kb a b c.2.1 c.2.2.1 c.2.2.2.1 c.2.2.2.2
   match c.1 with
   | some r => pure r
   | none => unsupported "internal:list.sort.merge-bound") := by
 rw [Gi]
 refine TZ fun _ => TZ fun z => ?_
 refine ite_congr rfl (fun _ => rfl) (fun _ => ?_)
 refine ite_congr rfl (fun _ => rfl) (fun _ => ?_)
 refine TZ fun st => ?_
 show (forIn _ _ _ >>= _) = (forIn _ _ _ >>= _)
 refine congr (Um _ ?_) ?_
 ·refine Um _ ?_
  funext x c
  rcases c with ⟨r, out, i, j, g⟩
  unfold Kb
  show (forIn _ _ _ >>= _) = (forIn _ _ _ >>= _)
  refine TZ fun d => ?_
  rcases d with ⟨_ | r, out, i, j, ca, cb⟩
  ·refine TZ fun _ => ?_
   show (forIn _ _ _ >>= _) = (forIn _ _ _ >>= _)
   refine TZ fun e => ?_
   rcases e with ⟨_ | r, out, i, j, g, ca, cb⟩
   ·rfl
   ·rfl
  ·rfl
 ·funext c
  rcases c with ⟨_ | r, out, i, j, g⟩
  ·rfl
  ·rfl
abbrev fk (rk : Keyed -> Nat) (l : List Keyed) : Prop := l.Pairwise fun x y => rk x <= rk y
structure MI (rk : Keyed -> Nat) (a b out : Array Keyed) (i j : Nat) : Prop where
 hi : i <= a.size
 hj : j <= b.size
 sz : out.size = i + j
 p : (out.toList ++ (a.toList.drop i ++ b.toList.drop j)).Perm (a.toList ++ b.toList)
 s : fk rk out.toList
 ua : ∀ x ∈ out.toList, ∀ y ∈ a.toList.drop i, rk x <= rk y
 ub : ∀ x ∈ out.toList, ∀ y ∈ b.toList.drop j, rk x <= rk y
def Res (rk : Keyed -> Nat) (a b r : Array Keyed) : Prop := r.toList.Perm (a.toList ++ b.toList) /\ fk rk r.toList
section
variable {rk : Keyed -> Nat} {a b out : Array Keyed} {i j k : Nat}
theorem sj {l : List Keyed} {i : Nat} (h : i < l.length) : l.drop i = l[i] :: l.drop (i + 1) := Vw h
theorem bJ (a : Array Keyed) (i j : Nat) : (a.extract i j).toList = (a.toList.drop i).take (j - i) := by
 rw [Array.toList_extract, List.extract_eq_drop_take]
theorem MI.u5 (h : MI rk a b out i j) (sa : fk rk a.toList) (hk : i + k <= a.size) (hy : ∀ x ∈ (a.toList.drop i).take k, ∀ y ∈ b.toList.drop j, rk x <= rk y) : MI rk a b (out ++ a.extract i (i + k)) (i + k) j := by
 have e : (out ++ a.extract i (i + k)).toList = out.toList ++ (a.toList.drop i).take k := by rw [TU, bJ, VL]
 have ed : (a.toList.drop i).take k ++ a.toList.drop (i + k) = a.toList.drop i := by rw [<- UD, UX]
 have ss : fk rk ((a.toList.drop i).take k ++ a.toList.drop (i + k)) := by rw [ed]; exact sa.sublist (UQ _ _)
 have Ao := Tj.mp ss
 refine ⟨hk, h.hj, by rw [UG, Vf, h.sz]; omega, ?_, ?_, ?_, ?_⟩
 ·rw [e, Tf, <- Tf ((a.toList.drop i).take k), ed]
  exact h.p
 ·rw [e]
  exact Tj.mpr ⟨h.s, Ao.1, fun x hx y hy => h.ua x hx y (Uy hy)⟩
 ·intro x hx y hy
  rw [e] at hx
  rcases Ts.mp hx with z | z
  ·exact h.ua x z y (by rw [<- ed]; exact TC _ hy)
  ·exact Ao.2.2 x z y hy
 ·intro x hx y gd
  rw [e] at hx
  rcases Ts.mp hx with z | z
  ·exact h.ub x z y gd
  ·exact hy x z y gd
theorem MI.t9 (h : MI rk a b out i j) (sb : fk rk b.toList) (hk : j + k <= b.size) (hy : ∀ x ∈ (b.toList.drop j).take k, ∀ y ∈ a.toList.drop i, rk x <= rk y) : MI rk a b (out ++ b.extract j (j + k)) i (j + k) := by
 have e : (out ++ b.extract j (j + k)).toList = out.toList ++ (b.toList.drop j).take k := by rw [TU, bJ, VL]
 have ed : (b.toList.drop j).take k ++ b.toList.drop (j + k) = b.toList.drop j := by rw [<- UD, UX]
 have ss : fk rk ((b.toList.drop j).take k ++ b.toList.drop (j + k)) := by rw [ed]; exact sb.sublist (UQ _ _)
 have Ao := Tj.mp ss
 refine ⟨h.hi, hk, by rw [UG, Vf, h.sz]; omega, ?_, ?_, ?_, ?_⟩
 ·rw [e, Tf]
  refine List.Perm.trans (UY _ ?_) h.p
  have e2 : a.toList.drop i ++ b.toList.drop j = a.toList.drop i ++ ((b.toList.drop j).take k ++ b.toList.drop (j + k)) := by rw [ed]
  rw [e2, <- Tf, <- Tf]
  exact Vg _ Vj
 ·rw [e]
  exact Tj.mpr ⟨h.s, Ao.1, fun x hx y hy => h.ub x hx y (Uy hy)⟩
 ·intro x hx y gd
  rw [e] at hx
  rcases Ts.mp hx with z | z
  ·exact h.ua x z y gd
  ·exact hy x z y gd
 ·intro x hx y hy
  rw [e] at hx
  rcases Ts.mp hx with z | z
  ·exact h.ub x z y (by rw [<- ed]; exact TC _ hy)
  ·exact Ao.2.2 x z y hy
theorem u9 {a out : Array Keyed} {i : Nat} (h : i < a.size) : out.push a[i] = out ++ a.extract i (i + 1) := by
 apply Array.toList_inj.mp
 rw [Array.toList_push, TU, bJ, VL, sj (l := a.toList) (by simpa using h)]
 simp
theorem take1 {l : List Keyed} {i : Nat} (h : i < l.length) : (l.drop i).take 1 = [l[i]] := by rw [sj h]; rfl
theorem MI.qw (h : MI rk a b out i j) (sa : fk rk a.toList) (hi : i < a.size) (hy : ∀ y ∈ b.toList.drop j, rk a[i] <= rk y) : MI rk a b (out.push a[i]) (i + 1) j := by
 rw [u9 hi]
 refine h.u5 sa hi fun x hx y gd => ?_
 rw [take1 (by simpa using hi)] at hx
 rw [TB.mp hx]
 simpa using hy y gd
theorem MI.rD (h : MI rk a b out i j) (sb : fk rk b.toList) (hj : j < b.size) (hy : ∀ y ∈ a.toList.drop i, rk b[j] <= rk y) : MI rk a b (out.push b[j]) i (j + 1) := by
 rw [u9 hj]
 refine h.t9 sb hj fun x hx y gd => ?_
 rw [take1 (by simpa using hj)] at hx
 rw [TB.mp hx]
 simpa using hy y gd
theorem qA (a b out : Array Keyed) (i j : Nat) : (ie a b out i j).toList = out.toList ++ (a.toList.drop i ++ b.toList.drop j) := by
 unfold ie
 rw [TU, TU, bJ, bJ, Tf, Ta (by simp), Ta (by simp)]
theorem qz (a b out : Array Keyed) (i j : Nat) : (fin2 a b out i j).toList = out.toList ++ (b.toList.drop j ++ a.toList.drop i) := by
 unfold fin2
 rw [TU, TU, bJ, bJ, Tf, Ta (by simp), Ta (by simp)]
theorem MI.Bn (h : MI rk a b out i j) (sa : fk rk a.toList) (sb : fk rk b.toList) (e : i = a.size \/ j = b.size) : Res rk a b (ie a b out i j) := by
 refine ⟨by rw [qA]; exact h.p, ?_⟩
 rw [qA]
 refine Tj.mpr ⟨h.s, Tj.mpr ⟨sa.sublist (UQ _ _), sb.sublist (UQ _ _), ?_⟩, fun x hx y hy => ?_⟩
 ·intro x hx y hy
  rcases e with e | e
  ·rw [e, List.drop_of_length_le (by simp)] at hx; cases hx
  ·rw [e, List.drop_of_length_le (by simp)] at hy; cases hy
 ·rcases Ts.mp hy with z | z
  ·exact h.ua x hx y z
  ·exact h.ub x hx y z
theorem MI.CG (h : MI rk a b out i j) (sa : fk rk a.toList) (sb : fk rk b.toList) (e : i + 1 = a.size) (last : ∀ y ∈ b.toList, ∀ x, a.toList[a.size - 1]? = some x -> rk y <= rk x) : Res rk a b (fin2 a b out i j) := by
 refine ⟨by rw [qz]; exact (UY _ Vj).trans h.p, ?_⟩
 rw [qz]
 refine Tj.mpr ⟨h.s, Tj.mpr ⟨sb.sublist (UQ _ _), sa.sublist (UQ _ _), ?_⟩, fun x hx y hy => ?_⟩
 ·intro y hy x hx
  have hl : i < a.toList.length := by simp; omega
  rw [sj hl, List.drop_of_length_le (by simp; omega)] at hx
  have ex : x = a.toList[i] := by simpa using hx
  refine last y (List.mem_of_mem_drop hy) x ?_
  rw [show a.size - 1 = i by omega, ex]
  exact S1 hl
 ·rcases Ts.mp hy with z | z
  ·exact h.ub x hx y z
  ·exact h.ua x hx y z
theorem iJ {l : List Keyed} (h : fk rk l) {i j : Nat} (BS : i <= j) (hj : j < l.length) : rk (l[i]'(by omega)) <= rk l[j] := by
 by_cases e : i = j
 ·subst e; exact SX _
 ·exact List.pairwise_iff_getElem.mp h i j (by omega) hj (by omega)
theorem kL {l : List Keyed} (h : fk rk l) {i : Nat} (hi : i < l.length) : ∀ y ∈ l.drop i, rk l[i] <= rk y := fun y hy => by
 obtain ⟨m, hm, rfl⟩ := Uo.mp hy
 rw [U1]
 exact iJ h (by omega) _
end
def Pb (rk : Keyed -> Nat) (lf : Bool) (ky x : Keyed) : Prop := if lf = true then rk x < rk ky else rk x <= rk ky
section
variable {prog : Program} {w : World} {A : Around} {E : Value -> Shared -> Prop} {s : Shared} {rk : Keyed -> Nat} {S : Keyed -> Prop} {kd : SortKind}
theorem xx {lf : Bool} {ky : Keyed} {ar : Array Keyed} {bs i : Nat} (h : bs + i < ar.size) : B rk lf ky ar bs i = true ↔ Pb rk lf ky (ar.toList[bs + i]'(by simpa using h)) := by
 unfold B Pb
 rw [getElem?_pos ar (bs + i) h]
 cases lf with
 | true => simp
 | false => simp
theorem jt {lf : Bool} {ky : Keyed} {ar : Array Keyed} {bs n h : Nat} {st : SortSt} {Q : Option Nat -> SortSt -> Prop} (hc : mR prog w A E s rk S kd) (hn : bs + n <= ar.size) (hh : h < n) (hS : ∀ x ∈ ar.toList, S x) (hk : S ky) (kk : kindOf st = kd)
  (sr : fk rk ((ar.toList.drop bs).take n))
  (hq : ∀ q, q <= n -> (∀ x ∈ (ar.toList.drop bs).take q, Pb rk lf ky x) -> (∀ x ∈ ((ar.toList.drop bs).take n).drop q, ¬ Pb rk lf ky x) -> Q (some q) st) : wpS (model prog w) A E s (zn lf ky ar bs n h) Q st := by
 have len : ((ar.toList.drop bs).take n).length = n := by rw [Tl, Vv, S5]; omega
 have seg : ∀ i (hi : i < n), ((ar.toList.drop bs).take n)[i]'(by omega) = ar.toList[bs + i]'(by rw [S5]; omega) := fun i hi => by
  rw [Vm, U1]
 have mono : ∀ i j, i <= j -> j < n -> B rk lf ky ar bs j = true -> B rk lf ky ar bs i = true := fun i j BS hj hb => by
  have h1 := (xx (rk := rk) (lf := lf) (ky := ky) (by omega : bs + j < ar.size)).mp hb
  refine (xx (by omega)).mpr ?_
  have h2 := iJ sr BS (by omega)
  rw [seg i (by omega), seg j hj] at h2
  unfold Pb at h1 ⊢
  cases lf with
  | true => simp only [UB] at h1 ⊢; omega
  | false => simp only [Tn, T3] at h1 ⊢; omega
 refine Du hc hn hh hS hk kk mono fun q Mo h1 h2 => hq q Mo (fun x hx => ?_) (fun x hx => ?_)
 ·obtain ⟨m, hm, rfl⟩ := Uo.mp hx
  have Eu : m < q := by rw [Tl] at hm; omega
  rw [Vm, U1]
  exact (xx (by omega)).mp (h1 m Eu)
 ·obtain ⟨m, hm, rfl⟩ := Uo.mp hx
  have Eu : q + m < n := by rw [Vv, len] at hm; omega
  rw [U1, seg _ Eu]
  intro z
  have := h2 (q + m) (by omega) Eu
  rw [(xx (by omega)).mpr z] at this
  cases this
def Gq (st aB : SortSt) : Prop := ∃ g, aB = sy st g
theorem Gq.refl (st : SortSt) : Gq st st := ⟨gallopOf st, rfl⟩
theorem Gq.set {st aB : SortSt} (h : Gq st aB) (g : Nat) : Gq st (sy aB g) := by obtain ⟨_, rfl⟩ := h; exact ⟨g, rfl⟩
theorem Gq.kind {st aB : SortSt} (h : Gq st aB) : kindOf aB = kindOf st := by obtain ⟨_, rfl⟩ := h; rfl
theorem kI {g : Nat} {st : SortSt} {Q : Unit -> SortSt -> Prop} (h : Q () (sy st g)) : wpS (model prog w) A E s (rZ g) Q st := Vn h
theorem aW {ar : Array Keyed} {i : Nat} {st : SortSt} {Q : Keyed -> SortSt -> Prop} (hi : i < ar.size) (h : Q ar[i] st) : wpS (model prog w) A E s (elem' ar i) Q st := by
 rw [elem'_eq, getElem?_pos ar i hi]
 exact Te h
structure ql (rk : Keyed -> Nat) (S : Keyed -> Prop) (a b : Array Keyed) : Prop where
 sa : fk rk a.toList
 sb : fk rk b.toList
 Sa : ∀ x ∈ a.toList, S x
 Sb : ∀ x ∈ b.toList, S x
 last : ∀ y ∈ b.toList, ∀ x, a.toList[a.size - 1]? = some x -> rk y <= rk x
 first : ∀ y ∈ a.toList, ∀ x, b.toList[0]? = some x -> rk x <= rk y
theorem ql.wW {a b : Array Keyed} (T : ql rk S a b) {i : Nat} (h : i < a.size) : S a[i] := T.Sa _ (by simp)
theorem ql.xC {a b : Array Keyed} (T : ql rk S a b) {i : Nat} (h : i < b.size) : S b[i] := T.Sb _ (by simp)
variable {a b : Array Keyed} {aM : SortSt}
def E1 (rk : Keyed -> Nat) (a b : Array Keyed) (aM : SortSt) (n : Nat) (r : ForInStep L1) (aB : SortSt) : Prop := Gq aM aB /\ match r with
 | .done c => (∃ z, c.1 = some z /\ Res rk a b z) \/ (c.1 = none /\ MI rk a b c.2.1 c.2.2.1 c.2.2.2.1 /\ c.2.2.1 + 1 < a.size /\ c.2.2.2.1 < b.size /\ n < c.2.1.size)
 | .yield c => c.1 = none /\ MI rk a b c.2.1 c.2.2.1 c.2.2.2.1 /\ c.2.2.1 + 1 < a.size /\ c.2.2.2.1 < b.size /\ n < c.2.1.size
def E2 (rk : Keyed -> Nat) (a b : Array Keyed) (aM : SortSt) (n : Nat) (r : ForInStep L2) (aB : SortSt) : Prop := Gq aM aB /\ match r with
 | .done c => (∃ z, c.1 = some z /\ Res rk a b z) \/ (c.1 = none /\ MI rk a b c.2.1 c.2.2.1 c.2.2.2.1 /\ c.2.2.1 + 1 < a.size /\ c.2.2.2.1 < b.size /\ n < c.2.1.size)
 | .yield c => c.1 = none /\ MI rk a b c.2.1 c.2.2.1 c.2.2.2.1 /\ c.2.2.1 + 1 < a.size /\ c.2.2.2.1 < b.size /\ n < c.2.1.size
theorem CK {g : Nat} {out : Array Keyed} {i j ca cb n : Nat} {st : SortSt} (hc : mR prog w A E s rk S kd) (T : ql rk S a b) (gq : Gq aM st) (kk : kindOf aM = kd) (M : MI rk a b out i j) (hi : i + 1 < a.size) (hj : j < b.size) (hn : n <= out.size) :
  wpS (model prog w) A E s (lo1 a b g out i j ca cb) (E1 rk a b aM n) st := by
 unfold lo1
 have pT : i < a.size := by omega
 refine S6 (aW hj (S6 (aW pT (S6 (hc _ _ st _ (T.xC hj) (T.wW pT) (gq.kind.trans kk) ?_)))))
 dsimp only
 by_cases hb : rk b[j] < rk a[i]
 ·rw [S9 hb, if_pos rfl]
  refine S6 (aW hj ?_)
  have M' := M.rD T.sb hj fun y hy => by
   have := kL T.sa (i := i) (by simpa using pT) y hy
   simp at this
   omega
  by_cases e : (j + 1 == b.size) = true
  ·rw [if_pos e]
   exact Te ⟨gq, .inl ⟨_, rfl, M'.Bn T.sa T.sb (.inr (by simpa using e))⟩⟩
  ·rw [if_neg e]
   have e' : j + 1 ≠ b.size := by simpa using e
   have rest : MI rk a b (out.push b[j]) i (j + 1) /\ i + 1 < a.size /\ j + 1 < b.size /\ n < (out.push b[j]).size := ⟨M', hi, by omega, by rw [UT]; omega⟩
   split
   ·exact Te ⟨gq, .inr ⟨rfl, rest⟩⟩
   ·exact Te ⟨gq, rfl, rest⟩
 ·rw [Tp hb, if_neg S3]
  refine S6 (aW pT ?_)
  have M' := M.qw T.sa pT fun y hy => by
   have := kL T.sb (i := j) (by simpa using hj) y hy
   simp at this
   omega
  by_cases e : (i + 1 + 1 == a.size) = true
  ·rw [if_pos e]
   exact Te ⟨gq, .inl ⟨_, rfl, M'.CG T.sa T.sb (by simpa using e) T.last⟩⟩
  ·rw [if_neg e]
   have e' : i + 1 + 1 ≠ a.size := by simpa using e
   have rest : MI rk a b (out.push a[i]) (i + 1) j /\ i + 1 + 1 < a.size /\ j < b.size /\ n < (out.push a[i]).size := ⟨M', by omega, hj, by rw [UT]; omega⟩
   split
   ·exact Te ⟨gq, .inr ⟨rfl, rest⟩⟩
   ·exact Te ⟨gq, rfl, rest⟩
theorem xi {out : Array Keyed} {i j g ca cb n : Nat} {st : SortSt} (T : ql rk S a b) (gq : Gq aM st) (M : MI rk a b out i j) (hi : i + 1 < a.size) (hj : j < b.size) (hn : n <= out.size) (ok : ∀ y ∈ b.toList.drop j, rk (a[i]'(by omega)) <= rk y) :
  wpS (model prog w) A E s (JT a b out i j g ca cb) (E2 rk a b aM n) st := by
 unfold JT
 have pT : i < a.size := by omega
 refine S6 (aW pT ?_)
 have M' := M.qw T.sa pT ok
 by_cases e : (i + 1 + 1 == a.size) = true
 ·rw [if_pos e]
  exact Te ⟨gq, .inl ⟨_, rfl, M'.CG T.sa T.sb (by simpa using e) T.last⟩⟩
 ·rw [if_neg e]
  have e' : i + 1 + 1 ≠ a.size := by simpa using e
  have rest : MI rk a b (out.push a[i]) (i + 1) j /\ i + 1 + 1 < a.size /\ j < b.size /\ n < (out.push a[i]).size := ⟨M', by omega, hj, by rw [UT]; omega⟩
  split
  ·exact Te ⟨gq, .inr ⟨rfl, rest⟩⟩
  ·exact Te ⟨gq, rfl, rest⟩
theorem oS (l : List Keyed) (i n : Nat) (h : n = l.length - i) : (l.drop i).take n = l.drop i := Ta (by rw [Vv]; omega)
theorem BY {out : Array Keyed} {i j g ca cb n : Nat} {st : SortSt} (hc : mR prog w A E s rk S kd) (T : ql rk S a b) (gq : Gq aM st) (kk : kindOf aM = kd) (M : MI rk a b out i j) (hi : i + 1 < a.size) (hj : j < b.size) (hn : n <= out.size) :
  wpS (model prog w) A E s (Me a b out i j g ca cb) (E2 rk a b aM n) st := by
 unfold Me
 have pT : i < a.size := by omega
 have wd : (b.toList.drop j).take (b.size - j) = b.toList.drop j := oS _ _ _ (by simp)
 refine S6 (aW pT (S6 (jt hc (by omega) (by omega) T.Sb (T.wW pT) (gq.kind.trans kk) (by rw [wd]; exact T.sb.sublist (UQ _ _)) fun k hk h1 h2 => ?_)))
 rw [wd, UD] at h2
 have ij : ∀ y ∈ b.toList.drop (j + k), rk a[i] <= rk y := fun y hy => by
  have := h2 y hy
  unfold Pb at this
  simp only [UB] at this
  omega
 have cX : ∀ x ∈ (b.toList.drop j).take k, ∀ y ∈ a.toList.drop i, rk x <= rk y := fun x hx y hy => by
  have := h1 x hx
  unfold Pb at this
  simp only [UB] at this
  have := kL T.sa (i := i) (by simpa using pT) y hy
  simp at this
  omega
 dsimp only
 by_cases AA : k > 0
 ·rw [if_pos AA]
  have M' := M.t9 T.sb (k := k) (by omega) cX
  by_cases e : (j + k == b.size) = true
  ·rw [if_pos e]
   exact Te ⟨gq, .inl ⟨_, rfl, M'.Bn T.sa T.sb (.inr (by simpa using e))⟩⟩
  ·rw [if_neg e]
   have e' : j + k ≠ b.size := by simpa using e
   exact xi T gq M' hi (by omega) (by rw [UG]; omega) ij
 ·rw [if_neg AA]
  have : k = 0 := by omega
  subst this
  exact xi T gq M hi hj hn ij
theorem wX {out : Array Keyed} {i j g ca cb n : Nat} {st : SortSt} (hc : mR prog w A E s rk S kd) (T : ql rk S a b) (gq : Gq aM st) (kk : kindOf aM = kd) (M : MI rk a b out i j) (hi : i + 1 < a.size) (hj : j < b.size) (hn : n <= out.size) (ok : ∀ y ∈ a.toList.drop i, rk b[j] <= rk y) :
  wpS (model prog w) A E s (JN a b out i j g ca cb) (E2 rk a b aM n) st := by
 unfold JN
 refine S6 (aW hj ?_)
 have M' := M.rD T.sb hj ok
 by_cases e : (j + 1 == b.size) = true
 ·rw [if_pos e]
  exact Te ⟨gq, .inl ⟨_, rfl, M'.Bn T.sa T.sb (.inr (by simpa using e))⟩⟩
 ·rw [if_neg e]
  have e' : j + 1 ≠ b.size := by simpa using e
  exact BY hc T gq kk M' hi (by omega) (by rw [UT]; omega)
theorem x8 {out : Array Keyed} {i j g ca cb n : Nat} {st : SortSt} (hc : mR prog w A E s rk S kd) (T : ql rk S a b) (gq : Gq aM st) (kk : kindOf aM = kd) (M : MI rk a b out i j) (hi : i + 1 < a.size) (hj : j < b.size) (hn : n <= out.size) :
  wpS (model prog w) A E s (JH a b out i j g ca cb) (E2 rk a b aM n) st := by
 unfold JH
 have wd : (a.toList.drop i).take (a.size - i) = a.toList.drop i := oS _ _ _ (by simp)
 refine S6 (kI (S6 (aW hj (S6 (jt hc (by omega) (by omega) T.Sa (T.xC hj) ((gq.set g).kind.trans kk) (by rw [wd]; exact T.sa.sublist (UQ _ _)) fun k hk h1 h2 => ?_)))))
 have D9 := gq.set g
 rw [wd, UD] at h2
 have ij : ∀ y ∈ a.toList.drop (i + k), rk b[j] <= rk y := fun y hy => by
  have := h2 y hy
  unfold Pb at this
  simp only [Tn, T3] at this
  omega
 have cX : ∀ x ∈ (a.toList.drop i).take k, ∀ y ∈ b.toList.drop j, rk x <= rk y := fun x hx y hy => by
  have := h1 x hx
  unfold Pb at this
  simp only [Tn, T3] at this
  have := kL T.sb (i := j) (by simpa using hj) y hy
  simp at this
  omega
 dsimp only
 by_cases AA : k > 0
 ·rw [if_pos AA]
  have M' := M.u5 T.sa (k := k) (by omega) cX
  by_cases e : (i + k + 1 == a.size) = true
  ·rw [if_pos e]
   exact Te ⟨D9, .inl ⟨_, rfl, M'.CG T.sa T.sb (by simpa using e) T.last⟩⟩
  ·rw [if_neg e]
   have e' : i + k + 1 ≠ a.size := by simpa using e
   by_cases f : (i + k == a.size) = true
   ·rw [if_pos f]
    exact Te ⟨D9, .inl ⟨_, rfl, M'.Bn T.sa T.sb (.inl (by simpa using f))⟩⟩
   ·rw [if_neg f]
    have f' : i + k ≠ a.size := by simpa using f
    exact wX hc T D9 kk M' (by omega) hj (by rw [UG]; omega) ij
 ·rw [if_neg AA]
  have : k = 0 := by omega
  subst this
  exact wX hc T D9 kk M hi hj hn ij
theorem DI {out : Array Keyed} {i j g ca cb n : Nat} {st : SortSt} (hc : mR prog w A E s rk S kd) (T : ql rk S a b) (gq : Gq aM st) (kk : kindOf aM = kd) (M : MI rk a b out i j) (hi : i + 1 < a.size) (hj : j < b.size) (hn : n <= out.size) :
  wpS (model prog w) A E s (KO a b out i j g ca cb) (E2 rk a b aM n) st := by
 unfold KO
 split
 ·exact x8 hc T gq kk M hi hj hn
 ·exact x8 hc T gq kk M hi hj hn
end
section
variable {prog : Program} {w : World} {A : Around} {E : Value -> Shared -> Prop} {s : Shared} {rk : Keyed -> Nat} {S : Keyed -> Prop} {kd : SortKind} {a b : Array Keyed} {aM : SortSt}
def On (rk : Keyed -> Nat) (a b : Array Keyed) (n : Nat) (out : Array Keyed) (i j : Nat) : Prop := MI rk a b out i j /\ i + 1 < a.size /\ j < b.size /\ n < out.size
theorem Cb {out : Array Keyed} {i j g n : Nat} {st : SortSt} (hc : mR prog w A E s rk S kd) (T : ql rk S a b) (gq : Gq aM st) (kk : kindOf aM = kd) (M : MI rk a b out i j) (hi : i + 1 < a.size) (hj : j < b.size) (hn : n <= out.size) :
  wpS (model prog w) A E s (Kb a b out i j g) (fun r aB => Gq aM aB /\ match r with | .done c => ∃ z, c.1 = some z /\ Res rk a b z | .yield c => c.1 = none /\ On rk a b n c.2.1 c.2.2.1 c.2.2.2.1) st := by
 unfold Kb
 refine S6 (UC (Ug (I := fun x (c : L1) aB => Gq aM aB /\ c.1 = none /\ MI rk a b c.2.1 c.2.2.1 c.2.2.2.1 /\ c.2.2.1 + 1 < a.size /\ c.2.2.2.1 < b.size /\ n + min x 1 <= c.2.1.size)
  (Q := fun (c : L1) aB => Gq aM aB /\ ((∃ z, c.1 = some z /\ Res rk a b z) \/ (c.1 = none /\ On rk a b n c.2.1 c.2.2.1 c.2.2.2.1))) ?step ?fin ⟨gq, rfl, M, hi, hj, by simpa using hn⟩) ?post)
 case fin =>
  rintro c aB ⟨h1, h2, h3, h4, h5, h6⟩
  exact ⟨h1, .inr ⟨h2, h3, h4, h5, by omega⟩⟩
 case step =>
  rintro x c aB _ hx ⟨h1, h2, h3, h4, h5, h6⟩
  refine UC (CK hc T h1 kk h3 h4 h5 (SX _)) fun r bx hr => ?_
  obtain ⟨g1, g2⟩ := hr
  cases r with
  | done d =>
   rcases g2 with z | ⟨z1, z2, z3, z4, z5⟩
   ·exact ⟨g1, .inl z⟩
   ·exact ⟨g1, .inr ⟨z1, z2, z3, z4, by omega⟩⟩
  | yield d =>
   obtain ⟨z1, z2, z3, z4, z5⟩ := g2
   exact ⟨g1, z1, z2, z3, z4, by omega⟩
 case post =>
  rintro ⟨c1, out, i, j, ca, cb⟩ aB ⟨g1, h⟩
  rcases h with ⟨z, hz, hr⟩ | ⟨hz, h1, h2, h3, h4⟩
  ·have nr : c1 = some z := hz
   subst nr
   exact Te ⟨g1, z, rfl, hr⟩
  ·have nr : c1 = none := hz
   subst nr
   dsimp only
   refine S6 (wpS_lift (UI ⟨rfl, ?_⟩))
   refine S6 (UC (Ug (I := fun x (c : L2) aB => Gq aM aB /\ c.1 = none /\ On rk a b n c.2.1 c.2.2.1 c.2.2.2.1)
    (Q := fun (c : L2) aB => Gq aM aB /\ ((∃ z, c.1 = some z /\ Res rk a b z) \/ (c.1 = none /\ On rk a b n c.2.1 c.2.2.1 c.2.2.2.1))) ?Af (fun c aB h => ⟨h.1, .inr h.2⟩) ⟨g1, rfl, h1, h2, h3, h4⟩) ?Az)
   case Af =>
    rintro x c bx _ hx ⟨h1, h2, h3, h4, h5, h6⟩
    refine UC (DI hc T h1 kk h3 h4 h5 (SX _)) fun r EA hr => ?_
    obtain ⟨g1, g2⟩ := hr
    cases r with
    | done d =>
     rcases g2 with z | ⟨z1, z2, z3, z4, z5⟩
     ·exact ⟨g1, .inl z⟩
     ·exact ⟨g1, .inr ⟨z1, z2, z3, z4, by omega⟩⟩
    | yield d =>
     obtain ⟨z1, z2, z3, z4, z5⟩ := g2
     exact ⟨g1, z1, z2, z3, z4, by omega⟩
   case Az =>
    rintro ⟨c1, out, i, j, g, ca, cb⟩ bx ⟨g1, h⟩
    rcases h with ⟨z, hz, hr⟩ | ⟨hz, h1⟩
    ·have nr : c1 = some z := hz
     subst nr
     exact Te ⟨g1, z, rfl, hr⟩
    ·have nr : c1 = none := hz
     subst nr
     exact S6 (kI (Te ⟨g1.set _, rfl, h1⟩))
theorem MI.zero (rk : Keyed -> Nat) (a b : Array Keyed) : MI rk a b #[] 0 0 := ⟨Tw _, Tw _, rfl, by simp, .nil, fun x hx => by simp at hx, fun x hx => by simp at hx⟩
theorem C9 {st : SortSt} {Q : Array Keyed -> SortSt -> Prop} (hc : mR prog w A E s rk S kd) (T : ql rk S a b) (ha : 1 <= a.size) (hb : 1 <= b.size) (kk : kindOf st = kd) (h : ∀ r aB, Gq st aB -> Res rk a b r -> Q r aB) :
  wpS (model prog w) A E s (Kc a b) Q st := by
 rw [Cn]
 refine S6 (wpS_lift (UI ⟨rfl, ?_⟩))
 refine S6 (aW hb ?_)
 have e0 : b.toList[0]? = some b[0] := by rw [S1 (show 0 < b.toList.length by rw [S5]; omega)]; simp
 have M : MI rk a b #[b[0]] 0 1 := (MI.zero rk a b).rD T.sb hb fun y hy => T.first y (List.mem_of_mem_drop hy) _ e0
 by_cases e : (1 == b.size) = true
 ·rw [if_pos e]
  exact Te (h _ _ (Gq.refl st) (M.Bn T.sa T.sb (.inr (by simpa using e))))
 rw [if_neg e]
 have e' : 1 ≠ b.size := by simpa using e
 by_cases f : (0 + 1 == a.size) = true
 ·rw [if_pos f]
  exact Te (h _ _ (Gq.refl st) (M.CG T.sa T.sb (by simpa using f) T.last))
 rw [if_neg f]
 have f' : 0 + 1 ≠ a.size := by simpa using f
 refine S6 (wpS_get ?_)
 refine S6 (UC (Ug (I := fun x (c : L3) aB => Gq st aB /\ c.1 = none /\ On rk a b x c.2.1 c.2.2.1 c.2.2.2.1)
  (Q := fun (c : L3) aB => Gq st aB /\ ∃ z, c.1 = some z /\ Res rk a b z) ?step ?fin ⟨Gq.refl st, rfl, M, (by show 0 + 1 < a.size; omega), (by show 1 < b.size; omega), by show 0 < 1; decide⟩) ?post)
 case fin =>
  rintro c aB ⟨h1, h2, h3, h4, h5, h6⟩
  have := h3.sz
  omega
 case step =>
  rintro x c aB _ hx ⟨h1, h2, h3, h4, h5, h6⟩
  refine UC (Cb hc T h1 kk h3 h4 h5 (SX _)) fun r bx hr => ?_
  obtain ⟨g1, g2⟩ := hr
  cases r with
  | done d => exact ⟨g1, g2⟩
  | yield d =>
   obtain ⟨z1, z2, z3, z4, z5⟩ := g2
   exact ⟨g1, z1, z2, z3, z4, by omega⟩
 case post =>
  rintro ⟨c1, out, i, j, g⟩ aB ⟨g1, z, hz, hr⟩
  have nr : c1 = some z := hz
  subst nr
  exact Te (h z aB g1 hr)
end
def JM : Array Keyed -> Array Keyed -> SM (Array Keyed) := sortPriv% PySem.Builtin.mergeHi
def iw (a b out : Array Keyed) (i j : Nat) : Array Keyed := a.extract 0 i ++ b.extract 0 j ++ out.reverse
def oy (a b out : Array Keyed) (i j : Nat) : Array Keyed := b.extract 0 j ++ a.extract 0 i ++ out.reverse
abbrev H1 := Option (Array Keyed) × Nat × Nat × Array Keyed × Nat × Nat
abbrev H2 := Option (Array Keyed) × Nat × Nat × Array Keyed × Nat × Nat × Nat
abbrev H3 := Option (Array Keyed) × Nat × Nat × Array Keyed × Nat
theorem EQ (a b : Array Keyed) : JM a b = (do
  rule "list.sort.merge-hi"
  let tt := a.size + b.size
  let mut i := a.size - 1
  let mut j := b.size
  let mut out : Array Keyed := #[<- elem' a i]
  if i == 0 then return iw a b out i j
  if j == 1 then return oy a b out i j
  let mut g := gallopOf (<- get)
  for _ in [0:tt] do
   let mut ca := 0
   let mut cb := 0
   for _ in [0:tt] do
    let some aw <- lt' (<- elem' b (j - 1)) (<- elem' a (i - 1)) | return iw a b out i j
    if aw then
     i := i - 1; out := out.push (<- elem' a i); ca := ca + 1; cb := 0
     if i == 0 then return iw a b out i j
     if ca >= g then break
    else
     j := j - 1; out := out.push (<- elem' b j); cb := cb + 1; ca := 0
     if j == 1 then return oy a b out i j
     if cb >= g then break
   rule "list.sort.gallop"
   g := g + 1
   for _ in [0:tt] do
    if g > 1 then g := g - 1
    rZ g
    let some lY <- zn false (<- elem' b (j - 1)) a 0 i (i - 1) | return iw a b out i j
    let k := i - lY
    ca := k
    if k > 0 then
     out := out ++ (a.extract lY i).reverse; i := lY
     if i == 0 then return iw a b out i j
    j := j - 1; out := out.push (<- elem' b j)
    if j == 1 then return oy a b out i j
    let some at2 <- zn true (<- elem' a (i - 1)) b 0 j (j - 1) | return iw a b out i j
    let k := j - at2
    cb := k
    if k > 0 then
     out := out ++ (b.extract at2 j).reverse; j := at2
     if j == 1 then return oy a b out i j
     if j == 0 then return iw a b out i j
    i := i - 1; out := out.push (<- elem' a i)
    if i == 0 then return iw a b out i j
    if ca < 7 && cb < 7 then break
   g := g + 1
   rZ g
  unsupported "internal:list.sort.merge-bound") := rfl
def Kp (a b : Array Keyed) (g i j : Nat) (out : Array Keyed) (ca cb : Nat) : SM (ForInStep H1) := do
 let x <- elem' b (j - 1)
 let y <- elem' a (i - 1)
 match <- lt' x y with
 | some aw =>
  if aw = true then do
   let z <- elem' a (i - 1)
   if (i - 1 == 0) = true then pure (.done (some (iw a b (out.push z) (i - 1) j), i - 1, j, out.push z, ca + 1, 0))
   else if ca + 1 >= g then pure (.done (none, i - 1, j, out.push z, ca + 1, 0))
   else pure (.yield (none, i - 1, j, out.push z, ca + 1, 0))
  else do
   let z <- elem' b (j - 1)
   if (j - 1 == 1) = true then pure (.done (some (oy a b (out.push z) i (j - 1)), i, j - 1, out.push z, 0, cb + 1))
   else if cb + 1 >= g then pure (.done (none, i, j - 1, out.push z, 0, cb + 1))
   else pure (.yield (none, i, j - 1, out.push z, 0, cb + 1))
 | _ => pure (.done (some (iw a b out i j), i, j, out, ca, cb))
def JW (a b : Array Keyed) (i j : Nat) (out : Array Keyed) (g ca cb : Nat) : SM (ForInStep H2) := do
 let x <- elem' a (i - 1)
 if (i - 1 == 0) = true then pure (.done (some (iw a b (out.push x) (i - 1) j), i - 1, j, out.push x, g, ca, cb))
 else if (decide (ca < 7) && decide (cb < 7)) = true then pure (.done (none, i - 1, j, out.push x, g, ca, cb))
 else pure (.yield (none, i - 1, j, out.push x, g, ca, cb))
def LV (a b : Array Keyed) (i j : Nat) (out : Array Keyed) (g ca cb : Nat) : SM (ForInStep H2) := do
 let x <- elem' a (i - 1)
 match <- zn true x b 0 j (j - 1) with
 | some t =>
  if j - t > 0 then
   if (t == 1) = true then pure (.done (some (oy a b (out ++ (b.extract t j).reverse) i t), i, t, out ++ (b.extract t j).reverse, g, ca, j - t))
   else if (t == 0) = true then pure (.done (some (iw a b (out ++ (b.extract t j).reverse) i t), i, t, out ++ (b.extract t j).reverse, g, ca, j - t))
   else JW a b i t (out ++ (b.extract t j).reverse) g ca (j - t)
  else JW a b i j out g ca (j - t)
 | _ => pure (.done (some (iw a b out i j), i, j, out, g, ca, cb))
def JY (a b : Array Keyed) (i j : Nat) (out : Array Keyed) (g ca cb : Nat) : SM (ForInStep H2) := do
 let x <- elem' b (j - 1)
 if (j - 1 == 1) = true then pure (.done (some (oy a b (out.push x) i (j - 1)), i, j - 1, out.push x, g, ca, cb))
 else LV a b i (j - 1) (out.push x) g ca cb
def J0 (a b : Array Keyed) (i j : Nat) (out : Array Keyed) (g ca cb : Nat) : SM (ForInStep H2) := do
 rZ g
 let x <- elem' b (j - 1)
 match <- zn false x a 0 i (i - 1) with
 | some t =>
  if i - t > 0 then
   if (t == 0) = true then pure (.done (some (iw a b (out ++ (a.extract t i).reverse) t j), t, j, out ++ (a.extract t i).reverse, g, i - t, cb))
   else JY a b t j (out ++ (a.extract t i).reverse) g (i - t) cb
  else JY a b i j out g (i - t) cb
 | _ => pure (.done (some (iw a b out i j), i, j, out, g, ca, cb))
def KN (a b : Array Keyed) (i j : Nat) (out : Array Keyed) (g ca cb : Nat) : SM (ForInStep H2) := if g > 1 then J0 a b i j out (g - 1) ca cb else J0 a b i j out g ca cb
def JQ (a b : Array Keyed) (i j : Nat) (out : Array Keyed) (g : Nat) : SM (ForInStep H3) := do
 let c <- forIn [0:a.size + b.size] ((none, i, j, out, 0, 0) : H1) fun _ c => Kp a b g c.2.1 c.2.2.1 c.2.2.2.1 c.2.2.2.2.1 c.2.2.2.2.2
 match c.1 with
 | some r => pure (.done (some r, c.2.1, c.2.2.1, c.2.2.2.1, g))
 | none => do
  rule "list.sort.gallop"
  let d <- forIn [0:a.size + b.size] ((none, c.2.1, c.2.2.1, c.2.2.2.1, g + 1, c.2.2.2.2.1, c.2.2.2.2.2) : H2) fun _ d => KN a b d.2.1 d.2.2.1 d.2.2.2.1 d.2.2.2.2.1 d.2.2.2.2.2.1 d.2.2.2.2.2.2
  match d.1 with
  | some r => pure (.done (some r, d.2.1, d.2.2.1, d.2.2.2.1, d.2.2.2.2.1))
  | none => do
   rZ (d.2.2.2.2.1 + 1)
   pure (.yield (none, d.2.1, d.2.2.1, d.2.2.2.1, d.2.2.2.2.1 + 1))
theorem Dm (a b : Array Keyed) : JM a b = (do
  rule "list.sort.merge-hi"
  let z <- elem' a (a.size - 1)
  if (a.size - 1 == 0) = true then pure (iw a b #[z] (a.size - 1) b.size)
  else if (b.size == 1) = true then pure (oy a b #[z] (a.size - 1) b.size)
  else do
   let st <- get
   let c <- forIn [0:a.size + b.size] ((none, a.size - 1, b.size, #[z], gallopOf st) : H3) fun _ c => JQ a b c.2.1 c.2.2.1 c.2.2.2.1 c.2.2.2.2
   match c.1 with
   | some r => pure r
   | none => unsupported "internal:list.sort.merge-bound") := by
 rw [EQ]
 refine TZ fun _ => TZ fun z => ?_
 refine ite_congr rfl (fun _ => rfl) (fun _ => ?_)
 refine ite_congr rfl (fun _ => rfl) (fun _ => ?_)
 refine TZ fun st => ?_
 show (forIn _ _ _ >>= _) = (forIn _ _ _ >>= _)
 refine congr (Um _ ?_) ?_
 ·refine Um _ ?_
  funext x c
  rcases c with ⟨r, i, j, out, g⟩
  unfold JQ
  show (forIn _ _ _ >>= _) = (forIn _ _ _ >>= _)
  refine TZ fun d => ?_
  rcases d with ⟨_ | r, i, j, out, ca, cb⟩
  ·refine TZ fun _ => ?_
   show (forIn _ _ _ >>= _) = (forIn _ _ _ >>= _)
   refine TZ fun e => ?_
   rcases e with ⟨_ | r, i, j, out, g, ca, cb⟩
   ·rfl
   ·rfl
  ·rfl
 ·funext c
  rcases c with ⟨_ | r, i, j, out, g⟩
  ·rfl
  ·rfl
structure MH (rk : Keyed -> Nat) (a b out : Array Keyed) (i j : Nat) : Prop where
 hi : i <= a.size
 hj : j <= b.size
 sz : out.size + i + j = a.size + b.size
 p : (a.toList.take i ++ (b.toList.take j ++ out.toList.reverse)).Perm (a.toList ++ b.toList)
 s : fk rk out.toList.reverse
 ua : ∀ x ∈ a.toList.take i, ∀ y ∈ out.toList, rk x <= rk y
 ub : ∀ x ∈ b.toList.take j, ∀ y ∈ out.toList, rk x <= rk y
section
variable {rk : Keyed -> Nat} {a b out : Array Keyed} {i j k t : Nat}
theorem pJ (l : List Keyed) {t i : Nat} (h : t <= i) : l.take i = l.take t ++ (l.drop t).take (i - t) := by
 have e : i = t + (i - t) := by omega
 conv => lhs; rw [e, List.take_add]
theorem MH.u5 (h : MH rk a b out i j) (sa : fk rk a.toList) (ht : t <= i) (hy : ∀ x ∈ b.toList.take j, ∀ y ∈ (a.toList.drop t).take (i - t), rk x <= rk y) : MH rk a b (out ++ (a.extract t i).reverse) t j := by
 have e : (out ++ (a.extract t i).reverse).toList = out.toList ++ ((a.toList.drop t).take (i - t)).reverse := by rw [TU, Vp, bJ]
 have er : (out ++ (a.extract t i).reverse).toList.reverse = (a.toList.drop t).take (i - t) ++ out.toList.reverse := by rw [e, List.reverse_append, List.reverse_reverse]
 have ed := pJ a.toList ht
 have ss : fk rk (a.toList.take t ++ (a.toList.drop t).take (i - t)) := by rw [<- ed]; exact sa.sublist (UF _ _)
 have Ao := Tj.mp ss
 have sz := h.sz
 have hi := h.hi
 refine ⟨by omega, h.hj, by rw [UG, Array.size_reverse, Vf]; omega, ?_, ?_, ?_, ?_⟩
 ·rw [er]
  refine List.Perm.trans ?_ h.p
  rw [ed, Tf]
  refine UY _ ?_
  rw [<- Tf, <- Tf]
  exact Vg _ Vj
 ·rw [er]
  refine Tj.mpr ⟨Ao.2.1, h.s, fun x hx y gd => h.ua x ?_ y (by simpa using gd)⟩
  rw [ed]
  exact TC _ hx
 ·intro x hx y gd
  rw [e] at gd
  rcases Ts.mp gd with z | z
  ·exact h.ua x (by rw [ed]; exact Uz _ hx) y z
  ·exact Ao.2.2 x hx y (by simpa using z)
 ·intro x hx y gd
  rw [e] at gd
  rcases Ts.mp gd with z | z
  ·exact h.ub x hx y z
  ·exact hy x hx y (by simpa using z)
theorem MH.t9 (h : MH rk a b out i j) (sb : fk rk b.toList) (ht : t <= j) (hy : ∀ x ∈ a.toList.take i, ∀ y ∈ (b.toList.drop t).take (j - t), rk x <= rk y) : MH rk a b (out ++ (b.extract t j).reverse) i t := by
 have e : (out ++ (b.extract t j).reverse).toList = out.toList ++ ((b.toList.drop t).take (j - t)).reverse := by rw [TU, Vp, bJ]
 have er : (out ++ (b.extract t j).reverse).toList.reverse = (b.toList.drop t).take (j - t) ++ out.toList.reverse := by rw [e, List.reverse_append, List.reverse_reverse]
 have ed := pJ b.toList ht
 have ss : fk rk (b.toList.take t ++ (b.toList.drop t).take (j - t)) := by rw [<- ed]; exact sb.sublist (UF _ _)
 have Ao := Tj.mp ss
 have sz := h.sz
 have hj := h.hj
 refine ⟨h.hi, by omega, by rw [UG, Array.size_reverse, Vf]; omega, ?_, ?_, ?_, ?_⟩
 ·rw [er, <- Tf (b.toList.take t), <- ed]
  exact h.p
 ·rw [er]
  refine Tj.mpr ⟨Ao.2.1, h.s, fun x hx y gd => h.ub x ?_ y (by simpa using gd)⟩
  rw [ed]
  exact TC _ hx
 ·intro x hx y gd
  rw [e] at gd
  rcases Ts.mp gd with z | z
  ·exact h.ua x hx y z
  ·exact hy x hx y (by simpa using z)
 ·intro x hx y gd
  rw [e] at gd
  rcases Ts.mp gd with z | z
  ·exact h.ub x (by rw [ed]; exact Uz _ hx) y z
  ·exact Ao.2.2 x hx y (by simpa using z)
theorem ur {a out : Array Keyed} {i : Nat} (h0 : 0 < i) (h : i <= a.size) : out.push (a[i - 1]'(by omega)) = out ++ (a.extract (i - 1) i).reverse := by
 apply Array.toList_inj.mp
 rw [Array.toList_push, TU, Vp, bJ, show i - (i - 1) = 1 by omega, take1 (l := a.toList) (by rw [S5]; omega)]
 simp
theorem MH.qw (h : MH rk a b out i j) (sa : fk rk a.toList) (h0 : 0 < i) (hy : ∀ x ∈ b.toList.take j, rk x <= rk (a[i - 1]'(by have := h.hi; omega))) : MH rk a b (out.push (a[i - 1]'(by have := h.hi; omega))) (i - 1) j := by
 have hi := h.hi
 rw [ur h0 hi]
 refine h.u5 sa (by omega) fun x hx y gd => ?_
 rw [show i - (i - 1) = 1 by omega, take1 (l := a.toList) (by rw [S5]; omega)] at gd
 rw [TB.mp gd]
 simpa using hy x hx
theorem MH.rD (h : MH rk a b out i j) (sb : fk rk b.toList) (h0 : 0 < j) (hy : ∀ x ∈ a.toList.take i, rk x <= rk (b[j - 1]'(by have := h.hj; omega))) : MH rk a b (out.push (b[j - 1]'(by have := h.hj; omega))) i (j - 1) := by
 have hj := h.hj
 rw [ur h0 hj]
 refine h.t9 sb (by omega) fun x hx y gd => ?_
 rw [show j - (j - 1) = 1 by omega, take1 (l := b.toList) (by rw [S5]; omega)] at gd
 rw [TB.mp gd]
 simpa using hy x hx
theorem qT (a b out : Array Keyed) (i j : Nat) : (iw a b out i j).toList = a.toList.take i ++ (b.toList.take j ++ out.toList.reverse) := by
 unfold iw
 rw [TU, TU, bJ, bJ, Vp, Tf]
 simp
theorem qI (a b out : Array Keyed) (i j : Nat) : (oy a b out i j).toList = b.toList.take j ++ (a.toList.take i ++ out.toList.reverse) := by
 unfold oy
 rw [TU, TU, bJ, bJ, Vp, Tf]
 simp
theorem MH.Ah (h : MH rk a b out i j) (sa : fk rk a.toList) (sb : fk rk b.toList) (e : i = 0 \/ j = 0) : Res rk a b (iw a b out i j) := by
 refine ⟨by rw [qT]; exact h.p, ?_⟩
 rw [qT]
 refine Tj.mpr ⟨sa.sublist (UF _ _), Tj.mpr ⟨sb.sublist (UF _ _), h.s, fun x hx y hy => h.ub x hx y (by simpa using hy)⟩, fun x hx y hy => ?_⟩
 rcases Ts.mp hy with z | z
 ·rcases e with e | e
  ·rw [e] at hx; simp at hx
  ·rw [e] at z; simp at z
 ·exact h.ua x hx y (by simpa using z)
theorem MH.Di (h : MH rk a b out i j) (sa : fk rk a.toList) (sb : fk rk b.toList) (e : j = 1) (first : ∀ y ∈ a.toList, ∀ x, b.toList[0]? = some x -> rk x <= rk y) : Res rk a b (oy a b out i j) := by
 have hj := h.hj
 refine ⟨?_, ?_⟩
 ·rw [qI]
  refine List.Perm.trans ?_ h.p
  rw [<- Tf, <- Tf]
  exact Vg _ Vj
 ·rw [qI]
  refine Tj.mpr ⟨sb.sublist (UF _ _), Tj.mpr ⟨sa.sublist (UF _ _), h.s, fun x hx y hy => h.ua x hx y (by simpa using hy)⟩, fun x hx y hy => ?_⟩
  have Lr : b.toList[0]? = some x := by
   rw [e] at hx
   cases hb : b.toList with
   | nil => rw [hb] at hx; simp at hx
   | cons z r => rw [hb] at hx; simp at hx; rw [hx]; rfl
  rcases Ts.mp hy with z | z
  ·exact first y (Uy z) x Lr
  ·exact h.ub x hx y (by simpa using z)
theorem kY {l : List Keyed} (h : fk rk l) {i : Nat} (h0 : 0 < i) (hi : i <= l.length) : ∀ y ∈ l.take i, rk y <= rk (l[i - 1]'(by omega)) := fun y hy => by
 obtain ⟨m, hm, rfl⟩ := Uo.mp hy
 have Eu : m < i := by rw [Tl] at hm; omega
 rw [Vm]
 exact iJ h (by omega) _
end
section
variable {prog : Program} {w : World} {A : Around} {E : Value -> Shared -> Prop} {s : Shared} {rk : Keyed -> Nat} {S : Keyed -> Prop} {kd : SortKind} {a b : Array Keyed} {aM : SortSt}
def zw (rk : Keyed -> Nat) (a b : Array Keyed) (n i j : Nat) (out : Array Keyed) : Prop := MH rk a b out i j /\ 0 < i /\ 1 < j /\ n < out.size
def F1 (rk : Keyed -> Nat) (a b : Array Keyed) (aM : SortSt) (n : Nat) (r : ForInStep H1) (aB : SortSt) : Prop := Gq aM aB /\ match r with
 | .done c => (∃ z, c.1 = some z /\ Res rk a b z) \/ (c.1 = none /\ zw rk a b n c.2.1 c.2.2.1 c.2.2.2.1)
 | .yield c => c.1 = none /\ zw rk a b n c.2.1 c.2.2.1 c.2.2.2.1
def F2 (rk : Keyed -> Nat) (a b : Array Keyed) (aM : SortSt) (n : Nat) (r : ForInStep H2) (aB : SortSt) : Prop := Gq aM aB /\ match r with
 | .done c => (∃ z, c.1 = some z /\ Res rk a b z) \/ (c.1 = none /\ zw rk a b n c.2.1 c.2.2.1 c.2.2.2.1)
 | .yield c => c.1 = none /\ zw rk a b n c.2.1 c.2.2.1 c.2.2.2.1
theorem CS {out : Array Keyed} {g i j ca cb n : Nat} {st : SortSt} (hc : mR prog w A E s rk S kd) (T : ql rk S a b) (gq : Gq aM st) (kk : kindOf aM = kd) (M : MH rk a b out i j) (h0 : 0 < i) (h1 : 1 < j) (hn : n <= out.size) :
  wpS (model prog w) A E s (Kp a b g i j out ca cb) (F1 rk a b aM n) st := by
 unfold Kp
 have hi := M.hi
 have hj := M.hj
 have qi : i - 1 < a.size := by omega
 have qj : j - 1 < b.size := by omega
 refine S6 (aW qj (S6 (aW qi (S6 (hc _ _ st _ (T.xC qj) (T.wW qi) (gq.kind.trans kk) ?_)))))
 dsimp only
 by_cases hb : rk b[j - 1] < rk a[i - 1]
 ·rw [S9 hb, if_pos rfl]
  refine S6 (aW qi ?_)
  have M' := M.qw T.sa h0 fun x hx => by
   have := kY T.sb (i := j) (by omega) (by simpa using hj) x hx
   simp at this
   omega
  by_cases e : (i - 1 == 0) = true
  ·rw [if_pos e]
   exact Te ⟨gq, .inl ⟨_, rfl, M'.Ah T.sa T.sb (.inl (by simpa using e))⟩⟩
  ·rw [if_neg e]
   have e' : i - 1 ≠ 0 := by simpa using e
   have rest : zw rk a b n (i - 1) j (out.push a[i - 1]) := ⟨M', by omega, h1, by rw [UT]; omega⟩
   split
   ·exact Te ⟨gq, .inr ⟨rfl, rest⟩⟩
   ·exact Te ⟨gq, rfl, rest⟩
 ·rw [Tp hb, if_neg S3]
  refine S6 (aW qj ?_)
  have M' := M.rD T.sb (by omega) fun x hx => by
   have := kY T.sa (i := i) h0 (by simpa using hi) x hx
   simp at this
   omega
  by_cases e : (j - 1 == 1) = true
  ·rw [if_pos e]
   exact Te ⟨gq, .inl ⟨_, rfl, M'.Di T.sa T.sb (by simpa using e) T.first⟩⟩
  ·rw [if_neg e]
   have e' : j - 1 ≠ 1 := by simpa using e
   have rest : zw rk a b n i (j - 1) (out.push b[j - 1]) := ⟨M', h0, by omega, by rw [UT]; omega⟩
   split
   ·exact Te ⟨gq, .inr ⟨rfl, rest⟩⟩
   ·exact Te ⟨gq, rfl, rest⟩
theorem xf {out : Array Keyed} {i j g ca cb n : Nat} {st : SortSt} (T : ql rk S a b) (gq : Gq aM st) (M : MH rk a b out i j) (h0 : 0 < i) (h1 : 1 < j) (hn : n <= out.size) (ok : ∀ x ∈ b.toList.take j, rk x <= rk (a[i - 1]'(by have := M.hi; omega))) :
  wpS (model prog w) A E s (JW a b i j out g ca cb) (F2 rk a b aM n) st := by
 unfold JW
 have hi := M.hi
 have qi : i - 1 < a.size := by omega
 refine S6 (aW qi ?_)
 have M' := M.qw T.sa h0 ok
 by_cases e : (i - 1 == 0) = true
 ·rw [if_pos e]
  exact Te ⟨gq, .inl ⟨_, rfl, M'.Ah T.sa T.sb (.inl (by simpa using e))⟩⟩
 ·rw [if_neg e]
  have e' : i - 1 ≠ 0 := by simpa using e
  have rest : zw rk a b n (i - 1) j (out.push a[i - 1]) := ⟨M', by omega, h1, by rw [UT]; omega⟩
  split
  ·exact Te ⟨gq, .inr ⟨rfl, rest⟩⟩
  ·exact Te ⟨gq, rfl, rest⟩
theorem uu (l : List Keyed) (t i : Nat) : ((l.drop 0).take i).drop t = (l.drop t).take (i - t) := by rw [List.drop_zero, List.drop_take]
theorem Cu {out : Array Keyed} {i j g ca cb n : Nat} {st : SortSt} (hc : mR prog w A E s rk S kd) (T : ql rk S a b) (gq : Gq aM st) (kk : kindOf aM = kd) (M : MH rk a b out i j) (h0 : 0 < i) (h1 : 1 < j) (hn : n <= out.size) :
  wpS (model prog w) A E s (LV a b i j out g ca cb) (F2 rk a b aM n) st := by
 unfold LV
 have hi := M.hi
 have hj := M.hj
 have qi : i - 1 < a.size := by omega
 refine S6 (aW qi (S6 (jt hc (by omega) (by omega) T.Sb (T.wW qi) (gq.kind.trans kk) (by rw [List.drop_zero]; exact T.sb.sublist (UF _ _)) fun t ht g1 g2 => ?_)))
 rw [uu] at g2
 rw [List.drop_zero] at g1
 have Da : ∀ x ∈ b.toList.take t, rk x <= rk a[i - 1] := fun x hx => by
  have := g1 x hx
  unfold Pb at this
  simp only [UB] at this
  omega
 have HA : ∀ x ∈ a.toList.take i, ∀ y ∈ (b.toList.drop t).take (j - t), rk x <= rk y := fun x hx y hy => by
  have := g2 y hy
  unfold Pb at this
  simp only [UB] at this
  have := kY T.sa (i := i) h0 (by simpa using hi) x hx
  simp at this
  omega
 dsimp only
 by_cases AA : j - t > 0
 ·rw [if_pos AA]
  have M' := M.t9 T.sb ht HA
  by_cases e : (t == 1) = true
  ·rw [if_pos e]
   exact Te ⟨gq, .inl ⟨_, rfl, M'.Di T.sa T.sb (by simpa using e) T.first⟩⟩
  ·rw [if_neg e]
   have e' : t ≠ 1 := by simpa using e
   by_cases f : (t == 0) = true
   ·rw [if_pos f]
    exact Te ⟨gq, .inl ⟨_, rfl, M'.Ah T.sa T.sb (.inr (by simpa using f))⟩⟩
   ·rw [if_neg f]
    have f' : t ≠ 0 := by simpa using f
    exact xf T gq M' h0 (by omega) (by rw [UG]; omega) Da
 ·rw [if_neg AA]
  have : t = j := by omega
  subst this
  exact xf T gq M h0 h1 hn Da
theorem xA {out : Array Keyed} {i j g ca cb n : Nat} {st : SortSt} (hc : mR prog w A E s rk S kd) (T : ql rk S a b) (gq : Gq aM st) (kk : kindOf aM = kd) (M : MH rk a b out i j) (h0 : 0 < i) (h1 : 1 < j) (hn : n <= out.size) (ok : ∀ x ∈ a.toList.take i, rk x <= rk (b[j - 1]'(by have := M.hj; omega))) :
  wpS (model prog w) A E s (JY a b i j out g ca cb) (F2 rk a b aM n) st := by
 unfold JY
 have hj := M.hj
 have qj : j - 1 < b.size := by omega
 refine S6 (aW qj ?_)
 have M' := M.rD T.sb (by omega) ok
 by_cases e : (j - 1 == 1) = true
 ·rw [if_pos e]
  exact Te ⟨gq, .inl ⟨_, rfl, M'.Di T.sa T.sb (by simpa using e) T.first⟩⟩
 ·rw [if_neg e]
  have e' : j - 1 ≠ 1 := by simpa using e
  exact Cu hc T gq kk M' h0 (by omega) (by rw [UT]; omega)
theorem xJ {out : Array Keyed} {i j g ca cb n : Nat} {st : SortSt} (hc : mR prog w A E s rk S kd) (T : ql rk S a b) (gq : Gq aM st) (kk : kindOf aM = kd) (M : MH rk a b out i j) (h0 : 0 < i) (h1 : 1 < j) (hn : n <= out.size) :
  wpS (model prog w) A E s (J0 a b i j out g ca cb) (F2 rk a b aM n) st := by
 unfold J0
 have hi := M.hi
 have hj := M.hj
 have qj : j - 1 < b.size := by omega
 refine S6 (kI (S6 (aW qj (S6 (jt hc (by omega) (by omega) T.Sa (T.xC qj) ((gq.set g).kind.trans kk) (by rw [List.drop_zero]; exact T.sa.sublist (UF _ _)) fun t ht g1 g2 => ?_)))))
 have D9 := gq.set g
 rw [uu] at g2
 rw [List.drop_zero] at g1
 have Da : ∀ x ∈ a.toList.take t, rk x <= rk b[j - 1] := fun x hx => by
  have := g1 x hx
  unfold Pb at this
  simpa using this
 have HA : ∀ x ∈ b.toList.take j, ∀ y ∈ (a.toList.drop t).take (i - t), rk x <= rk y := fun x hx y hy => by
  have := g2 y hy
  unfold Pb at this
  simp only [Tn, T3] at this
  have := kY T.sb (i := j) (by omega) (by simpa using hj) x hx
  simp at this
  omega
 dsimp only
 by_cases AA : i - t > 0
 ·rw [if_pos AA]
  have M' := M.u5 T.sa ht HA
  by_cases e : (t == 0) = true
  ·rw [if_pos e]
   exact Te ⟨D9, .inl ⟨_, rfl, M'.Ah T.sa T.sb (.inl (by simpa using e))⟩⟩
  ·rw [if_neg e]
   have e' : t ≠ 0 := by simpa using e
   exact xA hc T D9 kk M' (by omega) h1 (by rw [UG]; omega) Da
 ·rw [if_neg AA]
  have : t = i := by omega
  subst this
  exact xA hc T D9 kk M h0 h1 hn Da
theorem B3 {out : Array Keyed} {i j g ca cb n : Nat} {st : SortSt} (hc : mR prog w A E s rk S kd) (T : ql rk S a b) (gq : Gq aM st) (kk : kindOf aM = kd) (M : MH rk a b out i j) (h0 : 0 < i) (h1 : 1 < j) (hn : n <= out.size) :
  wpS (model prog w) A E s (KN a b i j out g ca cb) (F2 rk a b aM n) st := by
 unfold KN
 split
 ·exact xJ hc T gq kk M h0 h1 hn
 ·exact xJ hc T gq kk M h0 h1 hn
theorem Db {out : Array Keyed} {i j g n : Nat} {st : SortSt} (hc : mR prog w A E s rk S kd) (T : ql rk S a b) (gq : Gq aM st) (kk : kindOf aM = kd) (M : MH rk a b out i j) (h0 : 0 < i) (h1 : 1 < j) (hn : n <= out.size) :
  wpS (model prog w) A E s (JQ a b i j out g) (fun r aB => Gq aM aB /\ match r with | .done c => ∃ z, c.1 = some z /\ Res rk a b z | .yield c => c.1 = none /\ zw rk a b n c.2.1 c.2.2.1 c.2.2.2.1) st := by
 unfold JQ
 have hi := M.hi
 have hj := M.hj
 refine S6 (UC (Ug (I := fun x (c : H1) aB => Gq aM aB /\ c.1 = none /\ MH rk a b c.2.2.2.1 c.2.1 c.2.2.1 /\ 0 < c.2.1 /\ 1 < c.2.2.1 /\ n + min x 1 <= c.2.2.2.1.size)
  (Q := fun (c : H1) aB => Gq aM aB /\ ((∃ z, c.1 = some z /\ Res rk a b z) \/ (c.1 = none /\ zw rk a b n c.2.1 c.2.2.1 c.2.2.2.1))) ?step ?fin ⟨gq, rfl, M, h0, h1, by simpa using hn⟩) ?post)
 case fin =>
  rintro c aB ⟨h1, h2, h3, h4, h5, h6⟩
  exact ⟨h1, .inr ⟨h2, h3, h4, h5, by omega⟩⟩
 case step =>
  rintro x c aB _ hx ⟨h1, h2, h3, h4, h5, h6⟩
  refine UC (CS hc T h1 kk h3 h4 h5 (SX _)) fun r bx hr => ?_
  obtain ⟨g1, g2⟩ := hr
  cases r with
  | done d =>
   rcases g2 with z | ⟨z1, z2, z3, z4, z5⟩
   ·exact ⟨g1, .inl z⟩
   ·exact ⟨g1, .inr ⟨z1, z2, z3, z4, by omega⟩⟩
  | yield d =>
   obtain ⟨z1, z2, z3, z4, z5⟩ := g2
   exact ⟨g1, z1, z2, z3, z4, by omega⟩
 case post =>
  rintro ⟨c1, i, j, out, ca, cb⟩ aB ⟨g1, h⟩
  rcases h with ⟨z, hz, hr⟩ | ⟨hz, h1, h2, h3, h4⟩
  ·have nr : c1 = some z := hz
   subst nr
   exact Te ⟨g1, z, rfl, hr⟩
  ·have nr : c1 = none := hz
   subst nr
   dsimp only
   refine S6 (wpS_lift (UI ⟨rfl, ?_⟩))
   refine S6 (UC (Ug (I := fun x (c : H2) aB => Gq aM aB /\ c.1 = none /\ zw rk a b n c.2.1 c.2.2.1 c.2.2.2.1)
    (Q := fun (c : H2) aB => Gq aM aB /\ ((∃ z, c.1 = some z /\ Res rk a b z) \/ (c.1 = none /\ zw rk a b n c.2.1 c.2.2.1 c.2.2.2.1))) ?Af (fun c aB h => ⟨h.1, .inr h.2⟩) ⟨g1, rfl, h1, h2, h3, h4⟩) ?Az)
   case Af =>
    rintro x c bx _ hx ⟨h1, h2, h3, h4, h5, h6⟩
    refine UC (B3 hc T h1 kk h3 h4 h5 (SX _)) fun r EA hr => ?_
    obtain ⟨g1, g2⟩ := hr
    cases r with
    | done d =>
     rcases g2 with z | ⟨z1, z2, z3, z4, z5⟩
     ·exact ⟨g1, .inl z⟩
     ·exact ⟨g1, .inr ⟨z1, z2, z3, z4, by omega⟩⟩
    | yield d =>
     obtain ⟨z1, z2, z3, z4, z5⟩ := g2
     exact ⟨g1, z1, z2, z3, z4, by omega⟩
   case Az =>
    rintro ⟨c1, i, j, out, g, ca, cb⟩ bx ⟨g1, h⟩
    rcases h with ⟨z, hz, hr⟩ | ⟨hz, h1⟩
    ·have nr : c1 = some z := hz
     subst nr
     exact Te ⟨g1, z, rfl, hr⟩
    ·have nr : c1 = none := hz
     subst nr
     exact S6 (kI (Te ⟨g1.set _, rfl, h1⟩))
theorem MH.zero (rk : Keyed -> Nat) (a b : Array Keyed) : MH rk a b #[] a.size b.size :=
 ⟨SX _, SX _, by simp, by rw [Ta (by simp), Ta (by simp)]; simp, by simp, fun x _ y hy => by simp at hy, fun x _ y hy => by simp at hy⟩
theorem Ce {st : SortSt} {Q : Array Keyed -> SortSt -> Prop} (hc : mR prog w A E s rk S kd) (T : ql rk S a b) (ha : 1 <= a.size) (hb : 1 <= b.size) (kk : kindOf st = kd) (h : ∀ r aB, Gq st aB -> Res rk a b r -> Q r aB) :
  wpS (model prog w) A E s (JM a b) Q st := by
 rw [Dm]
 refine S6 (wpS_lift (UI ⟨rfl, ?_⟩))
 have qa : a.size - 1 < a.size := by omega
 refine S6 (aW qa ?_)
 have el : a.toList[a.size - 1]? = some a[a.size - 1] := by rw [S1 (show a.size - 1 < a.toList.length by rw [S5]; omega)]; simp
 have M : MH rk a b #[a[a.size - 1]] (a.size - 1) b.size := (MH.zero rk a b).qw T.sa ha fun x hx => T.last x (Uy hx) _ el
 by_cases e : (a.size - 1 == 0) = true
 ·rw [if_pos e]
  exact Te (h _ _ (Gq.refl st) (M.Ah T.sa T.sb (.inl (by simpa using e))))
 rw [if_neg e]
 have e' : a.size - 1 ≠ 0 := by simpa using e
 by_cases f : (b.size == 1) = true
 ·rw [if_pos f]
  exact Te (h _ _ (Gq.refl st) (M.Di T.sa T.sb (by simpa using f) T.first))
 rw [if_neg f]
 have f' : b.size ≠ 1 := by simpa using f
 refine S6 (wpS_get ?_)
 refine S6 (UC (Ug (I := fun x (c : H3) aB => Gq st aB /\ c.1 = none /\ zw rk a b x c.2.1 c.2.2.1 c.2.2.2.1)
  (Q := fun (c : H3) aB => Gq st aB /\ ∃ z, c.1 = some z /\ Res rk a b z) ?step ?fin ⟨Gq.refl st, rfl, M, (by show 0 < a.size - 1; omega), (by show 1 < b.size; omega), by show 0 < 1; decide⟩) ?post)
 case fin =>
  rintro c aB ⟨h1, h2, h3, h4, h5, h6⟩
  have := h3.sz
  omega
 case step =>
  rintro x c aB _ hx ⟨h1, h2, h3, h4, h5, h6⟩
  refine UC (Db hc T h1 kk h3 h4 h5 (SX _)) fun r bx hr => ?_
  obtain ⟨g1, g2⟩ := hr
  cases r with
  | done d => exact ⟨g1, g2⟩
  | yield d =>
   obtain ⟨z1, z2, z3, z4, z5⟩ := g2
   exact ⟨g1, z1, z2, z3, z4, by omega⟩
 case post =>
  rintro ⟨c1, i, j, out, g⟩ aB ⟨g1, z, hz, hr⟩
  have nr : c1 = some z := hz
  subst nr
  exact Te (h z aB g1 hr)
end
abbrev sg (l : List Keyed) (lo n : Nat) : List Keyed := (l.drop lo).take n
def back (m : Array Keyed) (lo : Nat) (xs : Array Keyed) : Array Keyed := m.toList.zipIdx.foldl (fun a (p, j) => a.setIfInBounds (lo + j) p) xs
theorem FV (i : Nat) : mergeAt' i = (do
  let s <- get
  let (some (sa, na, pw), some (sb, nb, _)) := ((pendingOf s)[i]?, (pendingOf s)[i + 1]?) | unsupported "internal:list.sort.pending"
  set (setPending s (((pendingOf s).setIfInBounds i (sa, na + nb, pw)).eraseIdxIfInBounds (i + 1)))
  let some k <- zn false (<- elem' (arrOf s) sb) (arrOf s) sa na 0 | return false
  let (sa, na) := (sa + k, na - k)
  if na == 0 then return true
  let some nb <- zn true (<- elem' (arrOf s) (sa + na - 1)) (arrOf s) sb nb (nb - 1) | return false
  if nb == 0 then return true
  let x := (arrOf s).extract sa sb
  let y := (arrOf s).extract sb (sb + nb)
  let m <- if na <= nb then Kc x y else JM x y
  modify fun s => setArr s (back m sa (arrOf s))
  return (failedOf (<- get)).isNone) := rfl
theorem rm (lo : Nat) : ∀ (l : List Keyed) (n : Nat) (xs : Array Keyed), lo + n + l.length <= xs.size -> ((l.zipIdx n).foldl (fun a (p : Keyed × Nat) => a.setIfInBounds (lo + p.2) p.1) xs).toList = xs.toList.take (lo + n) ++ l ++ xs.toList.drop (lo + n + l.length)
 | [], n, xs, h => by simp
 | p :: l, n, xs, h => by
  rw [TY] at h
  rw [List.zipIdx_cons, UZ, rm lo l (n + 1) _ (by rw [Array.size_setIfInBounds]; omega), Array.toList_setIfInBounds]
  have hl : lo + n < xs.toList.length := by rw [S5]; omega
  have e1 : (xs.toList.set (lo + n) p).take (lo + (n + 1)) = xs.toList.take (lo + n) ++ [p] := by
   rw [<- Nat.add_assoc, To, List.take_set_of_le (SX _), List.getElem?_set_self hl]
   rfl
  have e2 : (xs.toList.set (lo + n) p).drop (lo + (n + 1) + l.length) = xs.toList.drop (lo + n + (p :: l).length) := by
   rw [List.drop_set_of_lt (by omega), TY]
   congr 1
   omega
  rw [e1, e2]
  simp
theorem ym (m : Array Keyed) (lo : Nat) (xs : Array Keyed) (h : lo + m.size <= xs.size) : (back m lo xs).toList = xs.toList.take lo ++ m.toList ++ xs.toList.drop (lo + m.size) := by
 have := rm lo m.toList 0 xs (by simpa using h)
 simp at this
 unfold back
 rw [<- Tf] at this
 exact this
theorem iI (l : List Keyed) (lo m n : Nat) : sg l lo (m + n) = sg l lo m ++ sg l (lo + m) n := by
 unfold sg
 rw [List.take_add, UD]
theorem rN (l : List Keyed) (lo n : Nat) : l = l.take lo ++ sg l lo n ++ l.drop (lo + n) := by
 unfold sg
 rw [Tf, <- UD, UX, UX]
theorem xa (l : List Keyed) (lo k n : Nat) (h : k <= n) : (sg l lo n).drop k = sg l (lo + k) (n - k) := by
 unfold sg
 rw [List.drop_take, UD]
theorem eO (l : List Keyed) (lo n : Nat) (h : lo + n <= l.length) : (sg l lo n).length = n := by
 unfold sg
 rw [Tl, Vv]
 omega
theorem km (l : List Keyed) (lo n i : Nat) (h : i < n) : (sg l lo n)[i]? = l[lo + i]? := by
 unfold sg
 rw [List.getElem?_take, if_pos h, List.getElem?_drop]
theorem By {l : List Keyed} {lo n : Nat} {x : Keyed} (h : x ∈ sg l lo n) : x ∈ l := List.mem_of_mem_drop (Uy h)
theorem Dh {rk : Keyed -> Nat} {l : List Keyed} {lo n : Nat} {y : Keyed} (s : fk rk (sg l lo n)) (hy : l[lo]? = some y) (h : lo + n <= l.length) : ∀ x ∈ sg l lo n, rk y <= rk x := fun x hx => by
 obtain ⟨m, hm, e⟩ := Uo.mp hx
 have h0 : 0 < (sg l lo n).length := by omega
 have g0 : (sg l lo n)[0]? = some y := by
  rw [km _ _ _ _ (by rw [eO l lo n h] at h0; exact h0)]
  exact hy
 have := iJ s (Tw m) hm
 rw [S1 h0] at g0
 rw [T8 g0, e] at this
 exact this
theorem xQ {rk : Keyed -> Nat} {l : List Keyed} {lo n : Nat} {y : Keyed} (s : fk rk (sg l lo n)) (hn : 1 <= n) (hy : l[lo + n - 1]? = some y) (h : lo + n <= l.length) : ∀ x ∈ sg l lo n, rk x <= rk y := fun x hx => by
 obtain ⟨m, hm, e⟩ := Uo.mp hx
 have len := eO l lo n h
 have h0 : n - 1 < (sg l lo n).length := by omega
 have g0 : (sg l lo n)[n - 1]? = some y := by
  rw [km _ _ _ _ (by omega), show lo + (n - 1) = lo + n - 1 by omega]
  exact hy
 have := iJ s (show m <= n - 1 by omega) h0
 rw [S1 h0] at g0
 rw [T8 g0, e] at this
 exact this
section
variable {prog : Program} {w : World} {A : Around} {E : Value -> Shared -> Prop} {s : Shared} {rk : Keyed -> Nat} {S : Keyed -> Prop} {kd : SortKind}
theorem Cc {st aB : SortSt} {Q : PUnit -> SortSt -> Prop} (h : Q ⟨⟩ aB) : wpS (model prog w) A E s (set aB : SM PUnit) Q st := by
 unfold wpS
 exact SU ⟨rfl, h⟩
theorem CV {i sa na pw sb nb GG : Nat} {st : SortSt} {Q : Bool -> SortSt -> Prop} (hc : mR prog w A E s rk S kd) (kk : kindOf st = kd) (hf : failedOf st = none) (hS : ∀ x ∈ (arrOf st).toList, S x)
  (p1 : (pendingOf st)[i]? = some (sa, na, pw)) (p2 : (pendingOf st)[i + 1]? = some (sb, nb, GG)) (e : sb = sa + na) (n1 : 1 <= na) (n2 : 1 <= nb) (hsz : sb + nb <= (arrOf st).size)
  (s1 : fk rk (sg (arrOf st).toList sa na)) (s2 : fk rk (sg (arrOf st).toList sb nb))
  (h : ∀ aB (l : List Keyed), kindOf aB = kd -> failedOf aB = none -> pendingOf aB = ((pendingOf st).setIfInBounds i (sa, na + nb, pw)).eraseIdxIfInBounds (i + 1) -> l.Perm (sg (arrOf st).toList sa (na + nb)) -> fk rk l ->
   (arrOf aB).toList = (arrOf st).toList.take sa ++ l ++ (arrOf st).toList.drop (sa + (na + nb)) -> Q true aB) : wpS (model prog w) A E s (mergeAt' i) Q st := by
 rw [FV]
 refine S6 (wpS_get ?_)
 rw [p1, p2]
 dsimp only
 refine S6 (Cc ?_)
 have L : (arrOf st).toList.length = (arrOf st).size := S5
 have qb : sb < (arrOf st).size := by omega
 refine S6 (aW qb (S6 (jt hc (by omega) (by omega) hS (hS _ (by simp)) kk s1 fun k hk g1 g2 => ?_)))
 dsimp only
 have ky : (arrOf st).toList[sb]? = some (arrOf st)[sb] := by rw [S1 (by rw [L]; exact qb)]; simp
 generalize (arrOf st)[sb] = y0 at ky g1 g2
 have Da : ∀ x ∈ sg (arrOf st).toList sa k, rk x <= rk y0 := fun x hx => by
  have := g1 x hx
  unfold Pb at this
  simpa using this
 have HA : ∀ x ∈ sg (arrOf st).toList (sa + k) (na - k), rk y0 < rk x := fun x hx => by
  have := g2 x (by rw [xa _ _ _ _ hk]; exact hx)
  unfold Pb at this
  simpa using this
 have hd := Dh s2 ky (by rw [L]; omega)
 have eA : sg (arrOf st).toList sa na = sg (arrOf st).toList sa k ++ sg (arrOf st).toList (sa + k) (na - k) := by
  have := iI (arrOf st).toList sa k (na - k)
  rw [show k + (na - k) = na by omega] at this
  exact this
 have MN : sg (arrOf st).toList sa (na + nb) = sg (arrOf st).toList sa na ++ sg (arrOf st).toList sb nb := by rw [iI, e]
 have whole : ∀ {aB : SortSt}, kindOf aB = kd -> failedOf aB = none -> pendingOf aB = ((pendingOf st).setIfInBounds i (sa, na + nb, pw)).eraseIdxIfInBounds (i + 1) -> arrOf aB = arrOf st -> (∀ x ∈ sg (arrOf st).toList sa na, ∀ y ∈ sg (arrOf st).toList sb nb, rk x <= rk y) -> Q true aB := fun {aB} a1 a2 a3 a4 a5 => by
  refine h aB (sg (arrOf st).toList sa (na + nb)) a1 a2 a3 (List.Perm.refl _) ?_ (by rw [a4]; exact rN _ _ _)
  rw [MN]
  exact Tj.mpr ⟨s1, s2, a5⟩
 by_cases hz : (na - k == 0) = true
 ·rw [if_pos hz]
  have nr : na - k = 0 := by simpa using hz
  have : k = na := by omega
  subst this
  exact Te (whole kk hf rfl rfl fun x hx y hy => S8 (Da x hx) (hd y hy))
 rw [if_neg hz]
 have nr : na - k ≠ 0 := by simpa using hz
 have qa : sa + k + (na - k) - 1 < (arrOf st).size := by omega
 refine S6 (aW qa (S6 (jt hc (by omega) (by omega) hS (hS _ (by simp)) kk s2 fun t ht g3 g4 => ?_)))
 dsimp only
 have kl : (arrOf st).toList[sa + k + (na - k) - 1]? = some (arrOf st)[sa + k + (na - k) - 1] := by rw [S1 (by rw [L]; exact qa)]; simp
 generalize (arrOf st)[sa + k + (na - k) - 1] = y1 at kl g3 g4
 have Rs : ∀ x ∈ sg (arrOf st).toList sb t, rk x < rk y1 := fun x hx => by
  have := g3 x hx
  unfold Pb at this
  simpa using this
 have Nz : ∀ x ∈ sg (arrOf st).toList (sb + t) (nb - t), rk y1 <= rk x := fun x hx => by
  have := g4 x (by rw [xa _ _ _ _ ht]; exact hx)
  unfold Pb at this
  simpa using this
 have M9 := xQ s1 n1 (by rw [show sa + na - 1 = sa + k + (na - k) - 1 by omega]; exact kl) (by rw [L]; omega)
 have eB : sg (arrOf st).toList sb nb = sg (arrOf st).toList sb t ++ sg (arrOf st).toList (sb + t) (nb - t) := by
  have := iI (arrOf st).toList sb t (nb - t)
  rw [show t + (nb - t) = nb by omega] at this
  exact this
 by_cases hy : (t == 0) = true
 ·rw [if_pos hy]
  have gd : t = 0 := by simpa using hy
  subst gd
  refine Te (whole kk hf rfl rfl fun x hx y hy => S8 (M9 x hx) (Nz y ?_))
  simpa using hy
 rw [if_neg hy]
 have gd : t ≠ 0 := by simpa using hy
 have tX : ((arrOf st).extract (sa + k) sb).toList = sg (arrOf st).toList (sa + k) (na - k) := by rw [bJ, show sb - (sa + k) = na - k by omega]
 have tY : ((arrOf st).extract sb (sb + t)).toList = sg (arrOf st).toList sb t := by rw [bJ, VL]
 have zX : ((arrOf st).extract (sa + k) sb).size = na - k := by rw [Vf]; omega
 have zY : ((arrOf st).extract sb (sb + t)).size = t := by rw [Vf]; omega
 have pA := Tj.mp (eA ▸ s1)
 have pB := Tj.mp (eB ▸ s2)
 have T : ql rk S ((arrOf st).extract (sa + k) sb) ((arrOf st).extract sb (sb + t)) := by
  refine ⟨by rw [tX]; exact pA.2.1, by rw [tY]; exact pB.1, fun x hx => hS x (By (by rw [<- tX]; exact hx)), fun x hx => hS x (By (by rw [<- tY]; exact hx)), fun y hy x hx => ?_, fun y hy x hx => ?_⟩
  ·rw [tX, zX, km _ _ _ _ (by omega), show sa + k + (na - k - 1) = sa + k + (na - k) - 1 by omega, kl] at hx
   rw [<- T8 hx]
   exact Vs (Rs y (by rw [<- tY]; exact hy))
  ·rw [tY, km _ _ _ _ (by omega), Nat.add_zero, ky] at hx
   rw [<- T8 hx]
   exact Vs (HA y (by rw [<- tX]; exact hy))
 have fin : ∀ (m : Array Keyed) (aB : SortSt), Gq (setPending st (((pendingOf st).setIfInBounds i (sa, na + nb, pw)).eraseIdxIfInBounds (i + 1))) aB -> Res rk ((arrOf st).extract (sa + k) sb) ((arrOf st).extract sb (sb + t)) m ->
   wpS (model prog w) A E s (do modify fun s => setArr s (back m (sa + k) (arrOf s)); return (failedOf (<- get)).isNone : SM Bool) Q aB := by
  rintro m aB ⟨g, rfl⟩ ⟨mp, ms⟩
  rw [tX, tY] at mp
  have zm : m.size = (na - k) + t := by
   have := mp.length_eq
   rw [Tq, S5, eO _ _ _ (by rw [L]; omega), eO _ _ _ (by rw [L]; omega)] at this
   exact this
  refine S6 (Vn (S6 (wpS_get (Te ?_))))
  have KB : (failedOf st).isNone = true := by rw [hf]; rfl
  show Q (failedOf st).isNone _
  rw [KB]
  refine h _ (sg (arrOf st).toList sa k ++ m.toList ++ sg (arrOf st).toList (sb + t) (nb - t)) kk hf rfl ?_ ?_ ?_
  ·rw [MN, eA, eB]
   refine List.Perm.trans (Vg _ (UY _ mp)) ?_
   simp
  ·refine Tj.mpr ⟨Tj.mpr ⟨pA.1, ms, fun x hx y hy => ?_⟩, pB.2.1, fun x hx y hy => ?_⟩
   ·rcases Ts.mp (mp.mem_iff.mp hy) with z | z
    ·exact pA.2.2 x hx y z
    ·exact S8 (Da x hx) (hd y (by rw [eB]; exact Uz _ z))
   ·rcases Ts.mp hx with z | z
    ·exact S8 (Da x z) (hd y (by rw [eB]; exact TC _ hy))
    ·rcases Ts.mp (mp.mem_iff.mp z) with z | z
     ·exact S8 (M9 x (by rw [eA]; exact TC _ z)) (Nz y hy)
     ·exact pB.2.2 x z y hy
  ·show (back m (sa + k) (arrOf st)).toList = _
   rw [ym _ _ _ (by omega), zm]
   have c1 : (arrOf st).toList.take (sa + k) = (arrOf st).toList.take sa ++ sg (arrOf st).toList sa k := List.take_add
   have c2 : (arrOf st).toList.drop (sa + k + (na - k + t)) = sg (arrOf st).toList (sb + t) (nb - t) ++ (arrOf st).toList.drop (sa + (na + nb)) := by
    rw [show sa + k + (na - k + t) = sb + t by omega, show sa + (na + nb) = (sb + t) + (nb - t) by omega]
    unfold sg
    rw [<- UD (i := nb - t), UX]
   rw [c1, c2]
   simp
 split
 ·exact S6 (C9 hc T (by rw [zX]; omega) (by rw [zY]; omega) kk fin)
 ·exact S6 (Ce hc T (by rw [zX]; omega) (by rw [zY]; omega) kk fin)
end
def jM (xs ys : List Keyed) (lo n : Nat) : Prop := ∃ l : List Keyed, l.Perm (sg xs lo n) /\ ys = xs.take lo ++ l ++ xs.drop (lo + n)
theorem jM.refl (xs : List Keyed) (lo n : Nat) : jM xs xs lo n := ⟨_, List.Perm.refl _, rN xs lo n⟩
theorem jM.len {xs ys : List Keyed} {lo n : Nat} (h : jM xs ys lo n) : ys.length = xs.length := by
 obtain ⟨l, hp, e⟩ := h
 have h1 := Um List.length (rN xs lo n)
 rw [e, Tq, Tq, hp.length_eq]
 rw [Tq, Tq] at h1
 omega
theorem jM.perm {xs ys : List Keyed} {lo n : Nat} (h : jM xs ys lo n) : ys.Perm xs := by
 obtain ⟨l, hp, e⟩ := h
 rw [e]
 conv => rhs; rw [rN xs lo n]
 exact Vg _ (UY _ hp)
theorem jM.parts {xs ys l : List Keyed} {lo n : Nat} (hp : l.Perm (sg xs lo n)) (e : ys = xs.take lo ++ l ++ xs.drop (lo + n)) (h : lo + n <= xs.length) : ys.take lo = xs.take lo /\ sg ys lo n = l /\ ys.drop (lo + n) = xs.drop (lo + n) := by
 have l1 : (xs.take lo).length = lo := by rw [Tl]; omega
 have l2 : l.length = n := by rw [hp.length_eq, eO xs lo n h]
 refine ⟨?_, ?_, ?_⟩
 ·rw [e, Tf, List.take_left' l1]
 ·unfold sg
  rw [e, Tf, List.drop_left' l1, List.take_left' l2]
 ·rw [e, <- UD, Tf, List.drop_left' l1, List.drop_left' l2]
theorem jM.ahead {xs ys : List Keyed} {lo n p m : Nat} (h : jM xs ys lo n) (hl : lo + n <= xs.length) (hp : p + m <= lo) : sg ys p m = sg xs p m := by
 obtain ⟨l, h1, e⟩ := h
 obtain ⟨e1, _, _⟩ := jM.parts h1 e hl
 have f : ∀ zs : List Keyed, sg zs p m = sg (zs.take lo) p m := fun zs => by
  unfold sg
  rw [List.drop_take, List.take_take, Nat.min_eq_left (by omega)]
 rw [f ys, f xs, e1]
theorem jM.behind {xs ys : List Keyed} {lo n p m : Nat} (h : jM xs ys lo n) (hl : lo + n <= xs.length) (hp : lo + n <= p) : sg ys p m = sg xs p m := by
 obtain ⟨l, h1, e⟩ := h
 obtain ⟨_, _, e3⟩ := jM.parts h1 e hl
 have f : ∀ zs : List Keyed, zs.drop p = (zs.drop (lo + n)).drop (p - (lo + n)) := fun zs => by rw [UD]; congr 1; omega
 unfold sg
 rw [f ys, f xs, e3]
theorem jM.trans {xs ys zs : List Keyed} {lo n m : Nat} (h1 : jM xs ys lo n) (h2 : jM ys zs lo m) (SN : n <= m) (hl : lo + m <= xs.length) : jM xs zs lo m := by
 obtain ⟨l1, p1, e1⟩ := h1
 obtain ⟨l2, p2, e2⟩ := h2
 obtain ⟨a1, a2, a3⟩ := jM.parts p1 e1 (by omega)
 refine ⟨l2, p2.trans ?_, ?_⟩
 ·have b1 : sg ys lo m = sg ys lo n ++ sg ys (lo + n) (m - n) := by rw [<- iI, show n + (m - n) = m by omega]
  have b2 : sg xs lo m = sg xs lo n ++ sg xs (lo + n) (m - n) := by rw [<- iI, show n + (m - n) = m by omega]
  rw [b1, b2, a2]
  refine List.Perm.append p1 ?_
  unfold sg
  rw [a3]
 ·rw [e2, a1]
  congr 1
  have f : ∀ zs : List Keyed, zs.drop (lo + m) = (zs.drop (lo + n)).drop (m - n) := fun zs => by rw [UD]; congr 1; omega
  rw [f ys, f xs, a3]
structure Sa (st aB : SortSt) : Prop where
 k : kindOf aB = kindOf st
 f : failedOf aB = failedOf st
 p : pendingOf aB = pendingOf st
theorem Sa.refl (st : SortSt) : Sa st st := ⟨rfl, rfl, rfl⟩
theorem Sa.set {st aB : SortSt} (h : Sa st aB) (xs : Array Keyed) : Sa st (setArr aB xs) := ⟨h.k, h.f, h.p⟩
theorem u4 (xs : Array Keyed) (lo n : Nat) (h : lo + n <= xs.size) : (mirror xs lo (lo + n) ((lo + n - lo) / 2)).toList = xs.toList.take lo ++ (sg xs.toList lo n).reverse ++ xs.toList.drop (lo + n) := by
 apply List.ext_getElem?
 intro k
 rw [T9, getElem?_mirror_all h]
 have L : xs.toList.length = xs.size := S5
 have lt : (xs.toList.take lo).length = lo := by rw [Tl]; omega
 have ls : (sg xs.toList lo n).length = n := eO _ _ _ (by rw [L]; exact h)
 by_cases h1 : k < lo
 ·rw [if_neg (by omega), Tf, Ur (by omega), List.getElem?_take, if_pos h1, T9]
 by_cases h2 : k < lo + n
 ·rw [if_pos ⟨by omega, h2⟩, Tf, TW (by omega), lt, Ur (by rw [List.length_reverse]; omega), List.getElem?_reverse (by omega), ls, km _ _ _ _ (by omega), T9]
  congr 1
  omega
 ·rw [if_neg (by omega), TW (by rw [Tq, List.length_reverse]; omega), Tq, List.length_reverse, lt, ls, List.getElem?_drop, T9]
  congr 1
  omega
theorem uW (xs : Array Keyed) (lo k l : Nat) (hl : l <= k) (h : lo + k < xs.size) : (bubble xs (lo + k) (lo + k - (lo + l))).toList = xs.toList.take lo ++ (sg xs.toList lo l ++ (xs[lo + k]'h :: sg xs.toList (lo + l) (k - l))) ++ xs.toList.drop (lo + (k + 1)) := by
 apply List.ext_getElem?
 intro i
 rw [T9, getElem?_bubble h _ (by omega)]
 have L : xs.toList.length = xs.size := S5
 have lt : (xs.toList.take lo).length = lo := by rw [Tl]; omega
 have l1 : (sg xs.toList lo l).length = l := eO _ _ _ (by omega)
 have l2 : (sg xs.toList (lo + l) (k - l)).length = k - l := eO _ _ _ (by omega)
 by_cases h1 : i < lo
 ·rw [if_neg (by omega), if_neg (by omega), Tf, Ur (by omega), List.getElem?_take, if_pos h1, T9]
 by_cases h2 : i < lo + l
 ·rw [if_neg (by omega), if_neg (by omega), Tf, TW (by omega), lt, Tf, Ur (by omega), km _ _ _ _ (by omega), T9]
  congr 1
  omega
 by_cases h3 : i = lo + l
 ·rw [if_pos (by omega), Tf, TW (by omega), lt, Tf, TW (by omega), l1, show i - lo - l = 0 by omega]
  simp
 by_cases h4 : i <= lo + k
 ·rw [if_neg (by omega), if_pos (by omega), Tf, TW (by omega), lt, Tf, TW (by omega), l1, show i - lo - l = (i - lo - l - 1) + 1 by omega, List.cons_append, List.getElem?_cons_succ, Ur (by omega), km _ _ _ _ (by omega), T9]
  congr 1
  omega
 ·rw [if_neg (by omega), if_neg (by omega), TW (by simp only [Tq, TY]; omega), Tq, Tq, TY, lt, l1, l2, List.getElem?_drop, T9]
  congr 1
  omega
section
variable {prog : Program} {w : World} {A : Around} {E : Value -> Shared -> Prop} {s : Shared} {rk : Keyed -> Nat} {S : Keyed -> Prop} {kd : SortKind}
theorem lr {st : SortSt} {i j : Nat} {Q : Option Bool -> SortSt -> Prop} (hc : mR prog w A E s rk S kd) (kk : kindOf st = kd) (hS : ∀ x ∈ (arrOf st).toList, S x) (hi : i < (arrOf st).size) (hj : j < (arrOf st).size)
  (h : Q (some (decide (rk (arrOf st)[i] < rk (arrOf st)[j]))) st) : wpS (model prog w) A E s (ltAt' i j) Q st := by
 rw [ltAt'_eq]
 refine S6 (wpS_get ?_)
 refine S6 (aW hi (S6 (aW hj ?_)))
 exact hc _ _ st Q (hS _ (by simp)) (hS _ (by simp)) kk h
theorem ze {lo n ok : Nat} {st : SortSt} {Q : Bool -> SortSt -> Prop} (hc : mR prog w A E s rk S kd) (kk : kindOf st = kd) (hS : ∀ x ∈ (arrOf st).toList, S x) (hn : lo + n <= (arrOf st).size) (h1 : 1 <= ok) (aV : ok <= n) (s1 : fk rk (sg (arrOf st).toList lo ok))
  (h : ∀ aB, Sa st aB -> jM (arrOf st).toList (arrOf aB).toList lo n -> fk rk (sg (arrOf aB).toList lo n) -> Q true aB) : wpS (model prog w) A E s (binarySort' lo n ok) Q st := by
 rw [binarySort'_eq]
 have L : (arrOf st).toList.length = (arrOf st).size := S5
 refine S6 (UC (Ug (I := fun k c aB => c = (none, ()) /\ Sa st aB /\ (arrOf aB).size = (arrOf st).size /\ jM (arrOf st).toList (arrOf aB).toList lo (min k n) /\ fk rk (sg (arrOf aB).toList lo (min k n)))
  (Q := fun c aB => c = (none, ()) /\ Sa st aB /\ jM (arrOf st).toList (arrOf aB).toList lo n /\ fk rk (sg (arrOf aB).toList lo n)) ?step ?fin ?init) ?post)
 case init => exact ⟨rfl, Sa.refl st, rfl, jM.refl _ _ _, by rw [show min (max ok 1) n = ok by omega]; exact s1⟩
 case fin =>
  rintro c aB ⟨w5, sa, _, pt, so⟩
  rw [show min (max (max ok 1) n) n = n by omega] at pt so
  exact ⟨w5, sa, pt, so⟩
 case post =>
  rintro c aB ⟨rfl, sa, pt, so⟩
  exact Te (h aB sa pt so)
 case step =>
  rintro k c aB Sr Sx ⟨rfl, sa, sz, pt, so⟩
  rw [show min k n = k by omega] at pt so
  have L' : (arrOf aB).toList.length = (arrOf aB).size := S5
  have qk : lo + k < (arrOf aB).size := by omega
  have zG : ∀ x ∈ (arrOf aB).toList, S x := fun x hx => hS x (pt.perm.mem_iff.mp hx)
  have gk : ∀ i (hi : i < k), (sg (arrOf aB).toList lo k)[i]'(by rw [eO _ _ _ (by omega)]; exact hi) = (arrOf aB)[lo + i]'(by omega) := fun i hi => by
   unfold sg
   rw [Vm, U1]
   simp
  refine S6 (UC (Ug (I := fun x c bx => bx = aB /\ ∃ l r, c = (none, l, r) /\ l <= r /\ r <= k /\ r - l <= k - x /\ (∀ i (hi : i < k), i < l -> rk ((arrOf aB)[lo + i]'(by omega)) <= rk (arrOf aB)[lo + k]) /\ (∀ i (hi : i < k), r <= i -> rk (arrOf aB)[lo + k] <= rk ((arrOf aB)[lo + i]'(by omega))))
   (Q := fun c bx => bx = aB /\ ∃ l r, c = (none, l, r) /\ l <= k /\ (∀ i (hi : i < k), i < l -> rk ((arrOf aB)[lo + i]'(by omega)) <= rk (arrOf aB)[lo + k]) /\ (∀ i (hi : i < k), l <= i -> rk (arrOf aB)[lo + k] <= rk ((arrOf aB)[lo + i]'(by omega)))) ?Ij ?Lh ?Iw) ?G9)
  case Iw => exact ⟨rfl, 0, k, rfl, by omega, by omega, by omega, fun i hi h => by omega, fun i hi h => by omega⟩
  case Lh =>
   rintro c bx ⟨rfl, l, r, rfl, a1, a2, a3, a4, a5⟩
   have : l = r := by omega
   subst this
   exact ⟨rfl, l, l, rfl, a2, a4, a5⟩
  case Ij =>
   rintro x c bx _ hx ⟨rfl, l, r, rfl, a1, a2, a3, a4, a5⟩
   dsimp only
   by_cases sO : l >= r
   ·rw [if_pos sO]
    have : l = r := by omega
    subst this
    exact Te ⟨rfl, l, l, rfl, a2, a4, a5⟩
   ·rw [if_neg sO]
    have qm : lo + (l + r) / 2 < (arrOf bx).size := by omega
    refine S6 (lr hc (sa.k.trans kk) zG qk qm ?_)
    dsimp only
    by_cases hb : rk (arrOf bx)[lo + k] < rk (arrOf bx)[lo + (l + r) / 2]
    ·rw [S9 hb, if_pos rfl]
     refine Te ⟨rfl, l, (l + r) / 2, rfl, by omega, by omega, by omega, a4, fun i hi hm => ?_⟩
     have := iJ so (show (l + r) / 2 <= i from hm) (by rw [eO _ _ _ (by omega)]; exact hi)
     rw [gk _ (by omega), gk i hi] at this
     omega
    ·rw [Tp hb, if_neg S3]
     refine Te ⟨rfl, (l + r) / 2 + 1, r, rfl, by omega, by omega, by omega, fun i hi hm => ?_, a5⟩
     have := iJ so (show i <= (l + r) / 2 by omega) (by rw [eO _ _ _ (by omega)]; omega)
     rw [gk i hi, gk ((l + r) / 2) (by omega)] at this
     omega
  case G9 =>
   rintro c bx ⟨rfl, l, r, rfl, a2, a4, a5⟩
   dsimp only
   rw [moveDown'_eq]
   refine S6 (Vn (Te ?_))
   have bl := uW (arrOf bx) lo k l a2 qk
   have es : sg (arrOf bx).toList lo k = sg (arrOf bx).toList lo l ++ sg (arrOf bx).toList (lo + l) (k - l) := by rw [<- iI, show l + (k - l) = k by omega]
   have ek : sg (arrOf bx).toList (lo + k) 1 = [(arrOf bx)[lo + k]] := by
    unfold sg
    rw [take1 (by rw [L']; exact qk)]
    simp
   have pm : (sg (arrOf bx).toList lo l ++ ((arrOf bx)[lo + k] :: sg (arrOf bx).toList (lo + l) (k - l))).Perm (sg (arrOf bx).toList lo (k + 1)) := by
    rw [iI, es, ek, Tf]
    exact UY _ (Vj (l₁ := [(arrOf bx)[lo + k]]))
   have p2 : jM (arrOf bx).toList (bubble (arrOf bx) (lo + k) (lo + k - (lo + l))).toList lo (k + 1) := ⟨_, pm, bl⟩
   obtain ⟨_, b2, _⟩ := jM.parts pm bl (by omega)
   refine ⟨rfl, sa.set _, by show (bubble _ _ _).size = _; rw [bubble_size]; exact sz, ?_, ?_⟩
   ·rw [show min (k + 1) n = k + 1 by omega]
    exact pt.trans p2 (by omega) (by omega)
   ·rw [show min (k + 1) n = k + 1 by omega]
    show fk rk (sg (bubble _ _ _).toList lo (k + 1))
    rw [b2]
    rw [es] at so
    have pw := Tj.mp so
    refine Tj.mpr ⟨pw.1, T0.mpr ⟨fun y hy => ?_, pw.2.1⟩, fun x hx y hy => ?_⟩
    ·obtain ⟨m, hm, e⟩ := Uo.mp hy
     have Eu : m < k - l := by rw [eO _ _ _ (by omega)] at hm; exact hm
     have : y = (arrOf bx)[lo + (l + m)]'(by omega) := by
      rw [<- e]
      unfold sg
      rw [Vm, U1]
      simp [Nat.add_assoc]
     rw [this]
     exact a5 (l + m) (by omega) (by omega)
    ·obtain ⟨m, hm, e⟩ := Uo.mp hx
     have Eu : m < l := by rw [eO _ _ _ (by omega)] at hm; exact hm
     have ex : x = (arrOf bx)[lo + m]'(by omega) := by
      rw [<- e]
      unfold sg
      rw [Vm, U1]
      simp
     rcases S2.mp hy with z | z
     ·rw [z, ex]
      exact a4 m (by omega) Eu
     ·exact pw.2.2 x hx y z
end
theorem lE (xs : Array Keyed) (lo n : Nat) (h : lo + n < xs.size) : sg xs.toList lo (n + 1) = sg xs.toList lo n ++ [xs[lo + n]] := by
 rw [iI]
 congr 1
 unfold sg
 rw [take1 (by rw [S5]; exact h)]
 simp
theorem n9 {rk : Keyed -> Nat} (xs : Array Keyed) (lo n : Nat) (h : lo + n <= xs.size) (h1 : 1 <= n) (s : fk rk (sg xs.toList lo n)) : ∀ x ∈ sg xs.toList lo n, rk x <= rk (xs[lo + n - 1]'(by omega)) :=
 xQ s h1 (by rw [S1 (by rw [S5]; omega)]; simp) (by rw [S5]; exact h)
theorem D5 {rk : Keyed -> Nat} {xs : Array Keyed} (nd : (xs.toList.map rk).Nodup) {i j : Nat} (hi : i < xs.size) (hj : j < xs.size) (BS : i ≠ j) : rk xs[i] ≠ rk xs[j] := fun e => by
 have h := List.nodup_iff_pairwise_ne.mp nd
 rw [T6] at h
 rw [List.pairwise_iff_getElem] at h
 rcases Nat.lt_or_gt_of_ne BS with z | z
 ·exact h i j (by rw [S5]; exact hi) (by rw [S5]; exact hj) z (by simpa using e)
 ·exact h j i (by rw [S5]; exact hj) (by rw [S5]; exact hi) z (by simpa using e.symm)
abbrev AS := Option (Option Nat) × Nat
abbrev DS := Option (Option Nat) × Nat × Nat
def asc (lo a br : Nat) : SM AS := forIn [a:br] ((none, a) : AS) fun _ c => do
 match <- ltAt' (lo + c.2) (lo + c.2 - 1) with
 | some sm => if sm = true then pure (.done (none, c.2)) else pure (.yield (none, c.2 + 1))
 | _ => pure (.done (some none, c.2))
def IN (lo a br : Nat) : SM DS := forIn [a:br] ((none, a, 0) : DS) fun _ c => do
 match <- ltAt' (lo + c.2.1) (lo + c.2.1 - 1) with
 | some sm =>
  if sm = true then
   if c.2.2 > 0 then do
    reverseSlice' (lo + c.2.1 - (c.2.2 + 1)) (lo + c.2.1)
    pure (.yield (none, c.2.1 + 1, 0))
   else pure (.yield (none, c.2.1 + 1, 0))
  else do
   match <- ltAt' (lo + c.2.1 - 1) (lo + c.2.1) with
   | some lg => if lg = true then pure (.done (none, c.2.1, c.2.2)) else pure (.yield (none, c.2.1 + 1, c.2.2 + 1))
   | _ => pure (.done (some none, c.2.1, c.2.2))
 | _ => pure (.done (some none, c.2.1, c.2.2))
def zE (lo n br : Nat) : SM (Option Nat) := do
 reverseSlice' lo (lo + n)
 let c <- asc lo n br
 match c.1 with
 | some r => pure r
 | none => pure (some c.2)
def Hx (lo n br : Nat) : SM (Option Nat) := do
 rule "list.sort.descending-run"
 let c <- IN lo (n + 1) br
 match c.1 with
 | some r => pure r
 | none =>
  if c.2.2 > 0 then do
   reverseSlice' (lo + c.2.1 - (c.2.2 + 1)) (lo + c.2.1)
   zE lo c.2.1 br
  else zE lo c.2.1 br
theorem zR (lo br : Nat) : countRun' lo br = (do
  let c <- asc lo 1 br
  match c.1 with
  | some r => pure r
  | none =>
   if (c.2 == br) = true then pure (some c.2)
   else if c.2 > 1 then do
    match <- ltAt' lo (lo + c.2 - 1) with
    | some Ha =>
     if Ha = true then pure (some c.2)
     else do
      reverseSlice' lo (lo + c.2)
      Hx lo c.2 br
    | _ => pure none
   else Hx lo c.2 br) := by
 rw [countRun'_eq]
 show (asc lo 1 br >>= _) = (asc lo 1 br >>= _)
 refine TZ fun c => ?_
 have t2 : ∀ n, (do
   reverseSlice' lo (lo + n)
   let c <- asc lo n br
   match c.1 with
   | some r => pure r
   | none => pure (some c.2) : SM (Option Nat)) = zE lo n br := fun n => rfl
 rcases c with ⟨_ | r, n⟩
 ·refine ite_congr rfl (fun _ => rfl) (fun _ => ?_)
  have T1 : ∀ n, (do
    rule "list.sort.descending-run"
    let c <- IN lo (n + 1) br
    match c.1 with
    | some r => pure r
    | none =>
     if c.2.2 > 0 then do
      reverseSlice' (lo + c.2.1 - (c.2.2 + 1)) (lo + c.2.1)
      zE lo c.2.1 br
     else zE lo c.2.1 br : SM (Option Nat)) = Hx lo n br := fun n => rfl
  have key : ∀ (f : DS -> SM (Option Nat)), (∀ r m q, f (some r, m, q) = pure r) -> (∀ m q, f (none, m, q) = (if q > 0 then do
      reverseSlice' (lo + m - (q + 1)) (lo + m)
      zE lo m br
     else zE lo m br)) -> (do
    rule "list.sort.descending-run"
    let c <- IN lo (n + 1) br
    f c) = Hx lo n br := fun f h1 h2 => by
   rw [<- T1 n]
   refine TZ fun _ => TZ fun c => ?_
   rcases c with ⟨_ | r, m, q⟩
   ·exact h2 m q
   ·exact h1 r m q
  have f2 : ∀ m q, (if q > 0 then (do
       reverseSlice' (lo + m - (q + 1)) (lo + m)
       zE lo m br : SM (Option Nat)) else zE lo m br) = (if q > 0 then do
      reverseSlice' (lo + m - (q + 1)) (lo + m)
      zE lo m br
     else zE lo m br) := fun _ _ => rfl
  refine ite_congr rfl (fun _ => ?_) (fun _ => ?_)
  ·refine TZ fun x => ?_
   cases x with
   | none => rfl
   | some Ha =>
    refine ite_congr rfl (fun _ => rfl) (fun _ => ?_)
    refine TZ fun _ => ?_
    refine key _ (fun r m q => rfl) (fun m q => ?_)
    refine ite_congr rfl (fun _ => ?_) (fun _ => ?_)
    ·refine TZ fun _ => TZ fun _ => TZ fun e => ?_
     rcases e with ⟨_ | r, n⟩
     ·rfl
     ·rfl
    ·refine TZ fun _ => TZ fun e => ?_
     rcases e with ⟨_ | r, n⟩
     ·rfl
     ·rfl
  ·refine key _ (fun r m q => rfl) (fun m q => ?_)
   refine ite_congr rfl (fun _ => ?_) (fun _ => ?_)
   ·refine TZ fun _ => TZ fun _ => TZ fun e => ?_
    rcases e with ⟨_ | r, n⟩
    ·rfl
    ·rfl
   ·refine TZ fun _ => TZ fun e => ?_
    rcases e with ⟨_ | r, n⟩
    ·rfl
    ·rfl
 ·rfl
section
variable {prog : Program} {w : World} {A : Around} {E : Value -> Shared -> Prop} {s : Shared} {rk : Keyed -> Nat} {S : Keyed -> Prop} {kd : SortKind}
theorem wV {lo a br : Nat} {st : SortSt} {Q : AS -> SortSt -> Prop} (hc : mR prog w A E s rk S kd) (kk : kindOf st = kd) (hS : ∀ x ∈ (arrOf st).toList, S x) (h1 : 1 <= a) (ha : a <= br) (hn : lo + br <= (arrOf st).size) (s1 : fk rk (sg (arrOf st).toList lo a))
  (h : ∀ n, a <= n -> n <= br -> fk rk (sg (arrOf st).toList lo n) -> (∀ gc : n < br, rk ((arrOf st)[lo + n]'(by omega)) < rk ((arrOf st)[lo + n - 1]'(by omega))) -> Q (none, n) st) : wpS (model prog w) A E s (asc lo a br) Q st := by
 unfold asc
 refine Ug (I := fun x c aB => aB = st /\ c = (none, x) /\ x <= br /\ fk rk (sg (arrOf st).toList lo x)) ?step ?fin ⟨rfl, rfl, ha, s1⟩
 case fin =>
  rintro c aB ⟨rfl, rfl, hx, hs⟩
  rw [show max a br = br by omega] at hs ⊢
  exact h br ha (SX _) hs fun gc => by omega
 case step =>
  rintro x c aB Lu hx ⟨rfl, rfl, _, hs⟩
  dsimp only
  refine S6 (lr hc kk hS (by omega) (by omega) ?_)
  dsimp only
  by_cases hb : rk ((arrOf aB)[lo + x]'(by omega)) < rk ((arrOf aB)[lo + x - 1]'(by omega))
  ·rw [S9 hb, if_pos rfl]
   exact Te (h x Lu (by omega) hs fun _ => hb)
  ·rw [Tp hb, if_neg S3]
   refine Te ⟨rfl, rfl, by omega, ?_⟩
   rw [lE _ _ _ (by omega)]
   refine Tj.mpr ⟨hs, VM _ _, fun y hy z hz => ?_⟩
   rw [TB.mp hz]
   have := n9 (arrOf aB) lo x (by omega) (by omega) hs y hy
   omega
theorem DL {lo a br : Nat} {st : SortSt} {Q : DS -> SortSt -> Prop} (hc : mR prog w A E s rk S kd) (kk : kindOf st = kd) (hS : ∀ x ∈ (arrOf st).toList, S x) (nd : ((arrOf st).toList.map rk).Nodup) (h1 : 1 <= a) (ha : a <= br) (hn : lo + br <= (arrOf st).size)
  (s1 : fk rk (sg (arrOf st).toList lo a).reverse) (h : ∀ n, a <= n -> n <= br -> fk rk (sg (arrOf st).toList lo n).reverse -> Q (none, n, 0) st) : wpS (model prog w) A E s (IN lo a br) Q st := by
 unfold IN
 refine Ug (I := fun x c aB => aB = st /\ c = (none, x, 0) /\ x <= br /\ fk rk (sg (arrOf st).toList lo x).reverse) ?step ?fin ⟨rfl, rfl, ha, s1⟩
 case fin =>
  rintro c aB ⟨rfl, rfl, hx, hs⟩
  rw [show max a br = br by omega] at hs ⊢
  exact h br ha (SX _) hs
 case step =>
  rintro x c aB Lu hx ⟨rfl, rfl, _, hs⟩
  dsimp only
  refine S6 (lr hc kk hS (by omega) (by omega) ?_)
  dsimp only
  by_cases hb : rk ((arrOf aB)[lo + x]'(by omega)) < rk ((arrOf aB)[lo + x - 1]'(by omega))
  ·rw [S9 hb, if_pos rfl, if_neg (by omega)]
   refine Te ⟨rfl, rfl, by omega, ?_⟩
   rw [lE _ _ _ (by omega), List.reverse_append]
   refine T0.mpr ⟨fun y hy => ?_, hs⟩
   obtain ⟨m, hm⟩ : ∃ m, x = m + 1 := ⟨x - 1, by omega⟩
   subst hm
   rw [lE _ _ _ (by omega), List.reverse_append] at hs hy
   have hp := T0.mp hs
   have e : lo + (m + 1) - 1 = lo + m := by omega
   have zF : rk ((arrOf aB)[lo + (m + 1)]'(by omega)) < rk ((arrOf aB)[lo + m]'(by omega)) := by
    have := hb
    simp only [e] at this
    exact this
   rcases S2.mp hy with z | z
   ·rw [z]; exact Vs zF
   ·exact S8 (Vs zF) (hp.1 y z)
  ·rw [Tp hb, if_neg S3]
   refine S6 (lr hc kk hS (by omega) (by omega) ?_)
   dsimp only
   have si := D5 nd (show lo + x < (arrOf aB).size by omega) (show lo + x - 1 < (arrOf aB).size by omega) (by omega)
   rw [S9 (show rk ((arrOf aB)[lo + x - 1]'(by omega)) < rk ((arrOf aB)[lo + x]'(by omega)) by omega), if_pos rfl]
   exact Te (h x Lu (by omega) hs)
theorem BB {lo br : Nat} {st : SortSt} {Q : Option Nat -> SortSt -> Prop} (hc : mR prog w A E s rk S kd) (kk : kindOf st = kd) (hS : ∀ x ∈ (arrOf st).toList, S x) (nd : ((arrOf st).toList.map rk).Nodup) (h1 : 1 <= br) (hn : lo + br <= (arrOf st).size)
  (h : ∀ n aB, 1 <= n -> n <= br -> Sa st aB -> jM (arrOf st).toList (arrOf aB).toList lo n -> fk rk (sg (arrOf aB).toList lo n) -> Q (some n) aB) : wpS (model prog w) A E s (countRun' lo br) Q st := by
 rw [zR]
 have L : (arrOf st).toList.length = (arrOf st).size := S5
 have one : ∀ (xs : Array Keyed) (p : Nat), fk rk (sg xs.toList p 1) := fun xs p => by
  unfold sg
  cases hd : xs.toList.drop p with
  | nil => exact .nil
  | cons y r => exact VM _ _
 refine S6 (wV hc kk hS (SX _) h1 hn (one _ _) fun n n1 n2 s1 brk => ?_)
 dsimp only
 by_cases e : (n == br) = true
 ·rw [if_pos e]
  exact Te (h n st n1 n2 (Sa.refl st) (jM.refl _ _ _) s1)
 rw [if_neg e]
 have e' : n ≠ br := by simpa using e
 by_cases Ki : n > 1
 ·rw [if_pos Ki]
  refine S6 (lr hc kk hS (by omega) (by omega) ?_)
  have hle : rk ((arrOf st)[lo]'(by omega)) <= rk ((arrOf st)[lo + n - 1]'(by omega)) := by
   refine n9 (arrOf st) lo n (by omega) n1 s1 _ ?_
   obtain ⟨m, hm⟩ : ∃ m, n = 1 + m := ⟨n - 1, by omega⟩
   rw [hm, iI]
   refine Uz _ ?_
   unfold sg
   rw [take1 (by rw [L]; omega)]
   simp
  have si := D5 nd (show lo < (arrOf st).size by omega) (show lo + n - 1 < (arrOf st).size by omega) (by omega)
  dsimp only
  rw [S9 (show rk ((arrOf st)[lo]'(by omega)) < rk ((arrOf st)[lo + n - 1]'(by omega)) by omega), if_pos rfl]
  exact Te (h n st n1 n2 (Sa.refl st) (jM.refl _ _ _) s1)
 rw [if_neg Ki]
 have : n = 1 := by omega
 subst this
 unfold Hx
 refine S6 (wpS_lift (UI ⟨rfl, ?_⟩))
 have b1 := brk (by omega)
 have s2 : fk rk (sg (arrOf st).toList lo 2).reverse := by
  rw [lE _ _ 1 (by omega), lE _ _ 0 (by omega)]
  have e0 : sg (arrOf st).toList lo 0 = [] := by unfold sg; simp
  rw [e0]
  refine T0.mpr ⟨fun y hy => ?_, VM _ _⟩
  have gd : y = (arrOf st)[lo + 0]'(by omega) := by simpa using hy
  rw [gd]
  have := b1
  simp only [Nat.add_sub_cancel] at this
  exact Vs this
 refine S6 (DL hc kk hS nd (by omega) (by omega) hn s2 fun m m1 m2 s3 => ?_)
 dsimp only
 rw [if_neg (by omega)]
 unfold zE
 rw [reverseSlice'_eq]
 refine S6 (Vn ?_)
 have ml := u4 (arrOf st) lo m (by omega)
 have pm : (sg (arrOf st).toList lo m).reverse.Perm (sg (arrOf st).toList lo m) := List.reverse_perm _
 have pt : jM (arrOf st).toList (mirror (arrOf st) lo (lo + m) ((lo + m - lo) / 2)).toList lo m := ⟨_, pm, ml⟩
 obtain ⟨_, p2, _⟩ := jM.parts pm ml (by omega)
 have OH : (mirror (arrOf st) lo (lo + m) ((lo + m - lo) / 2)).size = (arrOf st).size := mirror_size _ _ _ _
 refine S6 (wV (st := setArr st (mirror (arrOf st) lo (lo + m) ((lo + m - lo) / 2))) hc kk (fun x hx => hS x (pt.perm.mem_iff.mp hx)) (by omega) m2 (by show lo + br <= (mirror _ _ _ _).size; rw [OH]; exact hn) (by rw [p2]; exact s3) fun n n1 n2 s4 _ => ?_)
 dsimp only
 refine Te (h n _ (by omega) n2 ((Sa.refl st).set _) ?_ s4)
 exact pt.trans (jM.refl _ _ _) n1 (by omega)
end
def Ch : Nat -> List (Nat × Nat) -> Nat -> Prop
 | a, [], b => a = b
 | a, x :: r, b => x.1 = a /\ 1 <= x.2 /\ Ch (a + x.2) r b
theorem Ch.le : ∀ {p : List (Nat × Nat)} {a b : Nat}, Ch a p b -> a + p.length <= b
 | [], a, b, h => by cases h; simp
 | x :: r, a, b, h => by have := h.2.2.le; have := h.2.1; simp only [TY]; omega
theorem Ch.app : ∀ {p q : List (Nat × Nat)} {a b : Nat}, Ch a (p ++ q) b ↔ ∃ m, Ch a p m /\ Ch m q b
 | [], q, a, b => ⟨fun h => ⟨a, rfl, h⟩, fun ⟨m, e, h⟩ => by cases e; exact h⟩
 | x :: r, q, a, b => by
  constructor
  ·intro h
   obtain ⟨m, h1, h2⟩ := Ch.app.1 h.2.2
   exact ⟨m, ⟨h.1, h.2.1, h1⟩, h2⟩
  ·rintro ⟨m, h1, h2⟩
   exact ⟨h1.1, h1.2.1, Ch.app.2 ⟨m, h1.2.2, h2⟩⟩
theorem Ch.mem : ∀ {p : List (Nat × Nat)} {a b : Nat}, Ch a p b -> ∀ q ∈ p, a <= q.1 /\ q.1 + q.2 <= b
 | [], a, b, h, q, hq => by cases hq
 | x :: r, a, b, h, q, hq => by
  have hb := h.2.2.le
  rcases S2.1 hq with rfl | hq
  ·have := h.1; exact ⟨by omega, by omega⟩
  ·have := h.2.2.mem q hq
   exact ⟨by omega, this.2⟩
abbrev vi (p : Array (Nat × Nat × Nat)) : List (Nat × Nat) := p.toList.map fun q => (q.1, q.2.1)
section
variable {prog : Program} {w : World} {A : Around} {E : Value -> Shared -> Prop} {s : Shared} {rk : Keyed -> Nat} {S : Keyed -> Prop} {kd : SortKind} {a₀ : Array Keyed}
structure Inv (rk : Keyed -> Nat) (kd : SortKind) (a₀ : Array Keyed) (lo : Nat) (st : SortSt) : Prop where
 k : kindOf st = kd
 f : failedOf st = none
 pm : (arrOf st).toList.Perm a₀.toList
 le : lo <= a₀.size
 ch : Ch 0 (vi (pendingOf st)) lo
 so : ∀ q ∈ vi (pendingOf st), fk rk (sg (arrOf st).toList q.1 q.2)
theorem Inv.sz {lo : Nat} {st : SortSt} (I : Inv rk kd a₀ lo st) : (arrOf st).size = a₀.size := by
 have := I.pm.length_eq
 simpa using this
theorem Inv.put {lo n : Nat} {st aB : SortSt} (I : Inv rk kd a₀ lo st) (a : Sa st aB) (P : jM (arrOf st).toList (arrOf aB).toList lo n) (h : lo + n <= a₀.size) : Inv rk kd a₀ lo aB := by
 refine ⟨a.k.trans I.k, a.f.trans I.f, P.perm.trans I.pm, I.le, by rw [a.p]; exact I.ch, fun q hq => ?_⟩
 rw [a.p] at hq
 have hb := (I.ch.mem q hq).2
 rw [P.ahead (by have := I.sz; simp; omega) hb]
 exact I.so q hq
theorem pL {i lo : Nat} {st : SortSt} {Q : Bool -> SortSt -> Prop} (hc : mR prog w A E s rk S kd) (hS : ∀ x ∈ a₀.toList, S x) (I : Inv rk kd a₀ lo st) (hi : i + 1 < (pendingOf st).size)
  (h : ∀ aB, Inv rk kd a₀ lo aB -> (pendingOf aB).size + 1 = (pendingOf st).size -> (∀ p m, lo <= p -> sg (arrOf aB).toList p m = sg (arrOf st).toList p m) -> Q true aB) : wpS (model prog w) A E s (mergeAt' i) Q st := by
 obtain ⟨⟨sa, na, pw⟩, e1⟩ : ∃ x, (pendingOf st)[i]? = some x := ⟨_, getElem?_pos _ i (by omega)⟩
 obtain ⟨⟨sb, nb, GG⟩, e2⟩ : ∃ x, (pendingOf st)[i + 1]? = some x := ⟨_, getElem?_pos _ (i + 1) hi⟩
 obtain ⟨pre, post, ep, el⟩ : ∃ pre post, (pendingOf st).toList = pre ++ (sa, na, pw) :: (sb, nb, GG) :: post /\ pre.length = i := by
  have f1 : (pendingOf st).toList[i]? = some (sa, na, pw) := by simpa using e1
  have f2 : (pendingOf st).toList[i + 1]? = some (sb, nb, GG) := by simpa using e2
  obtain ⟨l1, g1⟩ := Tk.1 f1
  obtain ⟨l2, g2⟩ := Tk.1 f2
  refine ⟨(pendingOf st).toList.take i, (pendingOf st).toList.drop (i + 2), ?_, by rw [Tl]; omega⟩
  conv => lhs; rw [<- UX i (pendingOf st).toList, Vw l1, Vw l2, g1, g2]
 have ch := I.ch
 have so := I.so
 unfold vi at ch so
 rw [ep, S4, Ti, Ti] at ch so
 obtain ⟨m, c1, c2⟩ := Ch.app.1 ch
 obtain ⟨rfl, n1, c3⟩ := c2
 obtain ⟨rfl, n2, c4⟩ := c3
 dsimp only at *
 have SR := c4.le
 have LE := I.le
 have SZ := I.sz
 have L : (arrOf st).toList.length = (arrOf st).size := S5
 refine CV hc I.k I.f (fun x hx => hS x (I.pm.mem_iff.1 hx)) e1 e2 rfl n1 n2 (by omega) (so (sa, na) (by simp)) (so (sa + na, nb) (by simp)) fun aB l k' f' p' lp ls al => ?_
 have P : jM (arrOf st).toList (arrOf aB).toList sa (na + nb) := ⟨l, lp, al⟩
 have zB : (pendingOf aB).toList = pre ++ (sa, na + nb, pw) :: post := by
  rw [p', Array.toList_eraseIdxIfInBounds, Array.toList_setIfInBounds, ep, List.set_append_right _ _ (by omega), el, Nat.sub_self, List.set_cons_zero, List.eraseIdx_append_of_length_le (by omega), el,
   show i + 1 - i = 1 by omega]
  rfl
 refine h aB ⟨k', f', P.perm.trans I.pm, I.le, ?_, fun q hq => ?_⟩ ?_ fun p m hp => P.behind (by omega) (by omega)
 ·unfold vi
  rw [zB, S4, Ti]
  exact Ch.app.2 ⟨_, c1, rfl, by dsimp only; omega, by dsimp only; rw [<- Nat.add_assoc]; exact c4⟩
 ·unfold vi at hq
  rw [zB, S4, Ti] at hq
  rcases Ts.1 hq with hq | hq
  ·have := (c1.mem q hq).2
   rw [P.ahead (by omega) this]
   exact so q (Uz _ hq)
  ·rcases S2.1 hq with rfl | hq
   ·have := (jM.parts lp al (by omega)).2.1
    dsimp only
    rw [this]
    exact ls
   ·have := (c4.mem q hq).1
    rw [P.behind (by omega) (by omega)]
    exact so q (TC _ (SY _ (SY _ hq)))
 ·rw [<- S5, <- S5 (xs := pendingOf st), zB, ep]
  simp only [Tq, TY]
  omega
end
section
variable {prog : Program} {w : World} {A : Around} {E : Value -> Shared -> Prop} {s : Shared} {rk : Keyed -> Nat} {S : Keyed -> Prop} {kd : SortKind} {a₀ : Array Keyed}
structure Ai (rk : Keyed -> Nat) (kd : SortKind) (a₀ : Array Keyed) (lo n : Nat) (st : SortSt) : Prop where
 I : Inv rk kd a₀ lo st
 n1 : 1 <= n
 le : lo + n <= a₀.size
 so : fk rk (sg (arrOf st).toList lo n)
theorem Ai.push {lo n : Nat} {st : SortSt} (C : Ai rk kd a₀ lo n st) : Inv rk kd a₀ (lo + n) (setPending st ((pendingOf st).push (lo, n, 0))) := by
 have e : vi (pendingOf (setPending st ((pendingOf st).push (lo, n, 0)))) = vi (pendingOf st) ++ [(lo, n)] := by
  show vi ((pendingOf st).push (lo, n, 0)) = _
  unfold vi
  rw [Array.toList_push, S4]
  rfl
 refine ⟨C.I.k, C.I.f, C.I.pm, C.le, ?_, fun q hq => ?_⟩
 ·rw [e]
  exact Ch.app.2 ⟨lo, C.I.ch, rfl, C.n1, rfl⟩
 ·rw [e] at hq
  rcases Ts.1 hq with hq | hq
  ·exact C.I.so q hq
  ·cases TB.1 hq
   exact C.so
theorem pC (f : Nat × Nat × Nat -> Nat × Nat × Nat) (hf : ∀ q, ((f q).1, (f q).2.1) = (q.1, q.2.1)) : ∀ (l : List (Nat × Nat × Nat)) (i : Nat), (l.modify i f).map (fun q => (q.1, q.2.1)) = l.map fun q => (q.1, q.2.1)
 | [], i => by cases i <;> rfl
 | x :: r, 0 => by rw [List.modify_zero_cons, Ti, Ti]; exact Um (· :: _) (hf x)
 | x :: r, i + 1 => by rw [List.modify_succ_cons, Ti, Ti, pC f hf r i]
theorem Ai.pow {lo n pw : Nat} {st : SortSt} (C : Ai rk kd a₀ lo n st) : Ai rk kd a₀ lo n (setPending st ((pendingOf st).modify ((pendingOf st).size - 1) fun q => (q.1, q.2.1, pw))) := by
 have e : vi ((pendingOf st).modify ((pendingOf st).size - 1) fun q => (q.1, q.2.1, pw)) = vi (pendingOf st) := by
  unfold vi
  rw [Array.toList_modify]
  exact pC (fun q => (q.1, q.2.1, pw)) (fun q => rfl) _ _
 refine ⟨⟨C.I.k, C.I.f, C.I.pm, C.I.le, ?_, fun q hq => ?_⟩, C.n1, C.le, C.so⟩
 ·show Ch 0 (vi _) lo
  rw [e]
  exact C.I.ch
 ·have hq : q ∈ vi ((pendingOf st).modify ((pendingOf st).size - 1) fun q => (q.1, q.2.1, pw)) := hq
  rw [e] at hq
  exact C.I.so q hq
theorem tO {st : SortSt} {Q : Unit -> SortSt -> Prop} (hc : mR prog w A E s rk S kd) (hS : ∀ x ∈ a₀.toList, S x) (nd : (a₀.toList.map rk).Nodup) (kk : kindOf st = kd) (hf : failedOf st = none) (ha : arrOf st = a₀) (hp : pendingOf st = #[])
  (h : ∀ aB, (arrOf aB).toList.Perm a₀.toList -> failedOf aB = none -> fk rk (arrOf aB).toList -> Q () aB) : wpS (model prog w) A E s sortRuns' Q st := by
 rw [sortRuns'_eq]
 refine S6 (wpS_get ?_)
 dsimp only
 simp only [ha]
 have I0 : Inv rk kd a₀ 0 st := ⟨kk, hf, by rw [ha], Tw _, by rw [hp]; rfl, by rw [hp]; intro q hq; cases hq⟩
 refine S6 (UC (Ug
  (I := fun x c aB => ∃ lo, c = (none, lo) /\ (x <= lo \/ lo = a₀.size) /\ Inv rk kd a₀ lo aB)
  (Q := fun c aB => c = (none, a₀.size) /\ Inv rk kd a₀ a₀.size aB) ?step ?fin ⟨0, rfl, .inl (SX _), I0⟩) ?post)
 case fin =>
  rintro c aB ⟨lo, rfl, hx, I⟩
  have : lo = a₀.size := by have := I.le; omega
  subst this
  exact ⟨rfl, I⟩
 case step =>
  rintro x c aB _ hx ⟨lo, rfl, Ss, I⟩
  dsimp only
  by_cases sO : lo >= a₀.size
  ·rw [if_pos sO]
   have : lo = a₀.size := by have := I.le; omega
   subst this
   exact Te ⟨rfl, I⟩
  rw [if_neg sO]
  have zG : ∀ aB, Inv rk kd a₀ lo aB -> ∀ x ∈ (arrOf aB).toList, S x := fun aB I x hx => hS x (I.pm.mem_iff.1 hx)
  have N7 : ((arrOf aB).toList.map rk).Nodup := ((I.pm.map rk).nodup_iff).2 nd
  refine S6 (BB hc I.k (zG _ I) N7 (by omega) (by have := I.sz; omega) fun n Ej n1 n2 a2 P2 s2 => ?_)
  dsimp only
  have C2 : Ai rk kd a₀ lo n Ej := ⟨I.put a2 P2 (by omega), n1, by omega, s2⟩
  by_cases gc : n < minRun' a₀.size a₀.size 0
  ·rw [if_pos gc]
   refine S6 (wpS_lift (UI ⟨rfl, ?_⟩))
   refine S6 (ze hc C2.I.k (zG _ C2.I) (by have := C2.I.sz; omega) n1 (by omega) s2 fun EA a3 P3 s3 => ?_)
   simp only [Uc, Tn, T3]
   have C3 : Ai rk kd a₀ lo (min (a₀.size - lo) (minRun' a₀.size a₀.size 0)) EA := ⟨C2.I.put a3 P3 (by omega), by omega, by omega, s3⟩
   refine S6 (wpS_get ?_)
   cases hb : (pendingOf EA).back? with
   | none =>
    dsimp only
    exact S6 (Vn (Te ⟨_, rfl, by have := C3.n1; omega, C3.push⟩))
   | some y =>
    obtain ⟨s1, MT, OS⟩ := y
    dsimp only
    refine S6 (UC (Ug (I := fun _ c qD => c = (none, ()) /\ Ai rk kd a₀ lo (min (a₀.size - lo) (minRun' a₀.size a₀.size 0)) qD) (Q := fun c qD => c = (none, ()) /\ Ai rk kd a₀ lo (min (a₀.size - lo) (minRun' a₀.size a₀.size 0)) qD) ?_ (fun _ _ hh => hh) ⟨rfl, C3⟩) ?_)
    ·rintro z c qD _ _ ⟨rfl, C4⟩
     refine S6 (wpS_get ?_)
     by_cases DT : (pendingOf qD).size > 1
     ·rw [if_pos DT]
      obtain ⟨⟨q1, q2, Hq⟩, eq⟩ : ∃ q, (pendingOf qD)[(pendingOf qD).size - 2]? = some q := ⟨_, getElem?_pos _ _ (by omega)⟩
      rw [eq]
      dsimp only
      split
      ·exact Te ⟨rfl, C4⟩
      ·refine S6 (pL hc hS C4.I (by omega) fun Ja I5 _ b5 => ?_)
       simp only [Uc, Tn, T3]
       exact Te ⟨rfl, I5, C4.n1, C4.le, by rw [b5 lo _ (SX _)]; exact C4.so⟩
     ·rw [if_neg DT]
      exact Te ⟨rfl, C4⟩
    ·rintro c qD ⟨rfl, C4⟩
     dsimp only
     exact S6 (Vn (S6 (Vn (Te ⟨_, rfl, by have := C3.n1; omega, C4.pow.push⟩))))
  ·rw [if_neg gc]
   refine S6 (wpS_get ?_)
   cases hb : (pendingOf Ej).back? with
   | none =>
    dsimp only
    exact S6 (Vn (Te ⟨_, rfl, by have := C2.n1; omega, C2.push⟩))
   | some y =>
    obtain ⟨s1, MT, OS⟩ := y
    dsimp only
    refine S6 (UC (Ug (I := fun _ c qD => c = (none, ()) /\ Ai rk kd a₀ lo n qD) (Q := fun c qD => c = (none, ()) /\ Ai rk kd a₀ lo n qD) ?_ (fun _ _ hh => hh) ⟨rfl, C2⟩) ?_)
    ·rintro z c qD _ _ ⟨rfl, C4⟩
     refine S6 (wpS_get ?_)
     by_cases DT : (pendingOf qD).size > 1
     ·rw [if_pos DT]
      obtain ⟨⟨q1, q2, Hq⟩, eq⟩ : ∃ q, (pendingOf qD)[(pendingOf qD).size - 2]? = some q := ⟨_, getElem?_pos _ _ (by omega)⟩
      rw [eq]
      dsimp only
      split
      ·exact Te ⟨rfl, C4⟩
      ·refine S6 (pL hc hS C4.I (by omega) fun Ja I5 _ b5 => ?_)
       simp only [Uc, Tn, T3]
       exact Te ⟨rfl, I5, C4.n1, C4.le, by rw [b5 lo _ (SX _)]; exact C4.so⟩
     ·rw [if_neg DT]
      exact Te ⟨rfl, C4⟩
    ·rintro c qD ⟨rfl, C4⟩
     dsimp only
     exact S6 (Vn (S6 (Vn (Te ⟨_, rfl, by have := C2.n1; omega, C4.pow.push⟩))))
 case post =>
  rintro c aB ⟨rfl, I⟩
  dsimp only
  have LP : (pendingOf aB).size <= a₀.size := by
   have := I.ch.le
   rw [SW, S5] at this
   omega
  refine S6 (UC (Ug (I := fun x c bx => c = (none, ()) /\ Inv rk kd a₀ a₀.size bx /\ (pendingOf bx).size - 1 <= a₀.size - x) (Q := fun c bx => c = (none, ()) /\ Inv rk kd a₀ a₀.size bx /\ (pendingOf bx).size <= 1) ?_ ?_ ⟨rfl, I, by omega⟩) ?_)
  ·rintro x c bx _ hx ⟨rfl, I, hm⟩
   refine S6 (wpS_get ?_)
   by_cases h1 : (pendingOf bx).size <= 1
   ·rw [if_pos h1]
    exact Te ⟨rfl, I, h1⟩
   rw [if_neg h1]
   refine S6 (pL hc hS I ?_ fun EA I3 e3 _ => ?_)
   ·have : ∀ (c : Prop) [Decidable c] (a b : Nat), (if c then a - b else a) <= a := fun c _ a b => by split <;> omega
    have := this (Option.any (fun x => decide (x < ((pendingOf bx)[(pendingOf bx).size - 2 + 1]?.elim 0 fun x => x.2.1))) (if (pendingOf bx).size - 2 > 0 then (pendingOf bx)[(pendingOf bx).size - 2 - 1]?.map fun x => x.2.1 else none) = true) ((pendingOf bx).size - 2) 1
    omega
   ·simp only [Uc, Tn, T3]
    exact Te ⟨rfl, I3, by omega⟩
  ·rintro c bx ⟨rfl, I, hm⟩
   exact ⟨rfl, I, by omega⟩
  ·rintro c bx ⟨rfl, I, h1⟩
   refine Te (h _ I.pm I.f ?_)
   have SZ := I.sz
   have ch := I.ch
   have so := I.so
   have lp : (vi (pendingOf bx)).length <= 1 := by rw [SW, S5]; exact h1
   cases hp : vi (pendingOf bx) with
   | nil =>
    rw [hp] at ch
    have : (arrOf bx).toList = [] := List.eq_nil_of_length_eq_zero (by rw [S5, SZ]; exact ch.symm)
    rw [this]
    exact .nil
   | cons y r =>
    rw [hp] at ch lp so
    have : r = [] := List.eq_nil_of_length_eq_zero (by simp only [TY] at lp; omega)
    subst this
    obtain ⟨e1, _, e2⟩ := ch
    have := so y (S0)
    rw [e1] at this
    have e2 : 0 + y.2 = a₀.size := e2
    unfold sg at this
    rw [List.drop_zero, Ta (by rw [S5]; omega)] at this
    exact this
end
end SO
namespace L2
open PySem PySem.Spec PyProof.Rows
theorem lO {c : Str -> NameKind -> Bool} : ∀ (names : List (Str × NameKind)) (x : Str),
  (names.map fun (n, k) => if c n k then (n, NameKind.cell) else (n, k)).lookup x = (names.lookup x).map fun k => if c x k then NameKind.cell else k
 | [], _ => rfl
 | (n, k) :: r, x => by
  have ih := lO (c := c) r x
  show List.lookup x ((if c n k = true then (n, NameKind.cell) else (n, k)) :: _) = _
  cases hx : x == n with
  | true =>
   have e : x = n := eq_of_beq hx
   subst e
   by_cases hc : c x k = true
   ·rw [if_pos hc]; simp [U9, hc]
   ·rw [if_neg hc]; simp [U9, hc]
  | false =>
   by_cases hc : c n k = true
   ·rw [if_pos hc]; simp only [U9, hx]; exact ih
   ·rw [if_neg hc]; simp only [U9, hx]; exact ih
theorem mT (scope : Scope) (cl : List (Str × Addr)) (C : Addr) (env : Env) (x : Str) :
  (compEnvC scope cl C env).kindOf x = (scope.names.lookup x).map fun k => if (k == .free && env.scope.kind == .function && env.kindOf x == some .cell) then NameKind.cell else k :=
 lO (c := fun n k => (k == .free && env.scope.kind == .function && env.kindOf n == some .cell)) scope.names x
theorem mw {scope : Scope} {cl : List (Str × Addr)} {C : Addr} {env : Env} {x : Str} (h : scope.names.lookup x = some .free) : (compEnvC scope cl C env).kindOf x = some .cell \/ (compEnvC scope cl C env).kindOf x = some .free := by
 rw [mT, h]
 show some (if _ then _ else _) = _ \/ some (if _ then _ else _) = _
 split
 ·exact .inl rfl
 ·exact .inr rfl
theorem nA {scope : Scope} {cl : List (Str × Addr)} {C : Addr} {env : Env} {x : Str} (nc : ∀ y ∈ scope.names, y.2 ≠ .cell) (h : (compEnvC scope cl C env).kindOf x = some .cell \/ (compEnvC scope cl C env).kindOf x = some .free) : scope.names.lookup x = some .free := by
 rw [mT] at h
 cases e : scope.names.lookup x with
 | none => rw [e] at h; rcases h with h | h <;> cases h
 | some k =>
  rw [e] at h
  have hm := nc _ (UH e)
  cases k with
  | free => rfl
  | cell => exact absurd rfl hm
  | _ => rcases h with h | h <;> cases h
theorem qh {scope : Scope} {env : Env} (h : ∀ y ∈ scope.names, y.2 = .free -> ∃ c, env.cells.lookup y.1 = some c) :
  ∃ cl, closureFor scope env = pure cl /\ (∀ x c, cl.lookup x = some c -> env.cells.lookup x = some c) /\ (∀ x, (x, NameKind.free) ∈ scope.names -> ∃ c, cl.lookup x = some c) := by
 have go : ∀ (l : List (Str × NameKind)) (acc : List (Str × Addr)), (∀ y ∈ l, y.2 = .free -> ∃ c, env.cells.lookup y.1 = some c) -> (∀ x c, acc.lookup x = some c -> env.cells.lookup x = some c) ->
   ∃ cl, (forIn l acc (fun (x : Str × NameKind) (r : List (Str × Addr)) => if (x.2 == NameKind.free) = true then (do let a <- cellOf env x.1; pure (ForInStep.yield ((x.1, a) :: r))) else pure (ForInStep.yield r)) : Sem (List (Str × Addr))) = pure cl /\
    (∀ x c, cl.lookup x = some c -> env.cells.lookup x = some c) /\ (∀ x, (acc.lookup x).isSome = true \/ (x, NameKind.free) ∈ l -> ∃ c, cl.lookup x = some c) := by
  intro l
  induction l with
  | nil => exact fun acc _ ha => ⟨acc, rfl, ha, fun x hx => by
    rcases hx with hx | hx
    ·exact UL.mp hx
    ·cases hx⟩
  | cons y l ih =>
   intro acc hl ha
   obtain ⟨n, k⟩ := y
   by_cases hk : k = .free
   ·subst hk
    obtain ⟨c, hc⟩ := hl (n, .free) S0 rfl
    obtain ⟨cl, e1, e2, e3⟩ := ih ((n, c) :: acc) (fun y hy => hl y (SY _ hy)) (fun x d hd => by
     rw [U9] at hd
     cases q : x == n with
     | true => rw [q] at hd; cases hd; rw [eq_of_beq q]; exact hc
     | false => rw [q] at hd; exact ha x d hd)
    refine ⟨cl, ?_, e2, fun x hx => e3 x ?_⟩
    ·rw [Uv]
     have ec : cellOf env n = pure c := by unfold cellOf; rw [hc]
     show ((if (NameKind.free == NameKind.free) = true then (do let a <- cellOf env n; pure (ForInStep.yield ((n, a) :: acc))) else pure (ForInStep.yield acc)) >>= _) = _
     rw [if_pos (by decide), ec, pure_bind, pure_bind]
     exact e1
    ·rcases hx with hx | hx
     ·refine .inl ?_
      rw [U9]
      cases q : x == n with
      | true => rfl
      | false => exact hx
     ·rcases S2.mp hx with hx | hx
      ·cases hx
       exact .inl (by rw [U9, beq_self_eq_true]; rfl)
      ·exact .inr hx
   ·obtain ⟨cl, e1, e2, e3⟩ := ih acc (fun y hy => hl y (SY _ hy)) ha
    refine ⟨cl, ?_, e2, fun x hx => e3 x ?_⟩
    ·rw [Uv]
     show ((if (k == NameKind.free) = true then (do let a <- cellOf env n; pure (ForInStep.yield ((n, a) :: acc))) else pure (ForInStep.yield acc)) >>= _) = _
     rw [if_neg (by simpa using hk), pure_bind]
     exact e1
    ·rcases hx with hx | hx
     ·exact .inl hx
     ·rcases S2.mp hx with hx | hx
      ·cases hx; exact absurd rfl hk
      ·exact .inr hx
 obtain ⟨cl, e1, e2, e3⟩ := go scope.names [] h (fun x c hx => by cases hx)
 refine ⟨cl, ?_, e2, fun x hx => e3 x (.inr hx)⟩
 rw [<- e1]
 simp only [closureFor, bind_pure]
theorem sS {prog : Program} {w : World} {A : Around} {R : Result -> Shared -> Prop} {s : Shared} {elt target iter : Expr} {ifs : List Expr} {scope : Scope} {pos : Pos} {it acc : Value} {env : Env} (I : Nat -> Shared -> Prop)
  (turn : ∀ n s, I n s -> wpAny (model prog w) A (pyNext it) (fun r s₁ => match r with
   | none => R (.ok .next) s₁
   | some v => wpAny (model prog w) A (letOwnedTupleGo target it v) (fun _ Er => wpAny (model prog w) A (assign target env v) (fun _ s₂ =>
     wpAny (model prog w) A (forIn ifs true fun c r => if r = true then do let ok <- isTrue c env (eval c env); pure (ForInStep.yield ok) else pure (ForInStep.yield r)) (fun ok s₃ =>
      if ok = true then wpAny (model prog w) A (eval elt env) (fun x s₄ =>
       wpAny (model prog w) A (call (.builtin "list.append") [acc, x]) (fun _ s₅ => ∃ m, m < n /\ I m s₅) (fun _ _ => False) s₄) (fun _ _ => False) s₃
      else ∃ m, m < n /\ I m s₃) (fun _ _ => False) s₂) (fun _ _ => False) Er) (fun _ _ => False) s₁) (fun _ _ => False) s)
  (n : Nat) (h : I n s) :
  codeAny (model prog w) A (.compLoop (.ListComp elt [⟨target, iter, ifs, 0⟩] scope pos) 0 it acc env) R s := by
 refine codeAny_loop rfl I (fun n s hI => ?_) n h
 show wpAny _ A ((compTurn (.ListComp elt [⟨target, iter, ifs, 0⟩] scope pos) 0 it acc env).onRaise (fun x => do noteFrame x env; theTreesLotGoes x)) _ _ s
 refine wpAny_noted ?_
 rw [compTurn_list]
 refine SS (wpAny_standAt (SS (Us (turn n s hI) (fun r s₁ h₁ => ?_) fun _ _ h' => h'.elim)))
 cases r with
 | none => exact SU h₁
 | some v =>
  refine SS (Us h₁ (fun _ Er Hn => ?_) fun _ _ h' => h'.elim)
  refine SS (Us Hn (fun _ s₂ h₂ => SS (Us h₂ (fun ok s₃ h₃ => ?_) fun _ _ h' => h'.elim)) fun _ _ h' => h'.elim)
  cases ok with
  | false => exact SU ⟨rfl, h₃⟩
  | true =>
   exact SS (SS (Us h₃ (fun x s₄ h₄ => SS (Us h₄ (fun _ s₅ h₅ => SU (SU ⟨rfl, h₅⟩)) fun _ _ h' => h'.elim)) fun _ _ h' => h'.elim))
structure CP where
 cl : List (Str × Addr)
 C : Addr
 s : Shared
 H : Hp
 fp : List Addr
 pn : List (Addr × Obj)
abbrev Cx.comp (X : Cx) (N' : List Str) (scope : Scope) (p : CP) : Cx where
 prog := X.prog
 w := X.w
 K := X.K
 mg := X.mg
 base := X.base
 A := X.A
 N := N'
 s₀ := p.s
 H₀ := p.H
 env := compEnvC scope p.cl p.C X.env
 outer := X.stack
 stack := X.stack
 ex := p.fp
 fn := fun _ => false
 calm := X.calm
 pn := p.pn
 xe := fun _ _ => False
def Ax (X : Cx) (ifs : List Expr) (t : TT) : Prop :=
 ∀ (pins : List (Addr × Obj)) (s : Shared) (σ : St) (H : Hp) (Q : Bool -> Hp -> Prop), Inv X pins σ H s -> t σ H Q ->
  wpAny (model X.prog X.w) X.A (forIn ifs true fun c r => if r = true then do let ok <- isTrue c X.env (eval c X.env); pure (ForInStep.yield ok) else pure (ForInStep.yield r)) (TP X pins σ Q) X.xe s
def K7 : TT := fun _ H Q => Q true H
theorem bR {X : Cx} : Ax X [] K7 := fun _ _ _ H _ I h => wpAny_tests_nil ⟨H, I, h⟩
theorem ck {X : Cx} {c : Expr} {t : TT} (h : PT X c t) : Ax X [c] t := fun pins s σ H Q I hw => wpAny_tests_one (h pins s σ H Q I hw)
def mH (N : List Str) (kinds : List (Str × NameKind)) (N' : List Str) (cap : List (Option Nat)) (names : List (Str × NameKind)) : Bool :=
 names.all (fun y => y.2 != .cell) && names.all (fun y => y.2 != .local || names.lookup y.1 == some .local) &&
 names.all (fun y => y.2 != .free || (kinds.lookup y.1 == some .cell || kinds.lookup y.1 == some .free)) && (cap.length == N'.length) &&
 (N'.zip cap).all (fun q => match q.2 with
  | none => true
  | some j => N[j]? == some q.1 && (kinds.lookup q.1 == some .cell || kinds.lookup q.1 == some .free) && names.lookup q.1 == some .free)
structure bO (X : Cx) (N' : List Str) (cap : List (Option Nat)) (scope : Scope) : Prop where
 kind : scope.kind = .function
 ok : mH X.N X.env.scope.names N' cap scope.names = true
section
variable {X : Cx} {N' : List Str} {cap : List (Option Nat)} {scope : Scope}
theorem bO.An (S : bO X N' cap scope) : ∀ y ∈ scope.names, y.2 ≠ .cell := by
 have h := S.ok
 simp only [mH, TK, Ub] at h
 intro y hy
 simpa using h.1.1.1.1 y hy
theorem bO.names (S : bO X N' cap scope) : ∀ y ∈ scope.names, y.2 = .local -> scope.names.lookup y.1 = some .local := by
 have h := S.ok
 simp only [mH, TK, Ub] at h
 intro y hy hl
 have q := h.1.1.1.2 y hy
 rw [hl] at q
 simpa using q
theorem bO.free (S : bO X N' cap scope) : ∀ y ∈ scope.names, y.2 = .free -> X.env.kindOf y.1 = some .cell \/ X.env.kindOf y.1 = some .free := by
 have h := S.ok
 simp only [mH, TK, Ub] at h
 intro y hy hl
 have q := h.1.1.2 y hy
 rw [hl] at q
 have q' : X.env.scope.names.lookup y.1 = some .cell \/ X.env.scope.names.lookup y.1 = some .free := by simpa using q
 exact q'
theorem bO.len (S : bO X N' cap scope) : cap.length = N'.length := by
 have h := S.ok
 simp only [mH, TK, Ub] at h
 simpa using h.1.2
theorem bO.L8 (S : bO X N' cap scope) {i j : Nat} {x : Str} (h1 : N'[i]? = some x) (h2 : cap[i]? = some (some j)) :
  X.N[j]? = some x /\ (X.env.kindOf x = some .cell \/ X.env.kindOf x = some .free) /\ scope.names.lookup x = some .free := by
 have h := S.ok
 simp only [mH, TK, Ub] at h
 have hm : (x, some j) ∈ N'.zip cap := Vk.mpr ⟨i, by rw [List.getElem?_zip_eq_some]; exact ⟨h1, h2⟩⟩
 have q := h.2 _ hm
 have q' : X.N[j]? = some x /\ (X.env.scope.names.lookup x = some .cell \/ X.env.scope.names.lookup x = some .free) /\ scope.names.lookup x = some .free := by simpa [and_assoc] using q
 exact q'
end
def eC (cap : List (Option Nat)) (σ : St) : St := cap.map fun o => match o with
 | some j => (σ[j]?).getD none
 | none => none
def bP (σ σ' : St) : Prop := σ'.length = σ.length /\ ∀ (i : Nat) v, σ[i]? = some (some v) -> σ'[i]? = some (some v)
theorem bP.refl (σ : St) : bP σ σ := ⟨rfl, fun _ _ h => h⟩
theorem bP.trans {a b c : St} (h : bP a b) (h' : bP b c) : bP a c := ⟨h'.1.trans h.1, fun i v e => h'.2 i v (h.2 i v e)⟩
theorem bP.set {σ : St} {i : Nat} {v : Option V} (h : σ[i]? = some none) : bP σ (σ.set i v) := ⟨List.length_set .., fun j u e => by
 have hj : i ≠ j := fun z => by subst z; rw [h] at e; cases e
 rw [List.getElem?_set_ne hj]; exact e⟩
def md (J : It) (D : Addr) (cap : List (Option Nat)) (σ : St) (H1 : Hp) (g : TG) (tc : TT) (te : TE) (Q : VK) : Prop := ∃ (n : Nat) (Pv : Nat -> List V -> Hp -> Prop),
 Pv 0 [] (upd H1 D (.lst [])) /\ ∀ i xs H2, i <= n -> Pv i xs H2 -> H2 D = some (.lst xs) /\ ((i = n /\ J.stop i H2 /\ Q (.ref D) H2) \/ (i < n /\ J.go i H2 /\ ∀ x H3, J.Eo i H2 x H3 -> g x (eC cap σ) H3 fun σ2 H4 => bP (eC cap σ) σ2 /\
  tc σ2 H4 fun b H5 => if b = true then te σ2 H5 fun y H6 => H6 D = some (.lst xs) /\ xs.length < sizeLine /\ Pv (i + 1) (xs ++ [y]) (upd H6 D (.lst (xs ++ [y]))) else Pv (i + 1) xs H5))
def AY (cap : List (Option Nat)) (wi : TI) (g : TG) (tc : TT) (te : TE) : TE := fun σ H Q => wi σ H fun J H1 => ∀ D, H1 D = none -> md J D cap σ H1 g tc te Q
section
variable {X : Cx} {pins : List (Addr × Obj)} {σ : St} {H : Hp} {s : Shared} {N' : List Str} {cap : List (Option Nat)} {scope : Scope} {elt iter tg : Expr} {ifs : List Expr} {pos : Pos} {wi : TI} {g : TG} {tc : TT} {te : TE}
theorem qP {pos' : Pos} {use : Option (Value -> Sem Unit)} {Q : VK} {Qf : Value -> Shared -> Prop} (GF : X.calm = true) (S : bO X N' cap scope) (hi : PI X tg iter wi) (hg : ∀ p, PG (X.comp N' scope p) tg g) (hc : ∀ p, Ax (X.comp N' scope p) ifs tc) (he : ∀ p, PE (X.comp N' scope p) elt te)
  (hs : ∀ x, foldedSetIterable iter X.env x = pure x) (I : Inv X pins σ H s) (h : AY cap wi g tc te σ H Q)
  (fin : ∀ D C H' s', Inv X pins σ H' s' -> Q (.ref D) H' -> (∃ m, s'.heap.Ns C m) -> H' C = none -> C ≠ X.env.locals -> X.s₀.heap.objs.size <= C -> (∀ x c, X.env.cells.lookup x = some c -> c ≠ C) -> (∀ p ∈ X.pn ++ pins, p.1 ≠ C) ->
   compPost (model X.prog X.w) X.A X.xe use Qf (.ref D) C (.ok .next) s') :
  wpAny (model X.prog X.w) X.A (comprehension (.ListComp elt [⟨tg, iter, ifs, 0⟩] scope pos) scope X.env pos' (newList []) false (eval iter X.env) use) Qf X.xe s := by
 obtain ⟨cl, R4, Go, Ng⟩ := qh (scope := scope) (env := X.env) fun y hy hf => I.ok.has _ (S.free y hy hf)
 refine wpAny_comprehension_free (g := ⟨tg, iter, ifs, 0⟩) (gs := []) rfl hs R4 S.kind S.names ?_
 refine bU (hi pins s σ H _ I h) fun xv s1 h1 => bU h1 fun LC s2 h2 => ?_
 obtain ⟨it, fp, tn, J, H2, e, I2, T, Ej, f2, h2⟩ := h2
 subst e
 refine TQ ?_ (by size_fits)
 have hD : H2 s2.heap.objs.size = none := I2.aV.fresh (SX _)
 obtain ⟨cnt, Pv, w0, turn⟩ := h2 s2.heap.objs.size hD
 refine wpAny_newFunctionEnv S.An (by intro y hy; cases hy) (fun h₁ wM rO => ?_) S.kind
 dsimp only at wM rO ⊢
 generalize LF : s2.heap.push { cls := .type "list", dict := none, data := .seq ([] : List Value).toArray } = A2 at wM rO ⊢
 have hC : A2.objs.size = s2.heap.objs.size + 1 := by rw [<- LF, U8]
 have old : ∀ b o, s2.heap.get? b = some o -> h₁.get? b = some o := fun b o e => by
  have lt : @LT.lt Nat instLTNat b s2.heap.objs.size := Td e
  exact rO.extBut b o (Tu (by omega)) (SV _ (LF ▸ SV _ e))
 have Mr : h₁.get? s2.heap.objs.size = some { cls := .type "list", dict := none, data := .seq ([] : List Value).toArray } :=
  rO.extBut _ _ (Tu (by omega)) (SV _ (LF ▸ S7 _ rfl))
 have Bt : ∀ x c, X.env.cells.lookup x = some c -> @LT.lt Nat instLTNat c s2.heap.objs.size := fun x c e => by obtain ⟨v, q⟩ := I2.cell x c e; exact q.lt
 have Ev : ∀ p ∈ X.pn ++ pins, @LT.lt Nat instLTNat p.1 s2.heap.objs.size := fun p hp => Td (I2.pin p hp).1
 have G1 : ∀ b ∈ fp, @LT.lt Nat instLTNat b s2.heap.objs.size := fun b hb => by obtain ⟨o, e, _⟩ := T.obj 0 _ Ej b hb; exact Td e
 let p : CP := ⟨cl, A2.objs.size, s2, H2, fp, X.pn ++ pins⟩
 have ok : (X.comp N' scope p).Ok := {
  mod := I2.ok.mod
  kind := S.kind
  glob := I2.ok.glob
  blt := I2.ok.blt
  above := by show s2.heap.objs.size <= A2.objs.size; omega
  inj := fun x y c h1 h2 => I2.ok.inj x y c (Go x c h1) (Go y c h2)
  has := fun x hx => Ng x (UH (nA S.An hx))
  GN := fun x c hf _ => by cases hf
  hd := I2.ok.hd
  frames := I2.ok.frames
  Ih := .inl rfl
  IB := fun b hb => ⟨Tu (show @LT.lt Nat instLTNat b A2.objs.size by have := G1 b hb; omega), fun x c e => (f2 b hb).2.2.2.2.1 x c (Go x c e)⟩
  bs := I2.bs
  zD := S8 I2.ok.zD I2.sz
  yV := fun b o e hb => by
   rcases (f2 b hb).2.2.2.1 with z | z
   ·exact I2.ok.yV b o e z
   ·exact absurd (Tz (Tz (Td e) I2.ok.zD) z) (Uj _)
  zb := fun b hb hf => by
   rcases S2.mp (I2.kg b hf) with z | z
   ·exact (f2 b hb).2.1 z
   ·exact (f2 b hb).2.2.1 z
  lV := I2.stack
  Dz := I2.nJ }
 have Hv : Un (kC X.stack) fp H2 (upd H2 s2.heap.objs.size (.lst [])) s2.heap h₁ := Un.laid old (SX _) hD
 have I0 : ∀ tk, Inv (X.comp N' scope p) [] (eC cap σ) (upd H2 s2.heap.objs.size (.lst [])) { s2 with heap := h₁, toks := tk } := fun tk => {
  ok := ok
  os := rfl
  bare := I2.bare
  base := Hv
  loc := by
   refine ⟨_, wM, fun i x v h1 h2 h3 => ?_⟩
   unfold eC at h2
   rw [Tc] at h2
   cases hq : cap[i]? with
   | none => rw [hq] at h2; cases h2
   | some o =>
    rw [hq] at h2
    cases o with
    | none => cases h2
    | some j =>
     have ij : (σ[j]?).getD none = some v := T8 h2
     have LK : σ[j]? = some (some v) := by
      cases hz : σ[j]? with
      | none => rw [hz] at ij; cases ij
      | some z => rw [hz] at ij; exact Um some ij
     obtain ⟨n1, n2, n3⟩ := S.L8 h1 hq
     obtain ⟨m, hn, hl⟩ := I2.loc
     obtain ⟨u, r, l⟩ := hl j x v n1 LK (by rcases n2 with z | z; exact .inr (.inl z); exact .inr (.inr z))
     refine ⟨u, r, .inr ⟨mw n3, ?_⟩⟩
     obtain ⟨c, hc⟩ := Ng x (UH n3)
     refine ⟨c, hc, ?_⟩
     rcases l with ⟨z, _⟩ | ⟨_, c', w5, xE⟩
     ·rcases n2 with n2 | n2 <;> (rw [n2] at z; cases z)
     ·have := Go x c hc
      rw [w5] at this; cases this
      obtain ⟨o, ho, hd⟩ := xE
      exact ⟨o, old _ _ ho, hd⟩
  cell := fun x c e => by
   obtain ⟨v, o, ho, hd⟩ := I2.cell x c (Go x c e)
   exact ⟨v, o, old _ _ ho, hd⟩
  free := by
   show upd H2 s2.heap.objs.size (.lst []) A2.objs.size = none
   rw [aq (Vr (by omega))]
   exact I2.aV.fresh (by omega)
  iK := fun x c e => by
   have := Bt x c (Go x c e)
   show upd H2 s2.heap.objs.size (.lst []) c = none
   rw [aq (Tu this)]
   exact I2.iK x c (Go x c e)
  pin := fun q hq => by
   have vh : q ∈ X.pn ++ pins := by
    have z : q ∈ (X.pn ++ pins) ++ ([] : List (Addr × Obj)) := hq
    simpa using z
   have lt := Ev q vh
   obtain ⟨e, n, ne, nf, d⟩ := I2.pin q vh
   refine ⟨old _ _ e, by rw [aq (Tu lt)]; exact n, Tu (show @LT.lt Nat instLTNat q.1 A2.objs.size by omega), fun hf => ?_, d⟩
   rcases S2.mp (I2.kg _ hf) with z | z
   ·exact ne z
   ·exact nf z
  aV := I2.aV.laid old (SX _) ⟨Tw _, [], _, .nil, Mr⟩
  len := by show (eC cap σ).length = N'.length; unfold eC; rw [SW, S.len] }
 have FI : ∀ {H' : Hp}, (∀ b ∈ fp, H' b = none) -> ∀ b ∈ fp, rY (X.comp N' scope p) [] H' b := fun hn b hb =>
  ⟨hn b hb, (ok.IB b hb).1, ok.zb b hb, .inl hb, (ok.IB b hb).2, fun q hq => (f2 b hb).2.2.2.2.2 q (by
   have z : q ∈ (X.pn ++ pins) ++ ([] : List (Addr × Obj)) := hq
   simpa using z)⟩
 have N5 : ∀ b ∈ fp, (upd H2 s2.heap.objs.size (.lst [])) b = none := fun b hb => by
  rw [aq (Tu (G1 b hb))]
  exact (f2 b hb).1
 have loop : ∀ s3 : Shared, (∃ tk, s3 = { s2 with heap := h₁, toks := tk }) -> codeAny (model X.prog X.w) X.A (.compLoop (.ListComp elt [⟨tg, iter, ifs, 0⟩] scope pos) 0 (.ref it) (.ref s2.heap.objs.size) (compEnvC scope cl A2.objs.size X.env))
   (compPost (model X.prog X.w) X.A X.xe use Qf (.ref s2.heap.objs.size) A2.objs.size) s3 := by
  rintro s3 ⟨tk, rfl⟩
  refine sS (fun n s' => ∃ i xs H', Inv (X.comp N' scope p) [] (eC cap σ) H' s' /\ tn i s'.heap /\ (∀ b ∈ fp, H' b = none) /\ n = cnt - i /\ i <= cnt /\ Pv i xs H') ?_ cnt
   ⟨0, [], _, I0 tk, T.keep 0 _ _ Ej (fun b _ o e => old b o e), N5, rfl, Tw _, w0⟩
  rintro n s4 ⟨i, xs, H4, I4, qD, Nr, en, tw, w4⟩
  obtain ⟨RD, w4⟩ := turn i xs H4 tw w4
  rcases w4 with ⟨_, stop, qn⟩ | ⟨gc, go, step⟩
  ·refine bU (T.done (X.comp N' scope p) rfl rfl rfl GF i [] s4 _ H4 _ I4 (FI Nr) qD stop) fun r s5 ⟨hr, I5⟩ => ?_
   subst hr
   have I6 : Inv X pins σ H4 s5 := I2.D8 I5.os I5.base I5.aV I5.bare fun b hb => ⟨(f2 b hb).2.2.2.1, (f2 b hb).2.1, (f2 b hb).2.2.2.2.1, (f2 b hb).2.2.2.2.2⟩
   obtain ⟨m, hm, _⟩ := I5.loc
   refine fin _ _ H4 s5 I6 qn ⟨m, hm⟩ I5.free ?_ ?_ (fun x c e => ?_) fun q hq => ?_
   ·exact Vr (by have : @LT.lt Nat instLTNat X.env.locals s2.heap.objs.size := I2.lt; omega)
   ·have := I2.sz; omega
   ·exact Tu (by have := Bt x c e; omega)
   ·exact Tu (by have := Ev q hq; omega)
  ·refine bU (T.item (X.comp N' scope p) rfl rfl rfl GF i [] s4 _ H4 _ I4 (FI Nr) qD go) fun r s5 ⟨u, hr, h5⟩ => ?_
   subst hr
   refine bU h5 fun _ s6 ⟨x, H6, I6, r6, y6, LY, OY⟩ => ?_
   have NW := I6.pinned (FI OY) (T.obj _ _ LY)
   refine bU (hg p _ s6 _ H6 x u _ NW r6 (step x H6 y6)) fun _ s7 ⟨σ7, H7, I7, NJ, q7⟩ => ?_
   refine bU (hc p _ s7 σ7 H7 _ I7 q7) fun b s8 ⟨H8, I8, q8⟩ => ?_
   have again : ∀ {H9 : Hp} {s9 : Shared} {zs : List V}, Inv (X.comp N' scope p) ([] ++ nX fp s6.heap) σ7 H9 s9 -> Pv (i + 1) zs H9 ->
     ∃ m, m < n /\ ∃ i xs H', Inv (X.comp N' scope p) [] (eC cap σ) H' s9 /\ tn i s9.heap /\ (∀ b ∈ fp, H' b = none) /\ m = cnt - i /\ i <= cnt /\ Pv i xs H' := fun {H9 s9 zs} I9 w9 => by
    refine ⟨cnt - (i + 1), by omega, i + 1, zs, H9, I9.lT.weak NJ.1.symm (fun i v e => NJ.2 i v e), T.keep _ _ _ LY fun b hb o e => (I9.pin (b, o) (TC _ (TC _ (iz hb e)))).1, fun b hb => ?_, rfl, gc, w9⟩
    obtain ⟨o, e, d⟩ := T.obj _ _ LY b hb
    exact (I9.pin (b, o) (TC _ (TC _ (iz hb e)))).2.1
   cases b with
   | false =>
    exact again I8 q8
   | true =>
    refine bU (he p _ s8 σ7 H8 _ I8 q8) fun yv s9 ⟨y, H9, I9, ry, Ly, hz, w9⟩ => ?_
    refine bU (fL (X := X.comp N' scope p) _ s9 σ7 H9 (.ref s2.heap.objs.size) [y] (.ref s2.heap.objs.size) [yv] (fun v H' => v = .cq /\ H' = upd H9 s2.heap.objs.size (.lst (xs ++ [y]))) I9 rfl (.cons ry .nil) ⟨_, xs, y, rfl, rfl, Ly, hz, rfl, rfl⟩) fun _ So ⟨_, SH, R3, _, _, Qn⟩ => ?_
    subst Qn
    exact again R3 w9
 refine codeAny_compStart_list (loop _ ⟨_, rfl⟩) (T.self _ 0 _ _ _ (T.keep 0 _ _ Ej fun b _ o e => old b o e) (loop _ ⟨_, rfl⟩))
theorem ba (GF : X.calm = true) (S : bO X N' cap scope) (hi : PI X tg iter wi) (hg : ∀ p, PG (X.comp N' scope p) tg g) (hc : ∀ p, Ax (X.comp N' scope p) ifs tc) (he : ∀ p, PE (X.comp N' scope p) elt te)
  (hs : ∀ x, foldedSetIterable iter X.env x = pure x := by intro _; rfl) : PE X (.ListComp elt [⟨tg, iter, ifs, 0⟩] scope pos) (AY cap wi g tc te) := by
 intro pins s σ H Q I h
 rw [eval_ListComp]
 refine qP (use := none) (Q := Q) GF S hi hg hc he hs I h ?_
 intro D C H' s' I' q ns hC hL h1 h2 h3
 obtain ⟨m, hm⟩ := ns
 exact ⟨m, hm, fun J4 sb => ⟨.ref D, H', I'.turned (t' := s'.toks) (fun b o hb e => (sb.2 b hb).trans e) hC hL (.inr h1) h2 h3, rfl, q⟩⟩
theorem nL {j : Nat} {y : Str} {py Fx : Pos} (GF : X.calm = true) (S : bO X N' cap scope) (hi : PI X tg iter wi) (hg : ∀ p, PG (X.comp N' scope p) tg g) (hc : ∀ p, Ax (X.comp N' scope p) ifs tc) (he : ∀ p, PE (X.comp N' scope p) elt te)
  (hN : X.N.Nodup) (hj : X.N[j]? = some y) (hy : X.env.scope.names.lookup y = some .local)
  (Q4 : swapsWith (.ListComp elt [⟨tg, iter, ifs, 0⟩] scope pos) (some (.Name y py)) Fx.line X.env = pure true)
  (hs : ∀ x, foldedSetIterable iter X.env x = pure x := by intro _; rfl) : PS X (.Assign [.Name y py] (.ListComp elt [⟨tg, iter, ifs, 0⟩] scope pos) Fx) (DP (AY cap wi g tc te) (ue j)) := by
 intro pins s σ H D I h
 rw [exec_Assign_Name_used _ _ _ _ Q4]
 refine SS (wpAny_standAt (SS ?_))
 show wpAny _ X.A (do let _ <- comprehension (.ListComp elt [⟨tg, iter, ifs, 0⟩] scope pos) scope X.env _ (newList []) false (eval iter X.env) (some (assign (.Name y py) X.env))) _ _ s
 refine SS (Us (qP (use := some (assign (.Name y py) X.env)) (Qf := fun _ s' => SP X pins D .next s') GF S hi hg hc he hs I h ?_) (fun _ s' hq => SU (SU hq)) fun _ _ e => e)
 intro D' C H' s' I' q ns hC hL h1 h2 h3
 obtain ⟨m, hm⟩ := ns
 show wpAny _ X.A (assign (.Name y py) X.env (.ref D')) _ _ _
 refine wpAny_assign_Name (re I' hN hj (.inl hy) (v := .ref D') rfl (fun tz Sd ⟨a, sb, ha⟩ => ?_) (.inr hy))
 have ne : C ≠ a := fun z => by
  rcases ha with e | e
  ·exact hL (z.trans e)
  ·exact h2 y a e z.symm
 exact ⟨m, hm.sameBut sb ne, fun J4 QH => ⟨_, H', Sd.turned (t' := tz.toks) (fun b o hb e => (QH.2 b hb).trans e) hC hL (.inr h1) h2 h3, q⟩⟩
end
section
variable {K : VN} {cap : List (Option Nat)} {σ : St} {H : Hp} {g : TG} {tc : TT} {te : TE} {Q : VK} {D : Addr}
theorem eQ {lo : Int} {n : Nat} (Pv : Nat -> List V -> Hp -> Prop) (h0 : Pv 0 [] (upd H D (.lst []))) (hD : ∀ i xs H, i <= n -> Pv i xs H -> H D = some (.lst xs))
  (hs : ∀ i xs H, i < n -> Pv i xs H -> g (.int (lo + i)) (eC cap σ) H fun σ2 H4 => bP (eC cap σ) σ2 /\
   tc σ2 H4 fun b H5 => if b = true then te σ2 H5 fun y H6 => H6 D = some (.lst xs) /\ xs.length < sizeLine /\ Pv (i + 1) (xs ++ [y]) (upd H6 D (.lst (xs ++ [y]))) else Pv (i + 1) xs H5)
  (hd : ∀ xs H, Pv n xs H -> Q (.ref D) H) : md (EX lo n) D cap σ H g tc te Q := by
 refine ⟨n, Pv, h0, fun i xs H2 hi p => ⟨hD i xs H2 hi p, ?_⟩⟩
 by_cases gc : i < n
 ·refine .inr ⟨gc, gc, fun x H' y => ?_⟩
  obtain ⟨e, y⟩ := y
  subst e y
  exact hs i xs _ gc p
 ·have e : i = n := by omega
  subst e
  exact .inl ⟨rfl, SX _, hd xs H2 p⟩
theorem cB {a : Addr} {ys : List V} (Pv : Nat -> List V -> Hp -> Prop) (h0 : Pv 0 [] (upd H D (.lst []))) (hD : ∀ i xs H, i <= ys.length -> Pv i xs H -> H D = some (.lst xs) /\ a6 K H a ys)
  (hs : ∀ i x xs H, ys[i]? = some x -> Pv i xs H -> g x (eC cap σ) H fun σ2 H4 => bP (eC cap σ) σ2 /\
   tc σ2 H4 fun b H5 => if b = true then te σ2 H5 fun y H6 => H6 D = some (.lst xs) /\ xs.length < sizeLine /\ Pv (i + 1) (xs ++ [y]) (upd H6 D (.lst (xs ++ [y]))) else Pv (i + 1) xs H5)
  (hd : ∀ xs H, Pv ys.length xs H -> Q (.ref D) H) : md (GU K a) D cap σ H g tc te Q := by
 refine ⟨ys.length, Pv, h0, fun i xs H2 hi p => ⟨(hD i xs H2 hi p).1, ?_⟩⟩
 have q := (hD i xs H2 hi p).2
 by_cases gc : i < ys.length
 ·refine .inr ⟨gc, ⟨ys, ys[i], q, by simp [gc]⟩, fun x H' y => ?_⟩
  obtain ⟨e, y⟩ := y
  subst e
  exact hs i x xs _ (y ys q) p
 ·have e : i = ys.length := by omega
  subst e
  exact .inl ⟨rfl, ⟨ys, q, SX _⟩, hd xs H2 p⟩
theorem dh {a : Addr} {ys : List V} (Pv : Nat -> List V -> Hp -> Prop) (h0 : Pv 0 [] (upd H D (.lst []))) (hD : ∀ i xs H, i <= ys.length -> Pv i xs H -> H D = some (.lst xs) /\ aX K H a ys)
  (hs : ∀ i x xs H, ys[i]? = some x -> Pv i xs H -> g x (eC cap σ) H fun σ2 H4 => bP (eC cap σ) σ2 /\
   tc σ2 H4 fun b H5 => if b = true then te σ2 H5 fun y H6 => H6 D = some (.lst xs) /\ xs.length < sizeLine /\ Pv (i + 1) (xs ++ [y]) (upd H6 D (.lst (xs ++ [y]))) else Pv (i + 1) xs H5)
  (hd : ∀ xs H, Pv ys.length xs H -> Q (.ref D) H) : md (GR K a) D cap σ H g tc te Q := by
 refine ⟨ys.length, Pv, h0, fun i xs H2 hi p => ⟨(hD i xs H2 hi p).1, ?_⟩⟩
 have q := (hD i xs H2 hi p).2
 by_cases gc : i < ys.length
 ·refine .inr ⟨gc, ⟨ys, ys[i], q, by simp [gc]⟩, fun x H' y => ?_⟩
  obtain ⟨e, y⟩ := y
  subst e
  exact hs i x xs _ (y ys q) p
 ·have e : i = ys.length := by omega
  subst e
  exact .inl ⟨rfl, ⟨ys, q, SX _⟩, hd xs H2 p⟩
end
mutual
inductive DV (H : Hp) : PyData -> V -> Prop
 | cq : DV H .none .cq
 | bl (b : Bool) : DV H (.bool b) (.bl b)
 | int (i : Int) : DV H (.int i) (.int i)
 | str (x : Str) : DV H (.str x) (.str x)
 | lst {a : Addr} {ds : List PyData} {vs : List V} : H a = some (.lst vs) -> bF H ds vs -> DV H (.list ds) (.ref a)
 | tup {a : Addr} {ds : List PyData} {vs : List V} : H a = some (.tup vs) -> bF H ds vs -> DV H (.tuple ds) (.ref a)
inductive bF (H : Hp) : List PyData -> List V -> Prop
 | nil : bF H [] []
 | cons {d : PyData} {v : V} {ds : List PyData} {vs : List V} : DV H d v -> bF H ds vs -> bF H (d :: ds) (v :: vs)
end
section
variable {H H' : Hp}
mutual
theorem DV.mono (e : am H H') : ∀ {d : PyData} {v : V}, DV H d v -> DV H' d v
 | _, _, .cq => .cq
 | _, _, .bl b => .bl b
 | _, _, .int i => .int i
 | _, _, .str x => .str x
 | _, _, .lst h t => .lst (e _ _ h) (bF.mono e t)
 | _, _, .tup h t => .tup (e _ _ h) (bF.mono e t)
theorem bF.mono (e : am H H') : ∀ {ds : List PyData} {vs : List V}, bF H ds vs -> bF H' ds vs
 | _, _, .nil => .nil
 | _, _, .cons h t => .cons (DV.mono e h) (bF.mono e t)
end
theorem bF.length : ∀ {ds : List PyData} {vs : List V}, bF H ds vs -> ds.length = vs.length
 | _, _, .nil => rfl
 | _, _, .cons _ t => Um (· + 1) (bF.length t)
theorem bF.get : ∀ {ds : List PyData} {vs : List V} {i : Nat} {d : PyData}, bF H ds vs -> ds[i]? = some d -> ∃ v, vs[i]? = some v /\ DV H d v
 | _, _, _, _, .nil, e => by simp at e
 | _, _, 0, _, .cons h _, e => by simp at e; subst e; exact ⟨_, rfl, h⟩
 | _, _, i + 1, d, .cons _ t, e => by
  obtain ⟨v, h1, h2⟩ := bF.get (i := i) (d := d) t (by simpa using e)
  exact ⟨v, by simpa using h1, h2⟩
theorem bF.get' : ∀ {ds : List PyData} {vs : List V} {i : Nat} {v : V}, bF H ds vs -> vs[i]? = some v -> ∃ d, ds[i]? = some d /\ DV H d v
 | _, _, _, _, .nil, e => by simp at e
 | _, _, 0, _, .cons h _, e => by simp at e; subst e; exact ⟨_, rfl, h⟩
 | _, _, i + 1, v, .cons _ t, e => by
  obtain ⟨d, h1, h2⟩ := bF.get' (i := i) (v := v) t (by simpa using e)
  exact ⟨d, by simpa using h1, h2⟩
theorem bF.append : ∀ {ds es : List PyData} {vs ws : List V}, bF H ds vs -> bF H es ws -> bF H (ds ++ es) (vs ++ ws)
 | _, _, _, _, .nil, s => s
 | _, _, _, _, .cons h t, s => .cons h (bF.append t s)
theorem bF.snoc {ds : List PyData} {vs : List V} {d : PyData} {v : V} (h : bF H ds vs) (hd : DV H d v) : bF H (ds ++ [d]) (vs ++ [v]) := h.append (.cons hd .nil)
theorem bF.take : ∀ {ds : List PyData} {vs : List V} (n : Nat), bF H ds vs -> bF H (ds.take n) (vs.take n)
 | _, _, 0, _ => .nil
 | _, _, _ + 1, .nil => .nil
 | _, _, n + 1, .cons h t => .cons h (bF.take n t)
theorem bF.drop : ∀ {ds : List PyData} {vs : List V} (n : Nat), bF H ds vs -> bF H (ds.drop n) (vs.drop n)
 | _, _, 0, t => t
 | _, _, _ + 1, .nil => .nil
 | _, _, n + 1, .cons _ t => bF.drop n t
theorem bF.ints (ns : List Int) : bF H (ns.map PyData.int) (ns.map V.int) := by
 induction ns with
 | nil => exact .nil
 | cons n r ih => exact .cons (.int n) ih
theorem DV.int_inv {i : Int} {v : V} (h : DV H (.int i) v) : v = .int i := by cases h; rfl
theorem DV.E7 {b : Bool} {v : V} (h : DV H (.bool b) v) : v = .bl b := by cases h; rfl
theorem DV.eT {ds : List PyData} {v : V} (h : DV H (.tuple ds) v) : ∃ a vs, v = .ref a /\ H a = some (.tup vs) /\ bF H ds vs := by cases h with | tup h t => exact ⟨_, _, rfl, h, t⟩
theorem bF.kU : ∀ {ns : List Int} {vs : List V}, bF H (ns.map PyData.int) vs -> vs = ns.map V.int
 | [], _, h => by cases h; rfl
 | n :: r, _, h => by
  cases h with
  | cons h t =>
   cases h
   show _ = V.int n :: r.map V.int
   rw [bF.kU t]
theorem bF.nO {a b : PyData} {vs : List V} (h : bF H [a, b] vs) : ∃ v w, vs = [v, w] /\ DV H a v /\ DV H b w := by
 cases h with
 | cons h t => cases t with
  | cons h' t' => cases t'; exact ⟨_, _, rfl, h, h'⟩
theorem bF.jy {a b c : PyData} {vs : List V} (h : bF H [a, b, c] vs) : ∃ v w u, vs = [v, w, u] /\ DV H a v /\ DV H b w /\ DV H c u := by
 cases h with
 | cons h t =>
  obtain ⟨v, w, rfl, h1, h2⟩ := bF.nO t
  exact ⟨_, _, _, rfl, h, h1, h2⟩
variable {P : Program} {w : World} {h : Heap}
mutual
theorem DV.reads (ok : jk P w H h) : ∀ {d : PyData} {v : V} {u : Value}, DV H d v -> RelV v u -> ∃ as, Reads h u d as
 | _, _, _, .cq, r => by cases r; exact ⟨_, .none⟩
 | _, _, _, .bl b, r => by cases r; exact ⟨_, .bool b⟩
 | _, _, _, .int i, r => by obtain ⟨t, rfl⟩ := r; exact ⟨_, .int i t⟩
 | _, _, _, .str x, r => by obtain ⟨t, rfl⟩ := r; exact ⟨_, .str x t⟩
 | _, _, _, .lst e t, r => by
  cases r
  obtain ⟨_, aA, n, rv, eo⟩ := ok _ _ e
  obtain ⟨as, q⟩ := bF.reads ok t rv
  exact ⟨_, .list eo rfl rfl (by simpa using q)⟩
 | _, _, _, .tup e t, r => by
  cases r
  obtain ⟨_, aA, rv, o, eo, hc, n, hd⟩ := ok _ _ e
  obtain ⟨as, q⟩ := bF.reads ok t rv
  exact ⟨_, .tuple eo hc hd (by simpa using q)⟩
theorem bF.reads (ok : jk P w H h) : ∀ {ds : List PyData} {vs : List V} {us : List Value}, bF H ds vs -> Vals vs us -> ∃ as, ReadsAll h us ds as
 | _, _, _, .nil, r => by cases r; exact ⟨_, .nil⟩
 | _, _, _, .cons e t, r => by
  cases r with
  | cons r rr =>
   obtain ⟨as, q⟩ := DV.reads ok e r
   obtain ⟨bs, q'⟩ := bF.reads ok t rr
   exact ⟨_, .cons q q'⟩
end
end
section
variable {X : Cx}
def Mm (neg : Bool) : R2 := fun x y H Q => ∃ d e, DV H d x /\ DV H e y /\ d.canLay0 = true /\ e.canLay0 = true /\ min d.depth e.depth <= 60 /\ Q (.bl (if neg then !PyData.eqv d e else PyData.eqv d e)) H
theorem Gr (hu : X.A.units + 64 < cLine) : h9 X (compareOp .Eq) (Mm false) := by
 intro pins s σ H x y v u Q I rx ry h
 obtain ⟨d, e, hd, he, c1, c2, dp, q⟩ := h
 obtain ⟨as, ra⟩ := hd.reads I.aV rx
 obtain ⟨bs, rb⟩ := he.reads I.aV ry
 exact SeqAt.compareEq_reads ra rb c1 c2 (by omega) ⟨.bl _, H, I, rfl, q⟩
theorem dF : dH X (.builtin "isinstance") (fun xs H Q => ∃ x t T b, xs = [x, .ty T] /\ l9 X.K H x t /\ PySem.W.kitOne X.K t (.type T) = some b /\ Q (.bl b) H) := by
 intro pins s σ H xs us Q I r h
 obtain ⟨x, t, T, b, rfl, ty, e, q⟩ := h
 obtain ⟨u, w', rfl, r1, r2⟩ := vals2 r
 cases r2
 exact yp I r1 ty e fun tk => ⟨.bl b, H, I.tok tk, rfl, q⟩
theorem iX (K : VN) (T : String) : PySem.W.kitOne K (.type T) (.type T) = some true := by
 unfold PySem.W.kitOne
 rw [if_pos (by simp)]
theorem r0 (K : VN) : PySem.W.kitOne K (.type "int") (.type "bool") = some false := by
 show (if ((Value.type "int") == Value.type "bool") = true then some true else (if PySem.W.kitMeta "bool" = true then (fastBuiltinMro "int").map (·.contains (.type "bool")) else none)) = some false
 decide +kernel
end
end L2
namespace PySem
open Sem (wp)
open AutoSeq1 (wpAny_loadPart')
section
variable {prog : Program} {w : World} {A : Around} {E : Value -> Shared -> Prop} {s : Shared}
theorem p6 {Q : List Value -> Shared -> Prop} {r : Addr} {a b c : Int} {t u v : Tok} {n : Nat} (hh : A.handled = none) (hr : IsRange s.heap r a b c t u v) (oO : Builtin.Range.small a b c = true)
  (hn : Builtin.Range.rangeSize a b c = n) (hlen : n <= 2 ^ 24)
  (hQ : ∀ s' acc, (∀ b o, s.heap.get? b = some o -> s'.heap.get? b = some o) -> s'.gens = s.gens -> s'.drawn = s.drawn -> s'.os = s.os -> ItemsOf (fun i v => ∃ t, v = .int (a + i * c) t) acc n -> Q acc.toList s') :
  wpAny (model prog w) A (collect (.ref r)) Q E s := by
 unfold collect
 refine SS (wpAny_runValue (codeAny_builtin F.entry_proto_collect ?_))
 rw [Around.under_plainId F.plain_proto_collect _]
 show wpAny _ A.in1 (newList [] >>= fun l => again (.builtin "list.__iadd__" ⟨[l, .ref r], []⟩)) _ _ s
 refine SS (TQ ?_)
 refine SU ⟨plainId_quiet F.plain_list_iadd _, codeAny_builtin F.entry_list_iadd ?_⟩
 rw [Around.under_plainId F.plain_list_iadd _]
 show wpAny _ A.in1 (Builtin.List.listExtendWith (.ref s.heap.objs.size) (.ref r) (.ref s.heap.objs.size)) _ _ _
 have hS : (s.heap.push { cls := .type "list", data := .seq ([] : List Value).toArray }).get? s.heap.objs.size = some { cls := .type "list", data := .seq #[] 0 } := S7 _ rfl
 have Jq : ∀ (h' : Heap) (tk : Nat) (acc : Array Value) (c' : Nat), (∀ b o, b ≠ s.heap.objs.size -> (s.heap.push { cls := .type "list", data := .seq ([] : List Value).toArray }).get? b = some o -> h'.get? b = some o) ->
   h'.get? s.heap.objs.size = some { cls := .type "list", dict := none, data := .seq acc c', slots := #[] } -> ItemsOf (fun i v => ∃ t, v = .int (a + i * c) t) acc n ->
   wpAny (model prog w) A (match Value.ref s.heap.objs.size with
   | Value.ref a => do
    match (<- load a).data with
     | Data.seq xs _ => pure xs.toList
     | _ => unsupported "internal:collect"
   | _ => unsupported "internal:collect") Q E { s with heap := h', toks := tk } := by
  intro h' tk acc c' hk zG ny
  show wpAny _ A (load s.heap.objs.size >>= _) _ _ _
  refine SS (wpAny_load zG ?_)
  refine SU ?_
  exact hQ { s with heap := h', toks := tk } acc (fun b o' hb => hk b o' (Tu (Td hb)) (SV _ hb)) rfl rfl rfl ny
 refine Us (wpAny_extend_range (A := A) (R := fun r s' => r = .ok (.ret (.ref s.heap.objs.size)) /\ ∃ (h' : Heap) (tk : Nat) (acc : Array Value) (c' : Nat), s' = { s with heap := h', toks := tk } /\
   (∀ b o, b ≠ s.heap.objs.size -> (s.heap.push { cls := .type "list", data := .seq ([] : List Value).toArray }).get? b = some o -> h'.get? b = some o) /\
   h'.get? s.heap.objs.size = some { cls := .type "list", dict := none, data := .seq acc c', slots := #[] } /\ ItemsOf (fun i v => ∃ t, v = .int (a + i * c) t) acc n)
  (s := { s with heap := s.heap.push { cls := .type "list", data := .seq ([] : List Value).toArray } }) hh (SV _ hr) oO hn hlen s.heap.objs.size (.ref s.heap.objs.size) 0 hS
  fun h' tk Kt c' hk zG ny => ⟨rfl, h', tk, Kt, c', rfl, hk, zG, ny⟩) (fun fin s' h => ?_) (fun e s' h => ?_)
 ·cases fin with
  | done f =>
   obtain ⟨e, h', tk, acc, c', rfl, hk, zG, ny⟩ := h
   cases e
   exact Jq h' tk acc c' hk zG ny
  | again c' => exact ⟨h.1, codeAny_mono h.2 fun r tz hr => by obtain ⟨rfl, h', tk, acc, c', rfl, hk, zG, ny⟩ := hr; exact Jq h' tk acc c' hk zG ny⟩
 ·exact absurd h.1 (by simp)
end
theorem iO (r : Addr) (a b c : Int) (t u v : Tok) (n : Nat) (oO : Builtin.Range.small a b c = true) (hn : Builtin.Range.rangeSize a b c = n) (hlen : n <= 2 ^ 20) :
  Meets (Builtin.«tuple.__new__» ⟨[.type "tuple", .ref r], []⟩)
   (fun A R s => A.handled = none /\ IsRange s.heap r a b c t u v /\ ∀ (s' : Shared) (acc : Array Value), (∀ b o, s.heap.get? b = some o -> s'.heap.get? b = some o) -> s'.gens = s.gens -> s'.drawn = s.drawn -> s'.os = s.os -> ItemsOf (fun i v => ∃ t, v = .int (a + i * c) t) acc n ->
    R (.ok (.ret (.ref s'.heap.objs.size))) { s' with heap := s'.heap.push { cls := .type "tuple", data := .seq acc } }) :=
 .of_wp fun prog w A R s h => by
  obtain ⟨hh, hr, h⟩ := h
  have y7 := sub_tuple_self
  have Nw := init_tuple_lookup
  have Sv := madeHere_tuple
  have hT : s.TypeIs (.ref r) "range" := ⟨_, hr, rfl⟩
  have Rv : A.in1.handled = none := hh
  wp_walk using wpAny_loadPart' hr, wpAny_typeOf hT, p6 (n := n) Rv hr oO hn (by omega)
  intro s' acc hk hg hd Bk ny
  show wpAny _ _ (Builtin.Tuple.tupleExact acc.toList.toArray >>= fun v => ret v) _ _ _
  unfold Builtin.Tuple.tupleExact
  refine SS (TQ ?_ (show acc.toList.toArray.size <= sizeLine by simp only [U3]; rw [ny.1, UV]; omega))
  refine SU ⟨_, rfl, ?_⟩
  have e : acc.toList.toArray = acc := by simp
  rw [e]
  exact h s' acc hk hg hd Bk ny
section
variable {prog : Program} {w : World} {A : Around} {E : Value -> Shared -> Prop} {s : Shared}
theorem oj {Q : Value -> Shared -> Prop} {r : Addr} {a b c : Int} {t u v : Tok} {n : Nat} (hh : A.handled = none) (hr : IsRange s.heap r a b c t u v) (oO : Builtin.Range.small a b c = true)
  (hn : Builtin.Range.rangeSize a b c = n) (hlen : n <= 2 ^ 20)
  (h : ∀ (h' : Heap) (tk : Nat) (acc : Array Value), (∀ b o, s.heap.get? b = some o -> h'.get? b = some o) -> ItemsOf (fun i v => ∃ t, v = .int (a + i * c) t) acc n -> Q (.ref h'.objs.size) { s with heap := h'.push { cls := .type "tuple", data := .seq acc }, toks := tk }) :
  wpAny (model prog w) A (call (.type "tuple") [.ref r]) Q E s := by
 refine callType_new F.called_tuple (by decide) (F.typeCall_tuple_1 _) (F.newCall_tuple_1 _) (fun obj => F.args_object_init_2 obj _) F.entry_tuple_new
  (iO r a b c t u v n oO hn hlen) ⟨hh, hr, fun s' acc hk hg hd Bk ny => ⟨⟨_, S7 _ rfl, rfl⟩, ?_⟩⟩
 obtain ⟨h', g', d', OT, KL⟩ := s'
 have e1 : g' = s.gens := hg
 have e2 : d' = s.drawn := hd
 have e3 : KL = s.os := Bk
 subst e1 e2 e3
 exact h h' OT acc hk ny
end
end PySem
namespace L2
open PySem PySem.Spec PyProof.Rows
theorem xO : ∀ {xs : List V} {us : List Value}, xs.length = us.length -> (∀ (i : Nat) x u, xs[i]? = some x -> us[i]? = some u -> RelV x u) -> Vals xs us
 | [], [], _, _ => .nil
 | [], _ :: _, h, _ => by simp at h
 | _ :: _, [], h, _ => by simp at h
 | x :: xs, u :: us, h, f => .cons (f 0 x u rfl rfl) (xO (by simpa using h) fun i y z h1 h2 => f (i + 1) y z (by simpa using h1) (by simpa using h2))
def bn (n : Nat) : List Int := (List.range n).map fun k : Nat => (k : Int)
theorem aO (n : Nat) : (bn n).length = n := by simp [bn]
theorem Bv {n i : Nat} (h : i < n) : (bn n)[i]? = some (i : Int) := by simp [bn, h]
theorem cQ (n : Nat) : bn (n + 1) = bn n ++ [(n : Int)] := by simp [bn, List.range_succ]
theorem cE {n : Nat} {i : Int} : i ∈ bn n ↔ 0 <= i /\ i < n := by
 simp only [bn, TD, List.mem_range]
 constructor
 ·rintro ⟨k, hk, rfl⟩; omega
 ·rintro ⟨h0, h1⟩; exact ⟨i.toNat, by omega, by omega⟩
section
variable {X : Cx}
theorem t4 : dH X (.type "range") (fun xs H Q => ∃ j, xs = [.int j] /\ ∀ p, H p = none -> Q (.ref p) (upd H p (.Cf 0 j))) := by
 intro pins s σ H xs us Q I r h
 obtain ⟨j, rfl, q⟩ := h
 obtain ⟨u, rfl, t, rfl⟩ := vals1 r
 refine call_range_1 ?_
 exact ⟨.ref s.heap.objs.size, _, I.laid (o := .Cf 0 j) (fun b o e => SV _ e) (SX _) ⟨_, _, _, S7 _ rfl⟩, rfl, q _ (I.aV.fresh (SX _))⟩
theorem mk (hc : X.calm = true) : dH X (.type "tuple") (fun xs H Q => ∃ p n, xs = [.ref p] /\ H p = some (.Cf 0 (n : Nat)) /\ n <= 1000 /\ ∀ l, H l = none -> Q (.ref l) (upd H l (.tup ((bn n).map V.int)))) := by
 intro pins s σ H xs us Q I r h
 obtain ⟨p, n, rfl, hp, hn, q⟩ := h
 obtain ⟨u, rfl, rx⟩ := vals1 r
 cases rx
 obtain ⟨t, u, v, e⟩ := I.aV p _ hp
 have hsz : Builtin.Range.rangeSize 0 (n : Int) 1 = n := by rw [rangeSize_one]; split <;> omega
 refine oj (n := n) (I.ok.hd hc) e (small_one (by omega) (by omega) (by omega) (by omega)) hsz (by omega) fun h' tk acc kp items => ?_
 have I1 : Inv X pins σ H { s with heap := h', toks := tk } := I.kept (t' := tk) kp
 have hv : Vals ((bn n).map V.int) acc.toList := by
  refine xO (by rw [SW, aO, S5, items.1]) fun i x u h1 h2 => ?_
  have hi : i < n := by
   have := (Tk.mp h1).1
   rw [SW, aO] at this
   exact this
  rw [Tc, Bv hi] at h1
  cases h1
  obtain ⟨t', e'⟩ := items.2 i u (by simpa using h2)
  exact ⟨t', by rw [e']; congr 1; omega⟩
 have hz : ((bn n).map V.int).length <= sizeLine := by rw [SW, aO, UV]; omega
 have I2 : Inv X pins σ (upd H h'.objs.size (.tup ((bn n).map V.int))) { s with heap := h'.push { cls := .type "tuple", data := .seq acc }, toks := tk } :=
  I1.laid (t' := tk) (fun b o e => SV _ e) (SX _) (show bV X.prog X.w _ _ _ (.tup ((bn n).map V.int)) from ⟨hz, acc.toList, hv, ⟨_, S7 _ rfl, rfl, 0, by simp⟩⟩)
 exact ⟨.ref h'.objs.size, _, I2, rfl, q _ (I1.aV.fresh (SX _))⟩
end
theorem bV.there {P : Program} {w : World} {H : Hp} {h : Heap} {a : Addr} {o : HO} (x : bV P w H h a o) : ∃ ob, h.get? a = some ob := by
 cases o with
 | lst xs => obtain ⟨_, _, _, _, e⟩ := x; exact ⟨_, e⟩
 | tup xs => obtain ⟨_, _, _, o, e, _⟩ := x; exact ⟨o, e⟩
 | dK kvs => obtain ⟨_, _, _, _, o, _, _, e, _⟩ := x; exact ⟨o, e⟩
 | dT kvs => obtain ⟨_, _, _, _, o, _, _, e, _⟩ := x; exact ⟨o, e⟩
 | set S n => obtain ⟨o, _, _, _, e, _⟩ := x; exact ⟨o, e⟩
 | ins C dx fs => obtain ⟨_, _, _, e, _⟩ := x; exact ⟨_, e⟩
 | own y => exact x
 | xd fs => obtain ⟨_, ⟨o, _, _, e, _⟩, _⟩ := x; exact ⟨o, e⟩
 | Cf lo hi => obtain ⟨_, _, _, e⟩ := x; exact ⟨_, e⟩
 | vo ob u => obtain ⟨e, _⟩ := x; exact ⟨_, e⟩
 | Ec ps => exact ⟨_, x⟩
 | met f y => exact ⟨_, x⟩
 | ext φ => obtain ⟨_, e, _⟩ := x; exact e
def Ay (P : Program) (w : World) : wC := fun outer H s E e s' => ∃ (a C : Addr) (a0 : Value) (B : Heap) (H' : Hp), e = .ref a /\ s'.os = s.os /\ AllBare s'.gens /\ Un (kC outer) [] H H' s.heap s'.heap /\ jk P w H' s'.heap /\
 Heap.FlyingW B outer a (.ref C) a0 s'.heap /\ (∀ b o, s.heap.get? b = some o -> H b = none -> b ∉ kC outer -> B.get? b = some o) /\ (∀ b o, s.heap.get? b = some o -> b ∉ kC outer -> ∃ o', B.get? b = some o') /\
 (∀ b u, H' b = some u -> ∃ ob, s'.heap.get? b = some ob /\ B.get? b = some ob) /\ E (.ref C) none H'
section
variable {X : Cx} {pins : List (Addr × Obj)} {σ : St} {H H' : Hp} {s : Shared} {h' : Heap}
theorem zI (I : Inv X pins σ H s) (hex : X.ex = []) (u : Un (kC X.stack) [] H H' s.heap h') : Un X.fs [] X.H₀ H' X.s₀.heap h' := by
 have QW : ∀ b o, X.s₀.heap.get? b = some o -> b ∉ X.fs -> b ∉ kC X.stack := fun b o e hb hm => by
  rcases S2.mp (I.kg b hm) with z | z
  ·exact absurd (Tz (Td e) I.ok.above) (by rw [z]; exact Uj _)
  ·exact hb z
 have nx : ∀ b : Addr, b ∉ X.ex := fun b hb => by rw [hex] at hb; cases hb
 have ne : ∀ b : Addr, b ∉ ([] : List Addr) := fun b hb => by cases hb
 refine ⟨fun b o e n hb _ => ?_, fun b o e n hb _ => ?_, fun b o e n _ => ?_, fun b o e _ => ?_, fun b xs e => u.eL b xs (I.base.eL b xs e), fun b o v e => u.iR b o v (I.base.iR b o v e), fun b ps e => ?_⟩
 ·exact u.keep b o (I.base.keep b o e n hb (nx b)) (I.base.free b o e n (nx b)) (QW b o e hb) (ne b)
 ·obtain ⟨sl, e1⟩ := I.base.slot b o e n hb (nx b)
  obtain ⟨Dv, e2⟩ := u.any e1 (I.base.free b o e n (nx b)) (ne b)
  exact ⟨Dv, e2⟩
 ·obtain ⟨o', e1⟩ := I.base.there b o e (nx b)
  exact u.free b o' e1 (I.base.free b o e n (nx b)) (ne b)
 ·obtain ⟨o', e1⟩ := I.base.there b o e (nx b)
  exact u.there b o' e1 (ne b)
 ·obtain ⟨m1, e1⟩ := I.base.ji b ps e
  obtain ⟨m2, e2⟩ := u.ji b _ e1
  exact ⟨m1 ++ m2, by rw [e2, Array.append_assoc]⟩
theorem sv (I : Inv X pins σ H s) {b : Addr} {o : Obj} (e : X.s₀.heap.get? b = some o) (hb : b ∉ X.fs) : b ∉ kC X.stack := fun hm => by
 rcases S2.mp (I.kg b hm) with z | z
 ·exact absurd (Tz (Td e) I.ok.above) (by rw [z]; exact Uj _)
 ·exact hb z
end
def IL (X : Cx) (E : XK) : Prop := ∀ (pins : List (Addr × Obj)) (σ : St) (H : Hp) (s : Shared) (h' : Heap) (a C : Addr) (vs : List Value), Inv X pins σ H s -> Heap.MadeExcOf s.heap h' a (.ref C) vs -> E (.ref C) none H -> X.xe (.ref a) { s with heap := h' }
section
variable {P : Program} {w : World} {K : VN} {mg : Str -> Option Value} {base : Heap} {N : List Str} {qual : Str} {scope : Scope} {f : Addr} {cd : Value} {A : Around} {outer : List Env} {s₀ : Shared} {H₀ : Hp} {E : XK}
abbrev tf (P : Program) (w : World) (K : VN) (mg : Str -> Option Value) (base : Heap) (N : List Str) (qual : Str) (scope : Scope) (f : Addr) (cd : Value) (A : Around) (outer : List Env) (s₀ : Shared) (H₀ : Hp) (E : XK) : Cx :=
 ug (Ay P w) P w K mg base N qual scope f cd A outer s₀ H₀ E
theorem uq : IL (tf P w K mg base N qual scope f cd A outer s₀ H₀ E) E := by
 intro pins σ H s h' a C vs I hx hE
 have oq : (tf P w K mg base N qual scope f cd A outer s₀ H₀ E).stack = envOfC qual scope s₀.heap.objs.size f cd :: outer := rfl
 have tw : ∀ env ∈ (tf P w K mg base N qual scope f cd A outer s₀ H₀ E).stack, ∀ b, env.frame = some b -> b ∈ kC (tf P w K mg base N qual scope f cd A outer s₀ H₀ E).stack := fun env he b hb => List.mem_filterMap.mpr ⟨env, he, hb⟩
 show wpAny (model P w) (A.deeper (envOfC qual scope s₀.heap.objs.size f cd)) («leaving» (envOfC qual scope s₀.heap.objs.size f cd) (.ref a)) _ _ _
 refine wpAny_leaves_madeW (base := PySem.W.hideAll s.heap (kC (tf P w K mg base N qual scope f cd A outer s₀ H₀ E).stack)) I.ok.frames rfl (fun b o q => PySem.W.of_hideAll _ q) (PySem.W.funFrames_hide I.stack tw) hx fun h2 t fl tup ht up => ?_
 have gB : ∀ b o, s.heap.get? b = some o -> b ∉ kC (tf P w K mg base N qual scope f cd A outer s₀ H₀ E).stack -> (PySem.W.hideAll s.heap (kC (tf P w K mg base N qual scope f cd A outer s₀ H₀ E).stack)).get? b = some o := fun b o e hb => PySem.W.hideAll_get _ e hb
 have gF : ∀ b o, s.heap.get? b = some o -> b ∈ kC (tf P w K mg base N qual scope f cd A outer s₀ H₀ E).stack -> ∃ sl, h2.get? b = some { o with slots := sl } := fun b o e hb => by
  obtain ⟨_, o', e', hd⟩ := I.stack.mem hb
  rw [e] at e'; cases e'
  exact up b o (hx.keeps b o e) hd
 have E8 : ∀ b u, H b = some u -> b ∉ kC (tf P w K mg base N qual scope f cd A outer s₀ H₀ E).stack := fun b u e hb => by rw [I.nJ b hb] at e; cases e
 have un : Un (kC (tf P w K mg base N qual scope f cd A outer s₀ H₀ E).stack) [] H H s.heap h2 := by
  refine ⟨fun b o e _ hb _ => fl.1 b o (gB b o e hb), fun b o e _ hb _ => gF b o e hb, fun _ _ _ n _ => n, fun b o e _ => ?_, fun _ _ q => q, fun _ _ _ q => q, fun _ ps q => ⟨#[], by rw [q]; simp⟩⟩
  by_cases hb : b ∈ kC (tf P w K mg base N qual scope f cd A outer s₀ H₀ E).stack
  ·obtain ⟨sl, q⟩ := gF b o e hb
   exact ⟨_, q⟩
  ·exact ⟨o, fl.1 b o (gB b o e hb)⟩
 have nx : ∀ b : Addr, b ∉ (tf P w K mg base N qual scope f cd A outer s₀ H₀ E).ex := fun b hb => by cases hb
 refine ⟨a, C, .ref t, _, H, rfl, I.os, I.bare, zI I rfl un, fun b u e => ?_, fl, fun b o e n hb => ?_, fun b o e hb => ?_, fun b u e => ?_, hE⟩
 ·refine (I.aV b u e).j8 (fun c v hc q => ?_) (fun _ q => q) fun _ _ q => q
  have hH : ∃ u', H c = some u' := by
   rcases hc with z | z
   ·exact ⟨u, by rw [z]; exact e⟩
   ·exact ⟨_, z⟩
  obtain ⟨u', EG⟩ := hH
  exact fl.1 c v (gB c v q (E8 c u' EG))
 ·exact gB b o (I.base.keep b o e n hb (nx b)) (sv I e hb)
 ·obtain ⟨o', e1⟩ := I.base.there b o e (nx b)
  exact ⟨o', gB b o' e1 (sv I e hb)⟩
 ·obtain ⟨ob, q⟩ := (I.aV b u e).there
  have z := gB b ob q (E8 b u e)
  exact ⟨ob, fl.1 b ob z, z⟩
theorem oQ : Passes (Ay P w) (tf P w K mg base N qual scope f cd A outer s₀ H₀ E) E := by
 intro pins σ H s e s' I h
 obtain ⟨a, C, a0, B, H', rfl, os, bare, un, aV, fl, M4, NR, tr, hE⟩ := h
 show wpAny (model P w) (A.deeper (envOfC qual scope s₀.heap.objs.size f cd)) («leaving» (envOfC qual scope s₀.heap.objs.size f cd) (.ref a)) _ _ _
 refine wpAny_leaves_onW I.ok.frames rfl fl fun h2 IR up => ?_
 have ne : ∀ b : Addr, b ∉ ([] : List Addr) := fun b hb => by cases hb
 have nx : ∀ b : Addr, b ∉ (tf P w K mg base N qual scope f cd A outer s₀ H₀ E).ex := fun b hb => by cases hb
 have gF : ∀ b o, s.heap.get? b = some o -> b ∈ kC (tf P w K mg base N qual scope f cd A outer s₀ H₀ E).stack -> ∃ sl, h2.get? b = some { o with slots := sl } := fun b o e hb => by
  obtain ⟨_, o', e', hd⟩ := I.stack.mem hb
  rw [e] at e'; cases e'
  obtain ⟨sl, q⟩ := un.slot b o e (I.nJ b hb) hb (ne b)
  obtain ⟨Dv, q'⟩ := up b _ q hd
  exact ⟨Dv, q'⟩
 have PY : Un (kC (tf P w K mg base N qual scope f cd A outer s₀ H₀ E).stack) [] H H' s.heap h2 := by
  refine ⟨fun b o e n hb _ => IR.1 b o (M4 b o e n hb), fun b o e _ hb _ => gF b o e hb, un.free, fun b o e _ => ?_, un.eL, un.iR, un.ji⟩
  by_cases hb : b ∈ kC (tf P w K mg base N qual scope f cd A outer s₀ H₀ E).stack
  ·obtain ⟨sl, q⟩ := gF b o e hb
   exact ⟨_, q⟩
  ·obtain ⟨o', q⟩ := NR b o e hb
   exact ⟨o', IR.1 b o' q⟩
 refine ⟨a, C, a0, B, H', rfl, os.trans I.os, bare, zI I rfl PY, fun b u e => ?_, IR, fun b o e n hb => ?_, fun b o e hb => ?_, fun b u e => ?_, hE⟩
 ·refine (aV b u e).j8 (fun c v hc q => ?_) (fun _ q => q) fun _ _ q => q
  have hH : ∃ u', H' c = some u' := by
   rcases hc with z | z
   ·exact ⟨u, by rw [z]; exact e⟩
   ·exact ⟨_, z⟩
  obtain ⟨u', EG⟩ := hH
  obtain ⟨ob, q1, q2⟩ := tr c u' EG
  rw [q] at q1; cases q1
  exact IR.1 c v q2
 ·exact M4 b o (I.base.keep b o e n hb (nx b)) (I.base.free b o e n (nx b)) (sv I e hb)
 ·obtain ⟨o', e1⟩ := I.base.there b o e (nx b)
  exact NR b o' e1 (sv I e hb)
 ·obtain ⟨ob, q1, q2⟩ := tr b u e
  exact ⟨ob, IR.1 b ob q2, q2⟩
end
theorem Cg {K : VN} {h : Heap} {C : Addr} {GY : List Value} {newId : String} (X : K.In h) (q : PySem.W.excIn K C GY newId = true) : ∃ bm N nm qn bs hdct sn sub ab col dd k0 k1 k2 k3 k5 mN,
  h.get? C = some (excClassObj nm qn C N bs bm hdct sn sub ab col dd k0 k1 k2 k3 k5 newId) /\ h.Ns N mN /\ mN "__init__" = none /\ OwnTail h GY bm := by
 unfold PySem.W.excIn at q
 split at q
 ·rename_i dd cd sl ho
  split at q
  ·rename_i C' bm k0 k1 k2 k3 n k5 hm hs
   simp only [TK, U4, Bool.not_eq_true'] at q
   obtain ⟨⟨⟨⟨⟨rfl, rfl⟩, Hw⟩, ht⟩, aV⟩, J5⟩ := q
   obtain ⟨nm, bs, mro, ns, qn, hd, sn, sub, ab, col, del⟩ := cd
   dsimp only at hm Hw aV J5
   subst hm Hw
   have QF : sl = #[k0, k1, k2, k3, some (.builtin n), k5] := by
    obtain ⟨l⟩ := sl
    simp only at hs
    rw [hs]
   subst QF
   exact ⟨bm, ns, nm, qn, bs, hd, sn, sub, ab, col, dd, k0, k1, k2, k3, k5, _, X _ _ ho, .of_isNs (PySem.W.isNs_of_in X aV), PySem.W.nsMap_none_of_in X aV J5, PySem.W.tail_of_in X ht⟩
  ·cases q
 ·cases q
section
variable {X : Cx} {E : XK} {x : Str} {C : Addr} {B newId Gs : String} {GY : List Value} {np cR pos : Pos} {e₀ : Expr} {rest : List Expr} {ta : TA}
def FQ (C : Addr) (E : XK) (ta : TA) : TS := fun _ σ H => ta σ H fun vs H1 => vs.length <= sizeLine /\ E (.ref C) none H1
theorem uQ (ho : IL X E) (hc : X.calm = true) (hg : Gl X x) (hm : X.mg x = some (.ref C)) (q : PySem.W.excIn X.K C GY newId = true) (FB : ExcBaseFacts B newId Gs GY) (ha : PA X (e₀ :: rest) ta)
  (he : starEach (e₀ :: rest) X.env = (false, eval e₀ X.env) :: starEach rest X.env := by rfl) (ku : (backTo cR (starEach rest X.env)).any (·.1) = false := by rfl) (hd : (x == ("__debug__" : Str)) = false := by decide) :
  PS X (.Raise (some (.Call (.Name x np) (e₀ :: rest) [] cR)) none pos) (FQ C E ta) := by
 intro pins s σ H D I h
 obtain ⟨bm, N, nm, qn, bs, hdct, sn, sub, ab, col, dd, k0, k1, k2, k3, k5, mN, hC, hN, J5, T⟩ := Cg I.mod.wZ q
 refine wpAny_Raise_call_subT (C := C) (nm := nm) (q := qn) (N := N) (bs := bs) (bm := bm) (hdct := hdct) (sn := sn) (sub := sub) (ab := ab) (col := col) (dd := dd) (k0 := k0) (k1 := k1) (k2 := k2) (k3 := k3) (k5 := k5)
  FB (mN := mN) (T.hasType FB.hasBase) (I.ok.hd hc) (by rw [he]; show (false || (backTo cR (starEach rest X.env)).any (·.1)) = false; rw [ku]; rfl) J5 (k9 I hg hm ⟨rfl, ?_⟩ hd)
 have hA := ha cR pins s σ H _ I h
 rw [he] at hA ⊢
 refine Calls.evalArgs_plain (bU hA fun us s2 ⟨vs, H2, I2, r2, hl, hE⟩ => ⟨rfl, by rw [<- r2.length]; exact hl, I2.bk _ _ hC, hN.keeps I2.bk, T.keeps I2.bk, fun h' e hx => ?_⟩)
 exact ho pins σ H2 s2 h' e C us I2 hx hE
end
theorem CY.K8 {P : Program} {w : World} {K : VN} {mg : Str -> Option Value} {base : Heap} {x qual : Str} {st : Stmt} {f : Addr} {fd : FuncData} {N ps : List Str} {k : Nat} {sp : Sp} (F : CY K x qual st f fd) (S : au N ps (ak st)) (len : ∀ vs H Q E, sp vs H Q E -> vs.length = ps.length)
  (uM : ∀ (b8 : Value) (A : Around) (outer : List Env) (s : Shared) (H : Hp) (vs : List V) (Q : VK) (E : XK), dJ k (A.deeper (envOfC qual (ak st) s.heap.objs.size f b8)) -> sp vs H Q E ->
   ∃ t, rL (tf P w K mg base N qual (ak st) f b8 A outer s H E) (b7 st) t /\ t { nx := fun _ H' => Q .cq H', rt := Q } (start N vs) H) : av P w K mg base (Ay P w) (k + 1) f fd ps sp := by
 obtain ⟨oc, od, kV, doc, pm, an, b8, ct, CW, rfl, lk, vE⟩ := F.ex
 exact EB lk vE S len fun A outer s H vs Q E hr xV => uM b8 A outer s H vs Q E hr xV
end L2
namespace PyProof.Rows
open PySem PySem.W
section
variable {prog : Program} {w : World} {A : Around} {E : Value -> Shared -> Prop} {s : Shared}
theorem AV {T : String} {l : Addr} {o : Obj} {vs : List Value} {n : Nat} {Q : List Value -> Shared -> Prop} (hT : T = "list" \/ T = "tuple") (ho : s.heap.get? l = some o) (hc : o.cls = .type T) (hd : o.data = .seq vs.toArray n) (hz : vs.length <= sizeLine)
  (hQ : Q vs { s with heap := (s.heap.push (seqObj "list" #[] 0)).update s.heap.objs.size (Obj.mapSeq (· ++ vs.toArray)) }) : wpAny (model prog w) A (collect (.ref l)) Q E s := by
 have up : (s.heap.push (seqObj "list" #[] 0)).get? l = some o := SV _ ho
 have nw : (s.heap.push (seqObj "list" #[] 0)).get? s.heap.objs.size = some (seqObj "list" #[] 0) := S7 _ rfl
 have cond : ∀ x y : Value, (Builtin.List.listSameRef x y || Value.type T == Value.type "list" || Value.type T == Value.type "tuple") = true := fun x y => by
  rcases hT with rfl | rfl <;> simp
 unfold collect
 refine SS (wpAny_runValue (codeAny_builtin entry_proto_collect' ?run))
 case run =>
  refine SS (wpAny_newList (SU ⟨Code.quiet_builtin _ (by decide +kernel), codeAny_builtin entry_list_iadd' ?ext⟩))
  case ext =>
   show wpAny _ _ (Builtin.List.listExtendWith (.ref s.heap.objs.size) (.ref l) (.ref s.heap.objs.size)) _ _ _
   unfold Builtin.List.listExtendWith
   refine SS (wpAny_typeOf (T := T) ⟨o, up, hc⟩ ?_); rw [if_pos (cond _ _)]
   refine SS (listItems_at up hd (SS (listItems_at nw rfl ?_))); rw [if_neg (by simp)]
   refine SS (VA nw rfl (SU ?_) (Tw _) (by show (#[] ++ vs.toArray).size <= sizeLine + 1; simp only [UG, Tb, List.length_nil]; omega))
   refine SS (wpAny_load (get?_update_seq nw _) ?_)
   have e : (#[] ++ vs.toArray : Array Value).toList = vs := by simp
   show wpAny _ _ (pure (#[] ++ vs.toArray : Array Value).toList) Q E _
   rw [e]; exact SU hQ
theorem yS {a : Addr} {vs out : List Value} {n : Nat} {P : PySem.Fin -> Shared -> Prop} (ho : s.heap.get? a = some (seqObj "list" vs.toArray n)) (hz : vs.length <= sizeLine) (hlen : out.length = vs.length) (short : vs.length < 2 -> out = vs)
  (run : 2 <= vs.length -> ∀ h' : Heap, (∀ b o, b ≠ a -> s.heap.get? b = some o -> h'.get? b = some o) -> wpAny (model prog w) A (keyKind' vs.toArray) (fun κ s1 => s1 = { s with heap := h' } /\
   wpAny (model prog w) A ((sortRuns').run (SortSt.mk' κ (vs.toArray.zip vs.toArray) #[] 7 none)) (fun r s2 => s2 = { s with heap := h' } /\ failedOf r.2 = none /\ (arrOf r.2).map (·.2) = out.toArray) E s1) E { s with heap := h' })
  (hP : P (.done (.ret .none)) { s with heap := sortedHeap s.heap a vs out.toArray }) : wpAny (model prog w) A (Builtin.«list.sort» ⟨[.ref a], []⟩) P E s := by
 have ha : a < s.heap.objs.size := Td ho
 have wQ : vs.toArray.size <= sizeLine := hz
 have Gn : out.toArray.size <= sizeLine + 1 := Nat.le_succ_of_le (by show out.length <= sizeLine; rw [hlen]; exact hz)
 obtain ⟨e1, qe⟩ : ∃ e1, (s.heap.update a (Obj.mapSeq fun _ => #[])).get? a = some (seqObj "list" #[] e1) := ⟨_, get?_update_seq ho fun _ => #[]⟩
 have old : ∀ b o, b ≠ a -> s.heap.get? b = some o -> (((s.heap.update a (Obj.mapSeq fun _ => #[])).push (seqObj "tuple" vs.toArray 0)).push (seqObj "list" #[] 0)).get? b = some o := fun b o hb e =>
  SV _ (SV _ ((Heap.get?_update_ne _ _ _ _ hb).trans e))
 have Hc : (((s.heap.update a (Obj.mapSeq fun _ => #[])).push (seqObj "tuple" vs.toArray 0)).push (seqObj "list" #[] 0)).get? a = some (seqObj "list" #[] e1) := SV _ (SV _ qe)
 rw [list_sort_plain]
 refine SS (listItems_at ho rfl (SS (VA ho rfl (SS (seqEpoch_at qe rfl (SS (wpAny_newTuple (SS (wpAny_newList (Up ?_) (Tw _))) hz))) ) wQ (Tw _))))
 show wpAny _ _ _ _ _ { s with heap := ((s.heap.update a (Obj.mapSeq fun _ => #[])).push (seqObj "tuple" vs.toArray 0)).push (seqObj "list" #[] 0) }
 dsimp only
 have fin : ∀ st : SortSt, failedOf st = none -> (arrOf st).map (·.2) = out.toArray -> wpAny (model prog w) A (do
   let touched <- (do let x <- seqEpoch a; pure (x != e1))
   Builtin.List.listUpdate (.ref a) fun _ => (arrOf st).map (·.2)
   if let some e := failedOf st then do rule "list.sort.comparison-raised"; throw e
   if touched then do rule "list.sort.modified"; raiseError "ValueError" "list modified during sort"
   ret .none) P E { s with heap := ((s.heap.update a (Obj.mapSeq fun _ => #[])).push (seqObj "tuple" vs.toArray 0)).push (seqObj "list" #[] 0) } := by
  intro st hf Kz
  rw [hf, Kz]
  refine SS (SS (seqEpoch_at Hc rfl (SU (SS (VA Hc rfl ?_ (Tw _) Gn)))))
  simp only [bne_self_eq_false, Tn, T3]
  exact SU hP
 by_cases h2 : vs.toArray.size < 2
 ·have ev := short h2
  rw [if_pos h2, if_pos h2]
  refine SS (SU ?_)
  rw [StateT.run_pure]
  refine SS (SU ?_)
  have ez : (arrOf (SortSt.mk' general' (vs.toArray.zip vs.toArray) #[] 7 none)).map (·.2) = out.toArray := by
   show (vs.toArray.zip vs.toArray).map (·.2) = out.toArray
   rw [ev]; apply Array.toList_inj.mp; simp [List.map_snd_zip]
  have q := fin (SortSt.mk' general' (vs.toArray.zip vs.toArray) #[] 7 none) rfl ez
  simp only [bind_assoc, pure_bind] at q
  exact q
 ·rw [if_neg h2, if_neg h2]
  refine SS (Us (run (Nat.le_of_not_lt h2) _ old) (fun κ s1 hk => ?_) fun _ _ x => x)
  obtain ⟨rfl, hk⟩ := hk
  refine SS (Us hk (fun r s2 hr => ?_) fun _ _ x => x)
  obtain ⟨rfl, hf, Kz⟩ := hr
  obtain ⟨⟨⟩, st⟩ := r
  have q := fin st hf Kz
  simp only [bind_assoc, pure_bind] at q
  exact q
theorem mY {T : String} {l : Addr} {o : Obj} {vs : List Value} {n : Nat} {Q : Value -> Shared -> Prop} (hT : T = "list" \/ T = "tuple") (ho : s.heap.get? l = some o) (hc : o.cls = .type T) (hd : o.data = .seq vs.toArray n) (hz : vs.length <= sizeLine)
  (hb : ∀ h' : Heap, h' = (((s.heap.push (seqObj "list" #[] 0)).update s.heap.objs.size (Obj.mapSeq (· ++ vs.toArray))).push (seqObj "list" vs.toArray 0)) -> h'.get? (s.heap.objs.size + 1) = some (seqObj "list" vs.toArray 0) -> (∀ b o, s.heap.get? b = some o -> h'.get? b = some o) ->
   wpAny (model prog w) A.in1.in1 (Builtin.«list.sort» ⟨[.ref (s.heap.objs.size + 1)], []⟩) (fun fin s' => fin = .done (.ret .none) /\ Q (.ref (s.heap.objs.size + 1)) s') E { s with heap := h' }) : wpAny (model prog w) A (call (.builtin "sorted") [.ref l]) Q E s := by
 have zs : ((s.heap.push (seqObj "list" #[] 0)).update s.heap.objs.size (Obj.mapSeq (· ++ vs.toArray))).objs.size = s.heap.objs.size + 1 := by rw [Heap.size_update, size_push']
 have lY : (((s.heap.push (seqObj "list" #[] 0)).update s.heap.objs.size (Obj.mapSeq (· ++ vs.toArray))).push (seqObj "list" vs.toArray 0)).get? (s.heap.objs.size + 1) = some (seqObj "list" vs.toArray 0) := by
  have q := S7 ((s.heap.push (seqObj "list" #[] 0)).update s.heap.objs.size (Obj.mapSeq (· ++ vs.toArray))) (o := seqObj "list" vs.toArray 0) rfl
  rwa [zs] at q
 have old : ∀ b o, s.heap.get? b = some o -> (((s.heap.push (seqObj "list" #[] 0)).update s.heap.objs.size (Obj.mapSeq (· ++ vs.toArray))).push (seqObj "list" vs.toArray 0)).get? b = some o := fun b o e =>
  SV _ ((Heap.get?_update_ne _ _ _ _ (Tu (Td e))).trans (SV _ e))
 refine Calls.call_function_entry kind_sorted plain_sorted entry_sorted (args_sorted1 _) ?body
 case body =>
  unfold Builtin.«sorted»
  refine SS (m := checkCount "sorted" 1 1 _) (SU (SS (AV hT ho hc hd hz (SS (wpAny_newList ?_ hz)))))
  show wpAny _ _ _ _ _ { s with heap := ((s.heap.push (seqObj "list" #[] 0)).update s.heap.objs.size (Obj.mapSeq (· ++ vs.toArray))).push (seqObj "list" vs.toArray 0) }
  rw [zs]
  refine SS (Up (TJ slot_list_sort ⟨_, lY, rfl⟩ entry_list_sort (Us (hb _ rfl lY old) (fun fin s' q => ?_) fun _ _ z => z) (args_list_sort _)))
  obtain ⟨rfl, q⟩ := q
  exact ⟨_, rfl, SU ⟨_, rfl, q⟩⟩
theorem yh {T : String} {l : Addr} {o : Obj} {vs out : List Value} {n : Nat} {Q : Value -> Shared -> Prop} (hT : T = "list" \/ T = "tuple") (ho : s.heap.get? l = some o) (hc : o.cls = .type T) (hd : o.data = .seq vs.toArray n) (hz : vs.length <= sizeLine)
  (hlen : out.length = vs.length) (short : vs.length < 2 -> out = vs)
  (run : 2 <= vs.length -> ∀ h' : Heap, (∀ b o, s.heap.get? b = some o -> h'.get? b = some o) -> wpAny (model prog w) A.in1.in1 (keyKind' vs.toArray) (fun κ s1 => s1 = { s with heap := h' } /\
   wpAny (model prog w) A.in1.in1 ((sortRuns').run (SortSt.mk' κ (vs.toArray.zip vs.toArray) #[] 7 none)) (fun r s2 => s2 = { s with heap := h' } /\ failedOf r.2 = none /\ (arrOf r.2).map (·.2) = out.toArray) E s1) E { s with heap := h' })
  (hQ : Q (.ref (s.heap.objs.size + 1)) { s with heap := sortedAll s.heap vs out.toArray }) : wpAny (model prog w) A (call (.builtin "sorted") [.ref l]) Q E s := by
 refine mY hT ho hc hd hz fun h1 e1 lY old => ?_
 subst e1
 exact yS (s := { s with heap := _ }) (out := out) lY hz hlen short (fun h2 h' kp => run h2 h' fun b o e => kp b o (Tu (Nat.lt_succ_of_lt (Td e))) (old b o e)) ⟨rfl, hQ⟩
end
theorem iy {α : Type} (d : α) (l : List α) : (List.range l.length).map (fun i => l.getD i d) = l := by
 apply List.ext_getElem?
 intro i
 rw [Tc]
 by_cases h : i < l.length
 ·rw [List.getElem?_range h, S1 h]
  simp [h]
 ·rw [List.getElem?_eq_none (by simpa using h), List.getElem?_eq_none (by simpa using h)]
  rfl
end PyProof.Rows
namespace L2
open PySem PySem.Spec PyProof.Rows
section
variable {prog : Program} {w : World} {A : Around} {E : Value -> Shared -> Prop} {s : Shared}
theorem u6 {fin : Bool} {Q : Bool -> Shared -> Prop} : ∀ (g k : List Int) (xs ys : List Value) (i : Nat), Vals (g.map V.int) xs -> Vals (k.map V.int) ys -> fin = decide (xs.length < ys.length) -> Q (HT.lexLt g k) s -> PySem.W.KatLex prog w A true fin Q (xs.zip ys) i s
 | [], [], _, _, _, .nil, .nil, hf, q => by subst hf; exact q
 | [], _ :: _, _, _, _, .nil, .cons _ _, hf, q => by subst hf; exact q
 | _ :: _, [], _, _, _, .cons _ _, .nil, hf, q => by subst hf; exact q
 | a :: g, b :: k, x :: xs, y :: ys, i, .cons ra rg, .cons rb rk, hf, q => by
  obtain ⟨t, rfl⟩ := ra
  obtain ⟨u, rfl⟩ := rb
  refine PySem.W.kat_cons (Vt ?_)
  rw [HT.fY] at q
  refine PySem.W.kat_go (fun h => ?_) (fun h => ?_)
  ·rw [if_pos (eq_of_beq h)] at q
   exact PySem.W.kat_yes (u6 g k xs ys (i + 1) rg rk (by rw [hf]; simp) q)
  ·rw [if_neg (fun z => by rw [z, beq_self_eq_true] at h; cases h)] at q
   refine PySem.W.kat_no ?_
   cases i with
   | zero => exact oneLt_int q
   | succ j => exact PySem.W.kat_one _ _ (lt_int q)
theorem qH {vs : List V} {us : List Value} (r : Vals vs us) : ∀ (p : List Nat), (∀ i ∈ p, i < vs.length) -> Vals (p.map fun i => vs.getD i .cq) (p.map fun i => us.getD i Value.none)
 | [], _ => .nil
 | i :: p, h => by
  refine .cons ?_ (qH r p fun j hj => h j (SY _ hj))
  have hi := h i S0
  obtain ⟨u, hu, ru⟩ := r.get (S1 hi)
  show RelV (vs.getD i .cq) (us.getD i Value.none)
  rw [Tg, Tg, S1 hi, hu]
  exact ru
theorem uR {α : Type} {H : Hp} {f : α -> PyData} {d : α} {l : List α} {vs : List V} (h : bF H (l.map f) vs) : ∀ (p : List Nat), (∀ i ∈ p, i < l.length) -> bF H ((p.map fun i => l.getD i d).map f) (p.map fun i => vs.getD i .cq)
 | [], _ => .nil
 | i :: p, hp => by
  refine .cons ?_ (uR h p fun j hj => hp j (SY _ hj))
  have hi := hp i S0
  obtain ⟨v, hv, dv⟩ := h.get (i := i) (d := f l[i]) (by rw [Tc, S1 hi]; rfl)
  show DV H (f (l.getD i d)) (vs.getD i .cq)
  rw [Tg, Tg, S1 hi, hv]
  exact dv
end
section
variable {X : Cx}
theorem sY : dH X (.builtin "sorted") (fun xs H Q => ∃ (p : Addr) (ns : List Int), xs = [.ref p] /\ aX X.K H p (ns.map V.int) /\ ns.length < 64 /\ ∀ (l : Addr) (sB : List Int), H l = none -> sB.Perm ns -> sB.Pairwise (· <= ·) -> Q (.ref l) (upd H l (.lst (sB.map V.int)))) := by
 intro pins s σ H xs us Q I r h
 obtain ⟨p, ns, rfl, hp, Qr, q⟩ := h
 obtain ⟨u, rfl, ru⟩ := vals1 r
 cases ru
 obtain ⟨aA, rv, ⟨o, ho, hc, n, hd⟩, hz⟩ := I.tuple hp
 have ln : aA.length = ns.length := by rw [<- rv.length, SW]
 have hI := intsAre_of rv
 have Q1 : 64 <= sizeLine := by rw [UV]; omega
 refine mY (T := "tuple") (.inr rfl) ho hc hd (by omega) fun h1 e1 lY old => ?_
 subst e1
 refine list_sort_tree (s := { s with heap := _ }) lY hI (by omega) fun out sB i1 i2 i3 => ⟨rfl, ?_⟩
 obtain ⟨e, he⟩ := sortedAll_at s.heap aA out
 have l1 : sB.length = ns.length := i2.length_eq
 refine ⟨.ref (s.heap.objs.size + 1), _, I.laid (t' := s.toks) (o := .lst (sB.map V.int)) (fun b o hb => sortedAll_old hb) (U0 _) ⟨by rw [SW]; omega, out.toList, e, mM i1, ?_⟩, rfl, q _ _ (I.aV.fresh (U0 _)) i2 i3⟩
 rw [U3]; exact he
end
section
variable {X : Cx}
theorem Ip {bs : List Bool} {aA : List Value} (rv : Vals (bs.map V.bl) aA) {i : Nat} {v : Value} (h : aA.toArray[i]? = some v) : v = .bool (bs.getD i false) := by
 have hi : i < aA.length := by
  have := (Array.getElem?_eq_some_iff.mp h).1
  simpa using this
 have ln : aA.length = bs.length := by rw [<- rv.length, SW]
 have hb : bs[i]? = some (bs.getD i false) := by simp [show i < bs.length by omega]
 obtain ⟨u, hu, ru⟩ := rv.get (i := i) (x := .bl (bs.getD i false)) (by rw [Tc, hb]; rfl)
 have e : aA[i]? = some v := by simpa using h
 rw [e] at hu; cases hu
 exact ru
theorem range_all (bs : List Bool) : (List.range bs.length).all (fun i => bs.getD i false) = bs.all id := by
 have q := List.all_map (f := fun i => bs.getD i false) (p := id) (l := List.range bs.length)
 rw [iy] at q
 exact q.symm
theorem range_any (bs : List Bool) : (List.range bs.length).any (fun i => bs.getD i false) = bs.any id := by
 have q := List.any_map (f := fun i => bs.getD i false) (p := id) (l := List.range bs.length)
 rw [iy] at q
 exact q.symm
theorem ut {prog : Program} {w : World} {A : Around} {bs : List Bool} {aA : List Value} (rv : Vals (bs.map V.bl) aA) : TruthOf prog w A (fun i v => aA.toArray[i]? = some v) (fun i => bs.getD i false) := fun i v s Q E hv q => by
 rw [Ip rv hv]
 exact Ud q
theorem rz {prog : Program} {w : World} {A : Around} {E : Value -> Shared -> Prop} {s : Shared} {l : Addr} {aA : Array Value} {Q : Value -> Shared -> Prop} (hl : s.heap.IsList l aA)
  (h : ∀ s₂ : Shared, s₂ = { s with heap := s.heap.push { cls := .type "list_iterator", data := .fields #[.ref l, .int 0 0] } } -> (s₂.heap.IsListIter s.heap.objs.size l 0 /\ s₂.heap.IsList l aA) -> l ≠ s.heap.objs.size ->
   (∀ h' : Heap, (∀ b o, b ∉ [s.heap.objs.size] -> s₂.heap.get? b = some o -> h'.get? b = some o) -> ∀ b o, s.heap.get? b = some o -> h'.get? b = some o) -> Q (.ref s.heap.objs.size) s₂) : wpAny (model prog w) A (pyIter (.ref l)) Q E s := by
 have lt : l < s.heap.objs.size := by obtain ⟨_, e, _⟩ := hl; exact Td e
 refine wpAny_pyIter_list hl (h _ rfl ⟨⟨_, S7 _ rfl, rfl, rfl⟩, hl.push _⟩ (Tu lt) fun h' hk b o e => hk b o (fun hm => ?_) (SV _ e))
 exact absurd (Td e) (by rw [TB.mp hm]; exact Uj _)
theorem ox (hc : X.calm = true) : dH X (.builtin "all") (fun xs H Q => ∃ (p : Addr) (bs : List Bool), xs = [.ref p] /\ a6 X.K H p (bs.map V.bl) /\ Q (.bl (bs.all id)) H) := by
 intro pins s σ H xs us Q I r h
 obtain ⟨p, bs, rfl, hp, q⟩ := h
 obtain ⟨u, rfl, ru⟩ := vals1 r
 cases ru
 obtain ⟨aA, rv, pl, _⟩ := I.list hp
 have ln : aA.toArray.size = bs.length := by rw [Tb, <- rv.length, SW]
 refine call_all_walk (rz pl.isList fun s₂ e st si old => ?_)
 subst e
 refine ⟨_, _, _, _, _, _, _, rfl, Walks.list (A := X.A.in1) (I.ok.hd hc) _ p si aA.toArray, st, ut rv, fun h' tk hk => ?_⟩
 rw [ln, range_all]
 exact ⟨.bl _, H, I.kept (t' := tk) (old h' hk), rfl, q⟩
theorem AO (hc : X.calm = true) : dH X (.builtin "any") (fun xs H Q => ∃ (p : Addr) (bs : List Bool), xs = [.ref p] /\ a6 X.K H p (bs.map V.bl) /\ Q (.bl (bs.any id)) H) := by
 intro pins s σ H xs us Q I r h
 obtain ⟨p, bs, rfl, hp, q⟩ := h
 obtain ⟨u, rfl, ru⟩ := vals1 r
 cases ru
 obtain ⟨aA, rv, pl, _⟩ := I.list hp
 have ln : aA.toArray.size = bs.length := by rw [Tb, <- rv.length, SW]
 refine call_any_walk (rz pl.isList fun s₂ e st si old => ?_)
 subst e
 refine ⟨_, _, _, _, _, _, _, rfl, Walks.list (A := X.A.in1) (I.ok.hd hc) _ p si aA.toArray, st, ut rv, fun h' tk hk => ?_⟩
 rw [ln, range_any]
 exact ⟨.bl _, H, I.kept (t' := tk) (old h' hk), rfl, q⟩
def wv (ns : List Int) : Int := ns.getD (argBest (fun i j => decide (ns.getD i 0 > ns.getD j 0)) (ns.length - 1)) 0
theorem oE (bt : Nat -> Nat -> Bool) : ∀ k, argBest bt k <= k
 | 0 => SX _
 | k + 1 => by
  unfold argBest
  split
  ·exact SX _
  ·exact Nat.le_succ_of_le (oE bt k)
theorem Bd {ns : List Int} (h : ns ≠ []) : wv ns ∈ ns := by
 have hl : 0 < ns.length := Vy.mpr h
 have hk : argBest (fun i j => decide (ns.getD i 0 > ns.getD j 0)) (ns.length - 1) < ns.length := by
  have := oE (fun i j => decide (ns.getD i 0 > ns.getD j 0)) (ns.length - 1)
  omega
 unfold wv
 rw [Tg, S1 hk]
 exact UK hk
theorem pk : ∀ {ns : List Int} {aA : List Value}, Vals (ns.map V.int) aA -> ∃ ps : List (Int × Tok), aA = ps.map (fun p => Value.int p.1 p.2) /\ ps.map (·.1) = ns
 | [], _, .nil => ⟨[], rfl, rfl⟩
 | n :: ns, _, .cons r rr => by
  obtain ⟨t, rfl⟩ := r
  obtain ⟨ps, e1, e2⟩ := pk rr
  exact ⟨(n, t) :: ps, by rw [e1]; rfl, by rw [<- e2]; rfl⟩
theorem ul (hc : X.calm = true) : dH X (.builtin "max") (fun xs H Q => ∃ (p : Addr) (ns : List Int), xs = [.ref p] /\ a6 X.K H p (ns.map V.int) /\ ns ≠ [] /\ Q (.int (wv ns)) H) := by
 intro pins s σ H xs us Q I r h
 obtain ⟨p, ns, rfl, hp, si, q⟩ := h
 obtain ⟨u, rfl, ru⟩ := vals1 r
 cases ru
 obtain ⟨aA, rv, pl, _⟩ := I.list hp
 obtain ⟨ps, rfl, e2⟩ := pk rv
 have ia : (ps.map fun p => Value.int p.1 p.2).toArray = intItems ps.toArray := by unfold intItems; simp
 have hl : (intItems ps.toArray).size = ns.length := by rw [<- e2]; simp [intItems]
 have og : ps.toArray.size = ns.length := by rw [<- e2]; simp
 have na : numAt ps.toArray = fun i => ns.getD i 0 := by
  funext i
  rw [<- e2]
  unfold numAt
  rw [Tg, Tc]
  simp
 refine max_intList (I.ok.hd hc) (xs := ps.toArray) (by rw [<- ia]; exact pl.isList) (by rw [og]; exact Vy.mpr si) fun v h' tk hv hk => ?_
 obtain ⟨t, rfl⟩ := intItems_at hv
 rw [na, og]
 exact ⟨.int (wv ns), H, I.kept (t' := tk) hk, ⟨t, rfl⟩, q⟩
def D6 (K : VN) : R2 := fun x y H Q => ∃ a b xs ys, x = .ref a /\ y = .ref b /\ aX K H a xs /\ aX K H b ys /\ xs.length + ys.length <= sizeLine /\
 (xs = [] -> Q (.ref b) H) /\ (xs ≠ [] -> ys = [] -> Q (.ref a) H) /\ (xs ≠ [] -> ys ≠ [] -> ∀ p, H p = none -> Q (.ref p) (upd H p (.tup (xs ++ ys))))
theorem xh : h9 X (binaryOp .Add) (D6 X.K) := by
 intro pins s σ H x y v u Q I rx ry h
 obtain ⟨a, b, xs, ys, rfl, rfl, ha, hb, hz, q0, q1, q2⟩ := h
 cases rx; cases ry
 obtain ⟨aA, r1, p1, _⟩ := I.tuple ha
 obtain ⟨jN, r2, p2, _⟩ := I.tuple hb
 have n1 : ∀ z : aA ≠ [], xs ≠ [] := fun z w' => z (r1.nM.mpr w')
 have n2 : ∀ z : jN ≠ [], ys ≠ [] := fun z w' => z (r2.nM.mpr w')
 by_cases h0 : aA = []
 ·obtain ⟨⟨c1, d1, SD, Po⟩, g1, k1, m1, e1⟩ := id p1
  obtain ⟨⟨c2, d2, SQ, JZ⟩, g2, k2, m2, e2⟩ := id p2
  simp only at k1 e1 k2 e2
  subst k1 e1 k2 e2
  exact concat_meets ⟨_, g1, rfl⟩ ⟨_, g2, rfl⟩ noFill_tuple_add seq_tuple_add PySem.F.slot_tuple_add PySem.F.entry_tuple_add (PySem.F.args_tuple_add_2 _ _) (tuple_addW0 a b aA.toArray jN.toArray m1 m2 d1 d2 Po JZ (by simp [h0])) ⟨g1, g2, .ref b, H, I, rfl, q0 (r1.nM.mp h0)⟩
 refine HT.DO p1 p2 h0 (fun z' => ⟨.ref a, H, I, rfl, q1 (n1 h0) (r2.nM.mp z')⟩) (fun z' => ?_) (by rw [<- r1.length, <- r2.length]; exact hz)
 exact ⟨.ref s.heap.objs.size, _, I.laid (t' := s.toks) (o := .tup (xs ++ ys)) (fun b ob q => SV _ q) (SX _) ⟨by rw [Tq]; exact hz, _, r1.append r2, IsTup.new _ _⟩, rfl, q2 (n1 h0) (n2 z') _ (I.aV.fresh (SX _))⟩
end
end L2
namespace PySem
open Sem (wp)
open PyProof.Rows
section
variable {prog : Program} {w : World} {A : Around} {E : Value -> Shared -> Prop} {s : Shared}
theorem j9 {it t : Addr} {i : Nat} {aA : Array Value} {x : Value} {Q : Value -> Shared -> Prop} (hi : s.heap.IsTupleIter it t i) (ht : s.heap.IsTuple t aA) (hx : aA[i]? = some x) (hQ : ∀ h', h'.IsTupleIter it t (i + 1) -> Heap.SameBut it s.heap h' -> Q x { s with heap := h' }) :
  wpAny (model prog w) A (Builtin.SmallTypes.nextOf (.ref it)) Q E s := by
 obtain ⟨o, ho, hc, hd⟩ := id hi
 obtain ⟨ol, Mh, _, nl, Ms⟩ := ht
 unfold Builtin.SmallTypes.nextOf
 refine SS (T7 (name := Str.ofString "__next__") hi.typeIs Vq (TJ Vq hi.typeIs F.entry_tuple_iterator_next ?b (F.args_tuple_iterator_next_1 _)))
 case b =>
  show wpAny _ _ (field (.ref it) 0 >>= _) _ _ _; refine SS (Uf ho hd (x := .ref t) rfl ?_)
  show wpAny _ _ (if (Value.ref t == Value.none) = true then _ else _) _ _ _; rw [if_neg (show ¬ ((Value.ref t == Value.none) = true) from S3)]
  show wpAny _ _ (field (.ref it) 1 >>= _) _ _ _; refine SS (Uf ho hd (x := .int i 0) rfl ?_)
  show wpAny _ _ (seqItems? (.ref t) >>= _) _ _ _; refine SS (UN Mh Ms ?_)
  simp only [Ue, hx]
  exact SS (wpAny_setField ho hd (by simp) (SU ⟨x, rfl, SU (hQ _ ⟨_, Heap.get?_update_self _ ho (Obj.isFreed_of_fields (Obj.data_mapFields hd _)), (Obj.cls_mapFields ..).trans hc, by rw [Obj.data_mapFields hd]; simp [rawInt]⟩ (Ua ..))⟩))
theorem qR {it t : Addr} {i : Nat} {aA : Array Value} {Q : Value -> Shared -> Prop} (hh : A.handled = none) (hi : s.heap.IsTupleIter it t i) (ht : s.heap.IsTuple t aA) (hx : aA[i]? = none)
  (hE : ∀ h' e, Heap.ExtBut it s.heap h' -> (∃ o, h'.get? e = some o /\ o.cls = .type "StopIteration") -> E (.ref e) { s with heap := h' }) : wpAny (model prog w) A (Builtin.SmallTypes.nextOf (.ref it)) Q E s := by
 obtain ⟨o, ho, hc, hd⟩ := id hi
 obtain ⟨ol, Mh, _, nl, Ms⟩ := ht
 unfold Builtin.SmallTypes.nextOf
 refine SS (T7 (name := Str.ofString "__next__") hi.typeIs Vq (TJ Vq hi.typeIs F.entry_tuple_iterator_next ?b (F.args_tuple_iterator_next_1 _)))
 case b =>
  show wpAny _ _ (field (.ref it) 0 >>= _) _ _ _; refine SS (Uf ho hd (x := .ref t) rfl ?_)
  show wpAny _ _ (if (Value.ref t == Value.none) = true then _ else _) _ _ _; rw [if_neg (show ¬ ((Value.ref t == Value.none) = true) from S3)]
  show wpAny _ _ (field (.ref it) 1 >>= _) _ _ _; refine SS (Uf ho hd (x := .int i 0) rfl ?_)
  show wpAny _ _ (seqItems? (.ref t) >>= _) _ _ _; refine SS (UN Mh Ms ?_)
  simp only [Ue, hx]
  refine SS (UI (SS (wpAny_setField ho hd (by simp) ?_)))
  show wpAny _ _ (newExc (.type "StopIteration") [] >>= _) _ _ _; refine SS ?_; simp only [newExc, newTuple]
  refine SS (TQ (SS (m := firstArgMember _ _) (wpAny_of_eq (a := Value.none) (by first | rfl | (simp only [firstArgMember]; rfl)) (TQ ?_ (by size_fits)))) (by size_fits))
  simp only [raiseNew]
  refine SS (wpAny_handled ?_)
  first | rw [show A.in1.handled = none from hh] | rw [hh]
  exact SS (SU (wpAny_throw (hE _ _ (((Ua ..).extBut.push _).push _) ⟨_, S7 _ rfl, rfl⟩)))
structure Bb (h : Heap) (z TI TO i1 i2 l1 l2 : Addr) (f0 : Value) (k : Nat) (xs ys : Array Value) : Prop where
 z : IsZip h z TI TO f0
 i : IsPair h TI (.ref i1) (.ref i2)
 o : ∃ a b, IsPair h TO a b
 a : h.IsTupleIter i1 l1 k
 b : h.IsTupleIter i2 l2 k
 xs : h.IsTuple l1 xs
 ys : h.IsTuple l2 ys
theorem yl {z TI TO i1 i2 l1 l2 : Addr} {k : Nat} {xs ys : Array Value} {x y : Value} {Q : Option Value -> Shared -> Prop} (D : ZipApart z TI TO i1 i2 l1 l2) (Z : Bb s.heap z TI TO i1 i2 l1 l2 .none k xs ys) (hx : xs[k]? = some x) (hy : ys[k]? = some y)
  (hQ : ∀ h', IsZip h' z TI TO (rawInt s.heap.objs.size) -> IsPair h' TO x y -> h'.IsTupleIter i1 l1 (k + 1) -> h'.IsTupleIter i2 l2 (k + 1) -> IsPair h' s.heap.objs.size x y -> h'.objs.size = s.heap.objs.size + 1 ->
   (∀ c o, c ≠ z -> c ≠ TO -> c ≠ i1 -> c ≠ i2 -> s.heap.get? c = some o -> h'.get? c = some o) -> Q (some (.ref s.heap.objs.size)) { s with heap := h' }) : wpAny (model prog w) A (pyNext (.ref z)) Q E s := by
 obtain ⟨hz, Ma, ⟨a, b, LZ⟩, h1, h2, zA, og⟩ := Z
 have hT : s.TypeIs (.ref z) "zip" := ⟨_, hz, rfl⟩
 unfold pyNext
 refine SS (U5 (T7 (name := Str.ofString "__next__") hT F.slot_zip_next (TJ F.slot_zip_next hT F.entry_zip_next ?b (F.args_zip_next_1 _))))
 case b =>
  show wpAny _ _ (field (.ref z) 2 >>= _) _ _ _; refine SS (Uf hz rfl (x := .bool false) rfl ?_)
  show wpAny _ _ (field (.ref z) 3 >>= _) _ _ _; refine SS (Uf hz rfl (x := .ref TI) rfl (SS (UN Ma rfl ?_)))
  show wpAny _ _ (Builtin.SmallTypes.ownedTupleIsFree (.ref z) >>= _) _ _ _; refine SS ?_; unfold Builtin.SmallTypes.ownedTupleIsFree
  refine SS (Uf hz rfl (x := .none) rfl (SU ?_)); simp only [UB]
  refine SS (UI (SS (Uf hz rfl (x := .ref TO) rfl (SS (Uh hz (by simp) fun g1 wQ s1 => ?_)))))
  replace wQ : IsZip g1 z TI TO .ellipsis := wQ
  refine SS ?_; simp only [List.zipIdx_cons, List.zipIdx_nil, Uv, Vo]
  refine SS (SS (wpAny_onRaise (show wpAny _ _ (Builtin.SmallTypes.nextOf (.ref i1) >>= _) _ _ _ from SS (j9 (h1.extBut s1.extBut D.i1z) (zA.extBut s1.extBut D.l1z) hx fun g2 j1 s2 => SU ?_))))
  have o2 : IsPair g2 TO a b := s2.extBut _ _ D.TOi1 (s1.extBut _ _ D.TOz LZ)
  refine SS (UN o2 rfl (SS (wpAny_updateSeq_pair o2 fun g3 o3 s3 => SS (wpAny_letGo (SU ?_)))))
  replace o3 : IsPair g3 TO x b := o3
  refine SS (SS (wpAny_onRaise (show wpAny _ _ (Builtin.SmallTypes.nextOf (.ref i2) >>= _) _ _ _ from SS (j9 (((h2.extBut s1.extBut D.i2z).extBut s2.extBut D.i12.symm).extBut s3.extBut D.TOi2.symm) (((og.extBut s1.extBut D.l2z).extBut s2.extBut D.l2i1).extBut s3.extBut D.l2TO) hy fun g4 j2 s4 => SU ?_))))
  have o4 : IsPair g4 TO x b := s4.extBut _ _ D.TOi2 o3
  refine SS (UN o4 rfl (SS (wpAny_updateSeq_pair o4 fun g5 o5 s5 => SS (wpAny_letGo (SU (SU ?_))))))
  replace o5 : IsPair g5 TO x y := o5
  refine SS (UN o5 rfl (SS (wpAny_newTuple ?_)))
  have sz : g5.objs.size = s.heap.objs.size := by rw [s5.1, s4.1, s3.1, s2.1, s1.1]
  have z5 : IsZip g5 z TI TO .ellipsis := s5.extBut _ _ D.TOz.symm (s4.extBut _ _ D.i2z.symm (s3.extBut _ _ D.TOz.symm (s2.extBut _ _ D.i1z.symm wQ)))
  have k5 : ∀ c o, c ≠ z -> c ≠ TO -> c ≠ i1 -> c ≠ i2 -> s.heap.get? c = some o -> g5.get? c = some o := fun c o c1 c2 c3 c4 e => s5.extBut _ _ c2 (s4.extBut _ _ c4 (s3.extBut _ _ c2 (s2.extBut _ _ c3 (s1.extBut _ _ c1 e))))
  have a5 : g5.IsTupleIter i1 l1 (k + 1) := ((j1.extBut s3.extBut D.TOi1.symm).extBut s4.extBut D.i12).extBut s5.extBut D.TOi1.symm
  have b5 : g5.IsTupleIter i2 l2 (k + 1) := j2.extBut s5.extBut D.TOi2.symm
  have NS : z < g5.objs.size := Td z5
  show wpAny _ _ (Builtin.SmallTypes.ownedTupleHandOut (.ref z) (.ref g5.objs.size) >>= _) _ _ _; refine SS ?_; unfold Builtin.SmallTypes.ownedTupleHandOut
  refine SS (Uh (show IsZip (g5.push { cls := .type "tuple", data := .seq #[x, y] }) z TI TO .ellipsis from SV _ z5) (by simp) fun g7 z7 s7 => ?_)
  replace z7 : IsZip g7 z TI TO (rawInt g5.objs.size) := z7
  refine Uh z7 (by simp) fun g8 z8 s8 => ?_
  replace z8 : IsZip g8 z TI TO (rawInt g5.objs.size) := z8
  have up : ∀ c o, c ≠ z -> g5.get? c = some o -> g8.get? c = some o := fun c o c1 e => s8.extBut _ _ c1 (s7.extBut _ _ c1 (SV _ e))
  have t8 : IsPair g8 g5.objs.size x y := s8.extBut _ _ (Vr NS) (s7.extBut _ _ (Vr NS) (S7 _ rfl))
  have n8 : g8.objs.size = g5.objs.size + 1 := by rw [s8.1, s7.1, U8]
  refine SU ⟨_, rfl, SU ?_⟩
  rw [sz] at z8 t8 n8
  have fin := hQ g8 z8 (up _ _ D.TOz o5) (a5.at fun o e => up _ o D.i1z e) (b5.at fun o e => up _ o D.i2z e) t8 n8 fun c o c1 c2 c3 c4 e => up c o c1 (k5 c o c1 c2 c3 c4 e)
  rw [<- sz] at fin
  exact fin
theorem BN {z TI TO i1 i2 l1 l2 : Addr} {k : Nat} {xs ys : Array Value} {Q : Option Value -> Shared -> Prop} (hh : A.handled = none) (D : ZipApart z TI TO i1 i2 l1 l2) (Z : Bb s.heap z TI TO i1 i2 l1 l2 .none k xs ys) (FT : xs[k]? = none \/ ys[k]? = none)
  (hQ : ∀ h', (∀ c o, c ≠ z -> c ≠ TO -> c ≠ i1 -> c ≠ i2 -> s.heap.get? c = some o -> h'.get? c = some o) -> Q none { s with heap := h' }) : wpAny (model prog w) A (pyNext (.ref z)) Q E s := by
 obtain ⟨hz, Ma, ⟨a, b, LZ⟩, h1, h2, zA, og⟩ := Z
 have hT : s.TypeIs (.ref z) "zip" := ⟨_, hz, rfl⟩
 have last : ∀ (h' : Heap) (e : Addr), (∀ c o, c ≠ z -> c ≠ TO -> c ≠ i1 -> c ≠ i2 -> s.heap.get? c = some o -> h'.get? c = some o) -> (∃ o, h'.get? e = some o /\ o.cls = .type "StopIteration") ->
   wpAny (model prog w) A (do if <- isInstance (.ref e) (.type "StopIteration") then pure none else throw (.ref e)) Q E { s with heap := h' } := fun h' e hk ⟨o, ho, hc⟩ =>
  SS (UJ (T := "StopIteration") (b := true) ⟨o, ho, hc⟩ isSubtype_stop (SU (hQ _ hk)))
 unfold pyNext
 refine SS (U5 (T7 (name := Str.ofString "__next__") hT F.slot_zip_next (TJ F.slot_zip_next hT F.entry_zip_next ?b (F.args_zip_next_1 _))))
 case b =>
  show wpAny _ _ (field (.ref z) 2 >>= _) _ _ _; refine SS (Uf hz rfl (x := .bool false) rfl ?_)
  show wpAny _ _ (field (.ref z) 3 >>= _) _ _ _; refine SS (Uf hz rfl (x := .ref TI) rfl (SS (UN Ma rfl ?_)))
  show wpAny _ _ (Builtin.SmallTypes.ownedTupleIsFree (.ref z) >>= _) _ _ _; refine SS ?_; unfold Builtin.SmallTypes.ownedTupleIsFree
  refine SS (Uf hz rfl (x := .none) rfl (SU ?_)); simp only [UB]
  refine SS (UI (SS (Uf hz rfl (x := .ref TO) rfl (SS (Uh hz (by simp) fun g1 wQ s1 => ?_)))))
  replace wQ : IsZip g1 z TI TO .ellipsis := wQ
  refine SS ?_; simp only [List.zipIdx_cons, List.zipIdx_nil, Uv, Vo]
  refine SS (SS (wpAny_onRaise (show wpAny _ _ (Builtin.SmallTypes.nextOf (.ref i1) >>= _) _ _ _ from SS ?_)))
  cases ex : xs[k]? with
  | none =>
   refine qR hh (h1.extBut s1.extBut D.i1z) (zA.extBut s1.extBut D.l1z) ex fun g2 e s2 he => ?_
   obtain ⟨oe, FY, IW⟩ := he
   have z2 : IsZip g2 z TI TO .ellipsis := s2 _ _ D.i1z.symm wQ
   have ez : e ≠ z := fun q => by subst q; rw [z2] at FY; cases FY; simp at IW
   exact Uh z2 (by simp) fun g3 _ s3 => last g3 e (fun c o c1 _ c3 _ q => s3.extBut _ _ c1 (s2 _ _ c3 (s1.extBut _ _ c1 q))) ⟨oe, s3.extBut _ _ ez FY, IW⟩
  | some x =>
   have ey : ys[k]? = none := by rcases FT with h | h; rw [ex] at h; cases h; exact h
   refine j9 (h1.extBut s1.extBut D.i1z) (zA.extBut s1.extBut D.l1z) ex fun g2 j1 s2 => SU ?_
   have o2 : IsPair g2 TO a b := s2.extBut _ _ D.TOi1 (s1.extBut _ _ D.TOz LZ)
   refine SS (UN o2 rfl (SS (wpAny_updateSeq_pair o2 fun g3 o3 s3 => SS (wpAny_letGo (SU ?_)))))
   refine SS (SS (wpAny_onRaise (show wpAny _ _ (Builtin.SmallTypes.nextOf (.ref i2) >>= _) _ _ _ from SS ?_)))
   refine qR hh (((h2.extBut s1.extBut D.i2z).extBut s2.extBut D.i12.symm).extBut s3.extBut D.TOi2.symm) (((og.extBut s1.extBut D.l2z).extBut s2.extBut D.l2i1).extBut s3.extBut D.l2TO) ey fun g4 e s4 he => ?_
   obtain ⟨oe, FY, IW⟩ := he
   have z4 : IsZip g4 z TI TO .ellipsis := s4 _ _ D.i2z.symm (s3.extBut _ _ D.TOz.symm (s2.extBut _ _ D.i1z.symm wQ))
   have ez : e ≠ z := fun q => by subst q; rw [z4] at FY; cases FY; simp at IW
   exact Uh z4 (by simp) fun g5 _ s5 => last g5 e (fun c o c1 c2 c3 c4 q => s5.extBut _ _ c1 (s4 _ _ c4 (s3.extBut _ _ c2 (s2.extBut _ _ c3 (s1.extBut _ _ c1 q))))) ⟨oe, s5.extBut _ _ ez FY, IW⟩
end
abbrev Ke (h : Heap) (l1 : Addr) : Heap := h.push { cls := .type "tuple_iterator", data := .fields #[.ref l1, .int 0 0] }
abbrev J8 (h : Heap) (l1 l2 : Addr) : Heap := (Ke h l1).push { cls := .type "tuple_iterator", data := .fields #[.ref l2, .int 0 0] }
abbrev Kf (h : Heap) (l1 l2 : Addr) : Heap := (J8 h l1 l2).push { cls := .type "tuple", data := .seq #[.ref h.objs.size, .ref (Ke h l1).objs.size] }
abbrev JB (h : Heap) (l1 l2 : Addr) : Heap := (Kf h l1 l2).push { cls := .type "tuple", data := .seq #[.none, .none] }
abbrev Fs (h : Heap) (l1 l2 : Addr) : Heap := (JB h l1 l2).push { cls := .type "zip", data := .fields #[.none, .bool false, .bool false, .ref (J8 h l1 l2).objs.size, .ref (Kf h l1 l2).objs.size] }
theorem wP (l1 l2 : Addr) (xs ys : Array Value) : Meets (Builtin.«zip.__new__» ⟨[.type "zip", .ref l1, .ref l2], []⟩) (fun _ R s => s.heap.IsTuple l1 xs /\ s.heap.IsTuple l2 ys /\ R (.ok (.ret (.ref (JB s.heap l1 l2).objs.size))) { s with heap := Fs s.heap l1 l2 }) :=
 .of_wp fun prog w A R s hs => by
  obtain ⟨hp, g, d, tk, os⟩ := s; obtain ⟨t1, t2, hR⟩ := hs
  have y7 := sub_zip
  have T1 : Heap.IsTuple (Shared.heap ⟨hp, g, d, tk, os⟩) l1 xs := t1
  have T2 : Heap.IsTuple (Shared.heap ⟨hp.push { cls := .type "tuple_iterator", data := .fields #[.ref l1, .int 0 0] }, g, d, tk, os⟩) l2 ys := by
   obtain ⟨o, ho, r⟩ := t2; exact ⟨o, SV _ ho, r⟩
  wp_walk using wpAny_pyIter_tuple T1, wpAny_pyIter_tuple T2
  exact ⟨_, rfl, hR⟩
section
variable {prog : Program} {w : World} {A : Around} {E : Value -> Shared -> Prop} {s : Shared}
theorem yH {l1 l2 : Addr} {xs ys : Array Value} {Q : Value -> Shared -> Prop} (t1 : s.heap.IsTuple l1 xs) (t2 : s.heap.IsTuple l2 ys)
  (h : ∀ h', Bb h' (s.heap.objs.size + 4) (s.heap.objs.size + 2) (s.heap.objs.size + 3) s.heap.objs.size (s.heap.objs.size + 1) l1 l2 .none 0 xs ys -> (∀ c o, s.heap.get? c = some o -> h'.get? c = some o) -> Q (.ref (s.heap.objs.size + 4)) { s with heap := h' }) :
  wpAny (model prog w) A (call (.type "zip") [.ref l1, .ref l2]) Q E s := by
 have y1 : (Ke s.heap l1).objs.size = s.heap.objs.size + 1 := U8 ..
 have y2 : (J8 s.heap l1 l2).objs.size = s.heap.objs.size + 2 := by rw [U8, y1]
 have y3 : (Kf s.heap l1 l2).objs.size = s.heap.objs.size + 3 := by rw [U8, y2]
 have y4 : (JB s.heap l1 l2).objs.size = s.heap.objs.size + 4 := by rw [U8, y3]
 have up : ∀ c o, s.heap.get? c = some o -> (Fs s.heap l1 l2).get? c = some o := fun c o x => SV _ (SV _ (SV _ (SV _ (SV _ x))))
 have p5 : (Fs s.heap l1 l2).get? (JB s.heap l1 l2).objs.size = some _ := S7 _ rfl
 have p4 : (Fs s.heap l1 l2).get? (Kf s.heap l1 l2).objs.size = some _ := SV _ (S7 _ rfl)
 have p3 : (Fs s.heap l1 l2).get? (J8 s.heap l1 l2).objs.size = some _ := SV _ (SV _ (S7 _ rfl))
 have p2 : (Fs s.heap l1 l2).get? (Ke s.heap l1).objs.size = some _ := SV _ (SV _ (SV _ (S7 _ rfl)))
 have p1 : (Fs s.heap l1 l2).get? s.heap.objs.size = some _ := SV _ (SV _ (SV _ (SV _ (S7 _ rfl))))
 rw [y4, y2, y3] at p5; rw [y3] at p4; rw [y2, y1] at p3; rw [y1] at p2
 refine callType_new F.called_zip (by decide) (F.typeCall_zip_2 _ _) (F.newCall_zip_2 _ _) (fun obj => F.args_object_init_3 obj _ _) F.entry_zip_new (wP l1 l2 xs ys) ⟨t1, t2, ?_⟩
 rw [y4]
 refine ⟨⟨_, p5, rfl⟩, h _ ⟨p5, p3, ⟨_, _, p4⟩, ⟨_, p1, rfl, rfl⟩, ⟨_, p2, rfl, rfl⟩, ?_, ?_⟩ up⟩
 ·obtain ⟨o, ho, r⟩ := t1; exact ⟨o, up _ _ ho, r⟩
 ·obtain ⟨o, ho, r⟩ := t2; exact ⟨o, up _ _ ho, r⟩
end
end PySem
namespace L2
open PySem PySem.Spec PyProof.Rows
section
variable {X : Cx} {pins : List (Addr × Obj)} {σ : St} {H : Hp} {s : Shared}
theorem Inv.drawn {h' : Heap} {ch : List Addr} {p : Addr} {o : HO} {t' : Nat} (I : Inv X pins σ H s) (nP : ∀ b ∈ ch, rY X pins H b) (k : ∀ b u, b ∉ ch -> s.heap.get? b = some u -> h'.get? b = some u) (hp : s.heap.objs.size <= p)
  (new : bV X.prog X.w (upd H p o) h' p o) : Inv X pins σ (upd H p o) { s with heap := h', toks := t' } := by
 have hn : H p = none := I.aV.fresh hp
 have zV : ∀ b u, H b = some u -> b ∉ ch := fun b u e hb => by rw [(nP b hb).1] at e; cases e
 refine I.step (g' := s.gens) (d' := s.drawn) (ch := ch) (fun b hb => ⟨(nP b hb).2.2.2.1, (nP b hb).2.1, (nP b hb).2.2.2.2.1, (nP b hb).2.2.2.2.2⟩) (fun b u _ _ hc e _ => k b u hc e) (fun b u _ _ hc e _ => ⟨u.slots, k b u hc e⟩) (fun b u hc e n => ?_) (fun b u hc e => ⟨u, k b u hc e⟩)
  (fun b xs e => by rw [aq (ax e hn)]; exact e) (fun b _ _ e => by rw [aq (ax e hn)]; exact e) (fun b ps e => ⟨#[], by rw [aq (ax e hn), e]; simp⟩) (fun m hm => ?_) (fun b u e => ?_) I.bare
 ·rw [aq (Tu (Tz (Td e) hp))]; exact n
 ·obtain ⟨ob, es, ep, pS, r⟩ := hm
  exact ⟨ob, es, ep, k _ ob (fun z => (nP _ z).2.1 rfl) pS, r⟩
 ·by_cases hb : b = p
  ·subst hb; rw [ae] at e; cases e; exact new
  ·rw [aq hb] at e
   refine (I.aV b u e).j8 (fun c v hc q => k c v ?_ q) (fun c q => by rw [aq (ax q hn)]; exact q) fun c xs q => by rw [aq (ax q hn)]; exact q
   rcases hc with z | z
   ·rw [z]; exact zV b u e
   ·exact zV c _ z
end
def Mu (a b : Addr) : It :=
 ⟨fun i H => ∃ xs ys x y, H a = some (.tup xs) /\ H b = some (.tup ys) /\ xs[i]? = some x /\ ys[i]? = some y,
  fun i H v H' => ∃ p x y, v = .ref p /\ H p = none /\ H' = upd H p (.tup [x, y]) /\ ∀ xs ys, H a = some (.tup xs) -> H b = some (.tup ys) -> xs[i]? = some x /\ ys[i]? = some y,
  fun i H => ∃ xs ys, H a = some (.tup xs) /\ H b = some (.tup ys) /\ (xs.length <= i \/ ys.length <= i)⟩
structure Ho (z TI TO i1 i2 : Addr) : Prop where
 a1 : TI ≠ z
 a2 : TO ≠ z
 a3 : i1 ≠ z
 a4 : i2 ≠ z
 b2 : TI ≠ TO
 b3 : TI ≠ i1
 b4 : TI ≠ i2
 c3 : TO ≠ i1
 c4 : TO ≠ i2
 d4 : i1 ≠ i2
def PK (z TI TO i1 i2 a b : Addr) (f0 : Value) (i : Nat) (h : Heap) : Prop := IsZip h z TI TO f0 /\ IsPair h TI (.ref i1) (.ref i2) /\ (∃ x y, IsPair h TO x y) /\ h.IsTupleIter i1 a i /\ h.IsTupleIter i2 b i
theorem Bx {P : Program} {w : World} {K : VN} {elts : List Expr} {kk : Nat} {DD : Pos} {a b z TI TO i1 i2 : Addr} (N : Ho z TI TO i1 i2) : Turn P w K (.Tuple elts kk DD) (Mu a b) [z, TI, TO, i1, i2] z (PK z TI TO i1 i2 a b .none) where
 mem := by simp
 obj := fun i h st c hc => by
  obtain ⟨h1, h2, ⟨x, y, h3⟩, ⟨o4, e4, _, d4⟩, ⟨o5, e5, _, d5⟩⟩ := st
  simp only [S2, Vu, or_false] at hc
  rcases hc with rfl | rfl | rfl | rfl | rfl
  ·exact ⟨_, h1, fun v q => by cases q⟩
  ·exact ⟨_, h2, fun v q => by cases q⟩
  ·exact ⟨_, h3, fun v q => by cases q⟩
  ·exact ⟨_, e4, fun v q => by rw [d4] at q; cases q⟩
  ·exact ⟨_, e5, fun v q => by rw [d5] at q; cases q⟩
 keep := fun i h h' st k => by
  obtain ⟨h1, h2, ⟨x, y, h3⟩, ⟨o4, e4, r4⟩, ⟨o5, e5, r5⟩⟩ := st
  exact ⟨k z (by simp) _ h1, k TI (by simp) _ h2, ⟨x, y, k TO (by simp) _ h3⟩, ⟨o4, k i1 (by simp) _ e4, r4⟩, ⟨o5, k i2 (by simp) _ e5, r5⟩⟩
 item := by
  intro X hP hw hK hc i pins s σ H E I hf st hg
  subst hP hw hK
  obtain ⟨xs, ys, x, y, ha, hb, hx, hy⟩ := hg
  obtain ⟨_, us, ru, o1, e1, c1, n1, d1⟩ := I.aV a _ ha
  obtain ⟨_, vs, rv, o2, e2, c2, n2, d2⟩ := I.aV b _ hb
  obtain ⟨ux, fx, rx⟩ := ru.get hx
  obtain ⟨uy, fy, ry⟩ := rv.get hy
  have na : ∀ c ∈ [z, TI, TO, i1, i2], a ≠ c := fun c hc q => by have := (hf c hc).1; rw [<- q, ha] at this; cases this
  have nb : ∀ c ∈ [z, TI, TO, i1, i2], b ≠ c := fun c hc q => by have := (hf c hc).1; rw [<- q, hb] at this; cases this
  have D : ZipApart z TI TO i1 i2 a b := ⟨N.a1, N.a2, N.a3, N.a4, N.b2, N.b3, N.b4, N.c3, N.c4, N.d4, na z (by simp), na TO (by simp), na i1 (by simp), na i2 (by simp), nb z (by simp), nb TO (by simp), nb i1 (by simp), nb i2 (by simp)⟩
  obtain ⟨s1, s2, s3, s4, s5⟩ := st
  have Z : Bb s.heap z TI TO i1 i2 a b .none i us.toArray vs.toArray := ⟨s1, s2, s3, s4, s5, ⟨o1, e1, c1, n1, d1⟩, ⟨o2, e2, c2, n2, d2⟩⟩
  refine yl D Z (x := ux) (y := uy) (by simpa using fx) (by simpa using fy) fun h' z1 z2 z3 z4 z5 z6 kp => ?_
  refine ⟨_, rfl, wpAny_letOwnedTupleGo_zip (s := { s with heap := h' }) z1 fun h2 y1 sb => ?_⟩
  have lt : ∀ c ∈ [z, TI, TO, i1, i2], c < s.heap.objs.size := fun c hc => by
   simp only [S2, Vu, or_false] at hc
   obtain ⟨x', y', h3⟩ := s3
   obtain ⟨o4, e4, _⟩ := s4
   obtain ⟨o5, e5, _⟩ := s5
   rcases hc with rfl | rfl | rfl | rfl | rfl
   ·exact Td s1
   ·exact Td s2
   ·exact Td h3
   ·exact Td e4
   ·exact Td e5
  have pz : s.heap.objs.size ≠ z := Vr (lt z (by simp))
  have RQ : ∀ c o, c ∉ [z, TI, TO, i1, i2] -> s.heap.get? c = some o -> h2.get? c = some o := fun c o hc e => by
   simp only [S2, Vu, or_false, not_or] at hc
   exact sb.extBut _ _ hc.1 (kp c o hc.1 hc.2.2.1 hc.2.2.2.1 hc.2.2.2.2 e)
  have tp : h2.get? s.heap.objs.size = some { cls := .type "tuple", data := .seq #[ux, uy] } := sb.extBut _ _ pz z5
  have I2 : Inv X pins σ (upd H s.heap.objs.size (.tup [x, y])) { s with heap := h2, toks := s.toks } := I.drawn (t' := s.toks) hf RQ (SX _) ⟨by show 2 <= sizeLine; decide, [ux, uy], .cons rx (.cons ry .nil), ⟨_, tp, rfl, 0, by rfl⟩⟩
  refine ⟨.ref s.heap.objs.size, _, I2, rfl, ⟨_, x, y, rfl, I.aV.fresh (SX _), rfl, fun GL t7 J7 zF => ?_⟩, ⟨y1, ?_, ⟨ux, uy, sb.extBut _ _ N.a2 z2⟩, ?_, ?_⟩, fun c hc => ?_⟩
  ·rw [ha] at J7; rw [hb] at zF
   cases J7; cases zF
   exact ⟨hx, hy⟩
  ·exact sb.extBut _ _ N.a1 (kp TI _ N.a1 N.b2 N.b3 N.b4 s2)
  ·exact z3.extBut sb.extBut N.a3
  ·exact z4.extBut sb.extBut N.a4
  ·rw [aq (Tu (lt c hc))]; exact (hf c hc).1
 done := by
  intro X hP hw hK hc i pins s σ H E I hf st hg
  subst hP hw hK
  obtain ⟨xs, ys, ha, hb, FT⟩ := hg
  obtain ⟨_, us, ru, o1, e1, c1, n1, d1⟩ := I.aV a _ ha
  obtain ⟨_, vs, rv, o2, e2, c2, n2, d2⟩ := I.aV b _ hb
  have na : ∀ c ∈ [z, TI, TO, i1, i2], a ≠ c := fun c hc q => by have := (hf c hc).1; rw [<- q, ha] at this; cases this
  have nb : ∀ c ∈ [z, TI, TO, i1, i2], b ≠ c := fun c hc q => by have := (hf c hc).1; rw [<- q, hb] at this; cases this
  have D : ZipApart z TI TO i1 i2 a b := ⟨N.a1, N.a2, N.a3, N.a4, N.b2, N.b3, N.b4, N.c3, N.c4, N.d4, na z (by simp), na TO (by simp), na i1 (by simp), na i2 (by simp), nb z (by simp), nb TO (by simp), nb i1 (by simp), nb i2 (by simp)⟩
  obtain ⟨s1, s2, s3, s4, s5⟩ := st
  have Z : Bb s.heap z TI TO i1 i2 a b .none i us.toArray vs.toArray := ⟨s1, s2, s3, s4, s5, ⟨o1, e1, c1, n1, d1⟩, ⟨o2, e2, c2, n2, d2⟩⟩
  refine BN (I.ok.hd hc) D Z (FT.imp (fun z => ?_) (fun z => ?_)) fun h' kp => ⟨rfl, ?_⟩
  ·rw [ru.length] at z; simp [z]
  ·rw [rv.length] at z; simp [z]
  ·have nP : ∀ c ∈ [z, TO, i1, i2], rY X pins H c := fun c hc => hf c (by simp only [S2, Vu, or_false] at hc ⊢; rcases hc with q | q | q | q <;> simp [q])
   have k' : ∀ c o, c ∉ [z, TO, i1, i2] -> s.heap.get? c = some o -> h'.get? c = some o := fun c o hc e => by
    simp only [S2, Vu, or_false, not_or] at hc
    exact kp c o hc.1 hc.2.1 hc.2.2.1 hc.2.2.2 e
   have zV : ∀ c u, H c = some u -> c ∉ [z, TO, i1, i2] := fun c u e hb => by rw [(nP c hb).1] at e; cases e
   refine I.step (g' := s.gens) (d' := s.drawn) (t' := s.toks) (ch := [z, TO, i1, i2]) (fun b hb => ⟨(nP b hb).2.2.2.1, (nP b hb).2.1, (nP b hb).2.2.2.2.1, (nP b hb).2.2.2.2.2⟩) (fun b u _ _ hc e _ => k' b u hc e) (fun b u _ _ hc e _ => ⟨u.slots, k' b u hc e⟩) (fun _ _ _ _ n => n) (fun b u hc e => ⟨u, k' b u hc e⟩)
    (fun _ _ e => e) (fun _ _ _ e => e) (fun b ps e => ⟨#[], by rw [e]; simp⟩) (fun m hm => ?_) (fun b u e => ?_) I.bare
   ·obtain ⟨ob, es, ep, pS, r⟩ := hm
    exact ⟨ob, es, ep, k' _ ob (fun q => (nP _ q).2.1 rfl) pS, r⟩
   ·refine (I.aV b u e).j8 (fun c v hc q => k' c v ?_ q) (fun _ q => q) fun _ _ q => q
    rcases hc with q' | q'
    ·rw [q']; exact zV b u e
    ·exact zV c _ q'
 self := fun _ _ _ _ _ st h => wpAny_pyIter_zip st.1 h
section
variable {X : Cx}
def KW (ta : TA) : TI := fun σ H R => ta σ H fun vs H1 => ∃ a b xs ys, vs = [.ref a, .ref b] /\ H1 a = some (.tup xs) /\ H1 b = some (.tup ys) /\ R (Mu a b) H1
theorem ET {elts : List Expr} {kk : Nat} {DD : Pos} {e1 e2 : Expr} {ta : TA} {p pos : Pos} (hg : Gl X "zip") (hm : X.mg "zip" = none) (hv : bootBuiltins "zip" = some (.type "zip")) (ha : PA X [e1, e2] ta)
  (hs : starEach [e1, e2] X.env = [(false, eval e1 X.env), (false, eval e2 X.env)] := by rfl) (HW : starEach [e2] X.env = [(false, eval e2 X.env)] := by rfl) : PI X (.Tuple elts kk DD) (.Call (.Name "zip" p) [e1, e2] [] pos) (KW ta) := by
 intro pins s σ H R I h
 refine Call_ (mL I hg hm hv (PyProof.Rows.callWith_type1 (bU (ha pos pins s σ H _ I h) fun us s1 ⟨vs, H1, I1, r1, q1⟩ => ?_) (by rw [hs, HW]) (by rw [HW]; rfl)))
 obtain ⟨a, b, xs, ys, rfl, J7, zF, q⟩ := q1
 obtain ⟨u1, u2, rfl, ra, rb⟩ := vals2 r1
 cases ra; cases rb
 obtain ⟨_, aA, ru, o1, f1, c1, n1, d1⟩ := I1.aV a _ J7
 obtain ⟨_, jN, rv, o2, f2, c2, n2, d2⟩ := I1.aV b _ zF
 refine yH (xs := aA.toArray) (ys := jN.toArray) ⟨o1, f1, c1, n1, d1⟩ ⟨o2, f2, c2, n2, d2⟩ fun h' Z kp => ?_
 refine wpAny_pyIter_zip Z.z ?_
 have lt : ∀ i j : Nat, i ≠ j -> s1.heap.objs.size + i ≠ s1.heap.objs.size + j := fun i j BS z => BS (Nat.add_left_cancel z)
 have F5 : Ho (s1.heap.objs.size + 4) (s1.heap.objs.size + 2) (s1.heap.objs.size + 3) s1.heap.objs.size (s1.heap.objs.size + 1) := ⟨lt 2 4 (by decide), lt 3 4 (by decide), lt 0 4 (by decide), lt 1 4 (by decide), lt 2 3 (by decide), lt 2 0 (by decide), lt 2 1 (by decide), lt 3 0 (by decide), lt 3 1 (by decide), lt 0 1 (by decide)⟩
 refine ⟨s1.heap.objs.size + 4, [s1.heap.objs.size + 4, s1.heap.objs.size + 2, s1.heap.objs.size + 3, s1.heap.objs.size, s1.heap.objs.size + 1], _, _, H1, rfl, I1.kept (t' := s1.toks) kp, Bx F5, ⟨Z.z, Z.i, Z.o, Z.a, Z.b⟩, fun c hc => ?_, q⟩
 have sO : s1.heap.objs.size <= c := by
  simp only [S2, Vu, or_false] at hc
  rcases hc with rfl | rfl | rfl | rfl | rfl
  ·exact Nat.le_add_right _ 4
  ·exact Nat.le_add_right _ 2
  ·exact Nat.le_add_right _ 3
  ·exact SX _
  ·exact Nat.le_add_right _ 1
 exact I1.yu sO (I1.aV.fresh sO)
end
theorem u3 {cap : List (Option Nat)} {σ : St} {H : Hp} {g : TG} {tc : TT} {te : TE} {Q : VK} {D a b : Addr} {as bs : List V} {n : Nat} (Pv : Nat -> List V -> Hp -> Prop) (h0 : Pv 0 [] (upd H D (.lst []))) (hn : n = min as.length bs.length)
  (hD : ∀ i xs H, i <= n -> Pv i xs H -> H D = some (.lst xs) /\ H a = some (.tup as) /\ H b = some (.tup bs))
  (hs : ∀ i x y xs H p, as[i]? = some x -> bs[i]? = some y -> H p = none -> Pv i xs H -> g (.ref p) (eC cap σ) (upd H p (.tup [x, y])) fun σ2 H4 => bP (eC cap σ) σ2 /\
   tc σ2 H4 fun b H5 => if b = true then te σ2 H5 fun y H6 => H6 D = some (.lst xs) /\ xs.length < sizeLine /\ Pv (i + 1) (xs ++ [y]) (upd H6 D (.lst (xs ++ [y]))) else Pv (i + 1) xs H5)
  (hd : ∀ xs H, Pv n xs H -> Q (.ref D) H) : md (Mu a b) D cap σ H g tc te Q := by
 refine ⟨n, Pv, h0, fun i xs H2 hi p => ⟨(hD i xs H2 hi p).1, ?_⟩⟩
 obtain ⟨q0, q1, q2⟩ := hD i xs H2 hi p
 by_cases gc : i < n
 ·have l1 : i < as.length := by omega
  have l2 : i < bs.length := by omega
  refine .inr ⟨gc, ⟨as, bs, as[i], bs[i], q1, q2, S1 l1, S1 l2⟩, fun v H3 y => ?_⟩
  obtain ⟨pp, x, y, rfl, hp, rfl, Qo⟩ := y
  obtain ⟨e1, e2⟩ := Qo as bs q1 q2
  exact hs i x y xs H2 pp e1 e2 hp p
 ·have e : i = n := by omega
  subst e
  refine .inl ⟨rfl, ⟨as, bs, q1, q2, ?_⟩, hd xs H2 p⟩
  omega
end L2
namespace HT
open PySem PySem.Spec PyProof.Rows
section
variable {prog : Program} {w : World} {A : Around} {E : Value -> Shared -> Prop} {s : Shared}
theorem kK {t sl : Addr} {items : Array Value} {vl vu : Value} {lo hi : Option Int} {Q : Value -> Shared -> Prop} (ht : IsTup s.heap t items) (hs : s.heap.IsSliceOf sl vl vu .none) (pl : IsPart vl lo) (pu : IsPart vu hi)
  (hw : dC items.size 0 lo = 0 /\ dC items.size items.size hi = items.size) (h : Q (.ref t) s) : wpAny (model prog w) A (getItem (.ref t) (.ref sl)) Q E s := by
 obtain ⟨os, Bk, J3, Ic⟩ := id hs
 have TS : s.TypeIs (.ref sl) "slice" := ⟨os, Bk, J3⟩
 have yes : ((((dC items.size 0 lo : Nat) : Int) == 0 && (1 : Int) == 1 && (dC items.size items.size hi - dC items.size 0 lo) == items.size) = true) := by rw [hw.1, hw.2]; simp
 unfold getItem
 try with_reducible refine Up ?_
 first | refine SS (SU ?_) | skip
 refine SS (wpAny_sequenceKey ht.typeIs (by decide) (SS (T7 (name := Str.ofString "__getitem__") ht.typeIs Ul (TJ Ul ht.typeIs entry_tuple_getitem ?b (args_tuple_getitem _ _)))))
 case b =>
  show wpAny _ _ (Builtin.Tuple.tupleItemsOf (.ref t) >>= _) _ _ _; refine SS (tupleItemsOf_ ht (SS (wpAny_typeOf TS ?_))); rw [if_pos (by decide)]
  refine SS (g9 hs pl pu ?_)
  show wpAny _ _ (if (((dC items.size 0 lo : Nat) : Int) == 0 && (1 : Int) == 1 && (dC items.size items.size hi - dC items.size 0 lo) == items.size) = true then _ else _) _ _ s
  rw [if_pos yes]
  obtain ⟨ot, Rz, Q5, _⟩ := id ht
  have TT : s.TypeIs (.ref t) "tuple" := ⟨ot, Rz, Q5⟩
  unfold Builtin.Tuple.tupleIsExact
  refine SS (SS (wpAny_typeOf TT (SU ?_)))
  rw [if_pos (by decide)]
  exact SS (UI (SU ⟨_, rfl, SU h⟩))
end
end HT
namespace L2
open PySem PySem.Spec PyProof.Rows
section
variable {X : Cx}
def HQ (K : VN) : V -> Option Int -> Option Int -> Hp -> VK -> Prop := fun x lo hi H Q => ∃ a xs, x = .ref a /\ aX K H a xs /\ (HT.dC xs.length 0 lo = 0 /\ HT.dC xs.length xs.length hi = xs.length) /\ Q (.ref a) H
theorem Dn : BQ X (HQ X.K) := by
 intro pins s σ H x v vl vu lo hi sl Q I rx hs pl pu h
 obtain ⟨a, xs, rfl, hx, hw, q⟩ := h
 cases rx
 obtain ⟨aA, r, ht, hz⟩ := I.tuple hx
 have ln : aA.toArray.size = xs.length := by rw [Tb]; exact r.length.symm
 exact ⟨"tuple", _, Ul.lookup, ht.typeIs, HT.kK ht hs pl pu (by rw [ln]; exact hw) ⟨.ref a, H, I, rfl, q⟩⟩
theorem B0 : BQ X (fun x lo hi H Q => HX X.K x lo hi H Q \/ HQ X.K x lo hi H Q) := BQ.or Ff Dn
end
end L2
namespace PySem.W
open PySem PySem.Spec PySem.Calls PyProof.Rows
open Builtin Builtin.ObjectAttr Builtin.Getset_descriptor
structure FD (K : Frag) (D : Addr) : Prop where
 ga : findIn K (.ref D) "__getattribute__" = some (some (.builtin "BaseException.__getattribute__"))
 hk : findIn K (.ref D) "__getattr__" = some none
 ca : findIn K (.ref D) "__class__" = some (some (.builtin "object.__class__"))
 gt : specialIn K (.builtin "object.__class__") "__get__" = some (some (.builtin "getset_descriptor.__get__"))
 tk : takesIn K (.builtin "object.__class__") = some true
 mo : mroIn K D (.type "object") = some true
 mb : mroIn K D (.type "BaseException") = some true
 cl : (clsIn K D).isSome = true
theorem FD.cls {K : Frag} {D : Addr} (c : FD K D) : ∃ c' d' cd Dv, K.lookup D = some ⟨c', d', .cls cd, Dv⟩ := by
 have z := c.cl
 unfold clsIn at z
 split at z
 ·rename_i ho; exact ⟨_, _, _, _, ho⟩
 ·cases z
end PySem.W
namespace L2
open PySem PySem.Spec PyProof.Rows
abbrev TX := St -> Hp -> VK -> XK -> Prop
def XP (X : Cx) (pins : List (Addr × Obj)) (σ : St) (E : XK) (e : Value) (s' : Shared) : Prop := ∃ H1 s1, Inv X pins σ H1 s1 /\ Ay X.prog X.w X.stack H1 s1 E e s'
section
variable {X : Cx} {k : Nat} {f C : Addr} {fd : FuncData} {ps : List Str} {sp : Sp} {m5 : List V} {ds : List Value} {x y : Str} {p pos : Pos} {e : Expr} {es : List Expr} {t : TA}
abbrev OQ := Ends -> XK -> St -> Hp -> Prop
variable {tx : TX} {i : Nat} {rest : List Stmt} {u : TS} {Fx pos' : Pos}
end
section
variable {X : Cx} {CC : Addr} {j : Nat} {x n : Str} {tb : OQ} {ts : Addr -> Addr -> TS} {body NP : List Stmt} {b₀ : Stmt} {np He pos : Pos} {rest : List ExceptHandler}
theorem IQ {P : Program} {w : World} {X : Cx} : Passes (Ay P w) X E0 := fun _ _ _ _ _ _ _ h => by
 obtain ⟨_, _, _, _, _, _, _, _, _, _, _, _, _, _, z⟩ := h
 exact z.elim
end
section
variable {X : Cx} {K : VN} (h : X.K = K)
include h
theorem M6 : h9 X (compareOp .In) (Kj K false) := by subst h; exact fK
theorem pF : h9 X (compareOp .NotIn) (Kj K true) := by subst h; exact iq
theorem G3 : h9 X (binaryOp .Add) (D6 K) := by subst h; exact xh
theorem Cd : z9 X (IT K) := by subst h; exact eX
theorem Aj : z9 X (HF K) := by subst h; exact aI
theorem tupK {es : List Expr} {k n : Nat} {pos : Pos} {t : Et} (hc : X.calm = true) (ht : Il X es t) (hn : (assignEach es X.env).length = n := by rfl) (oq : (assignEach es X.env).findIdx? (·.1) = none := by rfl) : PG X (.Tuple es k pos) (Im K n t) := by subst h; exact mG hc ht hn oq
end
section
variable {X : Cx}
theorem yN (hc : X.calm = true) : dH X (.builtin "min") (fun xs H Q => ∃ (p : Addr) (ns : List Int), xs = [.ref p] /\ a6 X.K H p (ns.map V.int) /\ ns ≠ [] /\ ∀ m, m ∈ ns -> (∀ n ∈ ns, m <= n) -> Q (.int m) H) := by
 intro pins s σ H xs us Q I r h
 obtain ⟨p, ns, rfl, hp, si, q⟩ := h
 obtain ⟨u, rfl, ru⟩ := vals1 r
 cases ru
 obtain ⟨aA, rv, pl, _⟩ := I.list hp
 obtain ⟨ps, rfl, e2⟩ := pk rv
 have ia : (ps.map fun p => Value.int p.1 p.2).toArray = intItems ps.toArray := by unfold intItems; simp
 have og : ps.toArray.size = ns.length := by rw [<- e2]; simp
 have He : 0 < ps.toArray.size := by rw [og]; exact Vy.mpr si
 refine min_intList (I.ok.hd hc) (xs := ps.toArray) (by rw [<- ia]; exact pl.isList) He fun v h' tk hv hk => ?_
 obtain ⟨t, rfl⟩ := intItems_at hv
 obtain ⟨h1, h2⟩ := argBest_lt (numAt ps.toArray) (ps.toArray.size - 1)
 have na : numAt ps.toArray = fun i => ns.getD i 0 := by
  funext i
  rw [<- e2]
  unfold numAt
  rw [Tg, Tc]
  simp
 refine ⟨.int _, H, I.kept (t' := tk) hk, ⟨t, rfl⟩, q _ ?_ fun n hn => ?_⟩
 ·rw [na]
  have hi : argBest (fun i j => decide (numAt ps.toArray i < numAt ps.toArray j)) (ps.toArray.size - 1) < ns.length := by omega
  rw [na] at hi
  show ns.getD _ 0 ∈ ns
  rw [Tg, S1 hi]
  exact UK hi
 ·obtain ⟨j, hj⟩ := Vk.mp hn
  have SL : j < ns.length := (Tk.mp hj).1
  have := h2 j (by omega)
  rw [na] at this ⊢
  have e : ns.getD j 0 = n := by rw [Tg, hj]; rfl
  have Ed : ns.getD (argBest (fun i j => decide (ns.getD i 0 < ns.getD j 0)) (ps.toArray.size - 1)) 0 <= ns.getD j 0 := this
  rw [e] at Ed
  exact Ed
end
end L2
namespace FN
open PySem L2
theorem kE {α : Type} {x : α} {r : List α} : zx (x :: r) 0 = some x := eV (j := 0) (xs := x :: r) rfl
theorem lY {α : Type} {x y : α} {r : List α} : zx (x :: y :: r) 1 = some y := eV (j := 1) (xs := x :: y :: r) rfl
theorem at2 {α : Type} {x y z : α} {r : List α} : zx (x :: y :: z :: r) 2 = some z := eV (j := 2) (xs := x :: y :: z :: r) rfl
theorem wf {α : Type} {xs : List α} {i : Int} (h0 : 0 <= i) (h1 : i < xs.length) : ∃ v, v ∈ xs /\ zx xs i = some v := by
 have hj : i.toNat < xs.length := by omega
 have e : xs[i.toNat]? = some xs[i.toNat] := S1 hj
 refine ⟨xs[i.toNat], UK hj, ?_⟩
 have q := eV e
 rwa [show ((i.toNat : Nat) : Int) = i by omega] at q
theorem bC {c : Bool} {A B : Prop} (h1 : c = true -> A) (h2 : c = false -> B) : if c = true then A else B := by
 cases c with
 | true => exact h1 rfl
 | false => exact h2 rfl
theorem aK {n : Nat} (h : n <= 1000000) : n <= sizeLine := by rw [UV]; omega
theorem aJ {n : Nat} (h : n <= 1000000) : n < sizeLine := by rw [UV]; omega
mutual
def eD : PyData -> Bool
 | .list _ => false
 | .tuple ds => cu ds
 | .dict _ => false
 | _ => true
def cu : List PyData -> Bool
 | [] => true
 | d :: ds => eD d && cu ds
end
theorem aH {α : Type} {f : α -> PyData} (hf : ∀ x, eD (f x) = true) : ∀ l : List α, cu (l.map f) = true
 | [] => rfl
 | x :: r => by
  simp only [Ti, cu, TK]
  exact ⟨hf x, aH hf r⟩
section
variable {H : Hp} {D : Addr} {o : HO} {ys : List V}
mutual
theorem c7 (hD : H D = some (.lst ys)) : ∀ {d : PyData} {v : V}, DV H d v -> eD d = true -> DV (upd H D o) d v
 | _, _, .cq, _ => .cq
 | _, _, .bl b, _ => .bl b
 | _, _, .int i, _ => .int i
 | _, _, .str x, _ => .str x
 | _, _, .lst _ _, n => by simp [eD] at n
 | _, _, .tup h t, n => .tup (by rw [aq (eu h hD (by intro z; cases z))]; exact h) (bi hD t (by simpa [eD] using n))
theorem bi (hD : H D = some (.lst ys)) : ∀ {ds : List PyData} {vs : List V}, bF H ds vs -> cu ds = true -> bF (upd H D o) ds vs
 | _, _, .nil, _ => .nil
 | _, _, .cons h t, n => by
  simp only [cu, TK] at n
  exact .cons (c7 hD h n.1) (bi hD t n.2)
end
end
section
variable {H H' : Hp}
mutual
theorem pG (e : ∀ b vs, H b = some (.tup vs) -> H' b = some (.tup vs)) : ∀ {d : PyData} {v : V}, DV H d v -> eD d = true -> DV H' d v
 | _, _, .cq, _ => .cq
 | _, _, .bl b, _ => .bl b
 | _, _, .int i, _ => .int i
 | _, _, .str x, _ => .str x
 | _, _, .lst _ _, n => by simp [eD] at n
 | _, _, .tup h t, n => .tup (e _ _ h) (nR e t (by simpa [eD] using n))
theorem nR (e : ∀ b vs, H b = some (.tup vs) -> H' b = some (.tup vs)) : ∀ {ds : List PyData} {vs : List V}, bF H ds vs -> cu ds = true -> bF H' ds vs
 | _, _, .nil, _ => .nil
 | _, _, .cons h t, n => by
  simp only [cu, TK] at n
  exact .cons (pG e h n.1) (nR e t n.2)
end
end
theorem ao {H0 H : Hp} {D : Addr} {o : HO} (e : am H0 H) (h : H0 D = none) : am H0 (upd H D o) := fun b u q => by
 rw [aq (ax q h)]
 exact e b u q
theorem ag {H : Hp} {D : Addr} {o : HO} (h : H D = none) : am H (upd H D o) := ao (am.refl H) h
theorem nU {α : Type} {f : α -> PyData} (hf : ∀ x, (f x).canLay0 = true) : ∀ l : List α, PyData.canLayAll0 (l.map f) = true
 | [] => by simp [PyData.canLayAll0]
 | x :: r => by simp only [Ti, PyData.canLayAll0, hf x, nU hf r, Bool.and_self]
theorem B4 (i : Int) : (PyData.int i).canLay0 = true := by simp [PyData.canLay0]
theorem zP (g : List Int) : PyData.canLayAll0 (g.map PyData.int) = true := nU B4 g
theorem kX {α : Type} {f : α -> PyData} {n : Nat} (hf : ∀ x, (f x).depth <= n) : ∀ l : List α, PyData.depthAll (l.map f) <= n
 | [] => by simp [PyData.depthAll]
 | x :: r => by
  simp only [Ti, PyData.depthAll]
  exact Nat.max_le.mpr ⟨hf x, kX hf r⟩
abbrev Th := Int × Bool
abbrev Qu := Int × Int × Int
def wj (t : Th) : PyData := .tuple [.int t.1, .bool t.2]
def xN (q : Qu) : PyData := .tuple [.int q.1, .int q.2.1, .int q.2.2]
theorem xY (t : Th) : eD (wj t) = true := rfl
theorem xR (q : Qu) : eD (xN q) = true := rfl
section
variable {H : Hp}
theorem Jn {t : Th} {b : Addr} (h : H b = some (.tup [.int t.1, .bl t.2])) : DV H (wj t) (.ref b) := .tup h (.cons (.int _) (.cons (.bl _) .nil))
theorem Jb {q : Qu} {b : Addr} (h : H b = some (.tup [.int q.1, .int q.2.1, .int q.2.2])) : DV H (xN q) (.ref b) := .tup h (.cons (.int _) (.cons (.int _) (.cons (.int _) .nil)))
theorem Am {t : Th} {v : V} (h : DV H (wj t) v) : ∃ b, v = .ref b /\ H b = some (.tup [.int t.1, .bl t.2]) := by
 obtain ⟨a, vs, rfl, e, q⟩ := h.eT
 obtain ⟨v, w, rfl, h1, h2⟩ := q.nO
 cases h1.int_inv
 cases h2.E7
 exact ⟨a, rfl, e⟩
theorem we {q : Qu} {v : V} (h : DV H (xN q) v) : ∃ b, v = .ref b /\ H b = some (.tup [.int q.1, .int q.2.1, .int q.2.2]) := by
 obtain ⟨a, vs, rfl, e, q⟩ := h.eT
 obtain ⟨v, w, u, rfl, h1, h2, h3⟩ := q.jy
 cases h1.int_inv
 cases h2.int_inv
 cases h3.int_inv
 exact ⟨a, rfl, e⟩
theorem bE {α : Type} {f : α -> PyData} {l : List α} {vs : List V} {i : Nat} {v : V} (h : bF H (l.map f) vs) (e : vs[i]? = some v) : ∃ x, l[i]? = some x /\ DV H (f x) v := by
 obtain ⟨d, h1, h2⟩ := h.get' e
 rw [Tc] at h1
 cases q : l[i]? with
 | none => rw [q] at h1; cases h1
 | some x =>
  rw [q] at h1
  cases h1
  exact ⟨x, rfl, h2⟩
theorem aG {α : Type} {f : α -> PyData} {l : List α} {vs : List V} (h : bF H (l.map f) vs) : vs.length = l.length := by
 have := h.length
 rw [SW] at this
 exact this.symm
end
structure GI (n : Int) (q : Qu) : Prop where
 a0 : 0 <= q.1
 a1 : q.1 < n
 b0 : 0 <= q.2.1
 b1 : q.2.1 < n
 ab : q.1 ≠ q.2.1
 k : q.2.2 = -1 \/ (0 <= q.2.2 /\ q.2.2 < n /\ q.2.2 ≠ q.1 /\ q.2.2 ≠ q.2.1)
structure C0 (ts : List Th) : Prop where
 l1 : 1 <= ts.length
 l6 : ts.length <= 6
 p : ∀ t ∈ ts, 1 <= t.1 /\ t.1 <= 1000000000
def LstAt {α : Type} (f : α -> PyData) (H : Hp) (a : Addr) (l : List α) : Prop := ∃ vs, H a = some (.lst vs) /\ bF H (l.map f) vs
def TupAt {α : Type} (f : α -> PyData) (H : Hp) (a : Addr) (l : List α) : Prop := ∃ vs, H a = some (.tup vs) /\ bF H (l.map f) vs
section
variable {α : Type} {f : α -> PyData} {H H' : Hp} {a : Addr} {l : List α}
theorem LstAt.mono (h : LstAt f H a l) (e : am H H') : LstAt f H' a l := let ⟨vs, h1, h2⟩ := h; ⟨vs, e _ _ h1, h2.mono e⟩
theorem TupAt.mono (h : TupAt f H a l) (e : am H H') : TupAt f H' a l := let ⟨vs, h1, h2⟩ := h; ⟨vs, e _ _ h1, h2.mono e⟩
theorem LstAt.dv (h : LstAt f H a l) : DV H (.list (l.map f)) (.ref a) := let ⟨_, h1, h2⟩ := h; .lst h1 h2
theorem TupAt.dv (h : TupAt f H a l) : DV H (.tuple (l.map f)) (.ref a) := let ⟨_, h1, h2⟩ := h; .tup h1 h2
end
def bad (g : List Int) (q : Qu) : Bool := g.contains q.1 && g.contains q.2.1 && !g.contains q.2.2
def gb (qs : List Qu) (g : List Int) : Bool := !(qs.any (bad g))
theorem bQ (i : Int) (g : List Int) : tH (.int i) (g.map V.int) = g.contains i := by
 unfold tH
 rw [List.any_map, List.contains_eq_any_beq]
 congr 1
 funext y
 show (y == i) = (i == y)
 rw [Bool.beq_comm]
theorem bN (g : List Int) : (g.map V.int).all k7 = true := by
 rw [List.all_map]
 exact Ub.mpr fun _ _ => rfl
def bY : Nat -> Int -> Int -> List Int
 | 0, _, _ => []
 | k + 1, t, num => (if num % 2 = 1 then [t] else []) ++ bY k (t + 1) (num / 2)
def bits (n : Nat) (num : Int) : List Int := bY n 0 num
def groups (n : Nat) : List (List Int) := (bn (2 ^ n)).map (bits n)
def i6 (g : List Int) : PyData := .tuple (g.map PyData.int)
theorem fi (g : List Int) : eD (i6 g) = true := by
 show cu (g.map PyData.int) = true
 exact aH (fun _ => rfl) g
theorem fZ {H : Hp} {g : List Int} {v : V} (h : DV H (i6 g) v) : ∃ b, v = .ref b /\ H b = some (.tup (g.map V.int)) := by
 obtain ⟨a, vs, rfl, e, q⟩ := h.eT
 cases q.kU
 exact ⟨a, rfl, e⟩
theorem hW {H : Hp} {g : List Int} {b : Addr} (h : H b = some (.tup (g.map V.int))) : DV H (i6 g) (.ref b) := .tup h (bF.ints g)
theorem AF (cell : Int) (n : Nat) (h2 : 2 <= n) (h6 : n <= 6) : 0 <= cell % (n : Int) /\ cell % (n : Int) < n /\ 0 <= (cell % (n : Int) + 1 + cell / (n : Int) % ((n : Int) - 1)) % (n : Int) /\
  (cell % (n : Int) + 1 + cell / (n : Int) % ((n : Int) - 1)) % (n : Int) < n /\ cell % (n : Int) ≠ (cell % (n : Int) + 1 + cell / (n : Int) % ((n : Int) - 1)) % (n : Int) := by
 have c : n = 2 \/ n = 3 \/ n = 4 \/ n = 5 \/ n = 6 := by omega
 rcases c with rfl | rfl | rfl | rfl | rfl <;> omega
theorem CM (n : Nat) (h2 : 2 <= n) (h6 : n <= 6) : (0 : Int) < (n : Int) * ((n : Int) - 1) /\ (n : Int) * ((n : Int) - 1) < 1073741824 := by
 have c : n = 2 \/ n = 3 \/ n = 4 \/ n = 5 \/ n = 6 := by omega
 rcases c with rfl | rfl | rfl | rfl | rfl <;> decide
abbrev bX (P : Program) (w : World) (K : VN) (mg : Str -> Option Value) (base : Heap) (N : List Str) (qual : Str) (st : Stmt) (f : Addr) (b8 : Value) (A : Around) (outer : List Env) (s : Shared) (H : Hp) (E : XK) : Cx :=
 (ug bp P w K mg base N qual (ak st) f b8 A outer s H E).Df
abbrev bD (Q : VK) : Ends := { nx := fun _ H' => Q .cq H', rt := Q }
structure Fn (K : VN) (mg : Str -> Option Value) (x : Str) (st : Stmt) (f : Addr) (fd : FuncData) (ps : List Str) : Prop where
 fn : CY K x x st f fd
 b : Binds K fd ps []
 g : mg x = some (.ref f)
structure Mt (K : VN) (x qual : Str) (st : Stmt) (f : Addr) (fd : FuncData) (ps : List Str) : Prop where
 fn : CY K x qual st f fd
 b : Binds K fd ps []
end FN
namespace L2
open PySem PySem.Spec PyProof.Rows
section
variable {X : Cx} {x : Str} {pos : Pos}
theorem gn (i : Nat) (hN : X.N.Nodup) (hi : X.N[i]? = some x := by rfl) (hx : Loc X.env.scope x := by first | exact Or.inl rfl | exact Or.inr rfl) (hf : X.fn x = true \/ X.env.scope.names.lookup x = some .local := by first | exact .inl rfl | exact .inr rfl | assumption) : PG X (.Name x pos) (ue i) := DC hN hi hx hf
theorem sn (i : Nat) {e : Expr} {te : TE} {pos' : Pos} (hN : X.N.Nodup) (he : PE X e te) (hi : X.N[i]? = some x := by rfl) (hx : Loc X.env.scope x := by first | exact Or.inl rfl | exact Or.inr rfl) (hs : swapsWith e (some (.Name x pos')) pos.line X.env = pure false := by rfl)
  (hf : X.fn x = true \/ X.env.scope.names.lookup x = some .local := by first | exact .inl rfl | exact .inr rfl | assumption) : PS X (.Assign [.Name x pos'] e pos) (DP te (ue i)) := E4 hN hi hx he hs hf
theorem fA {N P : List Str} {sc : Scope} (h1 : sc.kind = .function := by rfl) (h2 : sc.isCoroutine = false := by rfl) (h3 : sc.isGenerator = false := by rfl) (h4 : N.Nodup := by decide +kernel) (h5 : N.take P.length = P := by rfl)
  (h6 : ∀ x ∈ P, sc.names.lookup x = some .local \/ sc.names.lookup x = some .cell := by decide +kernel) (h7 : ∀ y ∈ sc.names, y.2 ≠ .free := by decide +kernel) : au N P sc := ⟨h1, h2, h3, h4, h5, h6, h7⟩
theorem cl {CX : wC} {k j : Nat} {f : Addr} {fd : FuncData} {ps : List Str} {sp : Sp} {E : XK} {st : Stmt} {e : Expr} {es : List Expr} {t : TA} {p : Pos} (F : av X.prog X.w X.K X.mg X.base CX k f fd ps sp) (N : FN.Fn X.K X.mg x st f fd ps) (hr : dJ j X.A) (hx : Passes CX X E) (ha : PA X (e :: es) t)
  (hk : k <= j := by decide) (hg : Gl X x := by rfl) (qc : (x == ("__debug__" : Str)) = false := by decide) (he : starEach (e :: es) X.env = (false, eval e X.env) :: starEach es X.env := by rfl) (zy : (backTo pos (starEach es X.env)).any (·.1) = false := by rfl) :
  PE X (.Call (.Name x p) (e :: es) [] pos) (En sp [] E t) := CU F (hr.mono hk) hg N.g N.fn.kp N.b .nil hx ha qc he zy
end
section
variable {prog : Program} {w : World} {A : Around} {E : Value -> Shared -> Prop} {s : Shared}
def gE (h : Heap) (a : Addr) (g : List Int) : Prop := ∃ aA : List Value, Vals (g.map V.int) aA /\ IsTup h a aA.toArray
theorem gE.typeIs {a : Addr} {g : List Int} (h : gE s.heap a g) : s.TypeIs (.ref a) "tuple" := let ⟨_, _, o, ho, hc, _⟩ := h; ⟨o, ho, hc⟩
theorem j4 {g k : List Int} {a b : Addr} {P : PySem.Fin -> Shared -> Prop} (hx : gE s.heap a g) (hy : gE s.heap b k) (h : P (.done (.ret (.bool (HT.lexLt g k)))) s) :
  wpAny (model prog w) A (Builtin.«tuple.__lt__» ⟨[.ref a, .ref b], []⟩) P E s := by
 have Ml := hy.typeIs
 obtain ⟨xs, rx, oa, BV, _, na, BR⟩ := hx
 obtain ⟨ys, ry, ob, pS, _, nb, qc⟩ := hy
 show wpAny _ _ (isInstance (.ref b) (.type "tuple") >>= _) _ _ s
 refine SS (UJ Ml isSubtype_tuple_tuple ?_)
 simp only [Uc, Tn, T3]
 refine SS (VI BV BR ?_)
 refine SS (VI pS qc ?_)
 refine SS ?_
 refine wpAny_forIn_list _
  (fun rest r s' => s' = s /\ ((r.1 = none /\ ∃ g' k' GL t7, rest = List.zip GL t7 /\ Vals (g'.map V.int) GL /\ Vals (k'.map V.int) t7 /\ HT.lexLt g' k' = HT.lexLt g k /\ (decide (GL.length < t7.length)) = (decide (xs.toArray.size < ys.toArray.size))) ))
  _ ?_ ?_ _ _ ⟨rfl, rfl, g, k, xs, ys, by simp, rx, ry, rfl, by simp⟩
 ·rintro ⟨u, v⟩ rest r s' ⟨rfl, hr, g', k', GL, t7, hz, hg, hk, wB, hlen⟩
  cases g' with
  | nil => cases hg; simp at hz
  | cons m g' =>
   cases k' with
   | nil => cases hk; rw [List.zip_nil_right] at hz; cases hz
   | cons n k' =>
    cases hg with
    | cons r1 Lg =>
    cases hk with
    | cons r2 Qk =>
    obtain ⟨t1, rfl⟩ := r1
    obtain ⟨t2, rfl⟩ := r2
    rw [Vd] at hz
    injection hz with wQ Gn
    injection wQ with e1 e2
    subst e1 e2 Gn
    rw [HT.fY] at wB
    refine SS (Vt ?_)
    by_cases JL : m = n
    ·rw [if_pos JL] at wB
     rw [show (m == n) = true from U4.mpr JL]
     simp only [Uc, Tn, T3]
     exact SU ⟨rfl, rfl, g', k', _, _, rfl, Lg, Qk, wB, by simpa using hlen⟩
    ·rw [if_neg JL] at wB
     rw [show (m == n) = false from Uk.mpr JL]
     simp only [Bool.not_false, UB]
     refine SS (UI (SS (show wpAny (model prog w) A (compareOp .Lt (.int m t1) (.int n t2)) _ E s' from lt_int ?_)))
     rw [wB]
     exact SS (SU (SU (SU h)))
 ·rintro ⟨r1, r2⟩ s' ⟨rfl, hr, g', k', GL, t7, hz, hg, hk, wB, hlen⟩
  simp only at hr
  subst hr
  refine SU ?_
  have Lm : decide (xs.toArray.size < ys.toArray.size) = HT.lexLt g k := by
   rw [<- wB, <- hlen]
   cases g' with
   | nil =>
    cases hg
    cases k' with
    | nil => cases hk; rfl
    | cons n k' => cases hk; simp [HT.lexLt]
   | cons m g' =>
    cases hg
    cases k' with
    | nil => cases hk; simp [HT.lexLt]
    | cons n k' => cases hk; simp at hz
  show P (.done (.ret (.bool (decide (xs.toArray.size < ys.toArray.size))))) s'
  rw [Lm]; exact h
theorem AZ {g k : List Int} {a b : Addr} {Q : Value -> Shared -> Prop} (hu : A.units < cLine) (hx : gE s.heap a g) (hy : gE s.heap b k) (h : Q (.bool (HT.lexLt g k)) s) :
  wpAny (model prog w) A (compareOp .Lt (.ref a) (.ref b)) Q E s :=
 show wpAny (model prog w) A (richCompare .Lt (.ref a) (.ref b)) Q E s from
 wpAny_richCompare_same_room (op := .Lt) hx.typeIs hy.typeIs F.slot_tuple_lt
   (TJ F.slot_tuple_lt hx.typeIs F.entry_tuple_lt (j4 hx hy ⟨_, rfl, (fun e => nomatch e), h⟩) (F.args_tuple_lt_2 _ _)) hu
theorem i7 {g k : List Int} {a b : Addr} {o : Bool} {Q : Bool -> Shared -> Prop} (hu : A.units < cLine) (hx : gE s.heap a g) (hy : gE s.heap b k) (h : Q (HT.lexLt g k) s) :
  wpAny (model prog w) A (oneLt' o (.ref a) (.ref b)) Q E s := by
 cases o with
 | false => exact PySem.W.kat_one _ _ (AZ hu hx hy h)
 | true =>
  rw [oneLt'_eq]
  simp only [UB]
  refine SS (wpAny_cRoomFor_or (.inr hu) ?_)
  refine SS (wpAny_callSpecialIfBound?_slot hx.typeIs F.slot_tuple_lt (TJ F.slot_tuple_lt hx.typeIs F.entry_tuple_lt (j4 hx hy ⟨_, rfl, ?_⟩) (F.args_tuple_lt_2 _ _)))
  exact Ud h
theorem pf : ∀ {g : List Int} {aA : List Value}, Vals (g.map V.int) aA -> ItemsAre (intKind prog w) g aA
 | [], _, .nil => .nil
 | _ :: _, _, .cons ⟨_, e⟩ r => by subst e; exact .cons (by first | rfl | simp [intKind, Value.isInt]) (pf r)
theorem gE.key {h : Heap} {a : Addr} {g : List Int} : gE h a g -> IsTupleKey (intKind prog w) h g a
 | ⟨aA, rv, o, ho, hc, n, hd⟩ => ⟨o, aA.toArray, n, ho, hc, hd, by rw [List.toList_toArray]; exact pf rv⟩
theorem mV {g k : List Int} {a b : Addr} {Q : Bool -> Shared -> Prop} (hu : A.units < cLine) (hx : gE s.heap a g) (hy : gE s.heap b k) (h : Q (decide (g = k)) s) :
  wpAny (model prog w) A (eqBool (.ref a) (.ref b)) Q E s := by
 exact wpAny_eqBool_tuple hu hx.key hy.key h
def iQ (h : Heap) (k : Value) (p : Int × List Int) : Prop := ∃ a b t, k = .ref a /\ IsTup h a #[.int p.1 t, .ref b] /\ gE h b p.2
def aS (p q : Int × List Int) : Bool := if p.1 = q.1 then HT.lexLt p.2 q.2 else decide (p.1 < q.1)
theorem g6 : ∀ g : List Int, HT.lexLt g g = false
 | [] => rfl
 | m :: g => by rw [HT.fY, if_pos rfl, g6 g]
theorem wJ {x y : Value} {p q : Int × List Int} {Q : Bool -> Shared -> Prop} (hu : A.units < cLine) (hx : iQ s.heap x p) (hy : iQ s.heap y q) (h : Q (aS p q) s) : wpAny (model prog w) A (keyLt' (tuples' true) x y) Q E s := by
 obtain ⟨a, b, t, rfl, ⟨o, ho, hc, n, hd⟩, hb⟩ := hx
 obtain ⟨a', b', t', rfl, ⟨o', k8, w5, n', vn⟩, zF⟩ := hy
 refine PySem.W.kat_lt ho hd k8 vn ?_
 show PySem.W.KatLex prog w A true (decide (2 < 2)) Q [(.int p.1 t, .int q.1 t'), (.ref b, .ref b')] 0 s
 refine PySem.W.kat_cons (Vt ?_)
 unfold aS at h
 refine PySem.W.kat_go (fun e => ?_) fun e => ?_
 ·rw [if_pos (eq_of_beq e)] at h
  refine PySem.W.kat_yes (PySem.W.kat_cons (mV hu hb zF ?_))
  refine PySem.W.kat_go (fun e => ?_) fun e => ?_
  ·have e := Tt e
   rw [e, g6] at h
   exact PySem.W.kat_yes (PySem.W.kat_nil h)
  ·exact PySem.W.kat_no (i7 hu hb zF h)
 ·rw [if_neg (fun z => by rw [z, beq_self_eq_true] at e; cases e)] at h
  exact PySem.W.kat_no (oneLt_int h)
end
section
theorem lex_trans : ∀ {a b c : List Int}, HT.lexLt a b = true -> HT.lexLt b c = true -> HT.lexLt a c = true
 | [], _, [], h1, h2 => by rename_i b; cases b <;> simp [HT.lexLt] at h1 h2
 | [], _, _ :: _, _, _ => by simp [HT.lexLt]
 | _ :: _, [], _, h1, _ => by simp [HT.lexLt] at h1
 | _ :: _, _ :: _, [], _, h2 => by simp [HT.lexLt] at h2
 | x :: a, y :: b, z :: c, h1, h2 => by
  rw [HT.fY] at h1 h2 ⊢
  by_cases e1 : x = y
  ·rw [if_pos e1] at h1
   by_cases e2 : y = z
   ·rw [if_pos e2] at h2
    rw [if_pos (e1.trans e2)]
    exact lex_trans h1 h2
   ·rw [if_neg e2] at h2
    rw [if_neg (fun e => e2 (e1.symm.trans e)), e1]
    exact h2
  ·rw [if_neg e1] at h1
   by_cases e2 : y = z
   ·rw [<- e2, if_neg e1]
    exact h1
   ·rw [if_neg e2] at h2
    have h1 := Tt h1
    have h2 := Tt h2
    rw [if_neg (by omega)]
    exact S9 (by omega)
theorem jJ : ∀ {a b : List Int}, a ≠ b -> HT.lexLt a b = false -> HT.lexLt b a = true
 | [], [], h, _ => absurd rfl h
 | [], _ :: _, _, h => by simp [HT.lexLt] at h
 | _ :: _, [], _, _ => by simp [HT.lexLt]
 | x :: a, y :: b, h, h1 => by
  rw [HT.fY] at h1 ⊢
  by_cases e : x = y
  ·rw [if_pos e] at h1
   rw [if_pos e.symm]
   exact jJ (fun z => h (by rw [e, z])) h1
  ·rw [if_neg e] at h1
   rw [if_neg (fun z => e z.symm)]
   have := of_decide_eq_false h1
   exact S9 (by omega)
theorem mi (p : Int × List Int) : aS p p = false := by unfold aS; rw [if_pos rfl, g6]
theorem nY {p q r : Int × List Int} (h1 : aS p q = true) (h2 : aS q r = true) : aS p r = true := by
 unfold aS at *
 by_cases e1 : p.1 = q.1
 ·rw [if_pos e1] at h1
  by_cases e2 : q.1 = r.1
  ·rw [if_pos e2] at h2
   rw [if_pos (e1.trans e2)]
   exact lex_trans h1 h2
  ·rw [if_neg e2] at h2
   rw [if_neg (fun e => e2 (e1.symm.trans e)), e1]
   exact h2
 ·rw [if_neg e1] at h1
  by_cases e2 : q.1 = r.1
  ·rw [<- e2, if_neg e1]
   exact h1
  ·rw [if_neg e2] at h2
   have h1 := Tt h1
   have h2 := Tt h2
   rw [if_neg (by omega)]
   exact S9 (by omega)
theorem zS {p q : Int × List Int} (h : p ≠ q) (h1 : aS p q = false) : aS q p = true := by
 unfold aS at *
 by_cases e : p.1 = q.1
 ·rw [if_pos e] at h1
  rw [if_pos e.symm]
  exact jJ (fun z => h (Prod.ext e z)) h1
 ·rw [if_neg e] at h1
  rw [if_neg (fun z => e z.symm)]
  have := of_decide_eq_false h1
  exact S9 (by omega)
def dD (ps : List (Int × List Int)) (p : Int × List Int) : Nat := ps.countP fun x => aS x p
theorem countP_le {α : Type} {f g : α -> Bool} (h : ∀ x, f x = true -> g x = true) : ∀ l : List α, l.countP f <= l.countP g
 | [] => SX _
 | x :: l => by
  rw [Ux, Ux]
  have := countP_le h l
  by_cases e : f x = true
  ·rw [if_pos e, if_pos (h x e)]; omega
  ·rw [if_neg e]; omega
theorem mC {α : Type} {f g : α -> Bool} (h : ∀ x, f x = true -> g x = true) {y : α} (h1 : f y = false) (h2 : g y = true) : ∀ {l : List α}, y ∈ l -> l.countP f < l.countP g
 | x :: l, hy => by
  rw [Ux, Ux]
  rcases S2.mp hy with rfl | hy
  ·rw [if_neg (by rw [h1]; simp), if_pos h2]
   have := countP_le h l
   omega
  ·have := mC h h1 h2 hy
   by_cases e : f x = true
   ·rw [if_pos e, if_pos (h x e)]; omega
   ·rw [if_neg e]; omega
theorem lA {ps : List (Int × List Int)} {p q : Int × List Int} (hp : p ∈ ps) : decide (dD ps p < dD ps q) = aS p q := by
 cases e : aS p q with
 | true => exact S9 (mC (f := fun x => aS x p) (g := fun x => aS x q) (fun x hx => nY hx e) (mi p) e hp)
 | false =>
  refine Tp (Nat.not_lt.mpr ?_)
  by_cases J9 : p = q
  ·rw [J9]; exact SX _
  ·exact countP_le (f := fun x => aS x q) (g := fun x => aS x p) (fun x hx => nY hx (zS J9 e)) ps
theorem iQ.inj {h : Heap} {k : Value} {p q : Int × List Int} (h1 : iQ h k p) (h2 : iQ h k q) : p = q := by
 obtain ⟨a, b, t, rfl, ⟨o, ho, _, n, hd⟩, aA, rv, o1, qe, _, n1, Fw⟩ := h1
 obtain ⟨a', b', t', e, ⟨o', k8, _, n', vn⟩, its', La, Sg, IJ, _, MT, Ig⟩ := h2
 cases e
 rw [ho] at k8; cases k8
 rw [hd] at vn
 injection vn with e1 e2
 have e1 : [Value.int p.1 t, .ref b] = [Value.int q.1 t', .ref b'] := Um Array.toList e1
 injection e1 with e3 e4
 injection e4 with e5 e6
 injection e3 with e7 e8
 injection e5 with e5
 subst e5
 rw [qe] at IJ; cases IJ
 rw [Fw] at Ig
 injection Ig with e1 e2
 have e1 : aA = its' := Um Array.toList e1
 subst e1
 refine Prod.ext e7 ?_
 clear Fw qe hd ho
 have aux : ∀ (g k : List Int) (aA : List Value), Vals (g.map V.int) aA -> Vals (k.map V.int) aA -> g = k := by
  intro g
  induction g with
  | nil => intro k aA r1 r2; cases r1; cases k with
   | nil => rfl
   | cons x k => cases r2
  | cons m g ih =>
   intro k aA r1 r2
   cases r1 with
   | cons a1 b1 =>
    cases k with
    | nil => cases r2
    | cons x k =>
     cases r2 with
     | cons a2 b2 =>
      obtain ⟨t1, e1⟩ := a1
      obtain ⟨t2, e2⟩ := a2
      rw [e1] at e2
      injection e2 with e3
      rw [e3, ih k _ b1 b2]
 exact aux _ _ _ rv La
end
section
variable {X : Cx} {H H' Ew : Hp} {s s' : Shared} {h' : Heap}
structure lZ (X : Cx) (H : Hp) (s : Shared) (H' : Hp) (s' : Shared) : Prop where
 os : s'.os = s.os
 bare : AllBare s'.gens
 un : Un (kC X.stack) [] H H' s.heap s'.heap
 aV : jk X.prog X.w H' s'.heap
 same : am H H'
theorem lZ.inv {pins : List (Addr × Obj)} {σ : St} (I : Inv X pins σ H s) (M : lZ X H s H' s') : Inv X pins σ H' s' := I.D8 M.os M.un M.aV M.bare fun b z => absurd z (by simp)
theorem lZ.start {pins : List (Addr × Obj)} {σ : St} (I : Inv X pins σ H s) : lZ X H s H s := ⟨rfl, I.bare, Un.refl, I.aV, am.refl _⟩
theorem lZ.keep {t : Nat} (M : lZ X H s H' s') (k : ∀ b u, s'.heap.get? b = some u -> h'.get? b = some u) : lZ X H s H' { s' with heap := h', toks := t } :=
 ⟨M.os, M.bare, M.un.trans (Un.kept k), M.aV.kept k, M.same⟩
theorem lZ.CN {a : Addr} {t : Nat} (M : lZ X H s H' s') (ha : s.heap.get? a = none) (hn : H' a = none) (k : ∀ b u, b ≠ a -> s'.heap.get? b = some u -> h'.get? b = some u) : lZ X H s H' { s' with heap := h', toks := t } := by
 have na : ∀ b o, s.heap.get? b = some o -> b ≠ a := fun b o e z => by rw [z, ha] at e; cases e
 have nt : ∀ b o, H' b = some o -> b ≠ a := fun b o e z => by rw [z, hn] at e; cases e
 refine ⟨M.os, M.bare, ⟨fun b o e n f x => k b o (na b o e) (M.un.keep b o e n f x), fun b o e n f x => ?_, M.un.free, fun b o e x => ?_, M.un.eL, M.un.iR, M.un.ji⟩, fun b o e => ?_, M.same⟩
 ·obtain ⟨sl, q⟩ := M.un.slot b o e n f x
  exact ⟨sl, k b _ (na b o e) q⟩
 ·obtain ⟨o', q⟩ := M.un.there b o e x
  exact ⟨o', k b _ (na b o e) q⟩
 ·refine (M.aV b o e).j8 (fun c v hc q => k c v ?_ q) (fun _ q => q) fun _ _ q => q
  rcases hc with z | z
  ·rw [z]; exact nt b o e
  ·exact nt c _ z
theorem lZ.Ir {a : Addr} {o : HO} (M : lZ X H s H' s') (ha : s.heap.get? a = none) (hn : H' a = none) (new : bV X.prog X.w (upd H' a o) s'.heap a o) : lZ X H s (upd H' a o) s' := by
 have na : ∀ b o, s.heap.get? b = some o -> b ≠ a := fun b o e z => by rw [z, ha] at e; cases e
 have nt : ∀ b o, H' b = some o -> b ≠ a := fun b o e z => by rw [z, hn] at e; cases e
 refine ⟨M.os, M.bare, ⟨M.un.keep, M.un.slot, fun b u e n x => by rw [aq (na b u e)]; exact M.un.free b u e n x, M.un.there, fun b xs e => ?_, fun b u xs e => ?_, fun b ps e => ?_⟩, fun b u e => ?_, fun b u e => ?_⟩
 ·have q := M.un.eL b xs e
  rw [aq (nt b _ q)]; exact q
 ·have q := M.un.iR b u xs e
  rw [aq (nt b _ q)]; exact q
 ·obtain ⟨m, q⟩ := M.un.ji b ps e
  exact ⟨m, by rw [aq (nt b _ q)]; exact q⟩
 ·by_cases hb : b = a
  ·subst hb; rw [ae] at e; cases e; exact new
  ·rw [aq hb] at e
   exact (M.aV b u e).j8 (fun c v _ q => q) (fun c q => by rw [aq (nt c _ q)]; exact q) fun c xs q => by rw [aq (nt c _ q)]; exact q
 ·have q := M.same b u e
  rw [aq (nt b _ q)]; exact q
theorem lZ.trans (M : lZ X H s H' s') {tz : Shared} (N : lZ X H' s' Ew tz) : lZ X H s Ew tz := ⟨N.os.trans M.os, N.bare, M.un.trans N.un, N.aV, M.same.trans N.same⟩
def rl (X : Cx) (f : Addr) (ys : List V) (H : Hp) (kf : V -> Int × List Int) : Prop :=
 ∀ (H' : Hp) (s' : Shared) (y : V) (u : Value), y ∈ ys -> RelV y u -> n5 X.prog X.w X.K X.mg X.base X.A X.stack s' H' -> am H H' ->
  wpAny (model X.prog X.w) X.A.in1.in1 (call (.ref f) [u]) (fun v tz => ∃ q b : Addr, v = .ref q /\ lZ X H' s' (upd H' q (.tup [.int (kf y).1, .ref b])) tz /\ H' q = none /\ H b = some (.tup ((kf y).2.map V.int))) (fun _ _ => False) s'
theorem yD {a : Addr} {o : HO} (hn : H a = none) : am H (upd H a o) := fun b u e => by rw [aq (ax e hn)]; exact e
theorem rl.of {CX : wC} {k : Nat} {f : Addr} {fd : FuncData} {x : Str} {sp : Sp} {ys : List V} {kf : V -> Int × List Int} (F : av X.prog X.w X.K X.mg X.base CX k f fd [x] sp) (hr : dJ (k + 2) X.A) (hb : Binds X.K fd [x] [])
  (Lr : ∀ outer H s e s', ¬ CX outer H s (fun _ _ _ => False) e s')
  (xV : ∀ y ∈ ys, ∃ b, H b = some (.tup ((kf y).2.map V.int)) /\ ∀ H', am H H' -> ∀ Q : VK, (∀ q, H' q = none -> Q (.ref q) (upd H' q (.tup [.int (kf y).1, .ref b]))) -> sp [y] H' Q (fun _ _ _ => False)) : rl X f ys H kf := by
 intro H' s' y u hy ru e0 sm
 obtain ⟨b, xg, h⟩ := xV y hy
 have wZ : X.K.In s'.heap := e0.mod.wZ.keeps fun b o e => (e0.bs b o e).1
 refine wpAny_call (codeAny_mono (F.run X.A.in1.in1 X.stack s' H' ⟨[u], []⟩ [u] [y] (fun v Ew => ∃ q, v = .ref q /\ H' q = none /\ Ew = upd H' q (.tup [.int (kf y).1, .ref b])) (fun _ _ _ => False) hr.in1.in1 e0.in1.in1 ?_ (.cons ru .nil) (h H' sm _ fun q hq => ⟨q, rfl, hq, rfl⟩)) fun r tz hq => ?_)
 ·exact hb s' [u] wZ rfl
 cases r with
 | error e => exact (Lr _ _ _ _ _ hq).elim
 | ok fl =>
  cases fl with
  | ret v =>
   obtain ⟨v', Ew, os, bare, un, aV, r, q, rfl, hn, rfl⟩ := hq
   cases r
   exact ⟨q, b, rfl, ⟨os, bare, un, aV, yD hn⟩, hn, xg⟩
  | next => exact False.elim hq
  | brk => exact False.elim hq
  | cont => exact False.elim hq
end
open Classical in
noncomputable def keyOf (h : Heap) (k : Value) : Int × List Int := if e : ∃ p, iQ h k p then Classical.choose e else (0, [])
theorem lX {h : Heap} {k : Value} {p : Int × List Int} (e : iQ h k p) : keyOf h k = p := by
 unfold keyOf
 rw [dif_pos ⟨p, e⟩]
 exact (Classical.choose_spec (⟨p, e⟩ : ∃ p, iQ h k p)).inj e
theorem iQ.mono {h h' : Heap} {k : Value} {p : Int × List Int} (e : iQ h k p) (kp : ∀ b o, h.get? b = some o -> h'.get? b = some o) : iQ h' k p := by
 obtain ⟨a, b, t, rfl, ⟨o, ho, c, n, hd⟩, aA, rv, o1, qe, c1, n1, Fw⟩ := e
 exact ⟨a, b, t, rfl, ⟨o, kp _ _ ho, c, n, hd⟩, aA, rv, o1, kp _ _ qe, c1, n1, Fw⟩
def im (ps : List (Int × List Int)) (vs out : List Value) : Prop := ∃ qs : List ((Int × List Int) × Value), qs.Perm (ps.zip vs) /\ out = qs.map Prod.snd /\ qs.Pairwise fun x y => aS x.1 y.1 = true
theorem AI {h : Heap} : ∀ {ks : List Value} {ps : List (Int × List Int)}, Paired (iQ h) ks ps -> ∃ fs, fs.length = ps.length /\ (∀ f ∈ fs, ∃ i t, f = Value.int i t) /\ PySem.W.KatTups h ks fs
 | [], _, .nil => ⟨[], rfl, (fun _ z => by cases z), trivial⟩
 | _ :: _, p :: ps, .cons e r => by
  obtain ⟨fs, hl, hi, hk⟩ := AI r
  obtain ⟨a, b, t, rfl, ⟨o, ho, c, n, hd⟩, _⟩ := e
  refine ⟨.int p.1 t :: fs, by simp [hl], fun f hf => ?_, PySem.W.KatTups.cons ho c hd (by simp) hk⟩
  rcases S2.mp hf with rfl | z
  ·exact ⟨_, t, rfl⟩
  ·exact hi f z
theorem sX {h : Heap} : ∀ {ks : List Value} {ps : List (Int × List Int)} {vs : List Value}, Paired (iQ h) ks ps -> (ks.zip vs).map (fun x => (keyOf h x.1, x.2)) = ps.zip vs
 | [], _, _, .nil => by simp
 | _ :: _, _ :: _, [], .cons _ _ => by simp
 | _ :: _, _ :: _, v :: vs, .cons e r => by
  rw [Vd, Vd, Ti, lX e, sX r]
theorem pE {h : Heap} : ∀ {ks : List Value} {ps : List (Int × List Int)} {k : Value}, Paired (iQ h) ks ps -> k ∈ ks -> ∃ p ∈ ps, iQ h k p
 | _, _, _, .nil, hk => by cases hk
 | _ :: _, _ :: _, k, .cons e r, hk => by
  rcases S2.mp hk with rfl | hk
  ·exact ⟨_, S0, e⟩
  ·obtain ⟨p, hp, q⟩ := pE r hk
   exact ⟨p, SY _ hp, q⟩
section
variable {prog : Program} {w : World} {A : Around} {E : Value -> Shared -> Prop} {s : Shared}
theorem Ab {ks vs : List Value} {ps : List (Int × List Int)} (hu : A.units < cLine) (hk : Paired (iQ s.heap) ks ps) (hl : ks.length = vs.length) (nd : ps.Nodup) :
  wpAny (model prog w) A ((sortRuns').run (SortSt.mk' (tuples' true) (ks.toArray.zip vs.toArray) #[] 7 none)) (fun r s2 => s2 = s /\ failedOf r.2 = none /\ im ps vs ((arrOf r.2).map (·.2)).toList) E s := by
 have lp : ks.length = ps.length := hk.length
 have zl : (ks.toArray.zip vs.toArray).toList = ks.zip vs := by simp
 have Aa : (ks.zip vs).map (fun x => dD ps (keyOf s.heap x.1)) = ps.map (dD ps) := by
  have e := Um (List.map fun y : (Int × List Int) × Value => dD ps y.1) (sX (vs := vs) hk)
  rw [TN] at e
  rw [show (ps.zip vs).map (fun y => dD ps y.1) = (((ps.zip vs).map Prod.fst).map (dD ps)) by rw [TN]; rfl, List.map_fst_zip (by omega)] at e
  exact e
 have IF : (ps.map (dD ps)).Nodup := by
  refine List.Pairwise.map _ (R := fun p q => p ∈ ps /\ q ∈ ps /\ p ≠ q) (fun p q h e => ?_) ?_
  ·have e1 := lA (q := q) h.1
   have e2 := lA (q := p) h.2.1
   rw [e] at e1 e2
   rw [Tp (Uj _)] at e1
   rw [Tp (Uj _)] at e2
   have := zS h.2.2 e1.symm
   rw [<- e2] at this
   cases this
  ·exact UM (fun {p q} hp hq si => ⟨hp, hq, si⟩) nd
 refine SO.tO (prog := prog) (w := w) (A := A) (E := E) (s := s) (rk := fun x => dD ps (keyOf s.heap x.1)) (S := fun x => ∃ p ∈ ps, iQ s.heap x.1 p) (kd := tuples' true) (a₀ := ks.toArray.zip vs.toArray) (st := SortSt.mk' (tuples' true) (ks.toArray.zip vs.toArray) #[] 7 none)
  (Q := fun _ st => failedOf st = none /\ im ps vs ((arrOf st).map (·.2)).toList) ?cmp ?mem ?nd rfl rfl rfl rfl ?fin
 case cmp =>
  intro x y st Q hx hy kk q
  obtain ⟨p, hp, e1⟩ := hx
  obtain ⟨p', PR, e2⟩ := hy
  have ee : decide (dD ps (keyOf s.heap x.1) < dD ps (keyOf s.heap y.1)) = aS p p' := by rw [lX e1, lX e2, lA hp]
  have q : Q (some (decide (dD ps (keyOf s.heap x.1) < dD ps (keyOf s.heap y.1)))) st := q
  rw [ee] at q
  rw [lt'_eq]
  refine S6 (wpS_get ?_)
  refine S6 (wpS_lift ?_)
  rw [kk]
  refine U5 (wJ hu e1 e2 ?_)
  exact ⟨rfl, Te q⟩
 case mem =>
  intro x hx
  rw [zl] at hx
  obtain ⟨k, v⟩ := x
  exact pE hk (List.of_mem_zip hx).1
 case nd => rw [zl, Aa]; exact IF
 case fin =>
  intro st hp hf hs
  rw [zl] at hp
  refine ⟨hf, (arrOf st).toList.map (fun x => (keyOf s.heap x.1, x.2)), ?_, ?_, ?_⟩
  ·rw [<- sX hk]; exact hp.map _
  ·rw [Array.toList_map, TN]; rfl
  ·have Jk : ((arrOf st).toList.map fun x => dD ps (keyOf s.heap x.1)).Nodup := by
    have := (hp.map fun x => dD ps (keyOf s.heap x.1)).nodup_iff.mpr (by rw [Aa]; exact IF)
    exact this
   rw [T6]
   have RK := T6.mp Jk
   refine UM (fun {x y} hx hy h => ?_) (hs.and RK)
   obtain ⟨h1, h2⟩ := h
   have tj := hp.mem_iff.mp hx
   obtain ⟨x1, x2⟩ := x
   obtain ⟨p, NZ, e⟩ := pE hk (List.of_mem_zip tj).1
   have := lA (ps := ps) (p := keyOf s.heap x1) (q := keyOf s.heap y.1) (by rw [lX e]; exact NZ)
   rw [<- this]
   exact S9 (Nat.lt_of_le_of_ne h1 h2)
end
section
variable {X : Cx} {pins : List (Addr × Obj)} {σ : St} {H H' : Hp} {s s0 : Shared} {A : Around} {E : Value -> Shared -> Prop} {a kS : Addr} {keys : Array Value} {vs : List Value} {ps : List (Int × List Int)} {e e1 : Nat} {P : PySem.Fin -> Shared -> Prop}
structure Own (X : Cx) (H : Hp) (s0 : Shared) (H' : Hp) (s : Shared) (a kS : Addr) (keys : Array Value) (e e1 : Nat) : Prop where
 M : lZ X H s0 H' s
 nk : s.heap.get? kS = some (seqObj "list" keys e)
 na : s.heap.get? a = some (seqObj "list" #[] e1)
 ne : kS ≠ a
 k0 : s0.heap.objs.size <= kS
 a0 : s0.heap.objs.size <= a
 kn : H' kS = none
 an : H' a = none
theorem xM {st : SortSt} (O : Own X H s0 H' s a kS keys e e1) (hz : keys.size <= sizeLine) (Gn : (arrOf st).size <= sizeLine) (P6 : failedOf st = none)
  (h : ∀ s' c, lZ X H s0 H' s' -> s'.heap.get? a = some (seqObj "list" ((arrOf st).map (·.2)) c) -> P (.done (.ret .none)) s') : wpAny (model X.prog X.w) A (ksk_tail a false e1 (.ref kS) st) P E s := by
 have s1 := Ua s.heap kS (Obj.mapSeq fun _ => (#[] : Array Value))
 have LD : (s.heap.update kS (Obj.mapSeq fun _ => (#[] : Array Value))).get? a = some (seqObj "list" #[] e1) := (s1.2 a O.ne.symm).trans O.na
 have s2 := Ua (s.heap.update kS (Obj.mapSeq fun _ => (#[] : Array Value))) a (Obj.mapSeq fun _ => (arrOf st).map (·.2))
 obtain ⟨c2, Cw⟩ : ∃ c2, ((s.heap.update kS (Obj.mapSeq fun _ => (#[] : Array Value))).update a (Obj.mapSeq fun _ => (arrOf st).map (·.2))).get? a = some (seqObj "list" ((arrOf st).map (·.2)) c2) :=
  ⟨_, get?_update_seq LD fun _ => (arrOf st).map (·.2)⟩
 unfold ksk_tail
 dsimp only
 refine SS (VA O.nk rfl ?_ hz (Tw _))
 refine SS (wpAny_letGo ?_)
 refine SS (seqEpoch_at LD rfl ?_)
 refine SS (VA LD rfl ?_ (Tw _) (by simp only [Tn, T3, Array.size_map]; exact Nat.le_succ_of_le Gn))
 rw [P6]
 simp only [bne_self_eq_false, Tn, T3]
 have M1 : lZ X H s0 H' { s with heap := s.heap.update kS (Obj.mapSeq fun _ => (#[] : Array Value)) } := O.M.CN (t := s.toks) (U2 O.k0) O.kn fun b u hb e => (s1.2 b hb).trans e
 have M2 : lZ X H s0 H' { s with heap := (s.heap.update kS (Obj.mapSeq fun _ => (#[] : Array Value))).update a (Obj.mapSeq fun _ => (arrOf st).map (·.2)) } := M1.CN (t := s.toks) (U2 O.a0) O.an fun b u hb e => (s2.2 b hb).trans e
 exact SU (h _ c2 M2 Cw)
theorem yk {ps : List (Int × List Int)} {vs : List Value} (hl : ps.length = vs.length) (h : vs.length < 2) : im ps vs vs := by
 refine ⟨ps.zip vs, List.Perm.refl _, (List.map_snd_zip (by omega)).symm, ?_⟩
 have : (ps.zip vs).length < 2 := by rw [List.length_zip]; omega
 cases hq : ps.zip vs with
 | nil => exact .nil
 | cons x r =>
  rw [hq] at this
  have : r = [] := List.eq_nil_of_length_eq_zero (by simp only [TY] at this; omega)
  rw [this]
  exact VM _ _
theorem im.len {ps : List (Int × List Int)} {vs out : List Value} (h : im ps vs out) (hl : ps.length = vs.length) : out.length = vs.length := by
 obtain ⟨qs, h1, rfl, _⟩ := h
 rw [SW, h1.length_eq, List.length_zip]
 omega
theorem Gz (hu : A.units < cLine) (O : Own X H s0 H' s a kS keys e e1) (hk : Paired (iQ s.heap) keys.toList ps) (hl : ps.length = vs.length) (hz : vs.length <= sizeLine) (nd : ps.Nodup)
  (h : ∀ s' out c, lZ X H s0 H' s' -> s'.heap.get? a = some (seqObj "list" out c) -> im ps vs out.toList -> P (.done (.ret .none)) s') : wpAny (model X.prog X.w) A (ksk_end a false vs.toArray e1 (.ref kS) keys) P E s := by
 have lk : keys.size = vs.length := by have := hk.length; rw [S5] at this; omega
 have zs : (keys.zip vs.toArray).size = vs.length := by rw [Array.size_zip, lk, Tb, Nat.min_self]
 unfold ksk_end
 simp only [Tn, T3]
 by_cases h2 : vs.toArray.size < 2
 ·rw [if_pos h2, if_pos h2]
  refine SS (SU ?_)
  rw [StateT.run_pure]
  refine SS (SU ?_)
  dsimp only
  refine xM (st := SortSt.mk' general' (keys.zip vs.toArray) #[] 7 none) O (by omega) (by show (keys.zip vs.toArray).size <= _; omega) rfl fun s' c M' q => h s' _ c M' q ?_
  have e : ((keys.zip vs.toArray).map (·.2)).toList = vs := by
   rw [Array.toList_map]
   have : (keys.zip vs.toArray).toList = keys.toList.zip vs := ksk_zip keys vs
   rw [this]
   exact List.map_snd_zip (by have := S5 (xs := keys); omega)
  show im ps vs ((keys.zip vs.toArray).map (·.2)).toList
  rw [e]
  exact yk hl (by simpa using h2)
 ·rw [if_neg h2, if_neg h2]
  rw [Tb] at h2
  obtain ⟨fs, f1, f2, f3⟩ := AI hk
  have ek : keys = keys.toList.toArray := by rw [U3]
  refine SS ?_
  rw [show keyKind' keys = keyKind' keys.toList.toArray by rw [U3]]
  refine PySem.W.kat_kind (T := .type "int") f3 (by omega) (fun v hv => ?_) rfl ?_
  ·obtain ⟨i, t, rfl⟩ := f2 v hv
   exact PySem.W.Looks.of_pure rfl
  have run := Ab (prog := X.prog) (w := X.w) (A := A) (E := E) (s := s) (ks := keys.toList) (vs := vs) hu hk (by rw [S5]; exact lk) nd
  rw [U3] at run
  refine SS (Us run ?_ fun _ _ e => e)
  rintro ⟨⟨⟩, st⟩ s' ⟨rfl, hf, hs⟩
  dsimp only at hf hs ⊢
  have hlen := hs.len hl
  refine xM O (by omega) ?_ hf fun s' c M' q => h s' _ c M' q hs
  rw [S5, Array.size_map] at hlen
  omega
theorem CO {f : Addr} {ys : List V} {kf : V -> Int × List Int} (hu : X.A.in1.in1.units < cLine) (K : rl X f ys H kf) (I : Inv X pins σ H s0) (O : Own X H s0 H' s a kS #[] e e1) (rv : Vals ys vs) (hz : vs.length <= sizeLine) (nd : (ys.map kf).Nodup)
  (h : ∀ H' s' out c, lZ X H s0 H' s' -> H' a = none -> s'.heap.get? a = some (seqObj "list" out c) -> im (ys.map kf) vs out.toList -> P (.done (.ret .none)) s') : wpAny (model X.prog X.w) X.A.in1.in1 (ksk_rest a (.ref f) false vs.toArray e1 (.ref kS)) P E s := by
 have lv : ys.length = vs.length := rv.length
 unfold ksk_rest
 refine SS (UI ?_)
 rw [List.forIn_toArray]
 have Qp : ∀ b, s0.heap.objs.size <= b -> b ∉ kC X.stack := fun b hb z => by
  rcases S2.mp (I.kg b z) with z | z
  ·rw [z] at hb
   exact absurd I.lt (Nat.not_lt.mpr hb)
  ·exact I.Iu hb z
 refine SS (ksk_fold (fun i s' => ∃ H' kA e, Own X H s0 H' s' a kS kA e e1 /\ Paired (fun k p => ∃ q b, k = Value.ref q /\ H' q = some (.tup [.int p.1, .ref b]) /\ H b = some (.tup (p.2.map V.int))) kA.toList ((ys.map kf).take i)) vs 0 s
  ⟨H', #[], e, O, by simpa using Paired.nil⟩ ?step ?done)
 case step =>
  rintro j x s' hx ⟨H', kA, e, O, hk⟩
  simp only [Nat.zero_add] at hk ⊢
  have hj : j < vs.length := (Tk.mp hx).1
  obtain ⟨y, hy⟩ : ∃ y, ys[j]? = some y := ⟨_, S1 (by omega)⟩
  obtain ⟨u, EG, ru⟩ := rv.get hy
  rw [hx] at EG; cases EG
  have lk : kA.size = j := by
   have := hk.length
   rw [S5, Tl, SW] at this
   omega
  have I' := O.M.inv I
  refine SS (U5 (Us (K H' s' y x (Tx hy) ru I'.Fu O.M.same) (fun v tz he => ?_) fun _ _ hF => hF.elim))
  obtain ⟨q, b, rfl, M2, hq, hb⟩ := he
  dsimp only
  have wZ : ∀ c o, s'.heap.get? c = some o -> H' c = none -> s0.heap.objs.size <= c -> tz.heap.get? c = some o := fun c o e n z => M2.un.keep c o e n (Qp c z) (by simp)
  have nk := wZ kS _ O.nk O.kn O.k0
  have na := wZ a _ O.na O.an O.a0
  have qk : kS ≠ q := fun z => by
   have := M2.un.free kS _ O.nk O.kn (by simp)
   rw [z, ae] at this; cases this
  have qa : a ≠ q := fun z => by
   have := M2.un.free a _ O.na O.an (by simp)
   rw [z, ae] at this; cases this
  have s1 := Ua tz.heap kS (Obj.mapSeq (·.push (.ref q)))
  obtain ⟨c2, Cw⟩ : ∃ c2, (tz.heap.update kS (Obj.mapSeq (·.push (.ref q)))).get? kS = some (seqObj "list" (kA.push (.ref q)) c2) := ⟨_, get?_update_seq nk (·.push (.ref q))⟩
  have ek : (ys.map kf).take (j + 1) = (ys.map kf).take j ++ [kf y] := by rw [To, Tc, hy]; rfl
  refine SS (VA nk rfl ?_ (by omega) (S8 (Nat.le_of_eq (UT ..)) (by omega)))
  have M3 := (O.M.trans M2).CN (t := tz.toks) (h' := tz.heap.update kS (Obj.mapSeq (·.push (.ref q)))) (U2 O.k0) (by rw [aq qk]; exact O.kn) fun b u hb e => (s1.2 b hb).trans e
  refine SU ⟨rfl, upd H' q (.tup [.int (kf y).1, .ref b]), kA.push (.ref q), c2, ⟨M3, Cw, (s1.2 a O.ne.symm).trans na, O.ne, O.k0, O.a0, by rw [aq qk]; exact O.kn, by rw [aq qa]; exact O.an⟩, ?_⟩
  rw [Array.toList_push, ek]
  have ap : ∀ {l1 : List Value} {l2 : List (Int × List Int)}, Paired (fun k p => ∃ q b, k = Value.ref q /\ H' q = some (.tup [.int p.1, .ref b]) /\ H b = some (.tup (p.2.map V.int))) l1 l2 ->
    Paired (fun k p => ∃ q' b', k = Value.ref q' /\ upd H' q (.tup [.int (kf y).1, .ref b]) q' = some (.tup [.int p.1, .ref b']) /\ H b' = some (.tup (p.2.map V.int))) (l1 ++ [.ref q]) (l2 ++ [kf y]) := by
   intro l1 l2 r
   induction r with
   | nil => exact .cons ⟨q, b, rfl, ae, hb⟩ .nil
   | cons e _ ih =>
    obtain ⟨q', b', e1, e2, e3⟩ := e
    exact .cons ⟨q', b', e1, by rw [aq (ax e2 hq)]; exact e2, e3⟩ ih
  exact ap hk
 case done =>
  rintro s' ⟨H', kA, e, O, hk⟩
  have e3 : (ys.map kf).take (0 + vs.length) = ys.map kf := Ta (by rw [SW]; omega)
  rw [e3] at hk
  refine SS (listItems_at O.nk rfl ?_)
  refine Gz hu O (Paired.imp' (fun k p he => ?_) hk) (by rw [SW]; exact lv) hz nd fun s' out c M' q o => h H' s' out c M' O.an q o
  obtain ⟨q, b, rfl, h1, h2⟩ := he
  obtain ⟨_, aA, Mz, o1, g1, c1, n1, d1⟩ := O.M.aV q _ h1
  obtain ⟨_, jN, Kv, t2⟩ := O.M.aV b _ (O.M.same _ _ h2)
  cases Mz with
  | cons ra rb =>
   obtain ⟨t, rfl⟩ := ra
   cases rb with
   | cons rc rd =>
    cases rc
    cases rd
    exact ⟨q, b, t, rfl, ⟨o1, g1, c1, n1, d1⟩, jN, Kv, t2⟩
theorem B6 {f : Addr} {ys : List V} {kf : V -> Int × List Int} {n : Nat} (hu : X.A.in1.in1.units < cLine) (K : rl X f ys H kf) (I : Inv X pins σ H s0) (M : lZ X H s0 H s) (ho : s.heap.get? a = some (seqObj "list" vs.toArray n)) (ha : s0.heap.objs.size <= a) (an : H a = none) (rv : Vals ys vs) (hz : vs.length <= sizeLine) (nd : (ys.map kf).Nodup)
  (hl : s0.heap.objs.size <= s.heap.objs.size)
  (h : ∀ H' s' out c, lZ X H s0 H' s' -> H' a = none -> s'.heap.get? a = some (seqObj "list" out c) -> im (ys.map kf) vs out.toList -> P (.done (.ret .none)) s') : wpAny (model X.prog X.w) X.A.in1.in1 (ksk_tree a (.ref f) false) P E s := by
 have lt : a < s.heap.objs.size := Td ho
 have s1 := Ua s.heap a (Obj.mapSeq fun _ => (#[] : Array Value))
 obtain ⟨e1, qe⟩ : ∃ e1, (s.heap.update a (Obj.mapSeq fun _ => (#[] : Array Value))).get? a = some (seqObj "list" #[] e1) := ⟨_, get?_update_seq ho fun _ => #[]⟩
 have K0 : ((s.heap.update a (Obj.mapSeq fun _ => (#[] : Array Value))).push (seqObj "tuple" vs.toArray 0)).objs.size = s.heap.objs.size + 1 := by rw [size_push', Heap.size_update]
 unfold ksk_tree
 refine SS (listItems_at ho rfl ?_)
 refine SS (VA ho rfl ?_ (by rw [Tb]; exact hz) (Tw _))
 refine SS (seqEpoch_at qe rfl ?_)
 refine SS (wpAny_newTuple ?_ (by show vs.length <= _; exact hz))
 refine SS (wpAny_newList ?_ (Tw _))
 refine Up ?_
 have M1 : lZ X H s0 H { s with heap := s.heap.update a (Obj.mapSeq fun _ => (#[] : Array Value)) } := M.CN (t := s.toks) (U2 ha) an fun b u hb e => (s1.2 b hb).trans e
 have M2 := M1.keep (t := s.toks) (h' := ((s.heap.update a (Obj.mapSeq fun _ => (#[] : Array Value))).push (seqObj "tuple" vs.toArray 0)).push (seqObj "list" #[] 0)) fun b u e => SV _ (SV _ e)
 refine CO hu K I (H' := H) (e := 0) (kS := ((s.heap.update a (Obj.mapSeq fun _ => (#[] : Array Value))).push (seqObj "tuple" vs.toArray 0)).objs.size) ⟨M2, S7 _ rfl, SV _ (SV _ qe), by rw [K0]; exact Vr (Nat.lt_succ_of_lt lt), by rw [K0]; omega, ha, ?_, an⟩ rv hz nd h
 rw [K0]
 exact M.aV.fresh (U0 _)
end
section
variable {X : Cx} {pins : List (Addr × Obj)} {σ : St} {H : Hp} {s : Shared}
def xL (X : Cx) (f : Addr) : List V -> Hp -> VK -> Prop := fun xs H Q => ∃ (p : Addr) (ys : List V) (kf : V -> Int × List Int), xs = [.ref p] /\ a6 X.K H p ys /\ rl X f ys H kf /\ (ys.map kf).Nodup /\
 ∀ (H' : Hp) (l : Addr) (t7 : List V), am H H' -> H' l = none -> t7.Perm ys -> t7.Pairwise (fun x y => aS (kf x) (kf y) = true) -> Q (.ref l) (upd H' l (.lst t7))
theorem yi {ys : List V} {vs : List Value} (rv : Vals ys vs) (kf : V -> Int × List Int) : ∀ {qs : List ((Int × List Int) × Value)}, qs.Perm ((ys.map kf).zip vs) -> ∃ t7 : List V, t7.Perm ys /\ Vals t7 (qs.map Prod.snd) /\ t7.map kf = qs.map Prod.fst := by
 intro qs hq
 let f : V × Value -> (Int × List Int) × Value := fun z => (kf z.1, z.2)
 have e0 : (ys.map kf).zip vs = (ys.zip vs).map f := by
  rw [List.zip_map_left]
  exact Vx fun ⟨x, y⟩ _ => rfl
 rw [e0] at hq
 have key : ∀ {l : List (V × Value)} {qs : List ((Int × List Int) × Value)}, qs.Perm (l.map f) -> ∃ l' : List (V × Value), l'.Perm l /\ l'.map f = qs := by
  intro l qs h
  generalize hm : l.map f = m at h
  induction h generalizing l with
  | nil =>
   cases l with
   | nil => exact ⟨[], .refl _, rfl⟩
   | cons _ _ => cases hm
  | cons x _ ih =>
   cases l with
   | nil => cases hm
   | cons z l =>
    rw [Ti] at hm
    injection hm with h1 h2
    obtain ⟨l', p1, p2⟩ := ih h2
    exact ⟨z :: l', p1.cons z, by rw [Ti, h1, p2]⟩
  | swap x y r =>
   cases l with
   | nil => cases hm
   | cons z l =>
    cases l with
    | nil => cases hm
    | cons z2 l =>
     rw [Ti, Ti] at hm
     injection hm with h1 h2
     injection h2 with h3 h4
     exact ⟨z2 :: z :: l, List.Perm.swap _ _ _, by rw [Ti, Ti, h1, h3, h4]⟩
  | trans _ _ MA LM =>
   obtain ⟨l2, p2, e2⟩ := LM hm
   obtain ⟨l1, p1, e1⟩ := MA e2
   exact ⟨l1, p1.trans p2, e1⟩
 obtain ⟨l', p1, p2⟩ := key hq
 have lv := rv.length
 refine ⟨l'.map Prod.fst, ?_, ?_, ?_⟩
 ·have := p1.map Prod.fst
  rw [List.map_fst_zip (by omega)] at this
  exact this
 ·rw [<- p2, TN]
  have hm : ∀ z ∈ l', RelV z.1 z.2 := fun z hz => by
   have hz := p1.mem_iff.mp hz
   obtain ⟨i, hi⟩ := Vk.mp hz
   rw [List.getElem?_zip_eq_some] at hi
   obtain ⟨u, h1, h2⟩ := rv.get hi.1
   rw [hi.2] at h1; cases h1
   exact h2
  clear p1 p2 hq
  induction l' with
  | nil => exact .nil
  | cons z r ih => exact .cons (hm z S0) (ih fun y hy => hm y (SY _ hy))
 ·rw [<- p2, TN, TN]; rfl
theorem yn {f : Addr} {xs : List V} {us : List Value} {Q : VK} (hu : X.A.in1.in1.units < cLine) (I : Inv X pins σ H s) (r : Vals xs us) (h : xL X f xs H Q) :
  wpAny (model X.prog X.w) X.A (call (.builtin "sorted") us [(Str.ofString "key", .ref f)]) (EP X pins σ Q) X.xe s := by
 obtain ⟨p, ys, kf, rfl, hp, K, nd, q⟩ := h
 obtain ⟨u, rfl, ru⟩ := vals1 r
 cases ru
 obtain ⟨aA, rv, pl, hz⟩ := I.list hp
 have ln : aA.length = ys.length := rv.length.symm
 refine call_function_entry_kw kind_sorted plain_sorted entry_sorted (ksk_s1 _ _) ?_
 unfold Builtin.«sorted»
 refine SS (m := checkCount "sorted" 1 1 _) (SU ?_)
 refine SS (collect_list pl.isList ?_ (by omega))
 refine SS (wpAny_newList ?_ (by show aA.length <= _; omega))
 have hsz : ((s.heap.push (seqObj "list" #[] 0)).update s.heap.objs.size (Obj.mapSeq (· ++ aA.toArray))).objs.size = s.heap.objs.size + 1 := by
  rw [Heap.size_update, size_push']
 have JG : (((s.heap.push (seqObj "list" #[] 0)).update s.heap.objs.size (Obj.mapSeq (· ++ aA.toArray))).push (seqObj "list" aA.toArray 0)).get? (s.heap.objs.size + 1) = some (seqObj "list" aA.toArray 0) := by
  rw [<- hsz]; exact S7 _ rfl
 have keep : ∀ b o, s.heap.get? b = some o -> (((s.heap.push (seqObj "list" #[] 0)).update s.heap.objs.size (Obj.mapSeq (· ++ aA.toArray))).push (seqObj "list" aA.toArray 0)).get? b = some o := fun b o q => by
  have gc : b < s.heap.objs.size := Td q
  rw [Heap.get?_push_ne _ _ _ (by rw [hsz]; exact Tu (Nat.lt_succ_of_lt gc)), Heap.get?_update_ne _ _ _ _ (Tu gc), Heap.get?_push_ne _ _ _ (Tu gc)]
  exact q
 show wpAny _ _ _ _ _ { s with heap := ((s.heap.push (seqObj "list" #[] 0)).update s.heap.objs.size (Obj.mapSeq (· ++ aA.toArray))).push (seqObj "list" aA.toArray 0) }
 rw [hsz]
 refine SS (Up (wpAny_call_entry_kw slot_list_sort ⟨_, JG, rfl⟩ entry_list_sort ?body (ksk_l1 _ _)))
 case body =>
  show wpAny (model X.prog X.w) X.A.in1.in1 (Builtin.«list.sort» ⟨[.ref (s.heap.objs.size + 1)], [(Str.ofString "key", .ref f)]⟩) _ _ _
  rw [ksk_t1]
  refine B6 hu K I (M := (lZ.start I).keep (t := s.toks) keep) JG (U0 _) (I.aV.fresh (U0 _)) rv (by omega) nd ?_ fun H' s' out c M' an ho o => ⟨_, rfl, ?_⟩
  ·show _ <= Array.size _
   rw [size_push', hsz]
   omega
  obtain ⟨qs, h1, h2, h3⟩ := o
  obtain ⟨t7, y1, y2, y3⟩ := yi rv kf h1
  rw [<- h2] at y2
  have M2 := M'.Ir (o := .lst t7) (U2 (U0 _)) an ⟨by rw [y1.length_eq]; omega, out.toList, c, y2, by rw [U3]; exact ho⟩
  refine SU ⟨.ref (s.heap.objs.size + 1), rfl, .ref (s.heap.objs.size + 1), _, M2.inv I, rfl, q H' _ t7 M'.same an y1 ?_⟩
  have h4 : (qs.map Prod.fst).Pairwise fun x y => aS x y = true := T6.mpr h3
  rw [<- y3] at h4
  exact T6.mp h4
end
abbrev bI := List Int × Int
section
variable {prog : Program} {w : World} {A : Around} {E : Value -> Shared -> Prop} {s : Shared}
def dj (h : Heap) (k : bI) (a : Addr) : Prop := ∃ b t, IsTup h a #[.ref b, .int k.2 t] /\ gE h b k.1
theorem dj.typeIs {k : bI} {a : Addr} (h : dj s.heap k a) : s.TypeIs (.ref a) "tuple" := let ⟨_, _, ⟨o, ho, hc, _⟩, _⟩ := h; ⟨o, ho, hc⟩
theorem At : ∀ {g k : List Int} {aA : List Value}, Vals (g.map V.int) aA -> Vals (k.map V.int) aA -> g = k := by
 intro g
 induction g with
 | nil =>
  intro k aA r1 r2
  cases r1
  cases k with
  | nil => rfl
  | cons x k => cases r2
 | cons m g ih =>
  intro k aA r1 r2
  cases r1 with
  | cons a1 b1 =>
   cases k with
   | nil => cases r2
   | cons x k =>
    cases r2 with
    | cons a2 b2 =>
     obtain ⟨t1, e1⟩ := a1
     obtain ⟨t2, e2⟩ := a2
     rw [e1] at e2
     injection e2 with e3
     rw [e3, ih b1 b2]
theorem gE.inj {h : Heap} {a : Addr} {g k : List Int} (x : gE h a g) (y : gE h a k) : g = k := by
 obtain ⟨aA, rv, o, ho, _, n, hd⟩ := x
 obtain ⟨its', La, o', k8, _, n', vn⟩ := y
 rw [ho] at k8; cases k8
 rw [hd] at vn
 injection vn with e1 e2
 have e1 : aA = its' := Um Array.toList e1
 subst e1
 exact At rv La
theorem dj.inj {h : Heap} {a : Addr} {p q : bI} (h1 : dj h p a) (h2 : dj h q a) : p = q := by
 obtain ⟨b, t, ⟨o, ho, _, n, hd⟩, x⟩ := h1
 obtain ⟨b', t', ⟨o', k8, _, n', vn⟩, y⟩ := h2
 rw [ho] at k8; cases k8
 rw [hd] at vn
 injection vn with e1 e2
 have e1 : [Value.ref b, .int p.2 t] = [Value.ref b', .int q.2 t'] := Um Array.toList e1
 injection e1 with e3 e4
 injection e4 with e5 e6
 injection e3 with e7
 injection e5 with e5
 subst e7
 refine Prod.ext ?_ e5
 exact x.inj y
theorem dj.keeps {h h' : Heap} {k : bI} {a d : Addr} {o : Obj} {es ep} (x : dj h k a) (ho : h.get? d = some o) (hd : o.data = .dict es ep) (hs : Heap.SameBut d h h') : dj h' k a := by
 obtain ⟨b, t, ⟨o1, qe, c1, n1, Fw⟩, aA, rv, o2, pQ, c2, n2, hd2⟩ := x
 have ne : ∀ {c : Addr} {o' : Obj} {xs : Array Value} {n : Nat}, h.get? c = some o' -> o'.data = .seq xs n -> c ≠ d := fun {c o' xs n} e1 e2 z => by
  rw [z, ho] at e1; cases e1
  rw [hd] at e2; cases e2
 exact ⟨b, t, ⟨o1, (hs.2 a (ne qe Fw)).trans qe, c1, n1, Fw⟩, aA, rv, o2, (hs.2 b (ne pQ hd2)).trans pQ, c2, n2, hd2⟩
def ig (prog : Program) (w : World) (k : bI) : Int := reduceHash (Builtin.Tuple.tupleHashOf [tupleKeyHash (intKind prog w) k.1, hashInt k.2])
theorem AT {k : bI} {a : Addr} {Q : Int -> Shared -> Prop} (hu : A.units + 8 < cLine) (hk : dj s.heap k a) (h : Q (ig prog w k) { s with toks := s.toks + (k.1.length + 3) }) :
  wpAny (model prog w) A (pyHash (.ref a)) Q E s := by
 have hT := hk.typeIs
 obtain ⟨b, t, ⟨o, ho, _, n, hd⟩, hb⟩ := hk
 unfold pyHash
 first | unfold pyHashByItsType | skip
 first | refine SS (wpAny_cRoomFor_or (.inr (by omega)) ?_) | skip
 refine SS (VD hT F.slot_tuple_hash.lookup ?_)
 show wpAny _ _ (if (some (Value.builtin "tuple.__hash__") == some Value.none) = true then _ else _) Q E s
 rw [if_neg (by rw [beq_builtin_none]; exact S3)]
 refine SS (VD hT F.slot_tuple_hash.lookup ?_)
 show wpAny _ _ (callSpecialIfBoundUnlessNone? (.ref a) "__hash__" _ >>= _) Q E s
 refine SS (wpAny_callSpecialIfBoundUnlessNone?_slot hT F.slot_tuple_hash (TJ F.slot_tuple_hash hT F.entry_tuple_hash ?_ (F.args_tuple_hash_1 _)))
 show wpAny _ _ (Builtin.Tuple.tupleItemsOf (.ref a) >>= _) _ _ s
 refine SS (VI ho hd ?_)
 refine SS ?_
 rw [<- Array.forIn_toList]
 show wpAny _ _ (forIn [Value.ref b, .int k.2 t] _ _) _ _ s
 rw [Uv]
 refine SS (SS (wpAny_pyHash_tuple (knd := intKind prog w) (by show A.units + 1 < cLine; omega) hb.key (SU ?_)))
 dsimp only
 rw [Uv]
 refine SS (SS (wpAny_pyHash_int (SU ?_)))
 dsimp only
 rw [Vo]
 refine SU ?_
 show wpAny _ _ (retInt (Builtin.Tuple.tupleHashOf [tupleKeyHash (intKind prog w) k.1, hashInt k.2])) _ _ _
 refine wpAny_ret_mkInt ?_
 show wpAny _ _ (if (decide (-(2 : Int) ^ 63 <= Builtin.Tuple.tupleHashOf [tupleKeyHash (intKind prog w) k.1, hashInt k.2]) && decide (Builtin.Tuple.tupleHashOf [tupleKeyHash (intKind prog w) k.1, hashInt k.2] < 2 ^ 63)) = true then _ else _) Q E _
 unfold ig reduceHash at h
 by_cases hr : (decide (-(2 : Int) ^ 63 <= Builtin.Tuple.tupleHashOf [tupleKeyHash (intKind prog w) k.1, hashInt k.2]) && decide (Builtin.Tuple.tupleHashOf [tupleKeyHash (intKind prog w) k.1, hashInt k.2] < 2 ^ 63)) = true
 ·rw [if_pos hr]
  rw [if_pos hr] at h
  exact SU (by simpa [Nat.add_assoc] using h)
 ·rw [if_neg hr]
  rw [if_neg hr] at h
  exact SS (UI (SU (by simpa [Nat.add_assoc] using h)))
theorem uh {x y : bI} {a b : Addr} {P : PySem.Fin -> Shared -> Prop} (hu : A.units < cLine) (hx : dj s.heap x a) (hy : dj s.heap y b) (h : P (.done (.ret (.bool (decide (x = y))))) s) :
  wpAny (model prog w) A (Builtin.«tuple.__eq__» ⟨[.ref a, .ref b], []⟩) P E s := by
 have Ml := hy.typeIs
 obtain ⟨b1, t1, ⟨oa, BV, _, na, BR⟩, QS⟩ := hx
 obtain ⟨b2, t2, ⟨ob, pS, _, nb, qc⟩, Pq⟩ := hy
 show wpAny _ _ (isInstance (.ref b) (.type "tuple") >>= _) _ _ s
 refine SS (UJ Ml isSubtype_tuple_tuple ?_)
 simp only [Uc, Tn, T3]
 refine SS (VI BV BR ?_)
 refine SS (VI pS qc ?_)
 refine SS ?_
 show wpAny _ _ (forIn [(Value.ref b1, Value.ref b2), (.int x.2 t1, .int y.2 t2)] _ _) _ _ s
 rw [Uv]
 refine SS (SS (mV hu QS Pq ?_))
 by_cases h1 : x.1 = y.1
 ·rw [S9 h1]
  simp only [Uc, Tn, T3]
  refine SU ?_
  dsimp only
  rw [Uv]
  refine SS (SS (Vt ?_))
  by_cases h2 : x.2 = y.2
  ·rw [show (x.2 == y.2) = true from U4.mpr h2]
   simp only [Uc, Tn, T3]
   refine SU ?_
   dsimp only
   rw [Vo]
   refine SU ?_
   rw [S9 (Prod.ext h1 h2)] at h
   exact SU h
  ·rw [show (x.2 == y.2) = false from Uk.mpr h2]
   simp only [Bool.not_false, UB]
   rw [Tp (fun e => h2 (Um Prod.snd e))] at h
   exact SS (SU (SU (SU (SU h))))
 ·rw [Tp h1]
  simp only [Bool.not_false, UB]
  rw [Tp (fun e => h1 (Um Prod.fst e))] at h
  exact SS (SU (SU (SU (SU h))))
theorem Fq {x y : bI} {a b : Addr} {Q : Bool -> Shared -> Prop} (hu : A.units + 8 < cLine) (hx : dj s.heap x a) (hy : dj s.heap y b) (h : Q (decide (x = y)) s) : wpAny (model prog w) A (eqBool (.ref a) (.ref b)) Q E s := by
 unfold eqBool
 try with_reducible refine Up ?_
 show wpAny _ _ (if (Value.ref a == Value.ref b) = true then _ else _) Q E s
 by_cases GK : (Value.ref a == Value.ref b) = true
 ·rw [if_pos GK]
  have e : a = b := by have := eq_of_beq GK; injection this
  subst e
  have e : x = y := dj.inj hx hy
  subst e
  exact SS (UI (SU (by simpa using h)))
 ·rw [if_neg GK]
  exact SS (wpAny_richCompare_same_room (op := .Eq) hx.typeIs hy.typeIs F.slot_tuple_eq
   (TJ F.slot_tuple_eq hx.typeIs F.entry_tuple_eq (uh (by show A.units + 1 < cLine; omega) hx hy ⟨_, rfl, (fun e => nomatch e), Ud h⟩) (F.args_tuple_eq_2 _ _)) (by omega))
theorem zi {m : Nat} {g : List Int} {a : Addr} {Q : Bool -> Shared -> Prop} (hk : gE s.heap a g) (h : Q true s) : wpAny (model prog w) A (eqIsQuiet (m + 1) (.ref a)) Q E s := by
 have hT := hk.typeIs
 have hi := (hk.key (prog := prog) (w := w))
 obtain ⟨o, items, n, ho, _, hd, hi⟩ := hi
 unfold eqIsQuiet
 refine SS (VD hT F.slot_tuple_eq.lookup ?_)
 show wpAny _ _ (isInstance (.ref a) (.type "tuple") >>= _) _ _ s
 refine SS (UJ hT isSubtype_tuple_tuple ?_)
 simp only [Uc, Tn, T3]
 refine SS (UN ho hd ?_)
 refine SS ?_
 show wpAny _ _ (forIn items _ _) _ _ s
 rw [<- Array.forIn_toList]
 refine wpAny_forIn_list _ (fun rest r s' => r.1 = none /\ s' = s /\ ∀ v ∈ rest, carriedByValue v = true) _ ?_ ?_ _ _ ⟨rfl, rfl, hi.byValue⟩
 ·rintro v rest r s' ⟨hr, rfl, yT⟩
  rw [eqIsQuiet_byValue _ (yT v S0)]
  refine SS (SU ?_)
  simp only [Uc, Tn, T3]
  exact SU ⟨rfl, rfl, fun u EG => yT u (SY _ EG)⟩
 ·rintro ⟨r1, r2⟩ s' ⟨hr, rfl, _⟩
  simp only at hr
  subst hr
  exact SU h
theorem yM {k : bI} {a : Addr} {Q : Bool -> Shared -> Prop} (hk : dj s.heap k a) (h : Q true s) : wpAny (model prog w) A (eqIsQuiet 8 (.ref a)) Q E s := by
 have hT := hk.typeIs
 obtain ⟨b, t, ⟨o, ho, _, n, hd⟩, hb⟩ := hk
 unfold eqIsQuiet
 refine SS (VD hT F.slot_tuple_eq.lookup ?_)
 show wpAny _ _ (isInstance (.ref a) (.type "tuple") >>= _) _ _ s
 refine SS (UJ hT isSubtype_tuple_tuple ?_)
 simp only [Uc, Tn, T3]
 refine SS (UN ho hd ?_)
 refine SS ?_
 show wpAny _ _ (forIn (#[Value.ref b, .int k.2 t]) _ _) _ _ s
 rw [<- Array.forIn_toList]
 show wpAny _ _ (forIn [Value.ref b, .int k.2 t] _ _) _ _ s
 rw [Uv]
 refine SS (SS (zi hb ?_))
 simp only [Uc, Tn, T3]
 refine SU ?_
 dsimp only
 rw [Uv, eqIsQuiet_byValue _ rfl]
 refine SS (SS (SU ?_))
 simp only [Uc, Tn, T3]
 refine SU ?_
 dsimp only
 rw [Vo]
 exact SU (SU h)
def aT (prog : Program) (w : World) : HeapKind prog w bI where
 is := dj
 hash := ig prog w
 draws := fun k => k.1.length + 3
 room := fun A => A.units + 8 < cLine
 inj := fun hx hy => hx.inj hy
 keeps := fun x ho hd hs => x.keeps ho hd hs
 pyHash := fun hu hk h => AT hu hk h
 eqBool := fun hu hx hy h => Fq hu hx hy h
 quiet := fun hk h => yM hk h
end
def jP (P : Program) (w : World) (a : Addr) (xs : List (bI × Addr × Value)) : HO :=
 .ext fun h => ∃ o es ep, h.get? a = some o /\ o.ExactDict /\ o.data = .dict es ep /\ es.toList = xs.map (entryOfKey (aT P w)) /\ (xs.map (·.1)).Nodup
def jR (H : Hp) (k : bI) (a : Addr) : Prop := ∃ b, H a = some (.tup [.ref b, .int k.2]) /\ H b = some (.tup (k.1.map V.int))
abbrev KS (H : Hp) : List (bI × V) -> List (bI × Addr × Value) -> Prop := Paired fun p q => p.1 = q.1 /\ jR H p.1 q.2.1 /\ RelV p.2 q.2.2
def DS (P : Program) (w : World) (H : Hp) (a : Addr) (kvs : List (bI × V)) : Prop := kvs.length <= sizeLine /\ (a == sysModules) = false /\ ∃ xs, Rd H a (jP P w a xs) /\ KS H kvs xs
def DW (P : Program) (w : World) (H : Hp) (a : Addr) (kvs : List (bI × V)) : Prop := kvs.length <= sizeLine /\ (a == sysModules) = false /\ ∃ xs, H a = some (jP P w a xs) /\ KS H kvs xs
def c6 (kvs : List (bI × V)) (k : bI) : Option V := (kvs.find? fun x => decide (x.1 = k)).map (·.2)
def pZ (kvs : List (bI × V)) (k : bI) (v : V) : List (bI × V) := if (c6 kvs k).isSome then kvs.map (fun x => if x.1 = k then (x.1, v) else x) else kvs ++ [(k, v)]
section
variable {P : Program} {w : World} {H H' : Hp} {h : Heap} {a : Addr} {kvs : List (bI × V)} {xs : List (bI × Addr × Value)} {k : bI}
theorem DW.ds (d : DW P w H a kvs) : DS P w H a kvs := let ⟨h1, h2, xs, h3, h4⟩ := d; ⟨h1, h2, xs, .inl h3, h4⟩
theorem jR.mono (e : ∀ b ys, H b = some (.tup ys) -> H' b = some (.tup ys)) (x : jR H k a) : jR H' k a := let ⟨b, h1, h2⟩ := x; ⟨b, e _ _ h1, e _ _ h2⟩
theorem KS.mono (e : ∀ b ys, H b = some (.tup ys) -> H' b = some (.tup ys)) (x : KS H kvs xs) : KS H' kvs xs := Paired.vQ x fun _ _ z => ⟨z.1, z.2.1.mono e, z.2.2⟩
theorem DS.mono (e : am H H') (x : DS P w H a kvs) : DS P w H' a kvs := let ⟨h1, h2, xs, h3, h4⟩ := x
 ⟨h1, h2, xs, h3.elim (fun z => .inl (e _ _ z)) (fun ⟨o, z⟩ => .inr ⟨o, e _ _ z⟩), h4.mono fun _ _ => e _ _⟩
theorem DW.mono (e : am H H') (x : DW P w H a kvs) : DW P w H' a kvs := let ⟨h1, h2, xs, h3, h4⟩ := x
 ⟨h1, h2, xs, e _ _ h3, h4.mono fun _ _ => e _ _⟩
theorem jR.is (ok : jk P w H h) (x : jR H k a) : dj h k a := by
 obtain ⟨b, h1, h2⟩ := x
 obtain ⟨_, aA, Mz, o1, g1, c1, n1, d1⟩ := ok a _ h1
 obtain ⟨_, jN, Kv, t2⟩ := ok b _ h2
 cases Mz with
 | cons ra rb =>
  cases ra
  cases rb with
  | cons rc rd =>
   obtain ⟨t, rfl⟩ := rc
   cases rd
   exact ⟨b, t, ⟨o1, g1, c1, n1, d1⟩, jN, Kv, t2⟩
def jz (k : bI) : PyData := .tuple [.tuple (k.1.map PyData.int), .int k.2]
theorem jR.dv (x : jR H k a) : DV H (jz k) (.ref a) := by
 obtain ⟨b, h1, h2⟩ := x
 exact .tup h1 (.cons (.tup h2 (bF.ints _)) (.cons (.int _) .nil))
theorem jR.of {v : V} (x : DV H (jz k) v) : ∃ a, v = .ref a /\ jR H k a := by
 obtain ⟨a, vs, rfl, ha, hv⟩ := x.eT
 obtain ⟨v1, v2, rfl, d1, d2⟩ := hv.nO
 obtain ⟨b, us, rfl, hb, hu⟩ := d1.eT
 cases d2.int_inv
 cases hu.kU
 exact ⟨a, rfl, b, ha, hb⟩
theorem KS.val (r : KS H kvs xs) (k : bI) : lB (c6 kvs k) ((atKey xs k).map (·.2)) := by
 induction r with
 | nil => exact Vc
 | @cons p q ps qs h t ih =>
  obtain ⟨h1, _, h2⟩ := h
  by_cases e : p.1 = k
  ·have e' : q.1 = k := h1.symm.trans e
   have b : atKey (q :: qs) k = some q.2 := by simp [atKey, US, e']
   have c : c6 (p :: ps) k = some p.2 := by simp [c6, US, e]
   rw [c, b]; exact h2
  ·have e' : ¬ q.1 = k := fun z => e (h1.trans z)
   have b : atKey (q :: qs) k = atKey qs k := by simp [atKey, US, e']
   have c : c6 (p :: ps) k = c6 ps k := by simp [c6, US, e]
   rw [c, b]; exact ih
theorem jb {o : Option V} {u : Option Value} (r : lB o u) : o.isSome = u.isSome := by
 cases o <;> cases u <;> first | rfl | exact r.elim
theorem yQ {o : Option V} {u : Option Value} {d : V} {d' : Value} (r : lB o u) (rd : RelV d d') : RelV (o.getD d) (u.getD d') := by
 cases o <;> cases u <;> first | exact r.elim | exact rd | exact r
theorem KS.LW (r : KS H kvs xs) (k : bI) {y : V} {u : Value} (ry : RelV y u) : KS H (kvs.map fun kv => if kv.1 = k then (kv.1, y) else kv) (xs.map (putAt k u)) := by
 induction r with
 | nil => exact .nil
 | @cons p q ps qs h t ih =>
  rw [Ti, Ti]
  refine .cons ?_ ih
  obtain ⟨h1, h2, h3⟩ := h
  unfold putAt
  by_cases e : p.1 = k
  ·rw [if_pos e, if_pos (h1.symm.trans e)]; exact ⟨h1, h2, ry⟩
  ·rw [if_neg e, if_neg (fun z => e (h1.trans z))]; exact ⟨h1, h2, h3⟩
theorem KS.put (r : KS H kvs xs) (k : bI) {b : Addr} {y : V} {u : Value} (hb : jR H k b) (ry : RelV y u) : KS H (pZ kvs k y) (storedH xs k b u) := by
 have e : (c6 kvs k).isSome = (atKey xs k).isSome := by rw [jb (r.val k), Ut]
 unfold pZ storedH
 rw [e]
 by_cases q : (atKey xs k).isSome = true
 ·rw [if_pos q, if_pos q]; exact r.LW k ry
 ·rw [if_neg q, if_neg q]; exact Paired.snoc r ⟨rfl, hb, ry⟩
theorem Bw (kvs : List (bI × V)) (k : bI) (v : V) : (pZ kvs k v).length <= kvs.length + 1 := by
 unfold pZ
 split <;> simp
theorem KS.is (ok : jk P w H h) (r : KS H kvs xs) : ∀ x ∈ xs, dj h x.1 x.2.1 := by
 induction r with
 | nil => intro x hx; cases hx
 | cons e _ ih =>
  intro x hx
  rcases S2.mp hx with rfl | hx
  ·rw [<- e.1]; exact e.2.1.is ok
  ·exact ih x hx
theorem j0 (ok : jk P w H h) (d : Rd H a (jP P w a xs)) (r : KS H kvs xs) : h.DictOfH (aT P w) a xs := by
 obtain ⟨⟨o, es, ep, h1, h2, h3, h4, h5⟩, _⟩ := (show bV P w H h a (jP P w a xs) from d.ok ok)
 exact ⟨o, es, ep, h1, h2, h3, h4, r.is ok, h5⟩
theorem kQ {h' : Heap} (d : h'.DictOfH (aT P w) a xs) : bV P w H h' a (jP P w a xs) := by
 obtain ⟨o, es, ep, h1, h2, h3, h4, _, h5⟩ := d
 refine ⟨⟨o, es, ep, h1, h2, h3, h4, h5⟩, ⟨o, h1⟩, fun g1 g2 φ kp => ?_⟩
 obtain ⟨o, es, ep, h1, h2, h3, h4, h5⟩ := φ
 exact ⟨o, es, ep, kp _ h1, h2, h3, h4, h5⟩
end
section
variable {X : Cx}
theorem Inv.Fl {pins : List (Addr × Obj)} {σ : St} {H : Hp} {s : Shared} (I : Inv X pins σ H s) : sysModules < s.heap.objs.size := by
 have h : mainGlobals < s.heap.objs.size := (I.mod.glob.keeps I.bk).lt
 exact Nat.lt_trans (by decide) h
def IE (X : Cx) (neg : Bool) : R2 := fun y x H Q => ∃ a b k kvs, x = .ref a /\ y = .ref b /\ jR H k b /\ DS X.prog X.w H a kvs /\ Q (.bl (if neg then !(c6 kvs k).isSome else (c6 kvs k).isSome)) H
theorem EL (hu : X.A.units + 64 < cLine) : h9 X (compareOp .In) (IE X false) := by
 intro pins s σ H y x u v Q I ry rx h
 obtain ⟨a, b, k, kvs, rfl, rfl, hk, ⟨_, hd, xs, rd, r⟩, q⟩ := h
 cases ry; cases rx
 refine wpAny_in_heap (knd := aT X.prog X.w) (show X.A.in1.units + 8 < cLine by show X.A.units + 1 + 8 < cLine; omega) (hk.is I.aV) hd (j0 I.aV rd r) ?_
 have e := jb (r.val k)
 rw [Ut] at e
 rw [<- e]
 exact ⟨.bl (c6 kvs k).isSome, H, I.tok _, rfl, q⟩
theorem yW (hu : X.A.units + 64 < cLine) : h9 X (compareOp .NotIn) (IE X true) := by
 intro pins s σ H y x u v Q I ry rx h
 obtain ⟨a, b, k, kvs, rfl, rfl, hk, ⟨_, hd, xs, rd, r⟩, q⟩ := h
 cases ry; cases rx
 refine wpAny_notIn_heap (knd := aT X.prog X.w) (show X.A.in1.units + 8 < cLine by show X.A.units + 1 + 8 < cLine; omega) (hk.is I.aV) hd (j0 I.aV rd r) ?_
 have e := jb (r.val k)
 rw [Ut] at e
 rw [<- e]
 exact ⟨.bl (!(c6 kvs k).isSome), H, I.tok _, rfl, q⟩
def Hd (X : Cx) : R2 := fun x y H Q => ∃ a b k kvs v, x = .ref a /\ y = .ref b /\ jR H k b /\ DS X.prog X.w H a kvs /\ c6 kvs k = some v /\ Q v H
theorem zH (hu : X.A.units + 64 < cLine) : z9 X (Hd X) := by
 intro value slice pins s σ H x y u iv Q I rx ry h hs
 obtain ⟨a, b, k, kvs, v, rfl, rfl, hk, ⟨_, hd, xs, rd, r⟩, hv, q⟩ := h
 cases ry; cases rx
 have dd := j0 I.aV rd r
 obtain ⟨w', hw, HC⟩ := lB.some_of (v := v) (o := (atKey xs k).map (·.2)) (by rw [<- hv]; exact r.val k)
 obtain ⟨p, hp, K4⟩ := TV.mp hw
 refine subscriptTail_builtinR (x := w') dd.typeIs PySem.F.slot_dict_getitem.lookup (wpAny_getItem_heap (knd := aT X.prog X.w) (show X.A.in1.units + 8 < cLine by show X.A.units + 1 + 8 < cLine; omega) (hk.is I.aV) dd hp ?_) hs
 rw [K4]
 exact ⟨rfl, v, H, I.tok _, HC, q⟩
def Hj (X : Cx) : V -> V -> V -> Hp -> (Hp -> Prop) -> Prop := fun o i v H Q => ∃ a b k kvs, o = .ref a /\ i = .ref b /\ jR H k b /\ DW X.prog X.w H a kvs /\ kvs.length < sizeLine /\ ∀ o', DW X.prog X.w (upd H a o') a (pZ kvs k v) -> Q (upd H a o')
theorem zd (hu : X.A.units + 64 < cLine) : GD X (Hj X) := by
 intro pins s σ H o i v ov iv u Q I ro ri rv h
 obtain ⟨a, b, k, kvs, rfl, rfl, hk, ⟨hz, hd, xs, e, r⟩, hl, q⟩ := h
 cases ro; cases ri
 have nr : xs.length <= sizeLine := by rw [<- Uq r]; exact hz
 refine wpAny_setItem_heap (knd := aT X.prog X.w) (hsz := nr) (show X.A.in1.units + 8 < cLine by show X.A.units + 1 + 8 < cLine; omega) (hk.is I.aV) (j0 I.aV (.inl e) r) fun h' Ik hs => ?_
 have tp : ∀ c ys, H c = some (.tup ys) -> upd H a (jP X.prog X.w a (storedH xs k b u)) c = some (.tup ys) := fun c ys ec => by
  rw [aq (eu ec e (fun z => nomatch z))]; exact ec
 have he : ∃ q, h'.get? a = some q := let ⟨q, _, _, hq, _⟩ := Ik; ⟨q, hq⟩
 refine ⟨_, I.write (x := a) (e := a) (o := jP X.prog X.w a (storedH xs k b u)) (by rw [e]; exact Vc) (.inl rfl) (fun b q hb z => (hs.2 b hb).trans z) he (kQ Ik), q _ ⟨?_, hd, _, ae, (r.put k hk rv).mono tp⟩⟩
 have := Bw kvs k v
 omega
def Fg (X : Cx) : TE := fun _ H Q => ∀ p o, H p = none -> DW X.prog X.w (upd H p o) p [] -> Q (.ref p) (upd H p o)
theorem Br {pos : Pos} : PE X (.Dict [] [] pos) (Fg X) := fun pins s σ H Q I h =>
 wpAny_Dict_empty ⟨.ref s.heap.objs.size, _, I.laid (a := s.heap.objs.size) (o := jP X.prog X.w s.heap.objs.size []) (t' := s.toks) (fun _ _ q => SV _ q) (SX _) (kQ (Heap.DictOfH.new s.heap)), rfl,
  h _ _ (I.aV.fresh (SX _)) ⟨Tw _, Uk.mpr (Vl (Tu I.Fl)), [], ae, .nil⟩⟩
def Ei (X : Cx) : V -> List V -> Hp -> VK -> Prop := fun x ys H Q => ∃ a b k kvs, x = .ref a /\ ys = [.ref b] /\ jR H k b /\ DS X.prog X.w H a kvs /\ Q ((c6 kvs k).getD .cq) H
theorem Cj (hu : X.A.units + 64 < cLine) : Es X "dict.get" (Ei X) := by
 intro pins s σ H x ys v us Q I rx rs h
 obtain ⟨a, b, k, kvs, rfl, rfl, hk, ⟨_, hd, xs, rd, r⟩, q⟩ := h
 cases rx
 obtain ⟨u, rfl, ru⟩ := rs.one
 cases ru
 have dd := j0 I.aV rd r
 refine call_meetsIn PySem.F.slot_dict_get dd.typeIs PySem.F.entry_dict_get (PySem.F.args_dict_get_2 _ _) (meetsH_dict_get (aT X.prog X.w) a b hd) ⟨show X.A.in1.units + 8 < cLine from by show X.A.units + 1 + 8 < cLine; omega, k, xs, hk.is I.aV, dd, ?_⟩
 exact ⟨(c6 kvs k).getD .cq, H, I.tok _, yQ (d := .cq) (r.val k) rfl, q⟩
end
def yr (g : List (bI × Int)) (k : bI) : Option Int := (g.find? fun x => decide (x.1 = k)).map (·.2)
def Eb (f g : List (bI × Int)) : Bool := f.length == g.length && f.all fun p => decide (yr g p.1 = some p.2)
abbrev iv (f : List (bI × Int)) : List (bI × V) := f.map fun p => (p.1, V.int p.2)
theorem rK (f : List (bI × Int)) (k : bI) : c6 (iv f) k = (yr f k).map V.int := by
 induction f with
 | nil => rfl
 | cons p f ih =>
  by_cases e : p.1 = k
  ·have h1 : c6 (iv (p :: f)) k = some (V.int p.2) := by simp [c6, US, e]
   have h2 : yr (p :: f) k = some p.2 := by simp [yr, US, e]
   rw [h1, h2]; rfl
  ·have h1 : c6 (iv (p :: f)) k = c6 (iv f) k := by simp [c6, US, e]
   have h2 : yr (p :: f) k = yr f k := by simp [yr, US, e]
   rw [h1, h2]; exact ih
section
variable {prog : Program} {w : World} {A : Around} {E : Value -> Shared -> Prop} {s : Shared}
theorem KS.at {H : Hp} : ∀ {f : List (bI × Int)} {xs : List (bI × Addr × Value)} {i : Nat} {p : bI × Int}, KS H (iv f) xs -> f[i]? = some p -> ∃ b t, xs[i]? = some (p.1, b, .int p.2 t) /\ jR H p.1 b
 | [], _, _, _, .nil, e => by simp at e
 | q :: f, _, 0, p, .cons (b := y) h _, e => by
  simp at e; subst e
  obtain ⟨h1, h2, t, h3⟩ := h
  obtain ⟨y1, y2, y3⟩ := y
  cases h1
  have h3 : y3 = Value.int q.2 t := h3
  subst h3
  exact ⟨y2, t, rfl, h2⟩
 | q :: f, _, i + 1, p, .cons _ r, e => by
  obtain ⟨b, t, h1, h2⟩ := KS.at (i := i) (p := p) r (by simpa using e)
  exact ⟨b, t, by simpa using h1, h2⟩
theorem KS.lk {H : Hp} {f : List (bI × Int)} {xs : List (bI × Addr × Value)} (r : KS H (iv f) xs) (hn : (xs.map (·.1)).Nodup) {j : Nat} {k : bI} {p : Addr × Value} (h : xs[j]? = some (k, p)) : ∃ i t, p.2 = .int i t /\ yr f k = some i := by
 have e1 := atKey_of_get hn h
 have e2 := r.val k
 rw [e1, rK] at e2
 cases h3 : yr f k with
 | none => rw [h3] at e2; exact e2.elim
 | some i =>
  rw [h3] at e2
  obtain ⟨t, e2⟩ := e2
  exact ⟨i, t, e2, rfl⟩
theorem KS.Oc {H : Hp} {f : List (bI × Int)} {xs : List (bI × Addr × Value)} (r : KS H (iv f) xs) {k : bI} (h : ∀ (j : Nat) (p : Addr × Value), xs[j]? ≠ some (k, p)) : yr f k = none := by
 have e1 := atKey_none_of_get h
 have e2 := r.val k
 rw [e1, rK] at e2
 cases h3 : yr f k with
 | none => rfl
 | some i => rw [h3] at e2; exact e2.elim
theorem vR {H : Hp} {nm : String} {a b : Addr} {f g : List (bI × Int)} {xs ys : List (bI × Addr × Value)} {Q : Bool -> Shared -> Prop} (hu : A.units + 8 < cLine) (ok : jk prog w H s.heap) (ha : (a == sysModules) = false) (hb : (b == sysModules) = false)
  (da : s.heap.DictOfH (aT prog w) a xs) (db : s.heap.DictOfH (aT prog w) b ys) (ra : KS H (iv f) xs) (rb : KS H (iv g) ys) (h : Q (Eb f g) s) :
  wpAny (model prog w) A (Builtin.Dict.samePairs nm a b) Q E s := by
 obtain ⟨oa, es, ep, BV, _, BR, NF, Sn, Sk⟩ := da
 obtain ⟨ob, zt, zB, pS, _, qc, Ln, OL, Nu⟩ := db
 have Ku : f.length = es.size := by rw [VE NF, <- Uq ra, SW]
 have BU : g.length = zt.size := by rw [VE Ln, <- Uq rb, SW]
 unfold Eb at h
 rw [Ku, BU] at h
 unfold Builtin.Dict.samePairs Builtin.Dict.showsAll
 rw [if_neg (show ¬ (a == sysModules) = true by rw [ha]; exact S3), if_neg (show ¬ (b == sysModules) = true by rw [hb]; exact S3)]
 refine SS (SU (SS (SU ?_)))
 refine SS (T5 BV BR ?_)
 dsimp only
 refine SS (T5 pS qc ?_)
 by_cases hsz : es.size = zt.size
 case neg =>
  rw [if_pos (by simpa using hsz)]
  have R8 : (es.size == zt.size) = false := by simpa using hsz
  rw [R8, TM] at h
  exact SS (UI (SU h))
 case pos =>
  rw [show (es.size == zt.size) = true from U4.mpr hsz, VC] at h
  rw [if_neg (by rw [hsz]; simp)]
  refine SS (UR BV BR ?_)
  refine SS ?_
  rw [Std.Legacy.Range.forIn_eq_forIn_range']
  simp only [Std.Legacy.Range.size, Nat.sub_zero, Nat.add_sub_cancel, Nat.div_one]
  refine wpAny_forIn_list _
   (fun rest q s' => s' = s /\ q = (none, ()) /\ ∃ i, rest = List.range' i (es.size - i) /\ i <= es.size /\ ((f.drop i).all fun p => decide (yr g p.1 = some p.2)) = (f.all fun p => decide (yr g p.1 = some p.2)))
   _ ?_ ?_ _ _ ⟨rfl, rfl, 0, by simp, Tw _, rfl⟩
  ·rintro x rest q s' ⟨rfl, rfl, i, hr, hi, jO⟩
   have gc : i < es.size := by
    rcases Nat.lt_or_ge i es.size with h | h
    ·exact h
    ·rw [Nat.sub_eq_zero_of_le h] at hr; simp at hr
   obtain ⟨rfl, Ht⟩ : x = i /\ rest = List.range' (i + 1) (es.size - (i + 1)) := by
    have e : es.size - i = (es.size - (i + 1)) + 1 := by omega
    rw [e, List.range'_succ] at hr
    injection hr with h1 h2
    exact ⟨h1, h2⟩
   refine SS (T5 BV BR ?_)
   have Ib : x < f.length := by rw [Ku]; exact gc
   obtain ⟨c, t, hx, kc⟩ := ra.at (S1 Ib)
   have hex : es[x]? = some (entryOfKey (aT prog w) (f[x].1, c, .int f[x].2 t)) := by rw [entry_at NF, hx]; rfl
   have Hk : f.drop x = f[x] :: f.drop (x + 1) := Vw Ib
   rw [hex]
   rw [Hk, List.all_cons] at jO
   show wpAny _ _ (holding [Value.ref c, Value.int f[x].2 t] _ >>= _) _ _ _
   refine SS (Up (SS (wpAny_dictFind_heap (knd := aT prog w) hu (kc.is ok) pS qc Ln OL Nu (fun HH => ?_) fun j p hj => ?_)))
   ·rw [rb.Oc HH] at jO
    rw [<- jO] at h
    refine SU ?_
    show wpAny _ _ (if (!false) = true then _ else _) _ _ _
    rw [if_pos (by decide)]
    exact SU (SU h)
   ·obtain ⟨n, u, hp, hl⟩ := rb.lk Nu hj
    have Pl : zt[j]? = some (entryOfKey (aT prog w) (f[x].1, p)) := by rw [entry_at Ln, hj]; rfl
    refine SS (T5 pS qc ?_)
    rw [Pl]
    obtain ⟨p1, p2⟩ := p
    have hp : p2 = Value.int n u := hp
    subst hp
    refine Up (Vt ?_)
    rw [hl] at jO
    by_cases en : f[x].2 = n
    ·rw [show (f[x].2 == n) = true from U4.mpr en]
     rw [S9 (by rw [en]), VC] at jO
     show wpAny _ _ (if (!true) = true then _ else _) _ _ _
     rw [if_neg (by decide)]
     refine SS (UR BV BR ?_)
     rw [if_neg (by simp)]
     exact SU ⟨rfl, rfl, x + 1, Ht, gc, jO⟩
    ·rw [show (f[x].2 == n) = false from Uk.mpr en]
     rw [Tp (fun z => en (T8 z).symm), TM] at jO
     rw [<- jO] at h
     show wpAny _ _ (if (!false) = true then _ else _) _ _ _
     rw [if_pos (by decide)]
     exact SU (SU h)
  ·rintro q s' ⟨rfl, rfl, i, hr, hi, jO⟩
   have tw : i = es.size := by
    rcases Nat.lt_or_ge i es.size with h | h
    ·have e : es.size - i = (es.size - (i + 1)) + 1 := by omega
     rw [e, List.range'_succ] at hr; exact nomatch hr
    ·exact Nat.le_antisymm hi h
   refine SU ?_
   rw [tw, <- Ku, List.drop_length] at jO
   rw [<- jO] at h
   exact h
end
section
variable {X : Cx}
def LN (X : Cx) : R2 := fun x y H Q => ∃ a b f g, x = .ref a /\ y = .ref b /\ DS X.prog X.w H a (iv f) /\ DS X.prog X.w H b (iv g) /\ Q (.bl (!Eb f g)) H
theorem Ga (hu : X.A.units + 64 < cLine) : h9 X (compareOp .NotEq) (LN X) := by
 intro pins s σ H x y u v Q I rx ry h
 obtain ⟨a, b, f, g, rfl, rfl, ⟨_, ha, xs, d1, r1⟩, ⟨_, hb, ys, d2, r2⟩, q⟩ := h
 cases rx; cases ry
 have da := j0 I.aV d1 r1
 have db := j0 I.aV d2 r2
 refine wpAny_richCompare_same_room (op := .NotEq) da.typeIs db.typeIs PySem.F.slot_dict_ne (TJ PySem.F.slot_dict_ne da.typeIs PySem.F.entry_dict_ne ?_ (PySem.F.args_dict_ne_2 _ _)) (by omega)
 show wpAny _ _ (Builtin.Dict.dictSlotArgs "__ne__" ⟨[.ref a, .ref b], []⟩ >>= _) _ _ s
 refine SS ?_
 unfold Builtin.Dict.dictSlotArgs
 refine SS (wpAny_notOrdered_dict da.typeIs ?_)
 show wpAny _ _ (pure (Value.ref a, Value.ref b)) _ _ s
 refine SU ?_
 refine SS (UJ (T := "dict") db.typeIs PySem.F.sub_dict_dict ?_)
 simp only [Uc, Tn, T3]
 refine SS (SU (SS (SU ?_)))
 refine SS (vR (by show X.A.units + 1 + 8 < cLine; omega) I.aV ha hb da db r1 r2 ?_)
 refine SU ⟨_, rfl, ?_, ?_⟩
 ·exact fun x => nomatch x
 ·refine ⟨.bl (!Eb f g), H, I, ?_, q⟩
  show Value.bool (Eb f g == false) = Value.bool (!Eb f g)
  cases Eb f g <;> rfl
end
theorem nZ {α : Type} (h : α -> Int) : ∀ {l : List α}, (l.map h).Nodup -> ∀ x ∈ l, (l.filter fun e => h e == h x).length <= 1
 | [], _, _, hx => by cases hx
 | y :: l, nd, x, hx => by
  rw [Ti, Ui] at nd
  rw [TF]
  by_cases e : h y = h x
  ·rw [if_pos (U4.mpr e)]
   have : l.filter (fun e => h e == h x) = [] := by
    rw [List.filter_eq_nil_iff]
    intro z hz q
    exact nd.1 (by rw [e, <- eq_of_beq q]; exact T4 hz)
   rw [this]; exact SX _
  ·rw [if_neg (by simpa using e)]
   rcases S2.mp hx with rfl | hx
   ·exact absurd rfl e
   ·exact nZ h nd.2 x hx
section
variable {prog : Program} {w : World} {A : Around} {E : Value -> Shared -> Prop} {s : Shared}
theorem yo {nm : String} {d o : Addr} {xs : List (bI × Addr × Value)} {Q : Unit -> Shared -> Prop} (LI : d ≠ o) (Kx : (o == sysModules) = false) (hd : s.heap.DictOfH (aT prog w) d []) (ho : s.heap.DictOfH (aT prog w) o xs)
  (hh : (xs.map fun x => ig prog w x.1).Nodup) (hsz : xs.length <= sizeLine) (hQ : ∀ h', h'.DictOfH (aT prog w) d xs -> Heap.SameBut d s.heap h' -> Q () { s with heap := h' }) :
  wpAny (model prog w) A (Builtin.Dict.mergeDict nm d o) Q E s := by
 obtain ⟨od, Pr, Re, vm, vE, ud, Ri, G6, Si⟩ := id hd
 obtain ⟨oo, yR, SA, JR, SI, Dl, yE, MU, Le⟩ := id ho
 have h0 : Pr = #[] := by
  have := VE Ri
  exact Array.size_eq_zero_iff.mp this
 have hlen : yR.size = xs.length := VE yE
 unfold Builtin.Dict.mergeDict
 rw [if_neg (by simpa using LI)]
 unfold Builtin.Dict.showsAll
 rw [if_neg (by rw [Kx]; exact S3)]
 refine SS (SU ?_)
 refine SS (T5 JR Dl ?_)
 dsimp only
 cases xs with
 | nil =>
  have e0 : yR = #[] := Array.size_eq_zero_iff.mp hlen
  subst e0
  rw [if_neg (by simp)]
  refine SS (UR JR Dl ?_)
  refine SS (T5 JR Dl ?_)
  refine SS ?_
  rw [Std.Legacy.Range.forIn_eq_forIn_range']
  show wpAny _ _ (forIn (List.range' 0 0 1) _ _) _ _ _
  rw [List.range'_zero, Vo]
  exact SU (SU (hQ _ hd (Heap.SameBut.refl _ _)))
 | cons x xs =>
  have RO : (!(decide (yR.size <= 8) && yR.all fun e => (keyPart e.key).isSome)) = true := by
   have : (yR.all fun e => (keyPart e.key).isSome) = false := by
    rw [<- Array.all_toList, yE, Ti, List.all_cons]
    rfl
   rw [this, UE]; rfl
  rw [if_pos RO]
  refine SS (T5 vm ud ?_)
  rw [h0, if_pos (by rfl)]
  refine SS ?_
  unfold Builtin.Dict.entriesForEmpty
  refine SS (T5 JR Dl ?_)
  refine SS ?_
  rw [<- Array.forIn_toList]
  refine wpAny_forIn_list _ (fun rest _ s' => s' = s /\ ∀ e ∈ rest, e ∈ yR.toList) _ ?_ ?_ _ _ ⟨rfl, fun e he => he⟩
  ·rintro e rest r s' ⟨rfl, hr⟩
   have he := hr e S0
   rw [yE] at he
   obtain ⟨y, hy, rfl⟩ := TD.mp he
   have hT := (show dj s'.heap y.1 y.2.1 from MU y hy).typeIs
   refine SS ?_
   show wpAny _ _ (Builtin.Dict.quietEq (.ref y.2.1)) _ _ _
   unfold Builtin.Dict.quietEq
   refine SS (VD hT PySem.F.slot_tuple_eq.lookup (SU ?_))
   rw [show ((some (Value.builtin "tuple.__eq__") : Option Value) == some (Value.builtin "object.__eq__")) = false from by decide]
   simp only [Bool.not_false, UB]
   have one : ¬ (yR.filter fun e => e.hash == (entryOfKey (aT prog w) y).hash).size > 1 := by
    have h1 := nZ (fun e : DictEntry => e.hash) (l := yR.toList) (by rw [yE, TN]; exact hh) (entryOfKey (aT prog w) y) (by rw [yE]; exact T4 hy)
    have h2 : (yR.filter fun e => e.hash == (entryOfKey (aT prog w) y).hash).size = (yR.toList.filter fun e => e.hash == (entryOfKey (aT prog w) y).hash).length := by
     rw [<- Array.toList_filter, S5]
    omega
   rw [if_neg one]
   exact SU ⟨rfl, fun e he => hr e (SY _ he)⟩
  ·rintro r s' ⟨rfl, _⟩
   refine SU ?_
   have ne : (!yR.isEmpty) = true := by
    cases hq : yR.isEmpty with
    | false => rfl
    | true =>
     have := Array.isEmpty_iff.mp hq
     rw [this] at hlen
     simp at hlen
   rw [if_pos ne]
   subst h0
   refine SS (wpAny_updateDictKeysTo vm ud (SU (hQ _ ⟨_, yR, Re + 1, Heap.get?_update_self _ vm (Obj.isFreed_of_dict (Obj.data_mapDictKeys ud _)), vE.mapDictKeys _, Obj.data_mapDictKeys ud _, yE, fun z hz => ?_, Le⟩ (Ua ..))) (by omega))
   exact (show dj s'.heap z.1 z.2.1 from MU z hz).keeps vm ud (Ua ..)
theorem DictOfH.FZ {h : Heap} {a : Addr} {xs : List (bI × Addr × Value)} (o' : Obj) (d : h.DictOfH (aT prog w) a xs) : (h.push o').DictOfH (aT prog w) a xs := by
 obtain ⟨o, es, ep, h1, h2, h3, h4, h5, h6⟩ := d
 refine ⟨o, es, ep, SV _ h1, h2, h3, h4, fun x hx => ?_, h6⟩
 obtain ⟨b, t, ⟨o1, g1, c1⟩, aA, rv, o2, g2, c2⟩ := (show dj h x.1 x.2.1 from h5 x hx)
 exact ⟨b, t, ⟨o1, SV _ g1, c1⟩, aA, rv, o2, SV _ g2, c2⟩
theorem pX {o : Addr} {xs : List (bI × Addr × Value)} {Q : Value -> Shared -> Prop} (Kx : (o == sysModules) = false) (ho : s.heap.DictOfH (aT prog w) o xs) (hh : (xs.map fun x => ig prog w x.1).Nodup) (hsz : xs.length <= sizeLine)
  (h : ∀ h', h'.DictOfH (aT prog w) s.heap.objs.size xs -> Heap.SameBut s.heap.objs.size (s.heap.push { cls := .type "dict", data := .dict #[] }) h' -> Q (.ref s.heap.objs.size) { s with heap := h' }) :
  wpAny (model prog w) A (call (.type "dict") [.ref o]) Q E s := by
 refine callType_codes (Q₁ := fun obj s₁ => obj = .ref s.heap.objs.size /\ s₁ = { s with heap := s.heap.push { cls := .type "dict", data := .dict #[] } }) F.kt_called_dict (F.kt_typeCall_dict_1 _) F.entry_dict_init (kt_code_dict_new _ ⟨rfl, rfl⟩) ?_
 rintro obj s₁ ⟨rfl, rfl⟩
 have Fj : (s.heap.push { cls := .type "dict", data := .dict #[] }).DictOfH (aT prog w) s.heap.objs.size [] := Heap.DictOfH.new s.heap
 have k8 := DictOfH.FZ { cls := .type "dict", data := .dict #[] } ho
 have LI : s.heap.objs.size ≠ o := by
  obtain ⟨_, _, _, hg, _⟩ := ho
  exact fun e => absurd (Td hg) (by rw [e]; exact Uj _)
 refine ⟨Fj.typeIs, F.args_dict_init_2 _ _, ?_⟩
 unfold Builtin.«dict.__init__»
 refine SS ?_
 unfold Builtin.Dict.selfAndRest
 refine SS (wpAny_notOrdered_dict Fj.typeIs ?_)
 show wpAny _ _ (pure (s.heap.objs.size, [Value.ref o])) _ _ _
 refine SU ?_
 show wpAny _ _ (Builtin.Dict.updateFrom "dict.__init__" s.heap.objs.size (.ref o) [] .none) _ _ _
 unfold Builtin.Dict.updateFrom
 refine SS (wpAny_typeOf (s := { s with heap := s.heap.push { cls := .type "dict", data := .dict #[] } }) k8.typeIs ?_)
 rw [if_neg (by decide)]
 refine SS ?_
 unfold Builtin.Dict.merge
 refine SS ?_
 unfold Builtin.Dict.readDirectly
 refine SS (UJ (s := { s with heap := s.heap.push { cls := .type "dict", data := .dict #[] } }) k8.typeIs isSubtype_dict_dict ?_)
 simp only [Uc, Tn, T3]
 refine SS (VD (s := { s with heap := s.heap.push { cls := .type "dict", data := .dict #[] } }) k8.typeIs F.slot_dict_iter.lookup (SU ?_))
 simp only [beq_self_eq_true, UB]
 refine SS (SU ?_)
 refine yo LI Kx Fj k8 hh hsz fun h' vn No => ?_
 show wpAny _ _ (Builtin.Dict.addKeywords s.heap.objs.size [] >>= _) _ _ _
 exact SS (SU (SU ⟨rfl, h h' vn No⟩))
end
def nT (P : Program) (w : World) (kvs : List (bI × V)) : Prop := (kvs.map fun p => ig P w p.1).Nodup
theorem KS.keys {H : Hp} {kvs : List (bI × V)} {xs : List (bI × Addr × Value)} (r : KS H kvs xs) {β : Type} (f : bI -> β) : (xs.map fun x => f x.1) = kvs.map fun p => f p.1 := by
 induction r with
 | nil => rfl
 | cons h _ ih => rw [Ti, Ti, ih, h.1]
section
variable {X : Cx}
def Fi (X : Cx) : List V -> Hp -> VK -> Prop := fun xs H Q => ∃ a kvs, xs = [.ref a] /\ DS X.prog X.w H a kvs /\ nT X.prog X.w kvs /\ ∀ p o, H p = none -> DW X.prog X.w (upd H p o) p kvs -> Q (.ref p) (upd H p o)
theorem wc : dH X (.type "dict") (Fi X) := by
 intro pins s σ H ys us Q I rs h
 obtain ⟨a, kvs, rfl, ⟨hz, hd, xs, rd, r⟩, hh, q⟩ := h
 obtain ⟨u, rfl, ru⟩ := vals1 rs
 cases ru
 have nr : xs.length <= sizeLine := by rw [<- Uq r]; exact hz
 refine pX hd (j0 I.aV rd r) (by rw [r.keys]; exact hh) nr fun h' dd hs => ?_
 have kp : ∀ b u, s.heap.get? b = some u -> h'.get? b = some u := fun b u e => (hs.2 b (Tu (Td e))).trans (SV _ e)
 have hn : H s.heap.objs.size = none := I.aV.fresh (SX _)
 have tp : ∀ c ys, H c = some (.tup ys) -> upd H s.heap.objs.size (jP X.prog X.w s.heap.objs.size xs) c = some (.tup ys) := fun c ys ec => by
  rw [aq (ax ec hn)]; exact ec
 exact ⟨.ref s.heap.objs.size, _, I.laid (t' := s.toks) (o := jP X.prog X.w s.heap.objs.size xs) kp (SX _) (kQ dd), rfl, q _ _ hn ⟨hz, Uk.mpr (Vl (Tu I.Fl)), xs, ae, r.mono tp⟩⟩
end
def hI (g : List Int) : Int := reduceHash (Builtin.Tuple.tupleHashOf (g.map hashInt))
def hS (k : bI) : Int := reduceHash (Builtin.Tuple.tupleHashOf [hI k.1, hashInt k.2])
def subs : Nat -> Nat -> List (List Int)
 | 0, _ => [[]]
 | n + 1, m => let r := subs n (m + 1); r ++ r.map fun g => (m : Int) :: g
def fm : List bI := (subs 6 0).flatMap fun g => [(g, 0), (g, 1)]
def wz : List Int -> Bool
 | [] => true
 | x :: l => !(l.contains x) && wz l
theorem qO : ∀ {l : List Int}, wz l = true -> l.Nodup
 | [], _ => .nil
 | x :: l, h => by
  unfold wz at h
  rw [TK] at h
  refine Ui.mpr ⟨fun hm => ?_, qO h.2⟩
  have := h.1
  rw [List.contains_iff_mem.mpr hm] at this
  cases this
theorem zJ : (fm.map hS).Nodup := qO (by decide +kernel)
theorem rq {α β : Type} {f : α -> β} : ∀ {l : List α}, (l.map f).Nodup -> ∀ {x y : α}, x ∈ l -> y ∈ l -> f x = f y -> x = y
 | a :: l, nd, x, y, hx, hy, e => by
  rw [Ti, Ui] at nd
  rcases S2.mp hx with h1 | tj <;> rcases S2.mp hy with h2 | gd
  ·rw [h1, h2]
  ·rw [h1] at e
   exact absurd (e ▸ T4 gd) nd.1
  ·rw [h2] at e
   exact absurd (e ▸ T4 tj) nd.1
  ·exact rq nd.2 tj gd e
theorem zk {P : Program} {w : World} {kvs : List (bI × V)} (nd : (kvs.map (·.1)).Nodup) (h : ∀ p ∈ kvs, p.1 ∈ fm) : nT P w kvs := by
 unfold nT
 have e : (kvs.map fun p => ig P w p.1) = (kvs.map (·.1)).map hS := by rw [TN]; rfl
 rw [e]
 refine List.Pairwise.map _ (R := fun x y => x ∈ fm /\ y ∈ fm /\ x ≠ y) (fun x y q z => q.2.2 (rq zJ q.1 q.2.1 z)) ?_
 refine UM (fun {x y} hx hy si => ?_) nd
 obtain ⟨p, hp, rfl⟩ := TD.mp hx
 obtain ⟨q, hq, rfl⟩ := TD.mp hy
 exact ⟨h p hp, h q hq, si⟩
section
variable {X : Cx} {k v : Expr} {tk tv : TE} {pos : Pos}
def ES (X : Cx) (tk tv : TE) : TE := fun σ H Q => ∀ p o, H p = none -> DW X.prog X.w (upd H p o) p [] -> tk σ (upd H p o) fun x H1 => tv σ H1 fun y H2 =>
 ∃ b k, x = .ref b /\ jR H2 k b /\ DW X.prog X.w H2 p [] /\ ∀ o', DW X.prog X.w (upd H2 p o') p [(k, y)] -> Q (.ref p) (upd H2 p o')
theorem A3 (hu : X.A.units + 64 < cLine) (hk : PE X k tk) (hv : PE X v tv) : PE X (.Dict [some k] [v] pos) (ES X tk tv) := by
 intro pins s σ H Q I q
 have hn := I.aV.fresh (SX s.heap.objs.size)
 have I1 := I.laid (a := s.heap.objs.size) (o := jP X.prog X.w s.heap.objs.size []) (h' := s.heap.push { cls := .type "dict", data := .dict #[] }) (t' := s.toks) (fun _ _ q => SV _ q) (SX _) (kQ (Heap.DictOfH.new s.heap))
 have hb : (s.heap.objs.size == sysModules) = false := Uk.mpr (Vl (Tu I.Fl))
 refine wpAny_Dict_any rfl rfl (by simp) (by simp) ?_
 refine pairTrees_cons_walk (bU (hk pins _ σ _ _ I1 (q _ _ hn ⟨Tw _, hb, [], ae, .nil⟩)) fun u s1 ⟨x, H1, I2, rx, q1⟩ => bU (hv pins s1 σ H1 _ I2 q1) fun w2 s2 ⟨y, H2, I3, ry, b, kk, ex, ka, ⟨_, _, xs, e, r⟩, q2⟩ => pairTrees_nil_walk ?_)
 subst ex
 cases rx
 cases r
 unfold storeAll
 rw [Uv]
 refine SS (SS (wpAny_dictSet_heap (knd := aT X.prog X.w) (hsz := Tw _) (show X.A.units + 8 < cLine by omega) (ka.is I3.aV) (j0 I3.aV (.inl e) .nil) fun h' Ik hs => SU ?_))
 dsimp only
 rw [Vo]
 have tp : ∀ c ys, H2 c = some (.tup ys) -> upd H2 s.heap.objs.size (jP X.prog X.w s.heap.objs.size (storedH [] kk b w2)) c = some (.tup ys) := fun c ys ec => by
  rw [aq (eu ec e (fun z => nomatch z))]; exact ec
 have he : ∃ q, h'.get? s.heap.objs.size = some q := let ⟨q, _, _, hq, _⟩ := Ik; ⟨q, hq⟩
 refine SU ⟨.ref s.heap.objs.size, _, I3.write (x := s.heap.objs.size) (e := s.heap.objs.size) (o := jP X.prog X.w s.heap.objs.size (storedH [] kk b w2)) (by rw [e]; exact Vc) (.inl rfl) (fun b q hb z => (hs.2 b hb).trans z) he (kQ Ik), rfl,
  q2 _ ⟨by rw [UV]; simp, hb, _, ae, ?_⟩⟩
 exact KS.mono tp ((show KS H2 [] [] from .nil).put kk ka ry)
def Jt (X : Cx) (td : TE) (t : TA) : TE := fun σ H Q => td σ H fun x H1 => (∃ a kvs, x = .ref a /\ DS X.prog X.w H1 a kvs) /\ t σ H1 fun xs H2 => Ei X x xs H2 Q
variable {o e : Expr} {to : TE} {t : TA} {apos cR : Pos}
theorem Dy (hu : X.A.units + 64 < cLine) (ho : PE X o to) (ha : PA X [e] t)
  (jj : attributeBase o "get" X.env (eval o X.env) = eval o X.env := by rfl)
  (A1 : ((backTo cR (starEach [e] X.env)).all (fun x => !x.1) && (backToKw cR (keywordEach [] X.env)).all (fun x => x.1.isSome)
   && decide (([e] : List Expr).length + ([] : List Keyword).length + (if ([] : List Keyword).isEmpty then 0 else 1) < 30)) = true := by rfl)
  (iY : (apos.endLine == cR.line) = true := by rfl) (hs : starEach [e] X.env = (false, eval e X.env) :: starEach [] X.env := by rfl) (ku : (backTo cR (starEach [] X.env)).any (·.1) = false := by rfl) :
  PE X (.Call (.Attribute o "get" apos) [e] [] cR) (Jt X to t) := by
 intro pins s σ H Q I h
 refine wpAny_Call_method_late jj A1 iY rfl (bU (ho pins s σ H _ I h) fun v s1 ⟨x, H1, I1, r1, ⟨a, kvs, ex, d⟩, q1⟩ => ?_)
 subst ex
 cases r1
 obtain ⟨_, _, xs, rd, r⟩ := d
 have dd := j0 I1.aV rd r
 refine ⟨"dict", "dict.get", PySem.F.plainAttrs_dict, PySem.F.slot_dict_get, PySem.F.type_dict_get, dd.typeIs, fun b eb => ?_, ?_⟩
 ·cases eb
  obtain ⟨ob, _, _, h1, h2, _⟩ := dd
  exact ⟨ob, h1, h2.2.1⟩
 have hA := ha cR pins s1 σ H1 _ I1 q1
 rw [hs] at hA ⊢
 refine Calls.callWith_builtin (by show (false || (backTo cR (starEach [] X.env)).any (·.1)) = false; rw [ku] <;> rfl) (Calls.evalArgs_plain ?_)
 exact bU hA fun us s2 ⟨vs, H2, I2, r2, q2⟩ => Cj hu pins s2 σ H2 (.ref a) vs _ us Q I2 rfl r2 q2
theorem yd {p p2 Li : Pos} {x : Str} {f : Addr} {t : TA} (hu : X.A.units + 64 < cLine) (hg : Gl X "sorted") (hm : X.mg "sorted" = none) (Kl : Gl X x) (Oq : X.mg x = some (.ref f)) (ha : PA X [e] t) (qc : (x == ("__debug__" : Str)) = false := by decide) (he : starEach [e] X.env = [(false, eval e X.env)] := by rfl) :
  PE X (.Call (.Name "sorted" p) [e] [⟨some "key", .Name x p2, Li⟩] pos) (LA (xL X f) t) := by
 intro pins s σ H Q I h
 refine VJ (mL I hg hm boot_sorted ?_)
 refine callWith_kw (bU (ha pos pins s σ H _ I h) fun us s1 ⟨vs, H1, I1, r1, q1⟩ => ?_) (by rw [he]; rfl) (by rw [he]; rfl)
 show wpAny _ _ (evalAll [do let v <- eval (.Name x p2) X.env; standAt pos; pure v]) _ _ _
 refine wpAny_evalAll_cons (SS (k9 I1 Kl Oq (SS (wpAny_standAt (SU ?_))) qc))
 exact wpAny_evalAll_nil (yn (by show X.A.units + 1 + 1 < cLine; omega) I1 r1 q1)
end
def mj (h : Heap) (d : Addr) (es : Array DictEntry) (ep : Nat) : Prop := ∃ o, h.get? d = some o /\ o.ExactDict /\ o.data = .dict es ep
theorem mj.typeIs {s : Shared} {d : Addr} {es : Array DictEntry} {ep : Nat} (x : mj s.heap d es ep) : s.TypeIs (.ref d) "dict" := let ⟨o, ho, hc, _⟩ := x; ⟨o, ho, hc.1⟩
theorem mj.keep {h h' : Heap} {d : Addr} {es : Array DictEntry} {ep : Nat} (x : mj h d es ep) (k : ∀ b o, h.get? b = some o -> h'.get? b = some o) : mj h' d es ep := let ⟨o, ho, r⟩ := x; ⟨o, k _ _ ho, r⟩
section
variable {prog : Program} {w : World} {A : Around} {E : Value -> Shared -> Prop} {s : Shared} {es : Array DictEntry} {e : DictEntry} {d it v : Addr} {i ep : Nat} {ok ov : Value}
theorem D4 : Builtin.Dict_items.ownsTuple "dict_keyiterator" = false := by decide
theorem BG : Builtin.Dict_items.ownsTuple "dict_itemiterator" = true := by decide
theorem Bh {Q : Value -> Shared -> Prop} (hd : (d == sysModules) = false) (x : mj s.heap d es ep)
  (q : Q (.ref s.heap.objs.size) { s with heap := s.heap.push { cls := .type "dict_keyiterator", data := .fields #[.ref d, .int 0 0, .int es.size 0, .int ep 0] } }) : wpAny (model prog w) A (pyIter (.ref d)) Q E s := by
 have ty := x.typeIs
 obtain ⟨o, ho, _, AJ⟩ := x
 refine wpAny_pyIter_slot ty F.slot_dict_iter (TJ F.slot_dict_iter ty F.entry_dict_iter ?_ (F.args_dict_iter_1 _))
 unfold Builtin.«dict.__iter__» Builtin.Dict.dictSlotNone
 refine SS ?_; refine SS (wpAny_notOrdered_dict ty ?_)
 show wpAny _ _ (pure (Value.ref d)) _ _ s
 refine SU ?_
 show wpAny _ _ (Builtin.Dict.showsAll d >>= _) _ _ s
 unfold Builtin.Dict.showsAll
 rw [hd, if_neg S3]
 refine SS (SU (SS (T5 ho AJ (SS (UR ho AJ ?_)))))
 refine SS (TQ (SU ⟨_, rfl, "dict_keyiterator", _, ⟨_, S7 _ rfl, rfl⟩, UU.lookup, ?_⟩))
 exact q
theorem A9 {Q : Option Value -> Shared -> Prop} (st : s.heap.IsKeyIter it d i es.size ep) (x : mj s.heap d es ep) (hx : es[i]? = some e)
  (q : ∀ h', h'.IsKeyIter it d (i + 1) es.size ep -> Heap.SameBut it s.heap h' -> Q (some e.key) { s with heap := h' }) : wpAny (model prog w) A (pyNext (.ref it)) Q E s := by
 obtain ⟨o, ho, hc, hf⟩ := id st
 obtain ⟨od, vm, _, ud⟩ := x
 obtain ⟨gc, rfl⟩ := Array.getElem?_eq_some_iff.mp hx
 have aB : (s.heap.update it (Obj.mapFields (·.setIfInBounds 1 (rawInt ((i : Int) + 1))))).IsKeyIter it d (i + 1) es.size ep :=
  ⟨_, Heap.get?_update_self _ ho (Obj.isFreed_of_fields (Obj.data_mapFields hf _)), (Obj.cls_mapFields ..).trans hc, by rw [Obj.data_mapFields hf]; simp [rawInt]⟩
 unfold pyNext
 refine SS (U5 (T7 (name := Str.ofString "__next__") st.typeIs UU (TJ UU st.typeIs F.entry_dict_keyiterator_next ?_ (F.args_dict_keyiterator_next_1 _))))
 refine SS (SU (SS (SS ?_)))
 refine SS (Vb st.typeIs (SU ?_)); refine SS (wpAny_fieldsOf ho hf ?_)
 simp only [D4, UB, Tn, T3]; show wpAny _ _ (if (Value.ref d == Value.none) = true then _ else _) _ _ _
 rw [if_neg (show ¬ (Value.ref d == Value.none) = true from S3)]
 refine SS (SU (SS (T5 vm ud ?_)))
 rw [if_neg (by simp)]
 refine SS (SU (SS (UR vm ud ?_)))
 rw [if_neg (by simp)]
 refine SU ?_
 simp only [show ¬ ((i : Int) < 0) by omega, T3, Ue, Array.getElem?_eq_getElem gc]
 refine SS ?_; refine SS (Vb st.typeIs (SU ?_))
 refine SS (wpAny_isOneOf_keyiter st.typeIs ?_)
 show wpAny _ _ (setField (.ref it) 1 (rawInt ((i : Int) + 1)) >>= _) _ _ s
 refine SS (wpAny_setField ho hf (by simp) (SS (Up (SS (wpAny_isOneOf_keyiter (s := { s with heap := s.heap.update it (Obj.mapFields (·.setIfInBounds 1 (rawInt ((i : Int) + 1)))) }) aB.typeIs ?_)))))
 show wpAny _ _ (pure es[i].key) _ _ _
 exact SU (SU ⟨_, rfl, SU (q _ aB (Ua ..))⟩)
theorem sZ {Q : Option Value -> Shared -> Prop} (hh : A.handled = none) (st : s.heap.IsKeyIter it d i es.size ep) (x : mj s.heap d es ep) (hx : es.size <= i)
  (q : ∀ h', Heap.ExtBut it s.heap h' -> Q none { s with heap := h' }) : wpAny (model prog w) A (pyNext (.ref it)) Q E s := by
 obtain ⟨o, ho, hc, hf⟩ := id st
 obtain ⟨od, vm, _, ud⟩ := x
 unfold pyNext
 refine SS (U5 (T7 (name := Str.ofString "__next__") st.typeIs UU (TJ UU st.typeIs F.entry_dict_keyiterator_next ?_ (F.args_dict_keyiterator_next_1 _))))
 refine SS (SU (SS (SS ?_)))
 refine SS (Vb st.typeIs (SU ?_)); refine SS (wpAny_fieldsOf ho hf ?_)
 simp only [D4, UB, Tn, T3]; show wpAny _ _ (if (Value.ref d == Value.none) = true then _ else _) _ _ _
 rw [if_neg (show ¬ (Value.ref d == Value.none) = true from S3)]
 refine SS (SU (SS (T5 vm ud ?_)))
 rw [if_neg (by simp)]
 refine SS (SU (SS (UR vm ud ?_)))
 rw [if_neg (by simp)]
 refine SU ?_
 simp only [show ¬ ((i : Int) < 0) by omega, T3, Ue, Array.getElem?_eq_none hx]
 refine SS ?_; refine SS (Vb st.typeIs (SU ?_))
 show wpAny _ _ (setField (.ref it) 0 .none >>= _) _ _ s
 refine SS (wpAny_setField ho hf (by simp) ?_)
 show wpAny _ _ (newExc (.type "StopIteration") [] >>= _) _ _ _; refine SS ?_
 simp only [newExc, newTuple]; refine SS (TQ ?_ (by size_fits))
 refine SS (m := firstArgMember _ _) (wpAny_of_eq (a := Value.none) (by first | rfl | (simp only [firstArgMember]; rfl)) (TQ ?_ (by size_fits)))
 simp only [raiseNew]; refine SS (wpAny_handled ?_); rw [(show A.in1.handled = none from hh)]
 refine SS (SU (wpAny_throw ?_))
 refine SS (UJ (T := "StopIteration") (b := true) ⟨_, S7 _ rfl, rfl⟩ isSubtype_stop ?_)
 exact SU (q _ (((Ua ..).extBut.push _).push _))
theorem zo (hd : (d == sysModules) = false) {Q : Value -> Shared -> Prop} (x : mj s.heap d es ep) (q : Q (.ref s.heap.objs.size) { s with heap := s.heap.push { cls := .type "dict_items", data := .fields #[.ref d] } }) :
  wpAny (model prog w) A (call (.builtin "dict.items") [.ref d]) Q E s := by
 have ty := x.typeIs
 refine TJ F.slot_dict_items ty F.entry_dict_items ?_ (F.args_dict_items_1 _)
 unfold Builtin.«dict.items» Builtin.Dict.noArgs
 refine SS ?_; refine SS (wpAny_notOrdered_dict ty ?_)
 show wpAny _ _ (pure d) _ _ s
 refine SU ?_
 show wpAny _ _ (Builtin.Dict.showsAll d >>= _) _ _ s
 unfold Builtin.Dict.showsAll
 rw [hd, if_neg S3]
 exact SS (SU (SS (TQ (SU ⟨_, rfl, q⟩))))
theorem oC {Q : Value -> Shared -> Prop} (hv : s.heap.IsItemsView v d) (x : mj s.heap d es ep)
  (q : Q (.ref s.heap.objs.size) { s with heap := s.heap.push { cls := .type "dict_itemiterator", data := .fields #[.none, .bool false, .ref d, .int 0 0, .int es.size 0, .int ep 0, .none, .none] } }) : wpAny (model prog w) A (pyIter (.ref v)) Q E s := by
 have ty := hv.typeIs
 obtain ⟨o1, h1, _, h2⟩ := hv
 obtain ⟨o, ho, _, AJ⟩ := x
 refine wpAny_pyIter_slot ty F.slot_dict_items_iter (TJ F.slot_dict_items_iter ty F.entry_dict_items_iter ?_ (F.args_dict_items_iter_1 _))
 unfold Builtin.«dict_items.__iter__» Builtin.Dict_items.dictOf Builtin.Dict_items.newIterator
 refine SS (SU ?_); refine SS ?_
 refine SS (Uf h1 h2 (x := .ref d) rfl (SU ?_))
 refine SS ?_; refine SS (T5 ho AJ (SS (UR ho AJ ?_)))
 simp only [BG, UB]
 refine TQ (SU ⟨_, rfl, "dict_itemiterator", _, ⟨_, S7 _ rfl, rfl⟩, UP.lookup, ?_⟩)
  (by simp only [sizeOk, Builtin.Dict_items.ownedTupleFields, Tb, Tq, TY, List.length_nil, UV]; omega)
 exact q
theorem BC {k v : Value} {n : Nat} {Q : Value -> Shared -> Prop} (st : IsItemIter s.heap it d i n ep ok ov)
  (q : ∀ h', IsItemIterOut h' it d i n ep k v s.heap.objs.size -> h'.get? s.heap.objs.size = some { cls := .type "tuple", data := .seq #[k, v] } -> (∀ b o, b ≠ it -> s.heap.get? b = some o -> h'.get? b = some o) -> Q (.ref s.heap.objs.size) { s with heap := h' }) :
  wpAny (model prog w) A (Builtin.Dict_items.pairFromOwner (.ref it) 6 k v) Q E s := by
 obtain ⟨hp, g, dr, tk, os⟩ := s
 have lt : it < hp.objs.size := Td st
 unfold Builtin.Dict_items.pairFromOwner
 refine SS (wpAny_newTuple ?_)
 have e2 : IsItemIter (hp.push { cls := .type "tuple", data := .seq #[k, v] }) it d i n ep ok ov := SV _ st
 have t2 : (hp.push { cls := .type "tuple", data := .seq #[k, v] }).get? hp.objs.size = some { cls := .type "tuple", data := .seq #[k, v] } := S7 _ rfl
 have k2 : ∀ b o, b ≠ it -> hp.get? b = some o -> (hp.push { cls := .type "tuple", data := .seq #[k, v] }).get? b = some o := fun b o _ z => SV _ z
 generalize hp.push { cls := .type "tuple", data := .seq #[k, v] } = h2 at e2 t2 k2
 show wpAny _ _ (Builtin.Dict_items.ownedTupleIsFree (.ref it) >>= _) _ _ ⟨h2, g, dr, tk, os⟩
 refine SS ?_
 unfold Builtin.Dict_items.ownedTupleIsFree
 refine SS (Uf e2 rfl (x := .none) rfl (SU ?_))
 simp only [UB]
 refine SS (Uf e2 rfl (x := ok) rfl (SS (Uf e2 rfl (x := ov) rfl ?_)))
 refine SS (Uh e2 (by simp) fun h3 e3 s3 => ?_)
 have s3 : Heap.SameBut it h2 h3 := s3
 have e3 : IsItemIter h3 it d i n ep k ov := e3
 refine SS (Uh e3 (by simp) fun h4 e4 s4 => ?_)
 have s4 : Heap.SameBut it h3 h4 := s4
 have e4 : IsItemIter h4 it d i n ep k v := e4
 refine SS (Uh e4 (by simp) fun h5 e5 s5 => ?_)
 have s5 : Heap.SameBut it h4 h5 := s5
 have e5 : IsItemIterOut h5 it d i n ep k v hp.objs.size := e5
 refine SS (Uh e5 (by simp) fun h6 e6 s6 => ?_)
 have s6 : Heap.SameBut it h5 h6 := s6
 have e6 : IsItemIterOut h6 it d i n ep k v hp.objs.size := e6
 have k6 : ∀ b o, b ≠ it -> h2.get? b = some o -> h6.get? b = some o := fun b o hb z => s6.extBut b o hb (s5.extBut b o hb (s4.extBut b o hb (s3.extBut b o hb z)))
 exact SS (wpAny_letGo (SU (q h6 e6 (k6 _ _ (Vr lt) t2) fun b o hb z => k6 b o hb (k2 b o hb z))))
theorem nS {Q : Option Value -> Shared -> Prop} (st : IsItemIter s.heap it d i es.size ep ok ov) (x : mj s.heap d es ep) (hx : es[i]? = some e)
  (q : ∀ h', IsItemIterOut h' it d (i + 1) es.size ep e.key e.val s.heap.objs.size -> h'.get? s.heap.objs.size = some { cls := .type "tuple", data := .seq #[e.key, e.val] } ->
   (∀ b o, b ≠ it -> s.heap.get? b = some o -> h'.get? b = some o) -> Q (some (.ref s.heap.objs.size)) { s with heap := h' }) : wpAny (model prog w) A (pyNext (.ref it)) Q E s := by
 obtain ⟨hp, g, dr, tk, os⟩ := s
 obtain ⟨od, vm, _, ud⟩ := x
 obtain ⟨gc, rfl⟩ := Array.getElem?_eq_some_iff.mp hx
 have ty : Shared.TypeIs ⟨hp, g, dr, tk, os⟩ (.ref it) "dict_itemiterator" := ⟨_, st, rfl⟩
 unfold pyNext
 refine SS (U5 (T7 (name := Str.ofString "__next__") ty UP (TJ UP ty F.entry_dict_itemiterator_next ?_ (F.args_dict_itemiterator_next_1 _))))
 refine SS (SU (SS (SS ?_)))
 refine SS (Va ty (SU ?_)); refine SS (wpAny_fieldsOf st rfl ?_)
 simp only [BG, UB, Tn, T3]; show wpAny _ _ (if (Value.ref d == Value.none) = true then _ else _) _ _ _
 rw [if_neg (show ¬ (Value.ref d == Value.none) = true from S3)]
 refine SS (SU (SS (T5 vm ud ?_)))
 rw [if_neg (by simp)]
 refine SS (SU (SS (UR vm ud ?_)))
 rw [if_neg (by simp)]
 refine SU ?_
 simp only [show ¬ ((i : Int) < 0) by omega, T3, Ue, Array.getElem?_eq_getElem gc]
 refine SS ?_; refine SS (Va ty (SU ?_))
 refine SS (wpAny_isOneOf_itemiter ty ?_)
 show wpAny _ _ (setField (.ref it) 3 (rawInt ((i : Int) + 1)) >>= _) _ _ ⟨hp, g, dr, tk, os⟩
 refine SS (Uh st (by simp) fun h1 e1 s1 => ?_)
 have s1 : Heap.SameBut it hp h1 := s1
 have e1 : IsItemIter h1 it d (i + 1) es.size ep ok ov := by
  have z : ((i + 1 : Nat) : Int) = (i : Int) + 1 := by omega
  unfold IsItemIter; rw [z]; simpa [rawInt] using e1
 have Nk : Shared.TypeIs ⟨h1, g, dr, tk, os⟩ (.ref it) "dict_itemiterator" := ⟨_, e1, rfl⟩
 refine SS (Up (SS (wpAny_isOneOf_itemiter Nk (SS (wpAny_isOneOf_itemiter Nk ?_)))))
 show wpAny _ _ (Builtin.Dict_items.pairFromOwner (.ref it) 6 es[i].key es[i].val) _ _ ⟨h1, g, dr, tk, os⟩
 refine BC (s := ⟨h1, g, dr, tk, os⟩) e1 fun h6 e6 t6 k6 => SU ⟨_, rfl, SU ?_⟩
 have z1 : h1.objs.size = hp.objs.size := s1.1
 have e6 : IsItemIterOut h6 it d (i + 1) es.size ep es[i].key es[i].val h1.objs.size := e6
 have t6 : h6.get? h1.objs.size = some { cls := .type "tuple", data := .seq #[es[i].key, es[i].val] } := t6
 rw [z1] at e6 t6
 show Q (some (.ref h1.objs.size)) ⟨h6, g, dr, tk, os⟩
 rw [z1]
 exact q h6 e6 t6 fun b o hb z => k6 b o hb (s1.extBut b o hb z)
theorem kz {Q : Option Value -> Shared -> Prop} (hh : A.handled = none) (st : IsItemIter s.heap it d i es.size ep ok ov) (x : mj s.heap d es ep) (hx : es.size <= i)
  (q : ∀ h', Heap.ExtBut it s.heap h' -> Q none { s with heap := h' }) : wpAny (model prog w) A (pyNext (.ref it)) Q E s := by
 obtain ⟨od, vm, _, ud⟩ := x
 have ty : s.TypeIs (.ref it) "dict_itemiterator" := ⟨_, st, rfl⟩
 unfold pyNext
 refine SS (U5 (T7 (name := Str.ofString "__next__") ty UP (TJ UP ty F.entry_dict_itemiterator_next ?_ (F.args_dict_itemiterator_next_1 _))))
 refine SS (SU (SS (SS ?_)))
 refine SS (Va ty (SU ?_)); refine SS (wpAny_fieldsOf st rfl ?_)
 simp only [BG, UB, Tn, T3]; show wpAny _ _ (if (Value.ref d == Value.none) = true then _ else _) _ _ _
 rw [if_neg (show ¬ (Value.ref d == Value.none) = true from S3)]
 refine SS (SU (SS (T5 vm ud ?_)))
 rw [if_neg (by simp)]
 refine SS (SU (SS (UR vm ud ?_)))
 rw [if_neg (by simp)]
 refine SU ?_
 simp only [show ¬ ((i : Int) < 0) by omega, T3, Ue, Array.getElem?_eq_none hx]
 refine SS ?_; refine SS (Va ty (SU ?_))
 show wpAny _ _ (setField (.ref it) 2 .none >>= _) _ _ s
 refine SS (wpAny_setField st rfl (by simp) ?_)
 show wpAny _ _ (newExc (.type "StopIteration") [] >>= _) _ _ _; refine SS ?_
 simp only [newExc, newTuple]; refine SS (TQ ?_ (by size_fits))
 refine SS (m := firstArgMember _ _) (wpAny_of_eq (a := Value.none) (by first | rfl | (simp only [firstArgMember]; rfl)) (TQ ?_ (by size_fits)))
 simp only [raiseNew]; refine SS (wpAny_handled ?_); rw [(show A.in1.handled = none from hh)]
 refine SS (SU (wpAny_throw ?_))
 refine SS (UJ (T := "StopIteration") (b := true) ⟨_, S7 _ rfl, rfl⟩ isSubtype_stop ?_)
 exact SU (q _ (((Ua ..).extBut.push _).push _))
end
section
variable {X : Cx} {pins : List (Addr × Obj)} {σ : St} {H : Hp} {s : Shared} {h' : Heap}
theorem Inv.Cs {t' : Nat} {it p : Addr} {o : HO} (I : Inv X pins σ H s) (k : ∀ b o, b ≠ it -> s.heap.get? b = some o -> h'.get? b = some o) (hn : H it = none) (hL : it ≠ X.env.locals)
  (h1 : it ∈ X.ex \/ X.s₀.heap.objs.size <= it) (h2 : ∀ x c, X.env.cells.lookup x = some c -> c ≠ it) (h3 : ∀ p ∈ X.pn ++ pins, p.1 ≠ it) (hp : s.heap.objs.size <= p) (new : bV X.prog X.w (upd H p o) h' p o) :
  Inv X pins σ (upd H p o) { s with heap := h', toks := t' } := by
 have np : H p = none := I.aV.fresh hp
 have Io : ∀ b u, H b = some u -> b ≠ it := fun b u e z => by rw [z, hn] at e; cases e
 have na : ∀ b u, s.heap.get? b = some u -> b ≠ p := fun b u e => Tu (Tz (Td e) hp)
 refine I.step (g' := s.gens) (d' := s.drawn) (ch := [it]) (fun b hb => ?_) (fun b o _ _ hc e _ => k b o (fun z => hc (by simp [z])) e) (fun b o _ _ hc e _ => ⟨o.slots, k b o (fun z => hc (by simp [z])) e⟩)
  (fun b u _ e n => by rw [aq (na b u e)]; exact n) (fun b o hc e => ⟨o, k b o (fun z => hc (by simp [z])) e⟩) (fun b xs e => by rw [aq (ax e np)]; exact e) (fun b o' u e => by rw [aq (ax e np)]; exact e)
  (fun b ps e => ⟨#[], by rw [aq (ax e np), e]; simp⟩) (fun m hm => ?_) (fun b u e => ?_) I.bare
 ·have e : b = it := by simpa using hb
  subst e
  exact ⟨h1, hL, h2, h3⟩
 ·obtain ⟨o, es, ep, ho, r⟩ := hm
  exact ⟨o, es, ep, k _ o (Vl hL) ho, r⟩
 ·by_cases hb : b = p
  ·subst hb; rw [ae] at e; cases e; exact new
  ·rw [aq hb] at e
   refine (I.aV b u e).j8 (fun c v hc q => k c v ?_ q) (fun c q => by rw [aq (ax q np)]; exact q) fun c xs q => by rw [aq (ax q np)]; exact q
   rcases hc with z | z
   ·rw [z]; exact Io b u e
   ·exact Io c _ z
end
abbrev iV (P : Program) (w : World) (o : Obj) (d : Addr) (xs : List (bI × Addr × Value)) : HO := .vo o (jP P w d xs)
theorem jC {P : Program} {w : World} {H : Hp} {h : Heap} {o : Obj} {d : Addr} {xs : List (bI × Addr × Value)} (ok : jk P w H h) (e : H d = some (iV P w o d xs)) : ∃ es ep, o.data = .dict es ep /\ mj h d es ep /\ es.toList = xs.map (entryOfKey (aT P w)) := by
 obtain ⟨h1, ⟨o', es, ep, h2, h3, h4, h5, _⟩, _⟩ := (show bV P w H h d (iV P w o d xs) from ok d _ e)
 rw [h1] at h2; cases h2
 exact ⟨es, ep, h4, ⟨o, h1, h3, h4⟩, h5⟩
def GC (P : Program) (w : World) (o : Obj) (d : Addr) (xs : List (bI × Addr × Value)) : It :=
 ⟨fun i H => H d = some (iV P w o d xs) /\ i < xs.length, fun i H x H' => H' = H /\ ∃ k b v, xs[i]? = some (k, b, v) /\ x = .ref b, fun i H => H d = some (iV P w o d xs) /\ xs.length <= i⟩
def GH (P : Program) (w : World) (o : Obj) (d : Addr) (xs : List (bI × Addr × Value)) (vs : List V) : It :=
 ⟨fun i H => H d = some (iV P w o d xs) /\ i < xs.length, fun i H x H' => ∃ k b v y p, xs[i]? = some (k, b, v) /\ vs[i]? = some y /\ x = .ref p /\ H p = none /\ H' = upd H p (.tup [.ref b, y]), fun i H => H d = some (iV P w o d xs) /\ xs.length <= i⟩
theorem yg {P : Program} {w : World} {K : VN} {tg : Expr} (o : Obj) (d it : Addr) (xs : List (bI × Addr × Value)) : Turn P w K tg (GC P w o d xs) [it] it (fun i h => ∃ es ep, o.data = .dict es ep /\ h.IsKeyIter it d i es.size ep) where
 mem := by simp
 obj := fun i h st b hb => by
  have e : b = it := by simpa using hb
  subst e
  obtain ⟨es, ep, _, o', e, c, dd⟩ := st
  exact ⟨o', e, fun v z => by rw [dd] at z; cases z⟩
 keep := fun i h h' ⟨es, ep, e, st⟩ k => ⟨es, ep, e, st.at fun o e => k it (by simp) o e⟩
 item := by
  intro X hP hw hK hc i pins s σ H E I hf st hg
  subst hP hw hK
  obtain ⟨hd, hi⟩ := hg
  obtain ⟨es, ep, e1, raw, el⟩ := jC I.aV hd
  obtain ⟨zt, zB, e2, st⟩ := st
  rw [e1] at e2
  injection e2 with e3 e4
  subst e3 e4
  obtain ⟨⟨k, b, v⟩, hx⟩ : ∃ x, xs[i]? = some x := ⟨_, S1 hi⟩
  have he : es[i]? = some (entryOfKey (aT X.prog X.w) (k, b, v)) := by rw [entry_at el, hx]; rfl
  obtain ⟨f0, f1, f2, f3, f4, f5⟩ := hf it (by simp)
  refine A9 st raw he fun h' aB sb => ⟨_, rfl, ?_⟩
  have I1 : Inv X pins σ H { s with heap := h' } := I.turned (t' := s.toks) (fun b o hb e => (sb.2 b hb).trans e) f0 f1 f3 f4 f5
  obtain ⟨o', e, c, dd⟩ := id aB
  exact xc (s := { s with heap := h' }) e c dd (by decide) ⟨.ref b, H, I1, rfl, ⟨rfl, k, b, v, hx, rfl⟩, ⟨es, ep, e1, aB⟩, fun b hb => (hf b hb).1⟩
 done := by
  intro X hP hw hK hc i pins s σ H E I hf st hg
  subst hP hw hK
  obtain ⟨hd, hi⟩ := hg
  obtain ⟨es, ep, e1, raw, el⟩ := jC I.aV hd
  obtain ⟨zt, zB, e2, st⟩ := st
  rw [e1] at e2
  injection e2 with e3 e4
  subst e3 e4
  obtain ⟨f0, f1, f2, f3, f4, f5⟩ := hf it (by simp)
  exact sZ (I.ok.hd hc) st raw (by rw [VE el]; exact hi) fun h' eb => ⟨rfl, I.turned (t' := s.toks) (fun b o hb e => eb b o hb e) f0 f1 f3 f4 f5⟩
 self := fun _ _ _ _ _ ⟨_, _, _, st⟩ h => wpAny_pyIter_keyiter st h
theorem wH {P : Program} {w : World} {K : VN} {elts : List Expr} {x1} {pos : Pos} (o : Obj) (d it : Addr) (xs : List (bI × Addr × Value)) (vs : List V) (rv : Paired (fun (x : bI × Addr × Value) (y : V) => RelV y x.2.2) xs vs) :
  Turn P w K (.Tuple elts x1 pos) (GH P w o d xs vs) [it] it (fun i h => ∃ es ep ok ov, o.data = .dict es ep /\ IsItemIter h it d i es.size ep ok ov) where
 mem := by simp
 obj := fun i h st b hb => by
  have e : b = it := by simpa using hb
  subst e
  obtain ⟨es, ep, ok, ov, _, st⟩ := st
  exact ⟨_, st, fun v z => by cases z⟩
 keep := fun i h h' ⟨es, ep, ok, ov, e, st⟩ k => ⟨es, ep, ok, ov, e, k it (by simp) _ st⟩
 item := by
  intro X hP hw hK hc i pins s σ H E I hf st hg
  subst hP hw hK
  obtain ⟨hd, hi⟩ := hg
  obtain ⟨es, ep, e1, raw, el⟩ := jC I.aV hd
  obtain ⟨zt, zB, ok, ov, e2, st⟩ := st
  rw [e1] at e2
  injection e2 with e3 e4
  subst e3 e4
  obtain ⟨⟨k, b, v⟩, hx⟩ : ∃ x, xs[i]? = some x := ⟨_, S1 hi⟩
  obtain ⟨y, hy, ry⟩ : ∃ y, vs[i]? = some y /\ RelV y v := by
   have hl := Uq rv
   have : ∀ {xs : List (bI × Addr × Value)} {vs : List V} {i : Nat} {x : bI × Addr × Value}, Paired (fun (x : bI × Addr × Value) (y : V) => RelV y x.2.2) xs vs -> xs[i]? = some x -> ∃ y, vs[i]? = some y /\ RelV y x.2.2 := by
    intro xs vs i x r
    induction r generalizing i with
    | nil => intro e; simp at e
    | cons h _ ih =>
     intro e
     cases i with
     | zero => simp at e; subst e; exact ⟨_, rfl, h⟩
     | succ i => obtain ⟨y, h1, h2⟩ := ih (i := i) (by simpa using e); exact ⟨y, by simpa using h1, h2⟩
   exact this rv hx
  have he : es[i]? = some (entryOfKey (aT X.prog X.w) (k, b, v)) := by rw [entry_at el, hx]; rfl
  obtain ⟨f0, f1, f2, f3, f4, f5⟩ := hf it (by simp)
  refine nS st raw he fun h' aB tu kp => ⟨_, rfl, ?_⟩
  refine wpAny_letOwnedTupleGo_items (s := { s with heap := h' }) aB fun J4 bx sb => ?_
  have Nt : it ≠ s.heap.objs.size := Tu (Td st)
  have Ov : J4.get? s.heap.objs.size = some { cls := .type "tuple", data := .seq #[Value.ref b, v] } := (sb.2 _ (Vl Nt)).trans tu
  have np : H s.heap.objs.size = none := I.aV.fresh (SX _)
  have I1 : Inv X pins σ (upd H s.heap.objs.size (.tup [.ref b, y])) { s with heap := J4 } := I.Cs (t' := s.toks) (fun b o hb e => (sb.2 b hb).trans (kp b o hb e)) f0 f1 f3 f4 f5 (SX _)
   ⟨by rw [UV]; simp, [Value.ref b, v], .cons rfl (.cons ry .nil), _, Ov, rfl, _, rfl⟩
  exact ⟨.ref s.heap.objs.size, _, I1, rfl, ⟨k, b, v, y, _, hx, hy, rfl, np, rfl⟩, ⟨es, ep, _, _, e1, bx⟩, fun c hc => by
   have e : c = it := by simpa using hc
   rw [e, aq Nt]; exact f0⟩
 done := by
  intro X hP hw hK hc i pins s σ H E I hf st hg
  subst hP hw hK
  obtain ⟨hd, hi⟩ := hg
  obtain ⟨es, ep, e1, raw, el⟩ := jC I.aV hd
  obtain ⟨zt, zB, ok, ov, e2, st⟩ := st
  rw [e1] at e2
  injection e2 with e3 e4
  subst e3 e4
  obtain ⟨f0, f1, f2, f3, f4, f5⟩ := hf it (by simp)
  exact kz (I.ok.hd hc) st raw (by rw [VE el]; exact hi) fun h' eb => ⟨rfl, I.turned (t' := s.toks) (fun b o hb e => eb b o hb e) f0 f1 f3 f4 f5⟩
 self := fun _ _ _ _ _ ⟨_, _, _, _, _, st⟩ h => PySem.W.kcp_self st h
def DF (P : Program) (w : World) (H : Hp) (a : Addr) (kvs : List (bI × V)) : Prop := kvs.length <= sizeLine /\ (a == sysModules) = false /\ ∃ o xs, H a = some (iV P w o a xs) /\ KS H kvs xs
section
variable {P : Program} {w : World} {H H' : Hp} {a : Addr} {kvs : List (bI × V)}
theorem DF.ds (d : DF P w H a kvs) : DS P w H a kvs := let ⟨h1, h2, o, xs, h3, h4⟩ := d; ⟨h1, h2, xs, .inr ⟨o, h3⟩, h4⟩
theorem DF.mono (e : am H H') (x : DF P w H a kvs) : DF P w H' a kvs := let ⟨h1, h2, o, xs, h3, h4⟩ := x; ⟨h1, h2, o, xs, e _ _ h3, h4.mono fun _ _ => e _ _⟩
theorem KS.get {xs : List (bI × Addr × Value)} : ∀ {kvs : List (bI × V)} {i : Nat} {k : bI} {b : Addr} {v : Value}, KS H kvs xs -> xs[i]? = some (k, b, v) -> ∃ y, kvs[i]? = some (k, y) /\ jR H k b /\ RelV y v := by
 intro kvs i k b v r
 induction r generalizing i with
 | nil => intro e; simp at e
 | @cons p q _ _ h _ ih =>
  intro e
  cases i with
  | zero =>
   simp at e; subst e
   obtain ⟨h1, h2, h3⟩ := h
   obtain ⟨p1, p2⟩ := p
   have h1 : p1 = k := h1
   subst h1
   exact ⟨p2, rfl, h2, h3⟩
  | succ i =>
   obtain ⟨y, h1, h2⟩ := ih (i := i) (by simpa using e)
   exact ⟨y, by simpa using h1, h2⟩
theorem KS.vals {xs : List (bI × Addr × Value)} (r : KS H kvs xs) : Paired (fun (x : bI × Addr × Value) (y : V) => RelV y x.2.2) xs (kvs.map (·.2)) := by
 induction r with
 | nil => exact .nil
 | cons h _ ih => exact .cons h.2.2 ih
end
section
variable {X : Cx} {tg l o : Expr} {tl to : TE} {apos cR pos : Pos}
def GZ (X : Cx) (tl : TE) : TI := fun σ H R => tl σ H fun x H1 => ∃ a o xs, x = .ref a /\ (a == sysModules) = false /\ H1 a = some (iV X.prog X.w o a xs) /\ R (GC X.prog X.w o a xs) H1
theorem DG (hl : PE X l tl) : PI X tg l (GZ X tl) := by
 intro pins s σ H R I h
 refine bU (hl pins s σ H _ I h) fun v s1 ⟨x, H1, I1, r1, q1⟩ => ?_
 obtain ⟨a, o, xs, e, hd, hq, q⟩ := q1
 subst e
 cases r1
 obtain ⟨es, ep, e1, raw, el⟩ := jC I1.aV hq
 refine Bh hd raw ?_
 refine ⟨s1.heap.objs.size, [s1.heap.objs.size], _, _, H1, rfl, I1.kept (t' := s1.toks) fun b o e => SV _ e, yg o a _ xs, ⟨es, ep, e1, _, S7 _ rfl, rfl, rfl⟩, fun b hb => ?_, q⟩
 have e : b = s1.heap.objs.size := by simpa using hb
 subst e
 exact I1.yu (SX _) (I1.aV.fresh (SX _))
def Fe (X : Cx) (to : TE) : TI := fun σ H R => to σ H fun x H1 => ∃ a o xs vs, x = .ref a /\ (a == sysModules) = false /\ H1 a = some (iV X.prog X.w o a xs) /\ Paired (fun (x : bI × Addr × Value) (y : V) => RelV y x.2.2) xs vs /\ R (GH X.prog X.w o a xs vs) H1
theorem AB {elts : List Expr} {x1} (ho : PE X o to) (jj : attributeBase o "items" X.env (eval o X.env) = eval o X.env := by rfl) (iY : (apos.endLine == cR.line) = true := by rfl) :
  PI X (.Tuple elts x1 pos) (.Call (.Attribute o "items" apos) [] [] cR) (Fe X to) := by
 intro pins s σ H R I h
 refine wpAny_Call_method0_late jj iY (bU (ho pins s σ H _ I h) fun v s1 ⟨x, H1, I1, r1, q1⟩ => ?_)
 obtain ⟨a, ob, xs, vs, e, hd, hq, rv, q⟩ := q1
 subst e
 cases r1
 obtain ⟨es, ep, e1, raw, el⟩ := jC I1.aV hq
 obtain ⟨o', k8, ex, _⟩ := id raw
 refine ⟨"dict", "dict.items", PySem.F.plainAttrs_dict, PySem.F.slot_dict_items, PySem.F.type_dict_items, raw.typeIs, fun b eb => ?_, ?_⟩
 ·cases eb
  exact ⟨o', k8, ex.2.1⟩
 refine Calls.callWith_builtin rfl (PySem.evalArgs_none (zo hd raw ?_))
 have I2 : Inv X pins σ H1 { s1 with heap := s1.heap.push { cls := .type "dict_items", data := .fields #[.ref a] } } := I1.kept (t' := s1.toks) fun b o e => SV _ e
 refine oC (s := { s1 with heap := s1.heap.push { cls := .type "dict_items", data := .fields #[.ref a] } }) ⟨_, S7 _ rfl, rfl, rfl⟩ (raw.keep fun b o e => SV _ e) ?_
 refine ⟨(s1.heap.push { cls := .type "dict_items", data := .fields #[.ref a] }).objs.size, [(s1.heap.push { cls := .type "dict_items", data := .fields #[.ref a] }).objs.size], _, _, H1, rfl, I2.kept (t' := s1.toks) fun b o e => SV _ e, wH ob a _ xs vs rv, ⟨es, ep, .none, .none, e1, S7 _ rfl⟩, fun b hb => ?_, q⟩
 have e : b = (s1.heap.push { cls := .type "dict_items", data := .fields #[.ref a] }).objs.size := by simpa using hb
 subst e
 exact I2.yu (SX _) (I2.aV.fresh (SX _))
def Ll (X : Cx) (te : TE) : TE := fun σ H Q => te σ H fun x H1 => ∃ a kvs, x = .ref a /\ DW X.prog X.w H1 a kvs /\ ∀ o, DF X.prog X.w (upd H1 a o) a kvs -> Q x (upd H1 a o)
theorem Fz {e : Expr} {te : TE} (h : PE X e te) : PE X e (Ll X te) := by
 intro pins s σ H Q I q
 refine bU (h pins s σ H _ I q) fun v s1 ⟨x, H1, I1, r1, a, kvs, ex, ⟨z, hd, xs, e, r⟩, q1⟩ => ?_
 subst ex
 have Nb : bV X.prog X.w H1 s1.heap a (jP X.prog X.w a xs) := I1.aV a _ e
 obtain ⟨ob, pS⟩ := Nb.2.1
 have tp : ∀ c ys, H1 c = some (.tup ys) -> upd H1 a (iV X.prog X.w ob a xs) c = some (.tup ys) := fun c ys ec => by
  rw [aq (eu ec e (fun z => nomatch z))]; exact ec
 have I2 : Inv X pins σ (upd H1 a (iV X.prog X.w ob a xs)) s1 := I1.write (x := a) (e := a) (h' := s1.heap) (t' := s1.toks) (o := iV X.prog X.w ob a xs) (by rw [e]; exact Vc) (.inl rfl) (fun b u _ q => q) ⟨ob, pS⟩ ⟨pS, Nb⟩
 exact ⟨.ref a, _, I2, r1, q1 _ ⟨z, hd, ob, xs, ae, r.mono tp⟩⟩
end
theorem Je {P : Program} {w : World} {o : Obj} {d : Addr} {xs : List (bI × Addr × Value)} {kvs : List (bI × V)} {g : TG} {tb : TS} {D : Ends} {σ : St} {H : Hp} (Pv : Nat -> St -> Hp -> Prop) (h0 : Pv 0 σ H)
  (hl : ∀ i σ H, i <= kvs.length -> Pv i σ H -> H d = some (iV P w o d xs) /\ KS H kvs xs)
  (hs : ∀ i k y b σ H, kvs[i]? = some (k, y) -> jR H k b -> Pv i σ H -> g (.ref b) σ H fun σ2 H2 => tb { D with nx := Pv (i + 1), ct := Pv (i + 1), bk := D.nx } σ2 H2) (hd : ∀ σ H, Pv kvs.length σ H -> D.nx σ H) :
  ∃ W : Nat -> Nat -> St -> Hp -> Prop, (∃ m, W 0 m σ H) /\ ∀ i m σ H, W i m σ H ->
   ((GC P w o d xs).stop i H /\ D.nx σ H) \/ ((GC P w o d xs).go i H /\ ∃ N : St -> Hp -> Prop, (∀ σ' H', N σ' H' -> ∃ m', m' < m /\ W (i + 1) m' σ' H') /\ ∀ x H', (GC P w o d xs).Eo i H x H' -> g x σ H' fun σ2 H2 => tb { D with nx := N, ct := N, bk := D.nx } σ2 H2) := by
 refine ⟨fun i m σ H => m = kvs.length - i /\ i <= kvs.length /\ Pv i σ H, ⟨kvs.length, by simp, Tw _, h0⟩, ?_⟩
 rintro i m σ H ⟨rfl, hi, p⟩
 obtain ⟨q, r⟩ := hl i σ H hi p
 have ln : kvs.length = xs.length := Uq r
 by_cases gc : i < kvs.length
 ·refine .inr ⟨⟨q, by omega⟩, Pv (i + 1), fun σ' H' p' => ⟨kvs.length - (i + 1), by omega, rfl, gc, p'⟩, fun x H' y => ?_⟩
  obtain ⟨e, k, b, v, hx, e2⟩ := y
  subst e e2
  obtain ⟨y, hy, ka, _⟩ := r.get hx
  exact hs i k y b σ _ hy ka p
 ·have e : i = kvs.length := by omega
  subst e
  exact .inl ⟨⟨q, by omega⟩, hd σ H p⟩
theorem yI {P : Program} {w : World} {o : Obj} {d : Addr} {xs : List (bI × Addr × Value)} {kvs : List (bI × V)} {g : TG} {tb : TS} {D : Ends} {σ : St} {H : Hp} (Pv : Nat -> St -> Hp -> Prop) (h0 : Pv 0 σ H)
  (hl : ∀ i σ H, i <= kvs.length -> Pv i σ H -> H d = some (iV P w o d xs) /\ KS H kvs xs)
  (hs : ∀ i k y b p σ H, kvs[i]? = some (k, y) -> jR H k b -> H p = none -> Pv i σ H -> g (.ref p) σ (upd H p (.tup [.ref b, y])) fun σ2 H2 => tb { D with nx := Pv (i + 1), ct := Pv (i + 1), bk := D.nx } σ2 H2) (hd : ∀ σ H, Pv kvs.length σ H -> D.nx σ H) :
  ∃ W : Nat -> Nat -> St -> Hp -> Prop, (∃ m, W 0 m σ H) /\ ∀ i m σ H, W i m σ H ->
   ((GH P w o d xs (kvs.map (·.2))).stop i H /\ D.nx σ H) \/ ((GH P w o d xs (kvs.map (·.2))).go i H /\ ∃ N : St -> Hp -> Prop, (∀ σ' H', N σ' H' -> ∃ m', m' < m /\ W (i + 1) m' σ' H') /\ ∀ x H', (GH P w o d xs (kvs.map (·.2))).Eo i H x H' -> g x σ H' fun σ2 H2 => tb { D with nx := N, ct := N, bk := D.nx } σ2 H2) := by
 refine ⟨fun i m σ H => m = kvs.length - i /\ i <= kvs.length /\ Pv i σ H, ⟨kvs.length, by simp, Tw _, h0⟩, ?_⟩
 rintro i m σ H ⟨rfl, hi, p⟩
 obtain ⟨q, r⟩ := hl i σ H hi p
 have ln : kvs.length = xs.length := Uq r
 by_cases gc : i < kvs.length
 ·refine .inr ⟨⟨q, by omega⟩, Pv (i + 1), fun σ' H' p' => ⟨kvs.length - (i + 1), by omega, rfl, gc, p'⟩, fun x H' y => ?_⟩
  obtain ⟨k, b, v, y, pp, hx, hy, e1, hn, e2⟩ := y
  subst e1 e2
  obtain ⟨y', gd, ka, _⟩ := r.get hx
  rw [Tc, gd] at hy
  cases hy
  exact hs i k _ b pp σ H gd ka hn p
 ·have e : i = kvs.length := by omega
  subst e
  exact .inl ⟨⟨q, by omega⟩, hd σ H p⟩
section
variable (P : Program) (w : World)
def Ii (neg : Bool) : R2 := fun y x H Q => ∃ a b k kvs, x = .ref a /\ y = .ref b /\ jR H k b /\ DS P w H a kvs /\ Q (.bl (if neg then !(c6 kvs k).isSome else (c6 kvs k).isSome)) H
def L0 : R2 := fun x y H Q => ∃ a b k kvs v, x = .ref a /\ y = .ref b /\ jR H k b /\ DS P w H a kvs /\ c6 kvs k = some v /\ Q v H
def Jm : V -> V -> V -> Hp -> (Hp -> Prop) -> Prop := fun o i v H Q => ∃ a b k kvs, o = .ref a /\ i = .ref b /\ jR H k b /\ DW P w H a kvs /\ kvs.length < sizeLine /\ ∀ o', DW P w (upd H a o') a (pZ kvs k v) -> Q (upd H a o')
def Fh : TE := fun _ H Q => ∀ p o, H p = none -> DW P w (upd H p o) p [] -> Q (.ref p) (upd H p o)
def CT (tk tv : TE) : TE := fun σ H Q => ∀ p o, H p = none -> DW P w (upd H p o) p [] -> tk σ (upd H p o) fun x H1 => tv σ H1 fun y H2 =>
 ∃ b k, x = .ref b /\ jR H2 k b /\ DW P w H2 p [] /\ ∀ o', DW P w (upd H2 p o') p [(k, y)] -> Q (.ref p) (upd H2 p o')
def KR : R2 := fun x y H Q => ∃ a b f g, x = .ref a /\ y = .ref b /\ DS P w H a (iv f) /\ DS P w H b (iv g) /\ Q (.bl (!Eb f g)) H
def FJ : List V -> Hp -> VK -> Prop := fun xs H Q => ∃ a kvs, xs = [.ref a] /\ DS P w H a kvs /\ nT P w kvs /\ ∀ p o, H p = none -> DW P w (upd H p o) p kvs -> Q (.ref p) (upd H p o)
def G4 : V -> List V -> Hp -> VK -> Prop := fun x ys H Q => ∃ a b k kvs, x = .ref a /\ ys = [.ref b] /\ jR H k b /\ DS P w H a kvs /\ Q ((c6 kvs k).getD .cq) H
def G8 (td : TE) (t : TA) : TE := fun σ H Q => td σ H fun x H1 => (∃ a kvs, x = .ref a /\ DS P w H1 a kvs) /\ t σ H1 fun xs H2 => G4 P w x xs H2 Q
def EK (tl : TE) : TI := fun σ H R => tl σ H fun x H1 => ∃ a o xs, x = .ref a /\ (a == sysModules) = false /\ H1 a = some (iV P w o a xs) /\ R (GC P w o a xs) H1
def Ci (to : TE) : TI := fun σ H R => to σ H fun x H1 => ∃ a o xs vs, x = .ref a /\ (a == sysModules) = false /\ H1 a = some (iV P w o a xs) /\ Paired (fun (x : bI × Addr × Value) (y : V) => RelV y x.2.2) xs vs /\ R (GH P w o a xs vs) H1
def HJ (te : TE) : TE := fun σ H Q => te σ H fun x H1 => ∃ a kvs, x = .ref a /\ DW P w H1 a kvs /\ ∀ o, DF P w (upd H1 a o) a kvs -> Q x (upd H1 a o)
end
section
variable {X : Cx} {P : Program} {w : World} (hP : X.prog = P) (hw : X.w = w)
include hP hw
theorem IY (hu : X.A.units + 64 < cLine) : h9 X (compareOp .In) (Ii P w false) := by subst hP hw; exact EL hu
theorem Fk (hu : X.A.units + 64 < cLine) : h9 X (compareOp .NotIn) (Ii P w true) := by subst hP hw; exact yW hu
theorem HK (hu : X.A.units + 64 < cLine) : z9 X (L0 P w) := by subst hP hw; exact zH hu
theorem FC (hu : X.A.units + 64 < cLine) : GD X (Jm P w) := by subst hP hw; exact zd hu
theorem n4 {pos : Pos} : PE X (.Dict [] [] pos) (Fh P w) := by subst hP hw; exact Br
theorem qM {k v : Expr} {tk tv : TE} {pos : Pos} (hu : X.A.units + 64 < cLine) (hk : PE X k tk) (hv : PE X v tv) : PE X (.Dict [some k] [v] pos) (CT P w tk tv) := by subst hP hw; exact A3 hu hk hv
theorem Rg (hu : X.A.units + 64 < cLine) : h9 X (compareOp .NotEq) (KR P w) := by subst hP hw; exact Ga hu
theorem wg : dH X (.type "dict") (FJ P w) := by subst hP hw; exact wc
theorem AQ {tg l : Expr} {tl : TE} (hl : PE X l tl) : PI X tg l (EK P w tl) := by subst hP hw; exact DG hl
theorem B5 {e : Expr} {te : TE} (h : PE X e te) : PE X e (HJ P w te) := by subst hP hw; exact Fz h
theorem zg {elts : List Expr} {x1 : Nat} {o : Expr} {to : TE} {apos cR pos : Pos} (ho : PE X o to) (jj : attributeBase o "items" X.env (eval o X.env) = eval o X.env := by rfl) (iY : (apos.endLine == cR.line) = true := by rfl) :
  PI X (.Tuple elts x1 pos) (.Call (.Attribute o "items" apos) [] [] cR) (Ci P w to) := by subst hP hw; exact AB ho jj iY
theorem Dg {o e : Expr} {to : TE} {t : TA} {apos cR : Pos} (hu : X.A.units + 64 < cLine) (ho : PE X o to) (ha : PA X [e] t)
  (jj : attributeBase o "get" X.env (eval o X.env) = eval o X.env := by rfl)
  (A1 : ((backTo cR (starEach [e] X.env)).all (fun x => !x.1) && (backToKw cR (keywordEach [] X.env)).all (fun x => x.1.isSome)
   && decide (([e] : List Expr).length + ([] : List Keyword).length + (if ([] : List Keyword).isEmpty then 0 else 1) < 30)) = true := by rfl)
  (iY : (apos.endLine == cR.line) = true := by rfl) (hs : starEach [e] X.env = (false, eval e X.env) :: starEach [] X.env := by rfl) (ku : (backTo cR (starEach [] X.env)).any (·.1) = false := by rfl) :
  PE X (.Call (.Attribute o "get" apos) [e] [] cR) (G8 P w to t) := by subst hP hw; exact Dy hu ho ha jj A1 iY hs ku
end
theorem DW.at {P : Program} {w : World} {H : Hp} {a : Addr} {kvs : List (bI × V)} (d : DW P w H a kvs) : ∃ xs, H a = some (jP P w a xs) := let ⟨_, _, xs, h, _⟩ := d; ⟨xs, h⟩
theorem DW.nl {P : Program} {w : World} {H : Hp} {a : Addr} {kvs : List (bI × V)} (d : DW P w H a kvs) {o : HO} : (∀ b vs, H b = some (.lst vs) -> upd H a o b = some (.lst vs)) /\ ∀ b vs, H b = some (.tup vs) -> upd H a o b = some (.tup vs) := by
 obtain ⟨xs, h⟩ := d.at
 exact ⟨fun b vs e => by rw [aq (eu e h (by intro z; cases z))]; exact e, fun b vs e => by rw [aq (eu e h (by intro z; cases z))]; exact e⟩
theorem DW.LQ {P : Program} {w : World} {H : Hp} {a D : Addr} {o : HO} {ys : List V} {kvs : List (bI × V)} (d : DW P w H a kvs) (hD : H D = some (.lst ys)) : DW P w (upd H D o) a kvs :=
 let ⟨h1, h2, xs, h3, h4⟩ := d
 ⟨h1, h2, xs, by rw [aq (eu h3 hD (by intro z; cases z))]; exact h3, h4.mono fun b vs e => by rw [aq (eu e hD (by intro z; cases z))]; exact e⟩
theorem yt {P : Program} {w : World} {o : Obj} {d : Addr} {kxs : List (bI × Addr × Value)} {kvs : List (bI × V)} {cap : List (Option Nat)} {σ : St} {H : Hp} {g : TG} {tc : TT} {te : TE} {Q : VK} {D : Addr} (Pv : Nat -> List V -> Hp -> Prop) (h0 : Pv 0 [] (upd H D (.lst [])))
  (hD : ∀ i xs H, i <= kvs.length -> Pv i xs H -> H D = some (.lst xs) /\ H d = some (iV P w o d kxs) /\ KS H kvs kxs)
  (hs : ∀ i k y b xs H, kvs[i]? = some (k, y) -> jR H k b -> Pv i xs H -> g (.ref b) (eC cap σ) H fun σ2 H4 => bP (eC cap σ) σ2 /\
   tc σ2 H4 fun c H5 => if c = true then te σ2 H5 fun y H6 => H6 D = some (.lst xs) /\ xs.length < sizeLine /\ Pv (i + 1) (xs ++ [y]) (upd H6 D (.lst (xs ++ [y]))) else Pv (i + 1) xs H5)
  (hd : ∀ xs H, Pv kvs.length xs H -> Q (.ref D) H) : md (GC P w o d kxs) D cap σ H g tc te Q := by
 refine ⟨kvs.length, Pv, h0, fun i xs H2 hi p => ⟨(hD i xs H2 hi p).1, ?_⟩⟩
 obtain ⟨_, q, r⟩ := hD i xs H2 hi p
 have ln : kvs.length = kxs.length := Uq r
 by_cases gc : i < kvs.length
 ·refine .inr ⟨gc, ⟨q, by omega⟩, fun x H' y => ?_⟩
  obtain ⟨e, k, b, v, hx, e2⟩ := y
  subst e e2
  obtain ⟨y, hy, ka, _⟩ := r.get hx
  exact hs i k y b xs _ hy ka p
 ·have e : i = kvs.length := by omega
  subst e
  exact .inl ⟨rfl, ⟨q, by omega⟩, hd xs H2 p⟩
section
variable {M : Model} {A : Around} {E : Value -> Shared -> Prop} {s : Shared}
def uE (h : Heap) : List Value -> List (Option Value) -> Prop := Paired fun v f => ∃ a o xs n, v = .ref a /\ h.get? a = some o /\ o.cls = .type "tuple" /\ o.data = .seq xs n /\ xs[0]? = f
theorem xD : ∀ (vs : List Value) (fs : List (Option Value)) {Q : List (Option Value) -> Shared -> Prop}, uE s.heap vs fs -> Q fs s -> wpAny M A (vs.mapM firstOfTuple') Q E s
 | [], _, _, .nil, h => by rw [List.mapM_nil]; exact SU h
 | v :: vs, f :: fs, Q, .cons t r, h => by
  obtain ⟨a, o, xs, n, rfl, ho, hc, hd, hf⟩ := t
  rw [List.mapM_cons]
  refine SS ?_
  rw [PySem.W.kas_first_eq]
  refine SS (PySem.W.Looks.here (show PySem.W.Looks M s.heap (typeOf (.ref a)) o.cls from (PySem.W.Looks.ld ho).andThen .now) ?_)
  rw [hc, if_neg (by first | decide | simp)]
  refine SS (listItems_at ho hd (SU ?_))
  rw [hf]
  exact SS (xD vs fs (Q := fun bs s' => wpAny M A (pure (f :: bs)) Q E s') r (SU h))
theorem rj {h : Heap} : ∀ {vs : List Value} {fs : List (Option Value)}, uE h vs fs -> (∀ f ∈ fs, f.isSome = true) -> PySem.W.KatTups h vs (fs.filterMap id)
 | [], _, .nil, _ => trivial
 | _ :: _, f :: fs, .cons t r, hf => by
  obtain ⟨a, o, xs, n, rfl, ho, hc, hd, hx⟩ := t
  have := hf f S0
  cases f with
  | none => cases this
  | some u => exact PySem.W.KatTups.cons ho hc hd hx (rj r fun f KB => hf f (SY _ KB))
theorem qV {h : Heap} {v : Value} : ∀ {vs : List Value} {fs : List (Option Value)}, uE h vs fs -> v ∈ vs -> ∃ a o, v = .ref a /\ h.get? a = some o /\ o.cls = .type "tuple"
 | _, _, .nil, hv => by cases hv
 | _ :: _, _ :: _, .cons t r, hv => by
  rcases S2.mp hv with rfl | hv
  ·obtain ⟨a, o, xs, n, rfl, ho, hc, _⟩ := t
   exact ⟨a, o, rfl, ho, hc⟩
  ·exact qV r hv
theorem Gv {vs : List Value} {fs : List (Option Value)} {Q : SortKind -> Shared -> Prop} (t : uE s.heap vs fs) (h2 : 0 < vs.length) (hi : ∀ f ∈ fs, ∀ u, f = some u -> ∃ i t, u = Value.int i t)
  (h : ∀ κ, (κ = tuples' true \/ κ = oneType' \/ κ = general') -> Q κ s) : wpAny M A (keyKind' vs.toArray) Q E s := by
 have hl : vs.length = fs.length := Uq t
 by_cases all : ∀ f ∈ fs, f.isSome = true
 ·refine PySem.W.kat_kind (T := .type "int") (rj t all) ?_ (fun v hv => ?_) rfl (h _ (.inl rfl))
  ·cases fs with
   | nil => exact absurd hl (fun z => by rw [z] at h2; exact absurd h2 (by simp))
   | cons f fs =>
    have := all f S0
    cases f with
    | none => cases this
    | some u => simp
  ·obtain ⟨f, hf, e⟩ := List.mem_filterMap.mp hv
   obtain ⟨i, t, rfl⟩ := hi f hf v e
   exact PySem.W.Looks.of_pure rfl
 ·rw [kat_kind_eq, List.mapM_toArray, map_eq_pure_bind]
  refine SS (SS (xD vs _ t (SU ?_)))
  have yT : ¬ (fs.toArray.all fun x => x.isSome) = true := by
   intro z
   refine all fun f hf => ?_
   rw [List.all_toArray, Ub] at z
   exact z f hf
  rw [if_neg yT]
  by_cases c : (fs.toArray[0]?.bind id).isSome = true
  ·rw [if_pos c]; exact SU (h _ (.inr (.inr rfl)))
  ·rw [if_neg c, oneTypeOnly'_eq, List.mapM_toArray, map_eq_pure_bind]
   refine SS (SS (SS (PySem.W.kas_mapM (r := .type "tuple") _ (fun v hv Q' hq => ?_) (SU ?_))))
   ·obtain ⟨a, o, rfl, ho, hc⟩ := qV t hv
    have lk : PySem.W.Looks M s.heap (typeOf (.ref a)) o.cls := (PySem.W.Looks.ld ho).andThen .now
    rw [hc] at lk
    exact lk.here hq
   ·obtain ⟨v, vr, rfl⟩ : ∃ v vr, vs = v :: vr := by
     cases vs with
     | nil => simp at h2
     | cons v vr => exact ⟨v, vr, rfl⟩
    have Hm : ((List.map (fun _ => Value.type "tuple") (v :: vr)).toArray.all fun x => x == Value.type "tuple") = true := by
     simp only [List.all_toArray, List.all_map, Ub]
     intro _ _
     rfl
    have h0 : (List.map (fun _ => Value.type "tuple") (v :: vr)).toArray[0]? = some (Value.type "tuple") := by simp
    rw [h0]
    simp only [Hm, UB]
    exact SU (SU (h _ (.inr (.inl rfl))))
end
theorem zL {a b : List Int} (h : HT.lexLt a b = true) : HT.lexLt b a = false := by
 cases q : HT.lexLt b a with
 | false => rfl
 | true => have := lex_trans h q; rw [g6] at this; cases this
def kD (gs : List (List Int)) : List Nat := (List.range gs.length).mergeSort fun i j => !HT.lexLt (gs.getD j []) (gs.getD i [])
def yx (gs : List (List Int)) : List (List Int) := (kD gs).map fun i => gs.getD i []
theorem gY (gs : List (List Int)) : (kD gs).Perm (List.range gs.length) := List.mergeSort_perm _ _
theorem gf {gs : List (List Int)} {i : Nat} (h : i ∈ kD gs) : i < gs.length := List.mem_range.mp ((gY gs).mem_iff.mp h)
theorem hU (gs : List (List Int)) : (yx gs).Perm gs := by
 have := (gY gs).map fun i => gs.getD i []
 rw [iy] at this
 exact this
theorem uY (gs : List (List Int)) : (kD gs).Pairwise fun i j => (!HT.lexLt (gs.getD j []) (gs.getD i [])) = true := by
 refine List.pairwise_mergeSort (fun a b c h1 h2 => ?_) (fun a b => ?_) _
 ·have h1 : HT.lexLt (gs.getD b []) (gs.getD a []) = false := by simpa using h1
  have h2 : HT.lexLt (gs.getD c []) (gs.getD b []) = false := by simpa using h2
  cases q : HT.lexLt (gs.getD c []) (gs.getD a []) with
  | false => rfl
  | true =>
   by_cases e : gs.getD b [] = gs.getD c []
   ·rw [e, q] at h1; cases h1
   ·have := jJ (Vl e) h2
    rw [lex_trans this q] at h1; cases h1
 ·cases q : HT.lexLt (gs.getD b []) (gs.getD a []) with
  | false => rfl
  | true => rw [zL q]; rfl
theorem oF {α : Type} : ∀ {l : List α}, l.Nodup -> ∀ {i j : Nat} (hi : i < l.length) (hj : j < l.length), l[i] = l[j] -> i = j
 | [], _, _, _, hi, _, _ => absurd hi (by simp)
 | a :: l, nd, 0, 0, _, _, _ => rfl
 | a :: l, nd, 0, j + 1, _, hj, e => by
  have e : a = l[j]'(by simpa using hj) := e
  exact absurd (e ▸ UK _) (Ui.mp nd).1
 | a :: l, nd, i + 1, 0, hi, _, e => by
  have e : l[i]'(by simpa using hi) = a := e
  exact absurd (e ▸ UK _) (Ui.mp nd).1
 | a :: l, nd, i + 1, j + 1, hi, hj, e => by rw [oF (Ui.mp nd).2 (i := i) (j := j) (by simpa using hi) (by simpa using hj) e]
theorem wk {gs : List (List Int)} (nd : gs.Nodup) {i j : Nat} (hi : i < gs.length) (hj : j < gs.length) (h : i ≠ j) : gs.getD i [] ≠ gs.getD j [] := by
 intro e
 rw [Tg, Tg, S1 hi, S1 hj] at e
 exact h (oF nd hi hj e)
theorem mO {gs : List (List Int)} (nd : gs.Nodup) : (kD gs).Pairwise fun i j => HT.lexLt (gs.getD i []) (gs.getD j []) = true := by
 have n1 : (kD gs).Nodup := (gY gs).nodup_iff.mpr List.nodup_range
 refine UM (fun {i j} hi hj h => ?_) ((uY gs).and n1)
 have h1 : HT.lexLt (gs.getD j []) (gs.getD i []) = false := by simpa using h.1
 exact jJ (Vl (wk nd (gf hi) (gf hj) h.2)) h1
theorem uO {gs : List (List Int)} (nd : gs.Nodup) : (yx gs).Pairwise fun g k => HT.lexLt g k = true := by
 unfold yx
 rw [T6]
 exact mO nd
def tm (gs : List (List Int)) (g : List Int) : Nat := gs.countP fun x => HT.lexLt x g
theorem nN {gs : List (List Int)} {g k : List Int} (hg : g ∈ gs) : decide (tm gs g < tm gs k) = HT.lexLt g k := by
 cases e : HT.lexLt g k with
 | true => exact S9 (mC (f := fun x => HT.lexLt x g) (g := fun x => HT.lexLt x k) (fun x hx => lex_trans hx e) (g6 g) e hg)
 | false =>
  refine Tp (Nat.not_lt.mpr ?_)
  by_cases q : g = k
  ·rw [q]; exact SX _
  ·exact countP_le (f := fun x => HT.lexLt x k) (g := fun x => HT.lexLt x g) (fun x hx => lex_trans hx (jJ q e)) gs
def sD (h : Heap) (v : Value) (g : List Int) : Prop := ∃ a, v = .ref a /\ gE h a g
open Classical in
noncomputable def eE (h : Heap) (v : Value) : List Int := if e : ∃ g, sD h v g then Classical.choose e else []
theorem pj {h : Heap} {v : Value} {g : List Int} (e : sD h v g) : eE h v = g := by
 unfold eE
 rw [dif_pos ⟨g, e⟩]
 obtain ⟨a, e1, t1⟩ := e
 obtain ⟨b, e2, t2⟩ := Classical.choose_spec (⟨g, a, e1, t1⟩ : ∃ g, sD h v g)
 rw [e1] at e2; cases e2
 exact t2.inj t1
theorem Bm {α : Type} {rk : α -> Nat} : ∀ {l m : List α}, l.Pairwise (fun x y => rk x < rk y) -> m.Pairwise (fun x y => rk x < rk y) -> (∀ x, x ∈ l ↔ x ∈ m) -> l = m
 | [], [], _, _, _ => rfl
 | [], b :: r, _, _, h => absurd ((h b).mpr S0) (by simp)
 | a :: l, [], _, _, h => absurd ((h a).mp S0) (by simp)
 | a :: l, b :: r, h1, h2, h => by
  obtain ⟨ha, hl⟩ := T0.mp h1
  obtain ⟨hb, hr⟩ := T0.mp h2
  have e : a = b := by
   rcases S2.mp ((h a).mp S0) with e | e
   ·exact e
   ·rcases S2.mp ((h b).mpr S0) with e' | e'
    ·exact e'.symm
    ·have := hb a e; have := ha b e'; omega
  subst e
  have t : l = r := by
   refine Bm hl hr fun x => ⟨fun hx => ?_, fun hx => ?_⟩
   ·rcases S2.mp ((h x).mp (SY _ hx)) with e | e
    ·have := ha x hx; rw [e] at this; omega
    ·exact e
   ·rcases S2.mp ((h x).mpr (SY _ hx)) with e | e
    ·have := hb x hx; rw [e] at this; omega
    ·exact e
  rw [t]
section
variable {prog : Program} {w : World} {A : Around} {E : Value -> Shared -> Prop} {s : Shared}
theorem Al {κ : SortKind} (hκ : κ = tuples' true \/ κ = oneType' \/ κ = general') {g k : List Int} {a b : Addr} {Q : Bool -> Shared -> Prop} (hu : A.units < cLine) (hx : gE s.heap a g) (hy : gE s.heap b k) (h : Q (HT.lexLt g k) s) :
  wpAny (model prog w) A (keyLt' κ (.ref a) (.ref b)) Q E s := by
 rcases hκ with rfl | rfl | rfl
 ·obtain ⟨xs, rx, oa, BV, _, na, BR⟩ := hx
  obtain ⟨ys, ry, ob, pS, _, nb, qc⟩ := hy
  refine PySem.W.kat_lt BV BR pS qc ?_
  rw [List.toList_toArray, List.toList_toArray]
  exact u6 _ _ _ _ 0 rx ry (by simp) h
 ·rw [keyLt'_oneType]; exact i7 hu hx hy h
 ·show wpAny _ _ (oneLt' false _ _) _ _ _
  exact i7 hu hx hy h
theorem uF {P : Program} {H : Hp} {h : Heap} (ok : jk P w H h) : ∀ {gs : List (List Int)} {vs : List V} {us : List Value}, bF H (gs.map fun g => .tuple (g.map PyData.int)) vs -> Vals vs us -> ∃ fs, uE h us fs /\ (∀ f ∈ fs, ∀ u, f = some u -> ∃ i t, u = Value.int i t) /\ Paired (sD h) us gs
 | [], _, _, .nil, .nil => ⟨[], .nil, (fun _ z => by cases z), .nil⟩
 | g :: gs, _, _, .cons hd ht, .cons r rr => by
  obtain ⟨fs, h1, h2, h3⟩ := uF ok ht rr
  obtain ⟨a, vs, rfl, ha, hv⟩ := hd.eT
  cases hv.kU
  cases r
  obtain ⟨_, aA, rv, o, ho, hc, n, NC⟩ := ok a _ ha
  refine ⟨aA.toArray[0]? :: fs, .cons ⟨a, o, _, n, rfl, ho, hc, NC, rfl⟩ h1, fun f hf u e => ?_, .cons ⟨a, rfl, aA, rv, o, ho, hc, n, NC⟩ h3⟩
  rcases S2.mp hf with rfl | z
  ·cases g with
   | nil => cases rv; simp at e
   | cons x g =>
    cases rv with
    | @cons _ u' _ us ru _ =>
     obtain ⟨t, rfl⟩ := ru
     simp at e
     exact ⟨x, t, e.symm⟩
  ·exact h2 f z u e
theorem xw {h : Heap} : ∀ {us : List Value} {gs : List (List Int)}, Paired (sD h) us gs -> us.map (eE h) = gs
 | [], _, .nil => rfl
 | _ :: _, _ :: _, .cons e r => by rw [Ti, pj e, xw r]
theorem tI {h : Heap} {v : Value} : ∀ {us : List Value} {gs : List (List Int)}, Paired (sD h) us gs -> v ∈ us -> ∃ g ∈ gs, sD h v g
 | _, _, .nil, hv => by cases hv
 | _ :: _, _ :: _, .cons e r, hv => by
  rcases S2.mp hv with rfl | hv
  ·exact ⟨_, S0, e⟩
  ·obtain ⟨g, h1, h2⟩ := tI r hv
   exact ⟨g, SY _ h1, h2⟩
theorem lm {α β : Type} (f : α -> β) : ∀ l : List α, (l.zip l).map (fun x => f x.1) = l.map f
 | [] => rfl
 | a :: l => by rw [Vd, Ti, Ti, lm f l]
theorem iH {α : Type} {x : α × α} : ∀ {l : List α}, x ∈ l.zip l -> x.1 ∈ l /\ x.1 = x.2
 | [], h => by cases h
 | a :: l, h => by
  rw [Vd] at h
  rcases S2.mp h with rfl | h
  ·exact ⟨S0, rfl⟩
  ·obtain ⟨h1, h2⟩ := iH h
   exact ⟨SY _ h1, h2⟩
theorem mem_zip_self {α : Type} {x : α} : ∀ {l : List α}, x ∈ l -> (x, x) ∈ l.zip l
 | a :: l, h => by
  rw [Vd]
  rcases S2.mp h with rfl | h
  ·exact S0
  ·exact SY _ (mem_zip_self h)
theorem Bq {κ : SortKind} (hκ : κ = tuples' true \/ κ = oneType' \/ κ = general') {us : List Value} {gs : List (List Int)} (hu : A.units < cLine) (hk : Paired (sD s.heap) us gs) (nd : gs.Nodup) :
  wpAny (model prog w) A ((sortRuns').run (SortSt.mk' κ (us.toArray.zip us.toArray) #[] 7 none)) (fun r s2 => s2 = s /\ failedOf r.2 = none /\ (arrOf r.2).map (·.2) = ((kD gs).map fun i => us.getD i Value.none).toArray) E s := by
 have lp : us.length = gs.length := hk.length
 have zl : (us.toArray.zip us.toArray).toList = us.zip us := by simp
 have gm := xw hk
 have Aa : (us.zip us).map (fun x => tm gs (eE s.heap x.1)) = gs.map (tm gs) := by
  rw [lm (fun v => tm gs (eE s.heap v)) us]
  have e := Um (List.map (tm gs)) gm
  rw [TN] at e
  exact e
 have NI : ∀ i, i < gs.length -> eE s.heap (us.getD i Value.none) = gs.getD i [] := fun i hi => by
  have e : (us.map (eE s.heap))[i]? = gs[i]? := by rw [gm]
  rw [Tc, S1 (by omega), S1 hi] at e
  rw [Tg, Tg, S1 (show i < us.length by omega), S1 hi]
  exact T8 e
 have IF : (gs.map (tm gs)).Nodup := by
  refine List.Pairwise.map _ (R := fun p q => p ∈ gs /\ q ∈ gs /\ p ≠ q) (fun p q h e => ?_) ?_
  ·have e1 := nN (k := q) h.1
   have e2 := nN (k := p) h.2.1
   rw [e] at e1 e2
   rw [Tp (Uj _)] at e1
   rw [Tp (Uj _)] at e2
   have := jJ h.2.2 e1.symm
   rw [<- e2] at this
   cases this
  ·exact UM (fun {p q} hp hq si => ⟨hp, hq, si⟩) nd
 refine SO.tO (prog := prog) (w := w) (A := A) (E := E) (s := s) (rk := fun x => tm gs (eE s.heap x.1)) (S := fun x => ∃ g ∈ gs, sD s.heap x.1 g) (kd := κ) (a₀ := us.toArray.zip us.toArray) (st := SortSt.mk' κ (us.toArray.zip us.toArray) #[] 7 none)
  (Q := fun _ st => failedOf st = none /\ (arrOf st).map (·.2) = ((kD gs).map fun i => us.getD i Value.none).toArray) ?cmp ?mem ?nd rfl rfl rfl rfl ?fin
 case cmp =>
  intro x y st Q hx hy kk q
  obtain ⟨p, hp, e1⟩ := hx
  obtain ⟨p', PR, e2⟩ := hy
  have ee : decide (tm gs (eE s.heap x.1) < tm gs (eE s.heap y.1)) = HT.lexLt p p' := by rw [pj e1, pj e2, nN hp]
  have q : Q (some (decide (tm gs (eE s.heap x.1) < tm gs (eE s.heap y.1)))) st := q
  rw [ee] at q
  rw [lt'_eq]
  refine S6 (wpS_get ?_)
  refine S6 (wpS_lift ?_)
  rw [kk]
  obtain ⟨a, ea, ta⟩ := e1
  obtain ⟨b, eb, tb⟩ := e2
  rw [ea, eb]
  refine U5 (Al hκ hu ta tb ?_)
  exact ⟨rfl, Te q⟩
 case mem =>
  intro x hx
  rw [zl] at hx
  exact tI hk (iH hx).1
 case nd => rw [zl, Aa]; exact IF
 case fin =>
  intro st hp hf hs
  rw [zl] at hp
  refine ⟨hf, ?_⟩
  have Jk : ((arrOf st).toList.map fun x => tm gs (eE s.heap x.1)).Nodup := (hp.map fun x => tm gs (eE s.heap x.1)).nodup_iff.mpr (by rw [Aa]; exact IF)
  have Rn : (arrOf st).toList.Pairwise fun x y => tm gs (eE s.heap x.1) < tm gs (eE s.heap y.1) := by
   refine List.Pairwise.imp (fun {x y} h => ?_) (hs.and (T6.mp Jk))
   exact Nat.lt_of_le_of_ne h.1 h.2
  have GG : ((kD gs).map fun i => (us.getD i Value.none, us.getD i Value.none)).Pairwise fun x y => tm gs (eE s.heap x.1) < tm gs (eE s.heap y.1) := by
   rw [T6]
   refine UM (fun {i j} hi hj h => ?_) (mO nd)
   rw [NI i (gf hi), NI j (gf hj)]
   have m : gs.getD i [] ∈ gs := by
    rw [Tg, S1 (gf hi)]
    exact UK _
   exact Tt ((nN m).trans h)
  have e := Bm Rn GG fun x => by
   rw [hp.mem_iff]
   constructor
   ·intro hx
    obtain ⟨h1, h2⟩ := iH hx
    obtain ⟨i, hi, e⟩ := Uo.mp h1
    refine TD.mpr ⟨i, (gY gs).mem_iff.mpr (List.mem_range.mpr (by omega)), ?_⟩
    rw [Tg, S1 hi]
    show (us[i], us[i]) = x
    rw [e]
    exact Prod.ext rfl h2
   ·intro hx
    obtain ⟨i, hi, e⟩ := TD.mp hx
    have pT : i < us.length := by rw [lp]; exact gf hi
    rw [<- e, Tg, S1 pT]
    exact mem_zip_self (UK pT)
  apply Array.ext'
  rw [Array.toList_map, e, TN]
  simp
end
section
variable {X : Cx}
theorem iF (hu : X.A.units + 64 < cLine) : dH X (.builtin "sorted") (fun xs H Q => ∃ (p : Addr) (gs : List (List Int)) (vs : List V), xs = [.ref p] /\ H p = some (.lst vs) /\ bF H (gs.map fun g => .tuple (g.map PyData.int)) vs /\ gs.Nodup /\
  ∀ (l : Addr) (pI : List V), H l = none -> bF H ((yx gs).map fun g => .tuple (g.map PyData.int)) pI -> Q (.ref l) (upd H l (.lst pI))) := by
 intro pins s σ H xs us Q I r h
 obtain ⟨p, gs, vs, rfl, hp, dv, nd, q⟩ := h
 obtain ⟨u, rfl, ru⟩ := vals1 r
 cases ru
 obtain ⟨hz, aA, n, rv, eo⟩ := I.aV p _ hp
 have ln : aA.length = gs.length := by rw [<- rv.length, <- dv.length, SW]
 have lv : vs.length = gs.length := by rw [<- dv.length, SW]
 have lo : (kD gs).length = gs.length := by rw [(gY gs).length_eq, List.length_range]
 refine yh (T := "list") (out := (kD gs).map fun i => aA.getD i Value.none) (.inl rfl) eo rfl rfl (by omega) (by rw [SW, lo, ln]) (fun h => ?_) (fun h2 h' kp => ?_) ?_
 ·have e : kD gs = List.range gs.length := by
   unfold kD
   have : gs.length = 0 \/ gs.length = 1 := by omega
   rcases this with z | z <;> rw [z] <;> simp [List.range_succ]
  rw [e, <- ln, iy]
 ·have Oo : jk X.prog X.w H h' := I.aV.kept kp
  obtain ⟨fs, h1, h3, h4⟩ := uF Oo dv rv
  refine Gv h1 (by omega) h3 fun κ hκ => ⟨rfl, ?_⟩
  exact Bq hκ (by show X.A.units + 1 + 1 < cLine; omega) h4 nd
 ·obtain ⟨e, he⟩ := sortedAll_at s.heap aA ((kD gs).map fun i => aA.getD i Value.none).toArray
  refine ⟨.ref (s.heap.objs.size + 1), _, I.laid (t' := s.toks) (o := .lst ((kD gs).map fun i => vs.getD i .cq)) (fun b o hb => sortedAll_old hb) (U0 _) ⟨by rw [SW, lo]; omega, _, e, qH rv _ (fun i hi => by rw [lv]; exact gf hi), he⟩, rfl, q _ _ (I.aV.fresh (U0 _)) (uR dv _ fun i hi => gf hi)⟩
end
end L2
namespace Sh
section
variable {α : Type} [DecidableEq α]
abbrev Mp (α : Type) := List (α × Int)
def lk (f : Mp α) (k : α) : Option Int := (f.find? fun x => decide (x.1 = k)).map (·.2)
def put (f : Mp α) (k : α) (v : Int) : Mp α := if (lk f k).isSome then f.map (fun x => if x.1 = k then (x.1, v) else x) else f ++ [(k, v)]
def eqB (f g : Mp α) : Bool := f.length == g.length && f.all fun p => decide (lk g p.1 = some p.2)
theorem rT (k : α) : lk [] k = none := rfl
theorem fb (p : α × Int) (f : Mp α) (k : α) : lk (p :: f) k = if p.1 = k then some p.2 else lk f k := by
 unfold lk
 rw [US]
 by_cases e : p.1 = k
 ·rw [if_pos e, S9 e]; rfl
 ·rw [if_neg e, Tp e]
theorem xX {f : Mp α} {k : α} {v : Int} (h : lk f k = some v) : (k, v) ∈ f := by
 induction f with
 | nil => rw [rT] at h; cases h
 | cons p f ih =>
  rw [fb] at h
  by_cases e : p.1 = k
  ·rw [if_pos e] at h
   cases h
   rw [<- e]; exact S0
  ·rw [if_neg e] at h
   exact SY _ (ih h)
theorem rH {f : Mp α} {k : α} {v : Int} (h : lk f k = some v) : k ∈ f.map (·.1) := T4 (f := fun x : α × Int => x.1) (xX h)
theorem xK {f : Mp α} {k : α} : lk f k = none ↔ k ∉ f.map (·.1) := by
 induction f with
 | nil => simp [rT]
 | cons p f ih =>
  rw [fb, Ti, S2]
  by_cases e : p.1 = k
  ·rw [if_pos e]; simp [e]
  ·rw [if_neg e, ih]
   exact ⟨fun h z => z.elim (fun z => e z.symm) h, fun h z => h (.inr z)⟩
theorem EE {f : Mp α} (nd : (f.map (·.1)).Nodup) {p : α × Int} (h : p ∈ f) : lk f p.1 = some p.2 := by
 induction f with
 | nil => cases h
 | cons q f ih =>
  rw [Ti, Ui] at nd
  rw [fb]
  rcases S2.mp h with e | h
  ·rw [if_pos (by rw [e]), e]
  ·rw [if_neg (fun e => nd.1 (by rw [e]; exact T4 (f := fun x : α × Int => x.1) h))]
   exact ih nd.2 h
theorem Fo (f g : Mp α) (k : α) : lk (f ++ g) k = (lk f k).or (lk g k) := by
 induction f with
 | nil => rfl
 | cons p f ih =>
  rw [List.cons_append, fb, fb, ih]
  by_cases e : p.1 = k
  ·rw [if_pos e, if_pos e]; rfl
  ·rw [if_neg e, if_neg e]
theorem Cm (f : Mp α) (k j : α) (v : Int) : lk (f.map fun x => if x.1 = k then (x.1, v) else x) j = if j = k then (lk f j).map (fun _ => v) else lk f j := by
 induction f with
 | nil => by_cases e : j = k <;> simp [e, rT]
 | cons p f ih =>
  rw [Ti, fb, fb, ih]
  by_cases e1 : p.1 = k
  ·rw [if_pos e1]
   by_cases e2 : j = k
   ·simp [e2, e1]
   ·have : ¬ p.1 = j := fun z => e2 (z.symm.trans e1)
    simp [this, e2]
  ·rw [if_neg e1]
   by_cases e2 : j = k
   ·have : ¬ p.1 = j := fun z => e1 (z.trans e2)
    rw [if_pos e2, if_neg this, if_pos e2, if_neg this]
   ·simp [e2]
theorem ko (f : Mp α) (k j : α) (v : Int) : lk (put f k v) j = if j = k then some v else lk f j := by
 unfold put
 by_cases h : (lk f k).isSome = true
 ·rw [if_pos h, Cm]
  by_cases e : j = k
  ·rw [if_pos e, if_pos e, e]
   cases q : lk f k with
   | none => rw [q] at h; cases h
   | some u => rfl
  ·rw [if_neg e, if_neg e]
 ·rw [if_neg h, Fo, fb]
  have h' : lk f k = none := by cases q : lk f k with
   | none => rfl
   | some u => rw [q] at h; exact absurd rfl h
  by_cases e : j = k
  ·rw [if_pos e, if_pos e.symm, e, h']; rfl
  ·rw [if_neg e, if_neg (fun z => e z.symm), rT]
   cases lk f j <;> rfl
theorem qQ (f : Mp α) (k : α) (v : Int) : (f.map fun x => if x.1 = k then (x.1, v) else x).map (·.1) = f.map (·.1) := by
 rw [TN]
 refine Vx fun x _ => ?_
 show (if x.1 = k then (x.1, v) else x).1 = x.1
 by_cases e : x.1 = k
 ·rw [if_pos e]
 ·rw [if_neg e]
theorem rE {f : Mp α} {k : α} {v : Int} (nd : (f.map (·.1)).Nodup) : ((put f k v).map (·.1)).Nodup := by
 unfold put
 by_cases h : (lk f k).isSome = true
 ·rw [if_pos h, qQ]; exact nd
 ·rw [if_neg h, S4, List.nodup_append]
  refine ⟨nd, by simp, fun a ha b hb e => ?_⟩
  have e2 : b = k := by simpa using hb
  have h' : lk f k = none := by cases q : lk f k with
   | none => rfl
   | some u => rw [q] at h; exact absurd rfl h
  exact xK.mp h' (by rw [<- e2, <- e]; exact ha)
theorem tP {f : Mp α} {k j : α} {v : Int} (h : j ∈ (put f k v).map (·.1)) : j ∈ f.map (·.1) \/ j = k := by
 unfold put at h
 by_cases h' : (lk f k).isSome = true
 ·rw [if_pos h', qQ] at h; exact .inl h
 ·rw [if_neg h', S4, Ts] at h
  exact h.imp id fun z => by simpa using z
theorem sub_len : ∀ {l m : List α}, l.Nodup -> (∀ x ∈ l, x ∈ m) -> l.length <= m.length
 | [], _, _, _ => Tw _
 | a :: l, m, nd, h => by
  rw [Ui] at nd
  have ha := h a S0
  have := sub_len (m := m.erase a) nd.2 fun x hx => (List.mem_erase_of_ne (fun e => nd.1 (by rw [<- e]; exact hx))).mpr (h x (SY _ hx))
  rw [List.length_erase_of_mem ha] at this
  have := List.length_pos_of_mem ha
  simp only [TY]
  omega
theorem Cr {l m : List α} (nd : l.Nodup) (h : ∀ x ∈ l, x ∈ m) (hl : m.length <= l.length) : ∀ x ∈ m, x ∈ l := by
 intro x hx
 by_cases q : x ∈ l
 ·exact q
 ·have := sub_len (l := l) (m := m.erase x) nd fun y hy => (List.mem_erase_of_ne (fun e => q (by rw [<- e]; exact hy))).mpr (h y hy)
  rw [List.length_erase_of_mem hx] at this
  have := List.length_pos_of_mem hx
  omega
theorem AK {f g : Mp α} (nf : (f.map (·.1)).Nodup) (h : eqB f g = true) (k : α) : lk f k = lk g k := by
 unfold eqB at h
 rw [TK] at h
 have hl : f.length = g.length := eq_of_beq h.1
 have ha : ∀ p ∈ f, lk g p.1 = some p.2 := fun p hp => Tt (Ub.mp h.2 p hp)
 cases q : lk f k with
 | some v => exact (ha _ (xX q)).symm
 | none =>
  cases q2 : lk g k with
  | none => rfl
  | some v =>
   have := Cr (l := f.map (·.1)) (m := g.map (·.1)) nf (fun x hx => by
    obtain ⟨p, hp, rfl⟩ := TD.mp hx
    exact rH (ha p hp)) (by rw [SW, SW]; omega) k (rH q2)
   exact absurd this (xK.mp q)
theorem Ae {f g : Mp α} (nf : (f.map (·.1)).Nodup) (ng : (g.map (·.1)).Nodup) (h : ∀ k, lk f k = lk g k) : eqB f g = true := by
 unfold eqB
 have sub : ∀ {f g : Mp α}, (f.map (·.1)).Nodup -> (∀ k, lk f k = lk g k) -> f.length <= g.length := fun {f g} nf h => by
  have := sub_len (l := f.map (·.1)) (m := g.map (·.1)) nf fun x hx => by
   obtain ⟨p, hp, rfl⟩ := TD.mp hx
   have e := EE nf hp
   rw [h] at e
   exact rH e
  rwa [SW, SW] at this
 rw [TK]
 refine ⟨U4.mpr (Nat.le_antisymm (sub nf h) (sub ng fun k => (h k).symm)), Ub.mpr fun p hp => S9 ?_⟩
 rw [<- h]; exact EE nf hp
inductive Walk (E : α -> Int -> α -> Prop) (e : α) : α -> Int -> Prop
 | nil : Walk E e e 0
 | cons {s b : α} {m v : Int} : E s m b -> Walk E e b v -> Walk E e s (m + v)
variable {E : α -> Int -> α -> Prop} {e : α}
def Sound (E : α -> Int -> α -> Prop) (e : α) (f : Mp α) : Prop := ∀ s v, lk f s = some v -> Walk E e s v
def mJ (E : α -> Int -> α -> Prop) (f : Mp α) : Prop := ∀ s m b v, E s m b -> lk f b = some v -> ∃ u, lk f s = some u /\ u <= m + v
def Based (e : α) (f : Mp α) : Prop := ∃ u, lk f e = some u /\ u <= 0
def Later (E : α -> Int -> α -> Prop) : Prop := ∀ s m b, E s m b -> 1 <= m
theorem Walk.nonneg (hE : Later E) {s : α} {v : Int} (w : Walk E e s v) : 0 <= v := by
 induction w with
 | nil => exact Int.le_refl _
 | cons h _ ih => have := hE _ _ _ h; omega
theorem best {f : Mp α} (hc : mJ E f) (hb : Based e f) {s : α} {m : Int} (w : Walk E e s m) : ∃ u, lk f s = some u /\ u <= m := by
 induction w with
 | nil => exact hb
 | cons h _ ih =>
  obtain ⟨u, h1, h2⟩ := ih
  obtain ⟨u', h3, h4⟩ := hc _ _ _ _ h h1
  exact ⟨u', h3, by omega⟩
theorem agree {f g : Mp α} (sf : Sound E e f) (cf : mJ E f) (bf : Based e f) (sg : Sound E e g) (cg : mJ E g) (bg : Based e g) (s : α) : lk f s = lk g s := by
 cases h1 : lk f s with
 | some v =>
  obtain ⟨u, h2, h3⟩ := best cg bg (sf s v h1)
  obtain ⟨v', h4, h5⟩ := best cf bf (sg s u h2)
  rw [h1] at h4
  cases h4
  rw [h2, show u = v by omega]
 | none =>
  cases h2 : lk g s with
  | none => rfl
  | some u =>
   obtain ⟨v', h4, _⟩ := best cf bf (sg s u h2)
   rw [h1] at h4
   cases h4
def it {β : Type} (step : β -> β) : Nat -> β -> β
 | 0, x => x
 | n + 1, x => step (it step n x)
theorem Ey {β : Type} (step : β -> β) : ∀ n x, it step n (step x) = step (it step n x)
 | 0, _ => rfl
 | n + 1, x => by show step (it step n (step x)) = _; rw [Ey step n x]; rfl
theorem Ee {β : Type} (m1 m2 : β -> Nat) (step : β -> β) (P : β -> Prop) (stop : β -> Bool) (inv : ∀ x, P x -> P (step x))
  (dec : ∀ x, P x -> stop x = false -> m1 (step x) < m1 x \/ (m1 (step x) <= m1 x /\ m2 (step x) < m2 x)) : ∀ x, P x -> ∃ n, stop (it step n x) = true := by
 have go : ∀ a b x, P x -> m1 x <= a -> m2 x <= b -> ∃ n, stop (it step n x) = true := by
  intro a
  induction a using Nat.strongRecOn with
  | ind a NN =>
   intro b
   induction b using Nat.strongRecOn with
   | ind b PX =>
    intro x hx h1 h2
    cases q : stop x with
    | true => exact ⟨0, q⟩
    | false =>
     have : ∃ n, stop (it step n (step x)) = true := by
      rcases dec x hx q with d | ⟨d1, d2⟩
      ·exact NN (m1 (step x)) (by omega) (m2 (step x)) (step x) (inv x hx) (SX _) (SX _)
      ·by_cases hb : m1 (step x) < a
       ·exact NN (m1 (step x)) hb (m2 (step x)) (step x) (inv x hx) (SX _) (SX _)
       ·exact PX (m2 (step x)) (by omega) (step x) (inv x hx) (by omega) (SX _)
     obtain ⟨n, hn⟩ := this
     exact ⟨n + 1, by show stop (step (it step n x)) = true; rw [<- Ey step n x]; exact hn⟩
 exact fun x hx => go _ _ x hx (SX _) (SX _)
theorem vM {β : Type} {step : β -> β} {P : β -> Prop} (inv : ∀ x, P x -> P (step x)) : ∀ n x, P x -> P (it step n x)
 | 0, _, h => h
 | n + 1, x, h => inv _ (vM inv n x h)
def j6 (f g : Mp α) : Prop := ∀ k v, lk f k = some v -> ∃ u, lk g k = some u /\ u <= v
theorem j6.refl (f : Mp α) : j6 f f := fun k v h => ⟨v, h, Int.le_refl _⟩
theorem j6.trans {f g h : Mp α} (a : j6 f g) (b : j6 g h) : j6 f h := fun k v q => by
 obtain ⟨u, h1, h2⟩ := a k v q
 obtain ⟨u', h3, h4⟩ := b k u h1
 exact ⟨u', h3, by omega⟩
def miss (ns : List α) (f : Mp α) : Nat := ns.countP fun n => (lk f n).isNone
def sk (ns : List α) (f : Mp α) : Nat := (ns.map fun n => ((lk f n).getD 0).toNat).sum
theorem nK {f g : Mp α} (h : j6 f g) : ∀ ns : List α, miss ns g <= miss ns f
 | [] => SX _
 | n :: ns => by
  have ih := nK h ns
  unfold miss at *
  rw [Ux, Ux]
  cases q : lk f n with
  | none => simp only [Option.isNone_none]; split <;> simp <;> omega
  | some v =>
   obtain ⟨u, h1, _⟩ := h n v q
   rw [h1]
   exact ih
theorem vX {f g : Mp α} (h : j6 f g) : ∀ {ns : List α}, miss ns g = miss ns f -> sk ns g <= sk ns f
 | [], _ => SX _
 | n :: ns, e => by
  have ml := nK h ns
  unfold miss sk at *
  rw [Ux, Ux] at e
  rw [Ti, List.sum_cons, Ti, List.sum_cons]
  cases q : lk f n with
  | none =>
   rw [q] at e
   cases q2 : lk g n with
   | none =>
    rw [q2] at e
    have := vX h (ns := ns) (by unfold miss; omega)
    unfold sk at this
    simp; omega
   | some u => rw [q2] at e; simp at e; omega
  | some v =>
   obtain ⟨u, h1, h2⟩ := h n v q
   rw [q, h1] at e
   have := vX h (ns := ns) (by unfold miss; simp at e; omega)
   unfold sk at this
   rw [h1]
   simp; omega
theorem zZ {f g : Mp α} (h : j6 f g) (pos : ∀ k v, lk g k = some v -> 0 <= v) : ∀ {ns : List α} {n : α}, n ∈ ns -> lk f n ≠ lk g n -> miss ns g < miss ns f \/ (miss ns g <= miss ns f /\ sk ns g < sk ns f)
 | [], _, hn, _ => by cases hn
 | a :: ns, n, hn, ne => by
  have ml := nK h (a :: ns)
  by_cases el : miss (a :: ns) g = miss (a :: ns) f
  ·refine .inr ⟨ml, ?_⟩
   have N0 := nK h ns
   have B1 := el
   unfold miss at B1 N0
   rw [Ux, Ux] at B1
   have hd : (lk g a).isNone = (lk f a).isNone /\ miss ns g = miss ns f := by
    unfold miss
    cases q : lk f a with
    | none =>
     rw [q] at B1
     cases q2 : lk g a with
     | none => rw [q2] at B1; simp at B1; exact ⟨rfl, by omega⟩
     | some u => rw [q2] at B1; simp at B1; omega
    | some v =>
     obtain ⟨u, h1, _⟩ := h a v q
     rw [q, h1] at B1
     rw [h1]
     simp at B1
     exact ⟨rfl, by omega⟩
   have hs := vX h hd.2
   have first : ((lk g a).getD 0).toNat <= ((lk f a).getD 0).toNat := by
    cases q : lk f a with
    | none =>
     have := hd.1
     rw [q] at this
     cases q2 : lk g a with
     | none => exact SX _
     | some u => rw [q2] at this; cases this
    | some v =>
     obtain ⟨u, h1, h2⟩ := h a v q
     rw [h1]; simp; omega
   show (((a :: ns).map fun n => ((lk g n).getD 0).toNat).sum) < (((a :: ns).map fun n => ((lk f n).getD 0).toNat).sum)
   rw [Ti, List.sum_cons, Ti, List.sum_cons]
   have No : (ns.map fun n => ((lk g n).getD 0).toNat).sum <= (ns.map fun n => ((lk f n).getD 0).toNat).sum := hs
   rcases S2.mp hn with rfl | hn
   ·cases q : lk f n with
    | none =>
     have := hd.1
     rw [q] at this ne
     cases q2 : lk g n with
     | none => rw [q2] at ne; exact absurd rfl ne
     | some u => rw [q2] at this; cases this
    | some v =>
     obtain ⟨u, h1, h2⟩ := h n v q
     have p := pos _ _ h1
     rw [q, h1] at ne
     have : u ≠ v := fun z => ne (by rw [z])
     rw [h1]; simp; omega
   ·rcases zZ h pos hn ne with z | ⟨_, z⟩
    ·rw [hd.2] at z; exact absurd z (Uj _)
    ·have z' : (ns.map fun n => ((lk g n).getD 0).toNat).sum < (ns.map fun n => ((lk f n).getD 0).toNat).sum := z
     omega
  ·exact .inl (by omega)
def iW (f g : Mp α) (n : α) : Prop := ∃ v, lk g n = some v /\ ∀ u, lk f n = some u -> v < u
theorem iW.ne {f g : Mp α} {n : α} (h : iW f g n) : lk f n ≠ lk g n := fun z => by
 obtain ⟨v, h1, h2⟩ := h
 rw [h1] at z
 exact absurd (h2 v z) (by omega)
theorem iW.less {f g h : Mp α} {n : α} (a : iW f g n) (b : j6 g h) : iW f h n := by
 obtain ⟨v, h1, h2⟩ := a
 obtain ⟨u, h3, h4⟩ := b n v h1
 exact ⟨u, h3, fun x hx => by have := h2 x hx; omega⟩
def qZ : Option Int -> Int -> Bool
 | none, _ => true
 | some u, h => decide (h < u)
theorem wN {f : Mp α} {k : α} {v : Int} (h : qZ (lk f k) v = true) : j6 f (put f k v) /\ iW f (put f k v) k := by
 have hs : iW f (put f k v) k := by
  refine ⟨v, by rw [ko, if_pos rfl], fun u hu => ?_⟩
  rw [hu] at h
  exact Tt h
 refine ⟨fun j u hu => ?_, hs⟩
 rw [ko]
 by_cases e : j = k
 ·rw [if_pos e]
  rw [e] at hu
  obtain ⟨v', h1, h2⟩ := hs
  rw [ko, if_pos rfl] at h1
  cases h1
  exact ⟨v, rfl, by have := h2 u hu; omega⟩
 ·rw [if_neg e]; exact ⟨u, hu, Int.le_refl _⟩
abbrev qK (α : Type) := α × Int × α
def cr (x : Mp α × Bool) (t : qK α) : Mp α × Bool :=
 match lk x.1 t.2.2 with
 | none => x
 | some v => if qZ (lk x.1 t.1) (t.2.1 + v) = true then (put x.1 t.1 (t.2.1 + v), true) else x
theorem i9 (x : Mp α × Bool) (t : qK α) : (cr x t = x /\ ∀ v, lk x.1 t.2.2 = some v -> ∃ u, lk x.1 t.1 = some u /\ u <= t.2.1 + v) \/ ∃ v, lk x.1 t.2.2 = some v /\ qZ (lk x.1 t.1) (t.2.1 + v) = true /\ cr x t = (put x.1 t.1 (t.2.1 + v), true) := by
 unfold cr
 cases q : lk x.1 t.2.2 with
 | none => exact .inl ⟨rfl, fun v h => by cases h⟩
 | some v =>
  dsimp only
  by_cases b : qZ (lk x.1 t.1) (t.2.1 + v) = true
  ·rw [if_pos b]; exact .inr ⟨v, rfl, b, rfl⟩
  ·rw [if_neg b]
   refine .inl ⟨rfl, fun v' h => ?_⟩
   cases h
   cases q2 : lk x.1 t.1 with
   | none => rw [q2] at b; exact absurd rfl b
   | some u =>
    rw [q2] at b
    have : ¬ (t.2.1 + v < u) := fun z => b (S9 z)
    exact ⟨u, rfl, by omega⟩
theorem xl : ∀ (ts : List (qK α)) (x : Mp α × Bool), j6 x.1 (ts.foldl cr x).1 /\ ((ts.foldl cr x = x /\ ∀ t ∈ ts, ∀ v, lk x.1 t.2.2 = some v -> ∃ u, lk x.1 t.1 = some u /\ u <= t.2.1 + v) \/ ((ts.foldl cr x).2 = true /\ ∃ t ∈ ts, iW x.1 (ts.foldl cr x).1 t.1))
 | [], x => ⟨j6.refl _, .inl ⟨rfl, fun t h => by cases h⟩⟩
 | t :: ts, x => by
  rw [UZ]
  obtain ⟨l, r⟩ := xl ts (cr x t)
  rcases i9 x t with ⟨e, h⟩ | ⟨v, h1, h2, e⟩
  ·rw [e] at l r ⊢
   refine ⟨l, r.imp (fun ⟨a, b⟩ => ⟨a, fun t' ht => ?_⟩) fun ⟨a, t', ht, b⟩ => ⟨a, t', SY _ ht, b⟩⟩
   rcases S2.mp ht with rfl | ht
   ·exact h
   ·exact b t' ht
  ·rw [e] at l r ⊢
   obtain ⟨p1, p2⟩ := wN h2
   refine ⟨p1.trans l, .inr ⟨?_, t, S0, p2.less l⟩⟩
   rcases r with ⟨a, _⟩ | ⟨a, _⟩
   ·rw [a]
   ·exact a
theorem uU {ts : List (qK α)} (hE : ∀ t ∈ ts, E t.1 t.2.1 t.2.2) : ∀ {x : Mp α × Bool}, Sound E e x.1 -> Sound E e (ts.foldl cr x).1 := by
 induction ts with
 | nil => exact fun h => h
 | cons t ts ih =>
  intro x h
  rw [UZ]
  refine ih (fun t' ht => hE t' (SY _ ht)) ?_
  rcases i9 x t with ⟨e, _⟩ | ⟨v, h1, h2, e⟩
  ·rw [e]; exact h
  ·rw [e]
   intro s u hu
   rw [ko] at hu
   by_cases q : s = t.1
   ·rw [if_pos q] at hu
    cases hu
    rw [q]
    exact .cons (hE t S0) (h _ _ h1)
   ·rw [if_neg q] at hu
    exact h s u hu
theorem ix : ∀ (ts : List (qK α)) (x : Mp α × Bool), (x.1.map (·.1)).Nodup -> ((ts.foldl cr x).1.map (·.1)).Nodup /\ ∀ k ∈ (ts.foldl cr x).1.map (·.1), k ∈ x.1.map (·.1) \/ k ∈ ts.map (·.1)
 | [], x, h => ⟨h, fun k hk => .inl hk⟩
 | t :: ts, x, h => by
  rw [UZ]
  rcases i9 x t with ⟨e, _⟩ | ⟨v, h1, h2, e⟩
  ·rw [e]
   obtain ⟨a, b⟩ := ix ts x h
   exact ⟨a, fun k hk => (b k hk).imp id fun z => SY _ z⟩
  ·rw [e]
   obtain ⟨a, b⟩ := ix ts (put x.1 t.1 (t.2.1 + v), true) (rE h)
   refine ⟨a, fun k hk => ?_⟩
   rcases b k hk with z | z
   ·rcases tP z with z | z
    ·exact .inl z
    ·rw [z]; exact .inr S0
   ·exact .inr (SY _ z)
def pass (ts : List (qK α)) (k : Mp α) : Mp α × Bool := ts.foldl cr (k, false)
def iM (ts : List (qK α)) (k : Mp α) : Mp α := (pass ts k).1
structure iP (E : α -> Int -> α -> Prop) (e : α) (ks : List α) (f : Mp α) : Prop where
 sound : Sound E e f
 nd : (f.map (·.1)).Nodup
 base : Based e f
 keys : ∀ k ∈ f.map (·.1), k = e \/ k ∈ ks
theorem Based.less {f g : Mp α} (h : j6 f g) (b : Based e f) : Based e g := by
 obtain ⟨u, h1, h2⟩ := b
 obtain ⟨v, h3, h4⟩ := h _ _ h1
 exact ⟨v, h3, by omega⟩
theorem ic (ks : List α) : iP E e ks [(e, 0)] where
 sound := fun s v h => by
  rw [fb] at h
  by_cases q : e = s
  ·rw [if_pos q] at h; cases h; rw [<- q]; exact .nil
  ·rw [if_neg q] at h; cases h
 nd := by simp
 base := ⟨0, by rw [fb, if_pos rfl], Int.le_refl _⟩
 keys := fun k hk => .inl (by simpa using hk)
theorem rA {ts us : List (qK α)} {x : Mp α × Bool} (hE : ∀ t ∈ ts, E t.1 t.2.1 t.2.2) (hs : ∀ t ∈ us, t ∈ ts) (h : iP E e (ts.map (·.1)) x.1) : iP E e (ts.map (·.1)) (us.foldl cr x).1 where
 sound := uU (fun t ht => hE t (hs t ht)) h.sound
 nd := (ix us x h.nd).1
 base := h.base.less (xl us x).1
 keys := fun k hk => by
  rcases (ix us x h.nd).2 k hk with z | z
  ·exact h.keys k z
  ·obtain ⟨t, ht, rfl⟩ := TD.mp z
   exact .inr (T4 (f := fun t : qK α => t.1) (hs t ht))
theorem l3 {ts : List (qK α)} (hE : ∀ t ∈ ts, E t.1 t.2.1 t.2.2) {f : Mp α} (h : iP E e (ts.map (·.1)) f) : iP E e (ts.map (·.1)) (iM ts f) := rA (x := (f, false)) hE (fun _ h => h) h
theorem yq {ts : List (qK α)} (hE : ∀ t ∈ ts, E t.1 t.2.1 t.2.2) (hL : Later E) : ∃ n, (pass ts (it (iM ts) n [(e, 0)])).2 = false := by
 obtain ⟨n, h⟩ := Ee (miss (ts.map (·.1))) (sk (ts.map (·.1))) (iM ts) (iP E e (ts.map (·.1))) (fun k => !(pass ts k).2) (fun x h => l3 hE h) (fun x h q => by
  have q' : (pass ts x).2 = true := by simpa using q
  have fp := l3 hE h
  obtain ⟨l, r⟩ := xl ts (x, false)
  rcases r with ⟨a, _⟩ | ⟨_, t, ht, st⟩
  ·have : (pass ts x).2 = false := by unfold pass; rw [a]
   rw [this] at q'; cases q'
  ·exact zZ l (fun k v hk => (fp.sound k v hk).nonneg hL) (T4 (f := fun t : qK α => t.1) ht) st.ne) [(e, 0)] (ic _)
 exact ⟨n, by simpa using h⟩
theorem qL {ts : List (qK α)} {f : Mp α} (h : (pass ts f).2 = false) : iM ts f = f /\ ∀ t ∈ ts, ∀ v, lk f t.2.2 = some v -> ∃ u, lk f t.1 = some u /\ u <= t.2.1 + v := by
 obtain ⟨l, r⟩ := xl ts (f, false)
 rcases r with ⟨a, b⟩ | ⟨a, _⟩
 ·exact ⟨by unfold iM pass; rw [a], b⟩
 ·have a : (pass ts f).2 = true := a
  rw [h] at a; cases a
section
variable {γ : Type}
abbrev Way (γ α : Type) := γ × Int × α
abbrev C7 (γ α : Type) := List (α × List (Way γ α))
def wI : List Int -> Int
 | [] => 0
 | x :: r => r.foldl min x
theorem E3 : ∀ (r : List Int) (x : Int), (r.foldl min x ∈ x :: r) /\ ∀ y ∈ x :: r, r.foldl min x <= y
 | [], x => ⟨S0, fun y hy => by
   have : y = x := by simpa using hy
   rw [this]; exact Int.le_refl _⟩
 | a :: r, x => by
  rw [UZ]
  obtain ⟨h1, h2⟩ := E3 r (min x a)
  constructor
  ·rcases S2.mp h1 with z | z
   ·rw [z]
    by_cases q : x <= a
    ·rw [Int.min_eq_left q]; exact S0
    ·rw [Int.min_eq_right (by omega)]; exact SY _ S0
   ·exact SY _ (SY _ z)
  ·intro y hy
   have h0 := h2 (min x a) S0
   rcases S2.mp hy with rfl | hy
   ·have := Int.min_le_left y a; omega
   ·rcases S2.mp hy with rfl | hy
    ·have := Int.min_le_right x y; omega
    ·exact h2 y (SY _ hy)
theorem tK {l : List Int} (h : l ≠ []) : wI l ∈ l := by
 cases l with
 | nil => exact absurd rfl h
 | cons x r => exact (E3 r x).1
theorem sE {l : List Int} {y : Int} (h : y ∈ l) : wI l <= y := by
 cases l with
 | nil => cases h
 | cons x r => exact (E3 r x).2 y h
theorem C6 {l : List Int} {m : Int} (h1 : m ∈ l) (h2 : ∀ y ∈ l, m <= y) : m = wI l := by
 have := sE h1
 have := h2 _ (tK (List.ne_nil_of_mem h1))
 omega
def yA (f : Mp α) (ft : List (Way γ α)) : List Int := (ft.filter fun x => (lk f x.2.2).isSome).map fun x => x.2.1 + (lk f x.2.2).getD 0
def ge (f : Mp α) (c : α × List (Way γ α)) : List Int := yA f c.2 ++ (lk f c.1).toList
def cW (f : Mp α) (l : Mp α) (c : α × List (Way γ α)) : Mp α := if ge f c = [] then l else put l c.1 (wI (ge f c))
def oneMore (cs : C7 γ α) (f : Mp α) : Mp α := cs.foldl (cW f) f
theorem BF {f : Mp α} {ft : List (Way γ α)} {t : Int} : t ∈ yA f ft ↔ ∃ x ∈ ft, ∃ v, lk f x.2.2 = some v /\ t = x.2.1 + v := by
 unfold yA
 rw [TD]
 constructor
 ·rintro ⟨x, hx, rfl⟩
  obtain ⟨h1, h2⟩ := TH.mp hx
  cases q : lk f x.2.2 with
  | none => rw [q] at h2; cases h2
  | some v => exact ⟨x, h1, v, q, rfl⟩
 ·rintro ⟨x, hx, v, q, rfl⟩
  exact ⟨x, TH.mpr ⟨hx, by rw [q]; rfl⟩, by rw [q]; rfl⟩
theorem o6 {f : Mp α} {c : α × List (Way γ α)} {t : Int} : t ∈ ge f c ↔ (∃ x ∈ c.2, ∃ v, lk f x.2.2 = some v /\ t = x.2.1 + v) \/ lk f c.1 = some t := by
 unfold ge
 rw [Ts, BF]
 refine or_congr Iff.rfl ?_
 cases lk f c.1 with
 | none => simp
 | some u => simp; exact eq_comm
theorem jE {f : Mp α} {s : α} : ∀ (cs : C7 γ α) (l : Mp α), (∀ c ∈ cs, c.1 ≠ s) -> lk (cs.foldl (cW f) l) s = lk l s
 | [], _, _ => rfl
 | c :: cs, l, h => by
  rw [UZ, jE cs _ fun c hc => h c (SY _ hc)]
  unfold cW
  by_cases q : ge f c = []
  ·rw [if_pos q]
  ·rw [if_neg q, ko, if_neg (fun z => h c S0 z.symm)]
theorem ll {f : Mp α} : ∀ (cs : C7 γ α) (l : Mp α), (cs.map (·.1)).Nodup -> ∀ c ∈ cs, lk (cs.foldl (cW f) l) c.1 = if ge f c = [] then lk l c.1 else some (wI (ge f c))
 | [], _, _, c, hc => by cases hc
 | d :: cs, l, nd, c, hc => by
  rw [Ti, Ui] at nd
  rw [UZ]
  rcases S2.mp hc with rfl | w5
  ·rw [jE cs _ fun c' w5 z => nd.1 (by rw [<- z]; exact T4 (f := fun x : α × List (Way γ α) => x.1) w5)]
   unfold cW
   by_cases q : ge f c = []
   ·rw [if_pos q, if_pos q]
   ·rw [if_neg q, if_neg q, ko, if_pos rfl]
  ·rw [ll cs _ nd.2 c w5]
   have ne : ¬ c.1 = d.1 := fun z => nd.1 (by rw [<- z]; exact T4 (f := fun x : α × List (Way γ α) => x.1) w5)
   congr 1
   unfold cW
   by_cases q : ge f d = []
   ·rw [if_pos q]
   ·rw [if_neg q, ko, if_neg ne]
theorem fW {f : Mp α} : ∀ (cs : C7 γ α) (l : Mp α), (l.map (·.1)).Nodup -> ((cs.foldl (cW f) l).map (·.1)).Nodup /\ ∀ k ∈ (cs.foldl (cW f) l).map (·.1), k ∈ l.map (·.1) \/ k ∈ cs.map (·.1)
 | [], l, h => ⟨h, fun k hk => .inl hk⟩
 | c :: cs, l, h => by
  rw [UZ]
  by_cases q : ge f c = []
  ·obtain ⟨a, b⟩ := fW cs l h
   have e : cW f l c = l := by unfold cW; rw [if_pos q]
   rw [e]
   exact ⟨a, fun k hk => (b k hk).imp id fun z => SY _ z⟩
  ·have e : cW f l c = put l c.1 (wI (ge f c)) := by unfold cW; rw [if_neg q]
   rw [e]
   obtain ⟨a, b⟩ := fW cs _ (rE (k := c.1) (v := wI (ge f c)) h)
   refine ⟨a, fun k hk => ?_⟩
   rcases b k hk with z | z
   ·rcases tP z with z | z
    ·exact .inl z
    ·rw [z]; exact .inr S0
   ·exact .inr (SY _ z)
def Tells (E : α -> Int -> α -> Prop) (cs : C7 γ α) : Prop := ∀ s m b, E s m b ↔ ∃ c ∈ cs, c.1 = s /\ ∃ g, (g, m, b) ∈ c.2
theorem oR {cs : C7 γ α} (nd : (cs.map (·.1)).Nodup) (f : Mp α) : j6 f (oneMore cs f) := fun k v h => by
 unfold oneMore
 by_cases q : ∃ c ∈ cs, c.1 = k
 ·obtain ⟨c, hc, rfl⟩ := q
  rw [ll cs f nd c hc]
  have m : v ∈ ge f c := o6.mpr (.inr h)
  rw [if_neg (List.ne_nil_of_mem m)]
  exact ⟨_, rfl, sE m⟩
 ·rw [jE cs f fun c hc z => q ⟨c, hc, z⟩]
  exact ⟨v, h, Int.le_refl _⟩
theorem lQ {cs : C7 γ α} (nd : (cs.map (·.1)).Nodup) (hE : Tells E cs) {f : Mp α} (h : iP E e (cs.map (·.1)) f) : iP E e (cs.map (·.1)) (oneMore cs f) where
 sound := fun s v hv => by
  unfold oneMore at hv
  by_cases q : ∃ c ∈ cs, c.1 = s
  ·obtain ⟨c, hc, rfl⟩ := q
   rw [ll cs f nd c hc] at hv
   by_cases q2 : ge f c = []
   ·rw [if_pos q2] at hv; exact h.sound _ _ hv
   ·rw [if_neg q2] at hv
    cases hv
    rcases o6.mp (tK q2) with ⟨x, hx, u, hu, e⟩ | e
    ·rw [e]
     exact .cons ((hE _ _ _).mpr ⟨c, hc, rfl, x.1, hx⟩) (h.sound _ _ hu)
    ·exact h.sound _ _ e
  ·rw [jE cs f fun c hc z => q ⟨c, hc, z⟩] at hv
   exact h.sound _ _ hv
 nd := (fW cs f h.nd).1
 base := h.base.less (oR nd f)
 keys := fun k hk => by
  rcases (fW cs f h.nd).2 k hk with z | z
  ·exact h.keys k z
  ·exact .inr z
theorem Ba {cs : C7 γ α} (nd : (cs.map (·.1)).Nodup) (hE : Tells E cs) (hL : Later E) (he : e ∈ cs.map (·.1)) : ∃ n, eqB (oneMore cs (it (oneMore cs) n [(e, 0)])) (it (oneMore cs) n [(e, 0)]) = true := by
 refine Ee (miss (cs.map (·.1))) (sk (cs.map (·.1))) (oneMore cs) (iP E e (cs.map (·.1))) (fun f => eqB (oneMore cs f) f) (fun x h => lQ nd hE h) (fun f h q => ?_) [(e, 0)] (ic _)
 have fp := lQ nd hE h
 have : ∃ k, lk f k ≠ lk (oneMore cs f) k := by
  refine Classical.byContradiction fun z => ?_
  have z' : ∀ k, lk (oneMore cs f) k = lk f k := fun k => Classical.byContradiction fun y => z ⟨k, fun x => y x.symm⟩
  rw [Ae fp.nd h.nd z'] at q
  cases q
 obtain ⟨k, hk⟩ := this
 have wZ : k ∈ cs.map (·.1) := by
  have : k ∈ (oneMore cs f).map (·.1) := by
   cases q1 : lk (oneMore cs f) k with
   | some v => exact rH q1
   | none =>
    cases q2 : lk f k with
    | none => rw [q1, q2] at hk; exact absurd rfl hk
    | some v =>
     obtain ⟨u, hu, _⟩ := oR nd f k v q2
     rw [q1] at hu; cases hu
  rcases fp.keys k this with z | z
  ·rw [z]; exact he
  ·exact z
 exact zZ (oR nd f) (fun k v hk => (fp.sound k v hk).nonneg hL) wZ hk
theorem vp {cs : C7 γ α} (nd : (cs.map (·.1)).Nodup) (hE : Tells E cs) {f : Mp α} (h : iP E e (cs.map (·.1)) f) (hq : eqB (oneMore cs f) f = true) : mJ E f := by
 intro s m b v hs hb
 obtain ⟨c, hc, rfl, g, hg⟩ := (hE s m b).mp hs
 have same := AK (lQ nd hE h).nd hq c.1
 have mm : m + v ∈ ge f c := o6.mpr (.inl ⟨_, hg, v, hb, rfl⟩)
 unfold oneMore at same
 rw [ll cs f nd c hc, if_neg (List.ne_nil_of_mem mm)] at same
 exact ⟨_, same.symm, sE mm⟩
end
end
end Sh
namespace FN
open PySem L2 PyProof.Rows
theorem kq : ∀ {l1 l2 : List Int}, l1.Pairwise (· < ·) -> l2.Pairwise (· < ·) -> (∀ x, x ∈ l1 ↔ x ∈ l2) -> l1 = l2
 | [], [], _, _, _ => rfl
 | [], b :: r, _, _, h => absurd ((h b).mpr S0) (by simp)
 | a :: l, [], _, _, h => absurd ((h a).mp S0) (by simp)
 | a :: l, b :: r, h1, h2, h => by
  obtain ⟨ha, hl⟩ := T0.mp h1
  obtain ⟨hb, hr⟩ := T0.mp h2
  have e : a = b := by
   rcases S2.mp ((h a).mp S0) with e | e
   ·exact e
   ·rcases S2.mp ((h b).mpr S0) with e' | e'
    ·exact e'.symm
    ·have z1 := hb a e
     have z2 := ha b e'
     omega
  subst e
  have t : l = r := by
   refine kq hl hr fun x => ⟨fun hx => ?_, fun hx => ?_⟩
   ·rcases S2.mp ((h x).mp (SY _ hx)) with e | e
    ·have := ha x hx; omega
    ·exact e
   ·rcases S2.mp ((h x).mpr (SY _ hx)) with e | e
    ·have := hb x hx; omega
    ·exact e
  rw [t]
def m4 (g : List Int) : Bool := ((g.zip (g.drop 1)).map fun p => decide (p.1 < p.2)).all id
theorem n6 (a b : Int) (r : List Int) : m4 (a :: b :: r) = (decide (a < b) && m4 (b :: r)) := rfl
theorem uN : ∀ {g : List Int}, m4 g = true -> g.Pairwise (· < ·)
 | [], _ => .nil
 | [a], _ => by simp
 | a :: b :: r, h => by
  rw [n6, TK] at h
  have GK : a < b := Tt h.1
  have ih := uN h.2
  refine T0.mpr ⟨fun x hx => ?_, ih⟩
  rcases S2.mp hx with e | e
  ·rw [e]; exact GK
  ·exact Int.lt_trans GK ((T0.mp ih).1 x e)
theorem pw_rises : ∀ {g : List Int}, g.Pairwise (· < ·) -> m4 g = true
 | [], _ => rfl
 | [a], _ => rfl
 | a :: b :: r, h => by
  obtain ⟨ha, hr⟩ := T0.mp h
  rw [n6, pw_rises hr, S9 (ha b S0)]
  rfl
theorem fI : ∀ n, (bn n).Pairwise (· < ·)
 | 0 => .nil
 | n + 1 => by
  rw [cQ]
  refine Tj.mpr ⟨fI n, by simp, fun a ha b hb => ?_⟩
  rw [TB.mp hb]
  exact (cE.mp ha).2
theorem eP {l : List Int} (p : Int -> Bool) (h : l.Pairwise (· < ·)) : (l.filter p).Pairwise (· < ·) := List.Pairwise.sublist Vz h
theorem contains_iff {g : List Int} {t : Int} : g.contains t = true ↔ t ∈ g := List.contains_iff_mem
theorem snoc_ind {M : List Int -> Prop} (nil : M []) (snoc : ∀ l t, M l -> M (l ++ [t])) (l : List Int) : M l := by
 have go : ∀ r : List Int, M r.reverse := fun r => by
  induction r with
  | nil => exact nil
  | cons a r ih => rw [List.reverse_cons]; exact snoc _ _ ih
 have := go l.reverse
 rwa [List.reverse_reverse] at this
def ip (jQ : List Int) : List (List Int) := jQ.foldl (fun gs t => gs ++ gs.map (· ++ [t])) [[]]
theorem fP (l : List Int) (t : Int) : ip (l ++ [t]) = ip l ++ (ip l).map (· ++ [t]) := by
 unfold ip
 rw [List.foldl_append]
 rfl
theorem xz (l : List Int) : [] ∈ ip l := by
 induction l using snoc_ind with
 | nil => exact TB.mpr rfl
 | snoc l t ih => rw [fP]; exact Uz _ ih
theorem io (l : List Int) : (ip l).length = 2 ^ l.length := by
 induction l using snoc_ind with
 | nil => rfl
 | snoc l t ih => rw [fP, Tq, SW, ih, Tq, List.length_singleton, Nat.pow_succ]; omega
theorem gi {l c : List Int} (h : c ∈ ip l) : c.Sublist l := by
 induction l using snoc_ind generalizing c with
 | nil => rw [TB.mp h]; exact .slnil
 | snoc l t ih =>
  rw [fP] at h
  rcases Ts.mp h with z | z
  ·exact (ih z).trans (List.sublist_append_left _ _)
  ·obtain ⟨c', h1, rfl⟩ := TD.mp z
   exact (ih h1).append (List.Sublist.refl _)
theorem gJ : ∀ (k : Nat) (t num : Int), bY (k + 1) t num = bY k t num ++ (if num / 2 ^ k % 2 = 1 then [t + k] else [])
 | 0, t, num => by
  show (if num % 2 = 1 then [t] else []) ++ [] = [] ++ (if num / 2 ^ 0 % 2 = 1 then [t + ((0 : Nat) : Int)] else [])
  simp
 | k + 1, t, num => by
  show (if num % 2 = 1 then [t] else []) ++ bY (k + 1) (t + 1) (num / 2) = ((if num % 2 = 1 then [t] else []) ++ bY k (t + 1) (num / 2)) ++ _
  rw [gJ k (t + 1) (num / 2), Tf]
  have e1 : num / 2 / 2 ^ k = num / 2 ^ (k + 1) := by
   rw [Int.ediv_ediv_of_nonneg (by decide : (0 : Int) <= 2), Int.pow_succ, Int.mul_comm]
  have e2 : t + 1 + (k : Int) = t + ((k + 1 : Nat) : Int) := by omega
  rw [e1, e2]
theorem lK : ∀ (k : Nat) (t num j : Int), bY k t (num + 2 ^ k * j) = bY k t num
 | 0, _, _, _ => rfl
 | k + 1, t, num, j => by
  have e : num + 2 ^ (k + 1) * j = num + 2 * (2 ^ k * j) := by rw [Int.pow_succ, Int.mul_comm (2 ^ k) 2, Int.mul_assoc]
  have e1 : (num + 2 ^ (k + 1) * j) % 2 = num % 2 := by rw [e]; omega
  have e2 : (num + 2 ^ (k + 1) * j) / 2 = num / 2 + 2 ^ k * j := by rw [e]; omega
  show (if (num + 2 ^ (k + 1) * j) % 2 = 1 then [t] else []) ++ bY k (t + 1) ((num + 2 ^ (k + 1) * j) / 2) = (if num % 2 = 1 then [t] else []) ++ bY k (t + 1) (num / 2)
  rw [e1, e2, lK k]
theorem uJ (n : Nat) : bn (n + n) = bn n ++ (bn n).map (fun t => (n : Int) + t) := by
 unfold bn
 apply List.ext_getElem?
 intro i
 by_cases h : i < n
 ·rw [Ur (by simpa using h)]
  simp [h, show i < n + n by omega]
 ·rw [TW (by simpa using Nat.le_of_not_lt h)]
  by_cases h2 : i < n + n
  ·simp [h2, show i - n < n by omega]
   omega
  ·simp [h2, show ¬ i - n < n by omega]
theorem u8 (n : Nat) : groups (n + 1) = groups n ++ (groups n).map (· ++ [(n : Int)]) := by
 unfold groups
 have e : 2 ^ (n + 1) = 2 ^ n + 2 ^ n := by rw [Nat.pow_succ]; omega
 rw [e, uJ, S4, TN]
 have pos : (0 : Int) < 2 ^ n := by
  have := Nat.two_pow_pos n
  have e : ((2 ^ n : Nat) : Int) = (2 : Int) ^ n := by simp
  omega
 have ec : ((2 ^ n : Nat) : Int) = (2 : Int) ^ n := by simp
 congr 1
 ·refine Vx fun t ht => ?_
  obtain ⟨h0, h1⟩ := cE.mp ht
  rw [ec] at h1
  unfold bits
  rw [gJ, Int.ediv_eq_zero_of_lt h0 h1]
  simp
 ·rw [TN]
  refine Vx fun t ht => ?_
  obtain ⟨h0, h1⟩ := cE.mp ht
  show bits (n + 1) (((2 ^ n : Nat) : Int) + t) = bits n t ++ [(n : Int)]
  rw [ec] at h1 ⊢
  unfold bits
  have e1 : (2 : Int) ^ n + t = t + 2 ^ n * 1 := by omega
  rw [gJ, e1, lK]
  have e2 : (t + 2 ^ n * 1) / 2 ^ n = 1 := by
   rw [Int.add_mul_ediv_left _ _ (by omega), Int.ediv_eq_zero_of_lt h0 h1]
   rfl
  rw [e2]
  simp
theorem c9 (p : Int -> Bool) : ∀ n, (groups n).filter (fun c => c.all p) = ip ((bn n).filter p)
 | 0 => rfl
 | n + 1 => by
  rw [u8, Tv, c9 p n, cQ, Tv, List.filter_map]
  have key : ∀ (b : Bool), p n = b -> ((groups n).filter ((fun c => c.all p) ∘ (· ++ [(n : Int)]))) = if b then ip ((bn n).filter p) else [] := fun b hb => by
   cases b with
   | true =>
    rw [if_pos rfl, <- c9 p n]
    refine List.filter_congr fun c _ => ?_
    show (c ++ [(n : Int)]).all p = c.all p
    simp [hb]
   | false =>
    rw [if_neg (by simp), List.filter_eq_nil_iff]
    intro c _
    show ¬ (c ++ [(n : Int)]).all p = true
    simp [hb]
  cases hb : p n with
  | true =>
   rw [key true hb, if_pos rfl]
   have e : [(n : Int)].filter p = [(n : Int)] := by simp [hb]
   rw [e, fP]
  | false =>
   rw [key false hb, if_neg (by simp)]
   have e : [(n : Int)].filter p = [] := by simp [hb]
   rw [e]
   simp
abbrev bc := List Int × Int
def Ju (n : Nat) (t : Int) : Bool := decide (0 <= t /\ t < (n : Int))
def cZ (n : Nat) (st : bc) : Bool := (decide (st.2 = 0) || decide (st.2 = 1)) && (m4 st.1 && st.1.all (Ju n))
def jz (st : bc) : PyData := .tuple [i6 st.1, .int st.2]
def restOf (n : Nat) (g : List Int) : List Int := (bn n).filter fun t => !g.contains t
def be (qs : List Qu) (n : Nat) (g : List Int) : Bool := gb qs g && gb qs (restOf n g)
def aN (n : Nat) (st : bc) : List Int := if st.2 = 0 then st.1 else restOf n st.1
def eG (ts : List Th) (t : Int) : Bool := (ts.getD t.toNat (0, false)).2
def iD (ts : List Th) (t : Int) : Int := (ts.getD t.toNat (0, false)).1
def dB (ts : List Th) (r : Int) (c : List Int) : Bool := decide (1 <= (c.length : Int) /\ (c.length : Int) <= r) && c.any (eG ts)
def behind (n : Nat) (st : bc) (c : List Int) : bc := if st.2 = 0 then (st.1.filter fun t => !c.contains t, 1) else ((bn n).filter fun t => st.1.contains t || c.contains t, 0)
def dS (ts : List Th) (r : Int) (qs : List Qu) (st : bc) : List (List Int) := ((ip (aN ts.length st)).filter (dB ts r)).filter fun c => be qs ts.length (behind ts.length st c).1
def eg (ts : List Th) (r : Int) (qs : List Qu) (st : bc) : List (List Int) := yx (dS ts r qs st)
def a9 (ts : List Th) (c : List Int) : Int := wv (c.map (iD ts))
theorem fN {n : Nat} {st : bc} (h : cZ n st = true) : st.1.Pairwise (· < ·) /\ (∀ t ∈ st.1, 0 <= t /\ t < (n : Int)) /\ (st.2 = 0 \/ st.2 = 1) := by
 unfold cZ at h
 rw [TK, TK, Bool.or_eq_true] at h
 refine ⟨uN h.2.1, fun t ht => Tt (Ub.mp h.2.2 t ht), h.1.imp Tt Tt⟩
theorem r8 {n : Nat} {st : bc} (h1 : st.1.Pairwise (· < ·)) (h2 : ∀ t ∈ st.1, 0 <= t /\ t < (n : Int)) (h3 : st.2 = 0 \/ st.2 = 1) : cZ n st = true := by
 unfold cZ
 have e : st.1.all (Ju n) = true := Ub.mpr fun t ht => S9 (h2 t ht)
 rw [pw_rises h1, e]
 rcases h3 with e | e <;> simp [e]
theorem fU {n : Nat} {g : List Int} (h1 : g.Pairwise (· < ·)) (h2 : ∀ t ∈ g, 0 <= t /\ t < (n : Int)) : (bn n).filter (fun t => g.contains t) = g := by
 refine kq (eP _ (fI n)) h1 fun x => ?_
 rw [TH, contains_iff, cE]
 exact ⟨fun h => h.2, fun h => ⟨h2 x h, h⟩⟩
theorem gp {n : Nat} {st : bc} (h : cZ n st = true) : (bn n).filter (fun t => (aN n st).contains t) = aN n st := by
 obtain ⟨h1, h2, _⟩ := fN h
 unfold aN
 split
 ·exact fU h1 h2
 ·exact fU (eP _ (fI n)) fun t ht => cE.mp (TH.mp ht).1
theorem lI {n : Nat} {st : bc} (h : cZ n st = true) {t : Int} (ht : t ∈ aN n st) : 0 <= t /\ t < (n : Int) := by
 rw [<- gp h] at ht
 exact cE.mp (TH.mp ht).1
theorem DH {n : Nat} {st : bc} (h : cZ n st = true) : (aN n st).Pairwise (· < ·) := by
 rw [<- gp h]; exact eP _ (fI n)
theorem fg {n : Nat} {st : bc} (h : cZ n st = true) : (aN n st).length <= n := by
 rw [<- gp h]
 exact S8 (Tr _ _) (by rw [aO]; exact SX _)
def m9 (ts : List Th) (r : Int) (qs : List Qu) (st : bc) (c : List Int) : Bool :=
 (decide (1 <= (c.length : Int) /\ (c.length : Int) <= r) && decide ((c.filter fun t => !(aN ts.length st).contains t) = [])) && (decide ((c.filter (eG ts)) ≠ []) && be qs ts.length (behind ts.length st c).1)
def Aq (ts : List Th) (r : Int) (qs : List Qu) (st : bc) : List (List Int) := (groups ts.length).filter (m9 ts r qs st)
theorem yP {ts : List Th} {r : Int} {qs : List Qu} {st : bc} (h : cZ ts.length st = true) : Aq ts r qs st = dS ts r qs st := by
 unfold Aq dS
 have e : ip (aN ts.length st) = (groups ts.length).filter fun c => c.all fun t => (aN ts.length st).contains t := by rw [c9, gp h]
 rw [e, List.filter_filter, List.filter_filter]
 refine List.filter_congr fun c _ => ?_
 unfold m9
 have e1 : decide ((c.filter fun t => !(aN ts.length st).contains t) = []) = c.all fun t => (aN ts.length st).contains t := by
  rw [Vi, decide_eq_true_eq, List.filter_eq_nil_iff, Ub]
  constructor
  ·intro z t ht
   have := z t ht
   simpa using this
  ·intro z t ht
   have := z t ht
   simpa using this
 have e2 : decide ((c.filter (eG ts)) ≠ []) = c.any (eG ts) := by
  rw [Vi, decide_eq_true_eq, Ne, List.filter_eq_nil_iff, List.any_eq_true]
  constructor
  ·intro z
   by_cases hh : ∃ x, x ∈ c /\ eG ts x = true
   ·exact hh
   ·exact absurd (fun a ha hr => hh ⟨a, ha, hr⟩) z
  ·rintro ⟨x, hx, hr⟩ z
   exact z x hx hr
 rw [e1, e2]
 unfold dB
 cases decide (1 <= (c.length : Int) /\ (c.length : Int) <= r) <;> cases (c.all fun t => (aN ts.length st).contains t) <;> cases c.any (eG ts) <;> cases be qs ts.length (behind ts.length st c).1 <;> rfl
theorem kG {ts : List Th} {r : Int} {qs : List Qu} {st : bc} (h : cZ ts.length st = true) (h6 : ts.length <= 6) : ((ip (aN ts.length st)).filter (dB ts r)).length < 64 := by
 have hb := fg h
 have Qr : (ip (aN ts.length st)).length <= 64 := by
  rw [io]
  exact S8 (UO (by decide) (S8 hb h6)) (by decide)
 have gc : ((ip (aN ts.length st)).filter (dB ts r)).length < (ip (aN ts.length st)).length :=
  List.length_filter_lt_length_iff_exists.mpr ⟨[], xz _, by simp [dB]⟩
 omega
theorem qx {ts : List Th} {r : Int} {c : List Int} (h : dB ts r c = true) : c ≠ [] := by
 intro e
 rw [e] at h
 simp [dB] at h
theorem l5 {l : List Int} (h : l.Nodup) : (ip l).Nodup := by
 induction l using snoc_ind with
 | nil => simp [ip]
 | snoc l t ih =>
  rw [List.nodup_append] at h
  rw [fP, List.nodup_append]
  refine ⟨ih h.1, ?_, fun a ha b hb e => ?_⟩
  ·show ((ip l).map (· ++ [t])).Pairwise (· ≠ ·)
   rw [T6]
   exact (ih h.1).imp fun ne e => ne (List.append_cancel_right e)
  ·obtain ⟨c, hc, rfl⟩ := TD.mp hb
   have : t ∈ a := by rw [e]; simp
   exact h.2.2 t ((gi ha).subset this) t (by simp) rfl
theorem pH (n : Nat) : (bn n).Nodup := (fI n).imp fun h => Int.ne_of_lt h
theorem vx {n : Nat} {st : bc} (h : cZ n st = true) : (aN n st).Nodup := (DH h).imp fun h => Int.ne_of_lt h
theorem qy {ts : List Th} {r : Int} {qs : List Qu} {st : bc} (h : cZ ts.length st = true) : (dS ts r qs st).Nodup := ((l5 (vx h)).sublist Vz).sublist Vz
theorem AE {α : Type} {lt : α -> α -> Bool} (ME : ∀ a, lt a a = false) (tr : ∀ {a b c}, lt a b = true -> lt b c = true -> lt a c = true) : ∀ {l m : List α}, l.Pairwise (fun x y => lt x y = true) -> m.Pairwise (fun x y => lt x y = true) -> (∀ x, x ∈ l ↔ x ∈ m) -> l = m
 | [], [], _, _, _ => rfl
 | [], b :: r, _, _, h => absurd ((h b).mpr S0) (by simp)
 | a :: l, [], _, _, h => absurd ((h a).mp S0) (by simp)
 | a :: l, b :: r, h1, h2, h => by
  obtain ⟨ha, hl⟩ := T0.mp h1
  obtain ⟨hb, hr⟩ := T0.mp h2
  have no : ∀ {x : α}, lt x x = true -> False := fun z => by rw [ME] at z; cases z
  have e : a = b := by
   rcases S2.mp ((h a).mp S0) with e | e
   ·exact e
   ·rcases S2.mp ((h b).mpr S0) with e' | e'
    ·exact e'.symm
    ·exact (no (tr (hb a e) (ha b e'))).elim
  subst e
  have t : l = r := by
   refine AE ME tr hl hr fun x => ⟨fun hx => ?_, fun hx => ?_⟩
   ·rcases S2.mp ((h x).mp (SY _ hx)) with e | e
    ·have := ha x hx; rw [e] at this; exact (no this).elim
    ·exact e
   ·rcases S2.mp ((h x).mpr (SY _ hx)) with e | e
    ·have := hb x hx; rw [e] at this; exact (no this).elim
    ·exact e
  rw [t]
theorem Dj {l c : List Int} (h : c.Sublist l) : c ∈ ip l := by
 induction l using snoc_ind generalizing c with
 | nil => rw [List.sublist_nil.mp h]; exact TB.mpr rfl
 | snoc l t ih =>
  obtain ⟨c1, c2, rfl, h1, h2⟩ := List.sublist_append_iff.mp h
  rw [fP, Ts]
  cases h2 with
  | cons _ z => rw [List.sublist_nil.mp z, VG]; exact .inl (ih h1)
  | cons_cons _ z => rw [List.sublist_nil.mp z]; exact .inr (TD.mpr ⟨c1, ih h1, rfl⟩)
theorem fX (n : Nat) : groups n = ip (bn n) := by
 have := c9 (fun _ => true) n
 rw [List.filter_eq_self.mpr (by intro a _; simp), List.filter_eq_self.mpr (by intro a _; rfl)] at this
 exact this
theorem nW {n : Nat} {g : List Int} : g ∈ groups n ↔ g.Pairwise (· < ·) /\ ∀ t ∈ g, 0 <= t /\ t < (n : Int) := by
 rw [fX]
 constructor
 ·intro h
  have s := gi h
  exact ⟨List.Pairwise.sublist s (fI n), fun t ht => cE.mp (s.subset ht)⟩
 ·rintro ⟨h1, h2⟩
  refine Dj ?_
  rw [<- fU h1 h2]
  exact Vz
theorem kJ (n : Nat) : (groups n).Nodup := by rw [fX]; exact l5 (pH n)
def sw (st : bc) : Int × List Int := (st.2, st.1)
def xb (qs : List Qu) (n : Nat) : List (List Int) := yx ((groups n).filter (be qs n))
def bB (qs : List Qu) (n : Nat) : List bc := (xb qs n).map (fun g => (g, 0)) ++ (xb qs n).map fun g => (g, 1)
def oK (qs : List Qu) (n : Nat) : List bc := ((ip (bn n)).flatMap fun g => [(g, 0), (g, 1)]).filter fun st => be qs n st.1
theorem jA {qs : List Qu} {n : Nat} {g : List Int} : g ∈ xb qs n ↔ g ∈ groups n /\ be qs n g = true := by
 unfold xb
 rw [(hU _).mem_iff, TH]
theorem oJ (qs : List Qu) (n : Nat) : (xb qs n).Pairwise fun g k => HT.lexLt g k = true := uO ((kJ n).sublist Vz)
theorem ph {qs : List Qu} {n : Nat} {st : bc} : st ∈ bB qs n ↔ st.1 ∈ groups n /\ be qs n st.1 = true /\ (st.2 = 0 \/ st.2 = 1) := by
 unfold bB
 rw [Ts, TD, TD]
 constructor
 ·rintro (⟨g, hg, rfl⟩ | ⟨g, hg, rfl⟩)
  ·exact ⟨(jA.mp hg).1, (jA.mp hg).2, .inl rfl⟩
  ·exact ⟨(jA.mp hg).1, (jA.mp hg).2, .inr rfl⟩
 ·obtain ⟨g, sd⟩ := st
  rintro ⟨h1, h2, h3 | h3⟩
  ·have h3 : sd = 0 := h3
   subst h3; exact .inl ⟨g, jA.mpr ⟨h1, h2⟩, rfl⟩
  ·have h3 : sd = 1 := h3
   subst h3; exact .inr ⟨g, jA.mpr ⟨h1, h2⟩, rfl⟩
theorem yc {qs : List Qu} {n : Nat} {st : bc} : st ∈ oK qs n ↔ st.1 ∈ groups n /\ be qs n st.1 = true /\ (st.2 = 0 \/ st.2 = 1) := by
 unfold oK
 rw [TH, List.mem_flatMap, fX]
 constructor
 ·rintro ⟨⟨g, hg, hs⟩, h2⟩
  rcases S2.mp hs with rfl | hs
  ·exact ⟨hg, h2, .inl rfl⟩
  ·rw [TB.mp hs] at h2 ⊢
   exact ⟨hg, h2, .inr rfl⟩
 ·obtain ⟨g, sd⟩ := st
  rintro ⟨h1, h2, h3⟩
  refine ⟨⟨g, h1, ?_⟩, h2⟩
  rcases h3 with h3 | h3
  ·have h3 : sd = 0 := h3
   subst h3; exact S0
  ·have h3 : sd = 1 := h3
   subst h3; exact SY _ S0
theorem mW (qs : List Qu) (n : Nat) : (bB qs n).Pairwise fun a b => aS (sw a) (sw b) = true := by
 unfold bB
 rw [Tj, T6, T6]
 refine ⟨(oJ qs n).imp fun h => ?_, (oJ qs n).imp fun h => ?_, fun a ha b hb => ?_⟩
 ·unfold aS sw; rw [if_pos rfl]; exact h
 ·unfold aS sw; rw [if_pos rfl]; exact h
 ·obtain ⟨g, _, rfl⟩ := TD.mp ha
  obtain ⟨k, _, rfl⟩ := TD.mp hb
  rfl
theorem o9 (qs : List Qu) (n : Nat) : (bB qs n).Nodup := (mW qs n).imp fun h e => by rw [e, mi] at h; cases h
theorem Gg {a b : bc} (h : sw a = sw b) : a = b := by
 unfold sw at h
 injection h with h1 h2
 exact Prod.ext h2 h1
theorem uc (qs : List Qu) (n : Nat) : ((oK qs n).map sw).Nodup := by
 have nd : (oK qs n).Nodup := by
  unfold oK
  refine List.Nodup.sublist Vz ?_
  show List.Pairwise _ _
  rw [List.pairwise_flatMap]
  refine ⟨fun g _ => ?_, (l5 (pH n)).imp fun {a b} ne x hx y hy e => ne ?_⟩
  ·simp
  ·have e1 : x.1 = a := by
    rcases S2.mp hx with rfl | hx
    ·rfl
    ·rw [TB.mp hx]
   have e2 : y.1 = b := by
     rcases S2.mp hy with rfl | hy
     ·rfl
     ·rw [TB.mp hy]
   rw [<- e1, <- e2, e]
 show List.Pairwise _ _
 rw [T6]
 exact nd.imp fun ne e => ne (Gg e)
theorem tJ {qs : List Qu} {n : Nat} {l : List bc} (hp : l.Perm (oK qs n)) (hs : l.Pairwise fun a b => aS (sw a) (sw b) = true) : l = bB qs n :=
 AE (lt := fun a b => aS (sw a) (sw b)) (fun a => mi _) (fun h1 h2 => nY h1 h2) hs (mW qs n) fun x => by rw [hp.mem_iff, yc, ph]
theorem fF {qs : List Qu} {n : Nat} {st : bc} (h : st ∈ bB qs n) : cZ n st = true /\ be qs n st.1 = true := by
 obtain ⟨h1, h2, h3⟩ := ph.mp h
 obtain ⟨h4, h5⟩ := nW.mp h1
 exact ⟨r8 h4 h5 h3, h2⟩
theorem De {qs : List Qu} {n : Nat} {st : bc} (h : cZ n st = true) (hg : be qs n st.1 = true) : st ∈ bB qs n := by
 obtain ⟨h1, h2, h3⟩ := fN h
 exact ph.mpr ⟨nW.mpr ⟨h1, h2⟩, hg, h3⟩
theorem jd (qs : List Qu) {n : Nat} (h6 : n <= 6) : (bB qs n).length <= 128 := by
 unfold bB
 rw [Tq, SW, SW]
 have : (xb qs n).length <= 64 := by
  unfold xb
  rw [(hU _).length_eq]
  refine S8 (Tr _ _) ?_
  rw [fX, io, aO]
  exact S8 (UO (by decide) h6) (by decide)
 omega
theorem yy (qs : List Qu) {n : Nat} (h6 : n <= 6) : ((ip (bn n)).flatMap fun g => [((g, 0) : bc), (g, 1)]).length <= 128 := by
 have l : (ip (bn n)).length <= 64 := by
  rw [io, aO]
  exact S8 (UO (by decide) h6) (by decide)
 have : ∀ gs : List (List Int), (gs.flatMap fun g => [((g, 0) : bc), (g, 1)]).length = 2 * gs.length := fun gs => by
  induction gs with
  | nil => rfl
  | cons g gs ih => rw [List.flatMap_cons, Tq, ih]; simp; omega
 rw [this]; omega
theorem lD : ∀ (k m : Nat) {g : List Int}, g.Pairwise (· < ·) -> (∀ t ∈ g, (m : Int) <= t /\ t < (m : Int) + k) -> g ∈ subs k m
 | 0, m, g, _, h => by
  cases g with
  | nil => exact TB.mpr rfl
  | cons a g => have := h a S0; omega
 | k + 1, m, g, hp, h => by
  show g ∈ subs k (m + 1) ++ (subs k (m + 1)).map fun g => (m : Int) :: g
  rw [Ts]
  cases g with
  | nil => exact .inl (lD k (m + 1) .nil (fun t ht => by cases ht))
  | cons a g =>
   obtain ⟨h1, h2⟩ := T0.mp hp
   by_cases e : a = (m : Int)
   ·refine .inr (TD.mpr ⟨g, lD k (m + 1) h2 fun t ht => ?_, by rw [e]⟩)
    have := h1 t ht
    have := h t (SY _ ht)
    omega
   ·refine .inl (lD k (m + 1) hp fun t ht => ?_)
    have ha := h a S0
    have NG := h t ht
    rcases S2.mp ht with rfl | ht
    ·omega
    ·have := h1 t ht; omega
theorem A8 {n : Nat} {st : bc} (h : cZ n st = true) (h6 : n <= 6) : st ∈ fm := by
 obtain ⟨h1, h2, h3⟩ := fN h
 refine List.mem_flatMap.mpr ⟨st.1, lD 6 0 h1 fun t ht => ?_, ?_⟩
 ·have := h2 t ht; omega
 ·obtain ⟨g, sd⟩ := st
  rcases h3 with h3 | h3
  ·have h3 : sd = 0 := h3
   subst h3; exact S0
  ·have h3 : sd = 1 := h3
   subst h3; exact SY _ S0
abbrev Wy := List Int × Int × bc
def gR (ts : List Th) (r : Int) (qs : List Qu) (st : bc) : List Wy := (eg ts r qs st).map fun c => (c, a9 ts c, behind ts.length st c)
def cc (ts : List Th) (r : Int) (qs : List Qu) : List (bc × List Wy) := (bB qs ts.length).map fun st => (st, gR ts r qs st)
def dA (ts : List Th) (r : Int) (qs : List Qu) (st : bc) : List (Sh.qK bc) := (eg ts r qs st).map fun c => (st, a9 ts c, behind ts.length st c)
def aU (ts : List Th) (r : Int) (qs : List Qu) : List (Sh.qK bc) := (bB qs ts.length).flatMap (dA ts r qs)
def jS (ts : List Th) (r : Int) (qs : List Qu) (s : bc) (m : Int) (b : bc) : Prop := s ∈ bB qs ts.length /\ ∃ c ∈ eg ts r qs s, m = a9 ts c /\ b = behind ts.length s c
def bH : bc := ([], 1)
theorem jB {ts : List Th} {r : Int} {qs : List Qu} {st : bc} {c : List Int} (h : c ∈ eg ts r qs st) : c.Sublist (aN ts.length st) /\ c ≠ [] /\ be qs ts.length (behind ts.length st c).1 = true := by
 have h1 := (hU (dS ts r qs st)).mem_iff.mp h
 obtain ⟨h2, h3⟩ := TH.mp h1
 obtain ⟨h4, h5⟩ := TH.mp h2
 exact ⟨gi h4, qx h5, h3⟩
theorem u0 {n : Nat} {st : bc} {c : List Int} (h : cZ n st = true) : cZ n (behind n st c) = true := by
 obtain ⟨h1, h2, _⟩ := fN h
 unfold behind
 split
 ·exact r8 (eP _ h1) (fun t ht => h2 t (TH.mp ht).1) (.inr rfl)
 ·exact r8 (eP _ (fI n)) (fun t ht => cE.mp (TH.mp ht).1) (.inl rfl)
section
variable {ts : List Th} {r : Int} {qs : List Qu}
theorem uD {st : bc} {c : List Int} (h : st ∈ bB qs ts.length) (hc : c ∈ eg ts r qs st) : behind ts.length st c ∈ bB qs ts.length := De (u0 (fF h).1) (jB hc).2.2
theorem Dw {s b : bc} {m : Int} (h : jS ts r qs s m b) : b ∈ bB qs ts.length := by
 obtain ⟨h1, c, h2, _, rfl⟩ := h
 exact uD h1 h2
theorem tells : Sh.Tells (jS ts r qs) (cc ts r qs) := by
 intro s m b
 constructor
 ·rintro ⟨h1, c, h2, rfl, rfl⟩
  exact ⟨(s, gR ts r qs s), TD.mpr ⟨s, h1, rfl⟩, rfl, c, TD.mpr ⟨c, h2, rfl⟩⟩
 ·rintro ⟨c, hc, rfl, g, hg⟩
  obtain ⟨st, h1, rfl⟩ := TD.mp hc
  obtain ⟨c, h2, e⟩ := TD.mp hg
  injection e with e1 e2
  injection e2 with e2 e3
  exact ⟨h1, c, h2, e2.symm, e3.symm⟩
theorem fc : (cc ts r qs).map (·.1) = bB qs ts.length := by
 unfold cc
 rw [TN]
 exact List.map_id' _
theorem mI {t : Sh.qK bc} : t ∈ aU ts r qs ↔ jS ts r qs t.1 t.2.1 t.2.2 := by
 unfold aU dA
 rw [List.mem_flatMap]
 constructor
 ·rintro ⟨st, h1, h2⟩
  obtain ⟨c, h3, rfl⟩ := TD.mp h2
  exact ⟨h1, c, h3, rfl, rfl⟩
 ·obtain ⟨s, m, b⟩ := t
  rintro ⟨h1, c, h2, e1, e2⟩
  exact ⟨s, h1, TD.mpr ⟨c, h2, by rw [show m = _ from e1, show b = _ from e2]⟩⟩
theorem tV (ok : C0 ts) {c : List Int} (hc : c ≠ []) (tw : ∀ t ∈ c, 0 <= t /\ t < (ts.length : Int)) : 1 <= a9 ts c /\ a9 ts c <= 1000000000 := by
 have m := Bd (ns := c.map (iD ts)) (fun z => hc (List.map_eq_nil_iff.mp z))
 obtain ⟨t, ht, e⟩ := TD.mp m
 obtain ⟨h0, h1⟩ := tw t ht
 have hj : t.toNat < ts.length := by omega
 have e2 : iD ts t = ts[t.toNat].1 := by
  unfold iD
  rw [Tg, S1 hj]
  rfl
 have := ok.p _ (UK hj)
 show 1 <= wv _ /\ wv _ <= 1000000000
 rw [<- e, e2]
 exact this
theorem later (ok : C0 ts) : Sh.Later (jS ts r qs) := by
 rintro s m b ⟨h1, c, h2, rfl, rfl⟩
 obtain ⟨h3, h4, _⟩ := jB h2
 exact (tV ok h4 fun t ht => lI (fF h1).1 (h3.subset ht)).1
structure Mq (ts : List Th) (r : Int) (qs : List Qu) (f : Sh.Mp bc) : Prop where
 yes : bH ∈ bB qs ts.length -> Sh.iP (jS ts r qs) bH (bB qs ts.length) f /\ Sh.mJ (jS ts r qs) f
 no : bH ∉ bB qs ts.length -> f = []
structure Kn (ts : List Th) (r : Int) (qs : List Qu) (f : Sh.Mp bc) : Prop where
 nF : Sh.iP (jS ts r qs) bH (bB qs ts.length) f
 closed : Sh.mJ (jS ts r qs) f
theorem AX {s : bc} {v : Int} (h : Sh.Walk (jS ts r qs) bH s v) : s ∈ bB qs ts.length -> bH ∈ bB qs ts.length := by
 induction h with
 | nil => exact fun h => h
 | cons h _ ih => exact fun _ => ih (Dw h)
theorem EW {f g : Sh.Mp bc} (hf : Mq ts r qs f) (hg : Kn ts r qs g) {s : bc} (hs : s ∈ bB qs ts.length) : Sh.lk f s = Sh.lk g s := by
 by_cases e : bH ∈ bB qs ts.length
 ·obtain ⟨h1, h2⟩ := hf.yes e
  exact Sh.agree h1.sound h2 h1.base hg.nF.sound hg.closed hg.nF.base s
 ·rw [hf.no e]
  cases q : Sh.lk g s with
  | none => rfl
  | some v => exact absurd (AX (hg.nF.sound s v q) hs) e
theorem qY {s : bc} (h : s ∈ (aU ts r qs).map (·.1)) : s ∈ bB qs ts.length := by
 obtain ⟨t, ht, rfl⟩ := TD.mp h
 exact (mI.mp ht).1
theorem IG {f : Sh.Mp bc} (h : Sh.iP (jS ts r qs) bH ((aU ts r qs).map (·.1)) f) (hp : (Sh.pass (aU ts r qs) f).2 = false) : Kn ts r qs f where
 nF := ⟨h.sound, h.nd, h.base, fun k hk => (h.keys k hk).imp id qY⟩
 closed := fun s m b v he hb => (Sh.qL hp).2 (s, m, b) (mI.mpr he) v hb
end
def top (i : Nat) : Stmt := PySem.Challenge.pw_ferrynight_k05_whole_heights_of_all_stan.main.body.getD i (.Pass ⟨0, 0, 0, 0⟩)
abbrev cJ : Stmt := top 13
abbrev dM : Stmt := top 14
abbrev cw : Stmt := top 15
abbrev fM : Stmt := top 16
abbrev dI : Stmt := top 17
abbrev ci : Stmt := top 18
abbrev cO : Stmt := inClass (top 19) 0
abbrev bz : Stmt := inClass (top 19) 1
abbrev fC : Stmt := inClass (top 19) 2
abbrev cG : Stmt := inClass (top 19) 4
abbrev fG : Stmt := inClass (top 19) 5
abbrev di : Stmt := inClass (top 19) 6
abbrev lj : Stmt := top 22
abbrev eZ : Stmt := top 23
abbrev dP : Stmt := top 24
abbrev jx : Stmt := top 25
abbrev eJ : Stmt := top 26
abbrev gT : Stmt := top 27
abbrev gx : Stmt := top 28
abbrev fS : Stmt := top 29
abbrev iT : Stmt := top 30
abbrev jw : Stmt := top 31
abbrev sJ : Stmt := top 32
abbrev jI : Stmt := top 33
abbrev gZ : Stmt := top 35
abbrev cL : Stmt := top 36
abbrev fu : Stmt := top 37
abbrev fO : Stmt := top 38
abbrev dk : Stmt := top 39
abbrev cj : Stmt := top 40
abbrev jK : Stmt := top 41
abbrev bS : Stmt := top 43
abbrev cP : Stmt := top 44
abbrev ce : Stmt := top 45
abbrev cy : Stmt := top 46
abbrev de : Stmt := top 47
abbrev cU : Stmt := top 48
abbrev dW : Stmt := top 49
abbrev fe : Stmt := top 50
abbrev eW : Stmt := top 51
abbrev fh : Stmt := top 52
abbrev gw : Stmt := top 53
abbrev eY : Stmt := top 54
abbrev dR : Stmt := top 55
abbrev cK : Stmt := top 56
abbrev cp : Stmt := top 57
abbrev cm : Stmt := top 58
abbrev dU : Stmt := top 59
abbrev cC : Stmt := top 60
abbrev tT : Stmt := top 61
structure Ad where
 k1 : Tok
 k2 : Tok
 k3 : Tok
 k4 : Tok
 k5 : Tok
 px : Addr
 j5 : Addr
 BD : Addr
 DN : Addr
 vC : Addr
 eF : Addr
 je : Addr
 Kq : Addr
 JJ : Addr
abbrev JS : List Value := [.type "ValueError", .type "Exception", .type "BaseException", .type "object"]
structure Ref (K : VN) (mg : Str -> Option Value) (Z : Ad) (x : Str) (D : Addr) : Prop where
 g : mg x = some (.ref D)
 x : PySem.W.excIn K D JS "ValueError.__new__" = true
 k : PySem.W.FD K D
 m : PySem.W.exmOne K (.ref D) (.ref Z.j5) = some true
 v : PySem.W.kitOne K (.ref D) (.type "ValueError") = some true
structure Txt (K : VN) (mg : Str -> Option Value) (C : Addr) (Z : Ad) : Prop where
 c8 : mg "len" = none
 rR : mg "list" = none
 cN : mg "tuple" = none
 ej : mg "range" = none
 cM : mg "isinstance" = none
 IH : mg "int" = none
 FK : mg "bool" = none
 Jc : mg "zip" = none
 A5 : mg "all" = none
 Ix : mg "any" = none
 Eh : mg "max" = none
 jm : mg "sorted" = none
 DA : mg "ValueError" = none
 EN : mg "reversed" = none
 IA : mg "min" = none
 Fa : mg "dict" = none
 qu : mg "MOST_THINGS" = some (.int 6 Z.k1)
 ou : mg "MOST_MINUTES" = some (.int 1000000000 Z.k2)
 tQ : mg "MOST_ROOM" = some (.int 3 Z.k3)
 nj : mg "MOST_QUARRELS" = some (.int 30 Z.k4)
 tU : mg "NO_KEEPER" = some (.int (-1) Z.k5)
 Dx : mg "Night" = some (.ref C)
 bK : zz K C
 oU : gU K C "kept_things"
 zO : gU K C "kept_room"
 pN : gU K C "kept_quarrels"
 xt : mg "SIDES" = some (.ref Z.px)
 rJ : ∀ H, aX K H Z.px [.int 0, .int 1]
 CB : mg "FerryError" = some (.ref Z.j5)
 Fc : mg "BadThing" = some (.ref Z.BD)
 GP : mg "BadRoom" = some (.ref Z.DN)
 B2 : mg "BadQuarrel" = some (.ref Z.vC)
 lH : Ref K mg Z "NoStanding" Z.eF
 pR : Ref K mg Z "BadStart" Z.je
section
variable {K : VN} {mg : Str -> Option Value} {C : Addr} {Z : Ad}
theorem Txt.sG (T : Txt K mg C Z) : mg "NoStanding" = some (.ref Z.eF) := T.lH.g
theorem Txt.wu (T : Txt K mg C Z) : mg "BadStart" = some (.ref Z.je) := T.pR.g
theorem Txt.sh (T : Txt K mg C Z) : PySem.W.excIn K Z.eF JS "ValueError.__new__" = true := T.lH.x
theorem Txt.vI (T : Txt K mg C Z) : PySem.W.excIn K Z.je JS "ValueError.__new__" = true := T.pR.x
end
def lF (t : Addr) (r : Int) (q : Addr) : List (Str × V) := dE "kept_quarrels" (.ref q) (dE "kept_room" (.int r) (dE "kept_things" (.ref t) []))
theorem K2 : ¬ (("kept_room" : Str) = "kept_things") := by decide +kernel
theorem LJ : ¬ (("kept_quarrels" : Str) = "kept_things") := by decide +kernel
theorem Lx : ¬ (("kept_quarrels" : Str) = "kept_room") := by decide +kernel
theorem Be (t : Addr) (r : Int) (q : Addr) : (lF t r q).lookup ("kept_things" : Str) = some (.ref t) := by
 unfold lF
 rw [bA, if_neg (Vl LJ), bA, if_neg (Vl K2), bA, if_pos rfl]
theorem Gc (t : Addr) (r : Int) (q : Addr) : (lF t r q).lookup ("kept_room" : Str) = some (.int r) := by
 unfold lF
 rw [bA, if_neg (Vl Lx), bA, if_pos rfl]
theorem Gd (t : Addr) (r : Int) (q : Addr) : (lF t r q).lookup ("kept_quarrels" : Str) = some (.ref q) := by
 unfold lF
 rw [bA, if_pos rfl]
theorem rM (t : Addr) (r : Int) (q : Addr) {m : Str} (h1 : ¬ m = "kept_quarrels") (h2 : ¬ m = "kept_room") (h3 : ¬ m = "kept_things") : (lF t r q).lookup m = none := by
 unfold lF
 rw [bA, if_neg h1, bA, if_neg h2, bA, if_neg h3]
 all_goals rfl
structure bb (C : Addr) (H : Hp) (p : Addr) (ts : List Th) (r : Int) (qs : List Qu) : Prop where
 ex : ∃ dx t q, H p = some (.ins C dx (lF t r q)) /\ TupAt wj H t ts /\ TupAt xN H q qs
theorem bb.mono {C : Addr} {H H' : Hp} {p : Addr} {ts : List Th} {r : Int} {qs : List Qu} (h : bb C H p ts r qs) (e : am H H') : bb C H' p ts r qs :=
 let ⟨dx, t, q, h1, h2, h3⟩ := h.ex
 ⟨dx, t, q, e _ _ h1, h2.mono e, h3.mono e⟩
theorem bb.upd {C : Addr} {H : Hp} {p : Addr} {ts : List Th} {r : Int} {qs : List Qu} {D : Addr} {o : HO} {ys : List V} (h : bb C H p ts r qs) (hD : H D = some (.lst ys)) : bb C (L2.upd H D o) p ts r qs := by
 obtain ⟨dx, t, q, h1, ⟨vt, h2, ij⟩, ⟨vq, h3, qf⟩⟩ := h.ex
 refine ⟨dx, t, q, ?_, ⟨vt, ?_, bi hD ij (aH xY ts)⟩, ⟨vq, ?_, bi hD qf (aH xR qs)⟩⟩
 ·rw [aq (eu h1 hD (by intro z; cases z))]; exact h1
 ·rw [aq (eu h2 hD (by intro z; cases z))]; exact h2
 ·rw [aq (eu h3 hD (by intro z; cases z))]; exact h3
section
variable {P : Program} {w : World} {K : VN} {mg : Str -> Option Value} {base : Heap} {C : Addr} {Z : Ad}
def ir (K : VN) : Sp := fun vs H Q _ => ∃ (a : Addr) (ns : List Int) (k : Nat), vs = [.ref a, .int k] /\ a6 K H a (ns.map V.int) /\ Q (.int (ns.getD k 0)) H
theorem nH : au ["script", "k"] ["script", "k"] (ak bS) := fA
theorem ki {f : Addr} {fd : FuncData} (F : Fn K mg "_law_cell_at" bS f fd ["script", "k"]) (T : Txt K mg C Z) : av P w K mg base bp 1 f fd ["script", "k"] (ir K) := by
 refine F.fn.ok nH (fun vs H Q E h => ?_) (fun b8 A outer s H vs Q E hr h => ?_)
 ·obtain ⟨a, ns, k, rfl, _⟩ := h
  rfl
 ·obtain ⟨a, ns, k, rfl, hS, q⟩ := h
  refine ⟨_, (ah (bM (aE uw (pv 1) (ay aC (by rfl) T.c8 TL (aa (pv 0) af)) (a7 _))
   (aj (az (aF eX (pv 0) (pv 1) (fun _ _ => rfl))))
   aP)
   (aj (az ai))), ?_⟩
  refine ⟨_, rfl, _, rfl, a, _, rfl, .inl hS, _, _, rfl, rfl, _, rfl, ?_⟩
  refine BH (fun h => ?_) (fun h => ?_)
  ·have hk : k < ns.length := by
    have := Tt h
    rw [SW] at this
    omega
   refine ⟨_, rfl, _, rfl, a, _, _, _, rfl, rfl, hS, eV (v := V.int (ns.getD k 0)) ?_, q⟩
   rw [Tc, Tg, S1 hk]
   rfl
  ·have hk : ¬ k < ns.length := fun z => h (S9 (by rw [SW]; omega))
   have e : ns.getD k 0 = 0 := by
    rw [Tg, List.getElem?_eq_none_iff.mpr (by omega)]
    rfl
   rw [e] at q
   exact q
def pM : Sp := fun vs H Q _ => ∃ (i : Int), vs = [.int i] /\ Q (.bl true) H
theorem qr : au ["found"] ["found"] (ak cP) := fA
theorem tF {f : Addr} {fd : FuncData} (F : Fn K mg "_law_whole" cP f fd ["found"]) (T : Txt K mg C Z) : av P w K mg base bp 1 f fd ["found"] pM := by
 refine F.fn.ok qr (fun vs H Q E h => ?_) (fun b8 A outer s H vs Q E hr h => ?_)
 ·obtain ⟨i, rfl, _⟩ := h
  rfl
 ·obtain ⟨i, rfl, q⟩ := h
  refine ⟨_, (aj (az (eN (ay dF (by rfl) T.cM VF (aa (pv 0) (aa (jv (v := .ty "int") (by rfl) T.IH boot_int rfl) af))) (ii (EJ (ay dF (by rfl) T.cM VF (aa (pv 0) (aa (jv (v := .ty "bool") (by rfl) T.FK boot_bool rfl) af)))))))), ?_⟩
  refine ⟨_, rfl, _, _, _, _, rfl, .int i, iX _ _, _, rfl, ni ?_⟩
  exact ⟨_, rfl, _, _, _, _, rfl, .int i, r0 _, _, rfl, q⟩
def t5 (K : VN) : Sp := fun vs H Q _ => ∃ (a b : Addr) (qs : List Qu) (g : List Int), vs = [.ref a, .ref b] /\ LstAt xN H a qs /\ H b = some (.tup (g.map V.int)) /\ Q (.bl (gb qs g)) H
theorem uA {qs : List Qu} {g : List Int} {q : Qu} {i : Nat} (h : qs[i]? = some q) (hb : bad g q = true) : gb qs g = false := by
 unfold gb
 rw [List.any_eq_true.mpr ⟨q, Tx h, hb⟩]
 rfl
theorem rn {qs : List Qu} {g : List Int} (h : ∀ (i : Nat) q, i < qs.length -> qs[i]? = some q -> bad g q = false) : gb qs g = true := by
 unfold gb
 have e : qs.any (bad g) = false := by
  rw [List.any_eq_false]
  intro q hq
  obtain ⟨i, hi⟩ := Vk.mp hq
  rw [h i q (Tk.mp hi).1 hi]
  exact S3
 rw [e]
 rfl
theorem eU : au ["quarrels", "group", "one", "other", "keeper"] ["quarrels", "group"] (ak dW) := fA
theorem A4 {f : Addr} {fd : FuncData} (F : Fn K mg "_law_peace" dW f fd ["quarrels", "group"]) : av P w K mg base bp 1 f fd ["quarrels", "group"] (t5 K) := by
 refine F.fn.ok eU (fun vs H Q E h => ?_) (fun b8 A outer s H vs Q E hr h => ?_)
 ·obtain ⟨a, b, qs, g, rfl, _⟩ := h
  rfl
 ·obtain ⟨a, b, qs, g, rfl, ⟨vq, ha, hq⟩, hb, k⟩ := h
  refine ⟨_, (ah (cY TR rfl (bL (pv 0)) (mG rfl (aY (gn 2 eU.nd) (aY (gn 3 eU.nd) (aY (gn 4 eU.nd) gg))))
   (aj (bM (PW.pt (pw_and (aE fK (pv 2) (pv 1) (by with_unfolding_all rfl)) (pw_and (aE fK (pv 3) (pv 1) (by with_unfolding_all rfl)) (pw_and1 (aE iq (pv 4) (pv 1) (by with_unfolding_all rfl))))))
   (aj (az gW))
   aP)))
   (aj (az gW))), ?_⟩
  have hl := aG hq
  refine ⟨_, rfl, a, rfl, ⟨_, a6.of ha⟩, dN (K := K) (a := a) (xs := vq) (fun i σ H' => H' = H /\ (∃ v1 v2 v3, σ = [some (.ref a), some (.ref b), v1, v2, v3]) /\ ∀ (j : Nat) q, j < i -> qs[j]? = some q -> bad g q = false)
   ⟨rfl, ⟨_, _, _, rfl⟩, fun j q hj => absurd hj (Nat.not_lt_zero _)⟩ (fun i σ H' _ ⟨e, _⟩ => by rw [e]; exact a6.of ha) ?_ ?_⟩
  ·rintro i x σ H' hi ⟨rfl, ⟨v1, v2, v3, rfl⟩, hn⟩
   obtain ⟨q, Hu, dq⟩ := bE hq hi
   obtain ⟨c, rfl, hc⟩ := we dq
   have next : bad g q = false -> ∀ (j : Nat) q', j < i + 1 -> qs[j]? = some q' -> bad g q' = false := fun h0 j q' hj Ep => by
    by_cases e : j = i
    ·subst e; rw [Hu] at Ep; cases Ep; exact h0
    ·exact hn j q' (by omega) Ep
   refine ⟨c, _, rfl, aX.of hc, rfl, _, _, rfl, _, _, rfl, _, _, rfl, rfl, ?_⟩
   refine ⟨_, rfl, _, rfl, b, _, rfl, .inr (aX.of hb), rfl, bN g, _, rfl, ?_⟩
   refine bC (fun h1 => ?_) (fun h1 => ?_)
   ·refine ⟨_, rfl, _, rfl, b, _, rfl, .inr (aX.of hb), rfl, bN g, _, rfl, ?_⟩
    refine bC (fun h2 => ?_) (fun h2 => ?_)
    ·refine ⟨_, rfl, _, rfl, b, _, rfl, .inr (aX.of hb), rfl, bN g, _, rfl, ?_⟩
     refine bC (fun h3 => ?_) (fun h3 => ?_)
     ·have e : bad g q = true := by
       have cX : tH (.int q.1) (g.map V.int) = true := h1
       have ij : tH (.int q.2.1) (g.map V.int) = true := h2
       have qf : (!tH (.int q.2.2) (g.map V.int)) = true := h3
       rw [bQ] at cX ij qf
       unfold bad
       rw [cX, ij, qf]
       rfl
      have k' := k
      rw [uA Hu e] at k'
      exact k'
     ·have e : bad g q = false := by
       have qf : (!tH (.int q.2.2) (g.map V.int)) = false := h3
       rw [bQ] at qf
       unfold bad
       rw [qf, UE]
      exact ⟨rfl, ⟨_, _, _, rfl⟩, next e⟩
    ·have e : bad g q = false := by
      have ij : tH (.int q.2.1) (g.map V.int) = false := h2
      rw [bQ] at ij
      unfold bad
      rw [ij, UE, TM]
     exact dQ ⟨rfl, ⟨_, _, _, rfl⟩, next e⟩
   ·have e : bad g q = false := by
     have cX : tH (.int q.1) (g.map V.int) = false := h1
     rw [bQ] at cX
     unfold bad
     rw [cX, TM, TM]
    exact dQ ⟨rfl, ⟨_, _, _, rfl⟩, next e⟩
  ·rintro σ H' ⟨rfl, ⟨v1, v2, v3, rfl⟩, hn⟩
   have k' := k
   rw [rn (qs := qs) (g := g) fun i q hi hq => hn i q (by omega) hq] at k'
   exact k'
def qG (C : Addr) : Sp := fun vs H Q _ => ∃ (p b : Addr) (ts : List Th) (r : Int) (qs : List Qu) (g : List Int), vs = [.ref p, .ref b] /\ bb C H p ts r qs /\ H b = some (.tup (g.map V.int)) /\ Q (.bl (gb qs g)) H
theorem dO : au ["self", "group", "one", "other", "keeper"] ["self", "group"] (ak di) := fA
theorem zv {f : Addr} {fd : FuncData} (F : Mt K "peace" "Night.peace" di f fd ["self", "group"]) (T : Txt K mg C Z) : av P w K mg base bp 1 f fd ["self", "group"] (qG C) := by
 refine F.fn.ok dO (fun vs H Q E h => ?_) (fun b8 A outer s H vs Q E hr h => ?_)
 ·obtain ⟨p, b, ts, r, qs, g, rfl, _⟩ := h
  rfl
 ·obtain ⟨p, b, ts, r, qs, g, rfl, N, hb, k⟩ := h
  obtain ⟨dx, t, a, hp, _, ⟨vq, ha, hq⟩⟩ := N.ex
  refine ⟨_, (ah (cY TR rfl (fv (sK (pv 0) rfl)) (mG rfl (aY (gn 2 dO.nd) (aY (gn 3 dO.nd) (aY (gn 4 dO.nd) gg))))
   (aj (bM (PW.pt (pw_and (aE fK (pv 2) (pv 1) (by with_unfolding_all rfl)) (pw_and (aE fK (pv 3) (pv 1) (by with_unfolding_all rfl)) (pw_and1 (aE iq (pv 4) (pv 1) (by with_unfolding_all rfl))))))
   (aj (az gW))
   aP)))
   (aj (az gW))), ?_⟩
  have hl := aG hq
  refine ⟨_, rfl, p, C, dx, _, _, rfl, hp, T.bK, T.pN, Gd _ _ _, a, rfl, ⟨_, aX.of ha⟩, xk (K := K) (a := a) (xs := vq) (fun i σ H' => H' = H /\ (∃ v1 v2 v3, σ = [some (.ref p), some (.ref b), v1, v2, v3]) /\ ∀ (j : Nat) q, j < i -> qs[j]? = some q -> bad g q = false)
   ⟨rfl, ⟨_, _, _, rfl⟩, fun j q hj => absurd hj (Nat.not_lt_zero _)⟩ (fun i σ H' _ ⟨e, _⟩ => by rw [e]; exact aX.of ha) ?_ ?_⟩
  ·rintro i x σ H' hi ⟨rfl, ⟨v1, v2, v3, rfl⟩, hn⟩
   obtain ⟨q, Hu, dq⟩ := bE hq hi
   obtain ⟨c, rfl, hc⟩ := we dq
   have next : bad g q = false -> ∀ (j : Nat) q', j < i + 1 -> qs[j]? = some q' -> bad g q' = false := fun h0 j q' hj Ep => by
    by_cases e : j = i
    ·subst e; rw [Hu] at Ep; cases Ep; exact h0
    ·exact hn j q' (by omega) Ep
   refine ⟨c, _, rfl, aX.of hc, rfl, _, _, rfl, _, _, rfl, _, _, rfl, rfl, ?_⟩
   refine ⟨_, rfl, _, rfl, b, _, rfl, .inr (aX.of hb), rfl, bN g, _, rfl, ?_⟩
   refine bC (fun h1 => ?_) (fun h1 => ?_)
   ·refine ⟨_, rfl, _, rfl, b, _, rfl, .inr (aX.of hb), rfl, bN g, _, rfl, ?_⟩
    refine bC (fun h2 => ?_) (fun h2 => ?_)
    ·refine ⟨_, rfl, _, rfl, b, _, rfl, .inr (aX.of hb), rfl, bN g, _, rfl, ?_⟩
     refine bC (fun h3 => ?_) (fun h3 => ?_)
     ·have e : bad g q = true := by
       have cX : tH (.int q.1) (g.map V.int) = true := h1
       have ij : tH (.int q.2.1) (g.map V.int) = true := h2
       have qf : (!tH (.int q.2.2) (g.map V.int)) = true := h3
       rw [bQ] at cX ij qf
       unfold bad
       rw [cX, ij, qf]
       rfl
      have k' := k
      rw [uA Hu e] at k'
      exact k'
     ·have e : bad g q = false := by
       have qf : (!tH (.int q.2.2) (g.map V.int)) = false := h3
       rw [bQ] at qf
       unfold bad
       rw [qf, UE]
      exact ⟨rfl, ⟨_, _, _, rfl⟩, next e⟩
    ·have e : bad g q = false := by
      have ij : tH (.int q.2.1) (g.map V.int) = false := h2
      rw [bQ] at ij
      unfold bad
      rw [ij, UE, TM]
     exact dQ ⟨rfl, ⟨_, _, _, rfl⟩, next e⟩
   ·have e : bad g q = false := by
     have cX : tH (.int q.1) (g.map V.int) = false := h1
     rw [bQ] at cX
     unfold bad
     rw [cX, TM, TM]
    exact dQ ⟨rfl, ⟨_, _, _, rfl⟩, next e⟩
  ·rintro σ H' ⟨rfl, ⟨v1, v2, v3, rfl⟩, hn⟩
   have k' := k
   rw [rn (qs := qs) (g := g) fun i q hi hq => hn i q (by omega) hq] at k'
   exact k'
end
section
variable {P : Program} {w : World} {K : VN} {mg : Str -> Option Value} {base : Heap} {C : Addr} {Z : Ad}
def pd : Sp := fun vs H Q _ => ∃ (cell : Int) (n : Nat), vs = [.int cell, .int n] /\ 2 <= n /\ n <= 6 /\ ∀ (q : Qu) (p : Addr) (H' : Hp), GI n q -> am H H' -> H' p = some (.tup [.int q.1, .int q.2.1, .int q.2.2]) -> Q (.ref p) H'
theorem bG : au ["cell", "many", "one", "other", "left", "keeper"] ["cell", "many"] (ak ce) := fA
theorem wF {f : Addr} {fd : FuncData} (F : Fn K mg "_law_quarrel" ce f fd ["cell", "many"]) (T : Txt K mg C Z) : av P w K mg base bp 1 f fd ["cell", "many"] pd := by
 refine F.fn.ok bG (fun vs H Q E h => ?_) (fun b8 A outer s H vs Q E hr h => ?_)
 ·obtain ⟨cell, n, rfl, _⟩ := h
  rfl
 ·obtain ⟨cell, n, rfl, h2, h6, k⟩ := h
  refine ⟨_, (ah (sn 2 bG.nd (bo dZ (pv 0) (pv 1)))
   (ah (sn 3 bG.nd (bo dZ (bo gK (bo gK (pv 2) ai) (bo dZ (bo js (pv 0) (pv 1)) (bo BL (pv 1) ai))) (pv 1)))
   (ah (nL (j := 4) rfl (N' := ["thing", "one", "other"]) (cap := [none, some 2, some 3]) ⟨rfl, by with_unfolding_all rfl⟩ (cA (by rfl) T.ej (aa (pv 1) af)) (fun _ => (gn 0 (show (["thing", "one", "other"] : List Str).Nodup by decide +kernel))) (fun _ => (ck (PW.pt (pw_and (aE lP (pv 0) (pv 1) (a7 _)) (pw_and1 (aE lP (pv 0) (pv 2) (a7 _))))))) (fun _ => (pv 0)) bG.nd (by rfl) (by rfl) (by with_unfolding_all rfl))
   (ah (sn 0 bG.nd (bo js (pv 0) (bo Ft (pv 1) (bo BL (pv 1) ai))))
   (ah (sn 5 bG.nd (HL Ge ai))
   (ah (bM (PW.pt (pw_and (aE xP (bo dZ (pv 0) ai) ai (a7 _)) (pw_and1 (aE xP (ay aC (by rfl) T.c8 TL (aa (pv 4) af)) ai (a7 _)))))
   (aj (sn 5 bG.nd (aF eX (pv 4) (bo dZ (bo js (pv 0) ai) (ay aC (by rfl) T.c8 TL (aa (pv 4) af))) (fun _ _ => rfl))))
   aP)
   (aj (az (bW (aa (pv 2) (aa (pv 3) (aa (pv 5) af)))))))))))), ?_⟩
  have hn : (0 : Int) < n := by omega
  have Ki : (0 : Int) < (n : Int) - 1 := by omega
  obtain ⟨p1, p2⟩ := CM n h2 h6
  obtain ⟨o1, o2, o3, o4, o5⟩ := AF cell n h2 h6
  refine ⟨_, rfl, _, rfl, _, _, rfl, rfl, hn, ?_⟩
  refine ⟨_, rfl, _, _, rfl, rfl, _, rfl, _, rfl, _, _, rfl, rfl, ⟨hn, by omega⟩, _, rfl, _, _, rfl, rfl, _, _, rfl, rfl, Ki, _, _, rfl, rfl, _, rfl, _, _, rfl, rfl, hn, ?_⟩
  dsimp only
  generalize cell % (n : Int) = one at o1 o2 o3 o4 o5 ⊢
  generalize (one + 1 + cell / (n : Int) % ((n : Int) - 1)) % (n : Int) = other at o3 o4 o5 ⊢
  refine ⟨_, rfl, (n : Int), rfl, by omega, by omega, fun D hD => ?_⟩
  refine eQ (fun i xs H' => ∃ L : List Int, xs = L.map V.int /\ L.length <= i /\ (∀ t ∈ L, 0 <= t /\ t < n /\ t ≠ one /\ t ≠ other) /\ am H H' /\ H' D = some (.lst xs))
   ⟨[], rfl, SX _, (fun t ht => by cases ht), ag hD, ae⟩ (fun i xs H' _ ⟨L, _, _, _, _, h⟩ => h) ?_ ?_
  ·rintro i xs H' hi ⟨L, rfl, hL, hm, sm, dL⟩
   have go : ∀ {H5 : Hp}, H5 = H' -> (((0 : Int) + i) ≠ one /\ ((0 : Int) + i) ≠ other) -> ∃ L' : List Int, (L.map V.int ++ [V.int ((0 : Int) + i)]) = L'.map V.int /\ L'.length <= i + 1 /\ (∀ t ∈ L', 0 <= t /\ t < n /\ t ≠ one /\ t ≠ other) /\ am H (L2.upd H5 D (.lst (L.map V.int ++ [V.int ((0 : Int) + i)]))) /\ (L2.upd H5 D (.lst (L.map V.int ++ [V.int ((0 : Int) + i)]))) D = some (.lst (L.map V.int ++ [V.int ((0 : Int) + i)])) := by
    rintro H5 rfl ⟨e1, e2⟩
    refine ⟨L ++ [(0 : Int) + i], by simp, by simp; omega, fun t ht => ?_, ao sm hD, ae⟩
    rcases Ts.mp ht with z | z
    ·exact hm t z
    ·rw [TB.mp z]
     exact ⟨by omega, by omega, e1, e2⟩
   have j8 : ∃ L' : List Int, L.map V.int = L'.map V.int /\ L'.length <= i + 1 /\ (∀ t ∈ L', 0 <= t /\ t < n /\ t ≠ one /\ t ≠ other) /\ am H H' /\ H' D = some (.lst (L.map V.int)) := ⟨L, rfl, by omega, hm, sm, dL⟩
   refine ⟨bP.set rfl, ?_⟩
   refine ⟨_, rfl, _, rfl, rfl, _, rfl, ?_⟩
   refine bC (fun h1 => ?_) (fun h1 => ?_)
   ·refine ⟨_, rfl, _, rfl, rfl, _, rfl, ?_⟩
    refine bC (fun h2 => ?_) (fun h2 => ?_)
    ·refine ⟨_, rfl, dL, ?_, go rfl ⟨fun z => ?_, fun z => ?_⟩⟩
     ·rw [SW]; exact aJ (by omega)
     ·rw [z] at h1; simp at h1
     ·rw [z] at h2; simp at h2
    ·exact j8
   ·exact dQ j8
  ·rintro xs H1 ⟨L, rfl, hL, hm, sm, pV⟩
   refine ⟨_, rfl, _, rfl, _, rfl, _, _, rfl, rfl, _, _, rfl, rfl, .inl ⟨by omega, by omega⟩, _, _, rfl, rfl, ⟨p1, p2⟩, ?_⟩
   dsimp only
   generalize cell / ((n : Int) * ((n : Int) - 1)) = c2
   refine ⟨_, rfl, ?_⟩
   have fin : ∀ kp : Int, (kp = -1 \/ (0 <= kp /\ kp < n /\ kp ≠ one /\ kp ≠ other)) -> ∀ p, H1 p = none -> Q (.ref p) (L2.upd H1 p (.tup [.int one, .int other, .int kp])) := fun kp hk p hp =>
    k (one, other, kp) p _ ⟨o1, o2, o3, o4, o5, hk⟩ (ao sm (sm.free hp)) ae
   refine ⟨_, rfl, _, _, rfl, rfl, (by show (0 : Int) < 3; decide), _, _, rfl, rfl, _, rfl, ?_⟩
   refine bC (fun h1 => ?_) (fun h1 => ?_)
   ·refine ⟨_, rfl, D, _, rfl, .inl (a6.of pV), _, _, rfl, rfl, _, rfl, ?_⟩
    refine bC (fun h2 => ?_) (fun h2 => ?_)
    ·have hl : 0 < (L.map V.int).length := by
      have := Tt h2
      omega
     have lR : (0 : Int) < ((L.map V.int).length : Int) := by omega
     obtain ⟨v, hv, Jl⟩ := wf (xs := L.map V.int) (i := c2 / 3 % ((L.map V.int).length : Int)) (VH _ (by omega)) (Ve _ lR)
     obtain ⟨kp, P7, rfl⟩ := TD.mp hv
     refine ⟨_, rfl, _, rfl, _, _, rfl, rfl, ⟨by decide, by decide⟩, _, rfl, D, _, rfl, .inl (a6.of pV), _, _, rfl, rfl, lR, D, _, _, _, rfl, rfl, a6.of pV, Jl, ?_⟩
     refine ⟨_, rfl, _, rfl, _, rfl, aK (by show 3 <= _; decide), fin kp (.inr (hm kp P7))⟩
    ·refine ⟨_, rfl, _, rfl, _, rfl, aK (by show 3 <= _; decide), fin (-1) (.inl rfl)⟩
   ·refine dQ ?_
    refine ⟨_, rfl, _, rfl, _, rfl, aK (by show 3 <= _; decide), fin (-1) (.inl rfl)⟩
def m3 (K : VN) : Sp := fun vs H Q _ => ∃ (a : Addr) (ns : List Int) (st n : Nat), vs = [.ref a, .int st, .int n] /\ a6 K H a (ns.map V.int) /\ 1 <= n /\ n <= 6 /\
 ∀ (qs : List Qu) (p : Addr) (H' : Hp), qs.length <= 4 -> (∀ q ∈ qs, GI n q) -> am H H' -> LstAt xN H' p qs -> Q (.ref p) H'
theorem hX : au ["script", "start", "many", "count"] ["script", "start", "many"] (ak cy) := fA
theorem tN {f f1 f2 : Addr} {fd fz mD : FuncData} (F : Fn K mg "_law_quarrels" cy f fd ["script", "start", "many"]) (T : Txt K mg C Z)
  (aL : Fn K mg "_law_cell_at" bS f1 fz ["script", "k"]) (dX : Fn K mg "_law_quarrel" ce f2 mD ["cell", "many"]) : av P w K mg base bp 2 f fd ["script", "start", "many"] (m3 K) := by
 have bj : av P w K mg base bp 1 f1 fz ["script", "k"] (ir K) := ki aL T
 have pK : av P w K mg base bp 1 f2 mD ["cell", "many"] pd := wF dX T
 refine F.fn.ok hX (fun vs H Q E h => ?_) (fun b8 A outer s H vs Q E hr h => ?_)
 ·obtain ⟨a, ns, st, n, rfl, _⟩ := h
  rfl
 ·obtain ⟨a, ns, st, n, rfl, hS, h1, h6, k⟩ := h
  refine ⟨_, (ah (bM (aE jX (pv 2) ai (a7 _))
   (aj (az (gL af)))
   aP)
   (ah (sn 3 hX.nd (bo dZ (cl bj aL hr aD (aa (pv 0) (aa (pv 1) af))) ai))
   (aj (az (ba rfl (N' := ["k", "script", "start", "many"]) (cap := [none, some 0, some 1, some 2]) ⟨rfl, by with_unfolding_all rfl⟩ (cA (by rfl) T.ej (aa (pv 3) af)) (fun _ => (gn 0 (show (["k", "script", "start", "many"] : List Str).Nodup by decide +kernel))) (fun _ => bR) (fun _ => (cl pK dX hr aD (aa (bo dZ (cl bj aL hr aD (aa (pv 1) (aa (bo gK (bo gK (pv 2) ai) (pv 0)) af))) (bo Bp ai ai)) (aa (pv 3) af))))))))), ?_⟩
  refine ⟨_, rfl, rfl, _, rfl, ?_⟩
  refine BH (fun h => ?_) (fun h => ?_)
  ·exact ⟨Tw _, fun l hl => k [] l _ (Tw _) (fun q hq => by cases hq) (ag hl) ⟨[], ae, .nil⟩⟩
  ·have h2 : 2 <= n := by
    have z : ¬ V.int (n : Int) = V.int 1 := fun z => h (S9 z)
    have : n ≠ 1 := fun e => z (by rw [e]; rfl)
    omega
   refine ⟨_, rfl, _, rfl, a, ns, st, rfl, hS, _, _, rfl, rfl, (by show (0 : Int) < 5; decide), ?_⟩
   have c0 : 0 <= ns.getD st 0 % 5 := VH _ (by decide)
   have c5 : ns.getD st 0 % 5 < 5 := Ve _ (by decide)
   dsimp only
   generalize ns.getD st 0 % 5 = cnt at c0 c5 ⊢
   refine ⟨_, rfl, cnt, rfl, by omega, by omega, fun D hD => ?_⟩
   refine eQ (fun i xs H' => ∃ qs : List Qu, qs.length = i /\ (∀ q ∈ qs, GI n q) /\ am H H' /\ H' D = some (.lst xs) /\ bF H' (qs.map xN) xs)
    ⟨[], rfl, (fun q hq => by cases hq), ag hD, ae, .nil⟩ (fun i xs H' _ ⟨_, _, _, _, h, _⟩ => h) ?_ ?_
   ·rintro i xs H' hi ⟨qs, hq, ok, sm, dL, dv⟩
    refine ⟨bP.set rfl, ?_⟩
    have e1 : (st : Int) + 1 + (0 + (i : Int)) = ((st + 1 + i : Nat) : Int) := by omega
    refine ⟨_, rfl, _, rfl, _, _, rfl, rfl, _, rfl, _, _, rfl, rfl, a, ns, st + 1 + i, (by show [V.ref a, V.int ((st : Int) + 1 + (0 + (i : Int)))] = _; rw [e1]), sm.seq hS, ?_⟩
    refine ⟨_, _, rfl, rfl, ⟨by decide, by decide, by decide⟩, _, _, rfl, rfl, (by show (0 : Int) < (10 : Int) ^ (9 : Int).toNat; decide), _, rfl, _, n, rfl, h2, h6, fun q p H2 Jf Gb hp => ?_⟩
    have jq := Gb _ _ dL
    have dl : xs.length = qs.length := aG dv
    refine ⟨jq, aJ (by omega), qs ++ [q], by simp [hq], fun q' vh => ?_, ao (sm.trans Gb) hD, ae, ?_⟩
    ·rcases Ts.mp vh with z | z
     ·exact ok q' z
     ·rw [TB.mp z]; exact Jf
    ·rw [S4]
     exact (bi jq (dv.mono Gb) (aH xR qs)).snoc (c7 jq (Jb hp) (xR q))
   ·rintro xs H1 ⟨qs, hq, ok, sm, pV, dv⟩
    exact k qs D H1 (by omega) ok sm ⟨xs, pV, dv⟩
def rp (K : VN) : Sp := fun vs H Q _ => ∃ (a : Addr) (ns : List Int) (st n : Nat), vs = [.ref a, .int st, .int n] /\ a6 K H a (ns.map V.int) /\ n <= 6 /\
 ∀ (ts : List Th) (p : Addr) (H' : Hp), ts.length = n -> (∀ t ∈ ts, 1 <= t.1 /\ t.1 <= 1000000000) -> am H H' -> LstAt wj H' p ts -> Q (.ref p) H'
theorem cH : au ["script", "start", "many", "most", "things", "k", "cell"] ["script", "start", "many"] (ak de) := fA
theorem yJ {f f1 : Addr} {fd fz : FuncData} (F : Fn K mg "_law_things" de f fd ["script", "start", "many"]) (T : Txt K mg C Z)
  (aL : Fn K mg "_law_cell_at" bS f1 fz ["script", "k"]) : av P w K mg base bp 2 f fd ["script", "start", "many"] (rp K) := by
 have bj : av P w K mg base bp 1 f1 fz ["script", "k"] (ir K) := ki aL T
 refine F.fn.ok cH (fun vs H Q E h => ?_) (fun b8 A outer s H vs Q E hr h => ?_)
 ·obtain ⟨a, ns, st, n, rfl, _⟩ := h
  rfl
 ·obtain ⟨a, ns, st, n, rfl, hS, h6, k⟩ := h
  refine ⟨_, (ah (sn 3 cH.nd (aF eX (gL (aa ai (aa ai (aa (bo Bp ai ai) af)))) (bo dZ (cl bj aL hr aD (aa (pv 0) (aa (pv 1) af))) ai) (fun _ _ => rfl)))
   (ah (sn 4 cH.nd (gL af))
   (ah (cY TR rfl (cA (by rfl) T.ej (aa (pv 2) af)) (gn 5 cH.nd)
   (ah (sn 6 cH.nd (cl bj aL hr aD (aa (pv 0) (aa (bo gK (bo gK (pv 1) ai) (pv 5)) af))))
   (aj (dn (qS UA U7 U6 fL (pv 4) (aa (bW (aa (bo gK ai (bo dZ (bo js (pv 6) ai) (pv 3))) (aa (fB uw (bo dZ (pv 6) ai) ai (a7 _)) af))) af))))))
   (aj (az (pv 4)))))), ?_⟩
  refine ⟨_, _, rfl, rfl, ⟨by decide, by decide, by decide⟩, aK (by show 3 <= _; decide), fun l0 vk => ?_⟩
  have s0 : am H (L2.upd H l0 (.lst [V.int 20, V.int 4, V.int ((10 : Int) ^ (9 : Int).toNat)])) := ag vk
  have c0 : 0 <= ns.getD st 0 % 3 := VH _ (by decide)
  have c3 : ns.getD st 0 % 3 < 3 := Ve _ (by decide)
  obtain ⟨v, hv, Jl⟩ := wf (xs := [V.int 20, V.int 4, V.int ((10 : Int) ^ (9 : Int).toNat)]) c0 (by show _ < ((3 : Nat) : Int); omega)
  obtain ⟨most, rfl, m1, m2⟩ : ∃ most : Int, v = V.int most /\ 1 <= most /\ most <= 1000000000 := by
   rcases S2.mp hv with rfl | hv
   ·exact ⟨20, rfl, by decide, by decide⟩
   rcases S2.mp hv with rfl | hv
   ·exact ⟨4, rfl, by decide, by decide⟩
   rw [TB.mp hv]
   exact ⟨_, rfl, by decide, by decide⟩
  refine ⟨_, rfl, _, rfl, a, ns, st, rfl, s0.seq hS, _, _, rfl, rfl, (by show (0 : Int) < 3; decide), l0, _, _, _, rfl, rfl, a6.of ae, Jl, ?_⟩
  refine ⟨Tw _, fun l hl => ?_⟩
  have M8 : H l = none := s0.free hl
  refine ⟨_, rfl, (n : Int), rfl, by omega, by omega, jF (fun i σ H' => ∃ (ts : List Th) (vs : List V) (v5 v6 : Option V), σ = [some (.ref a), some (.int st), some (.int n), some (.int most), some (.ref l), v5, v6] /\ ts.length = i /\ (∀ t ∈ ts, 1 <= t.1 /\ t.1 <= 1000000000) /\ am H H' /\ H' l = some (.lst vs) /\ bF H' (ts.map wj) vs)
   ⟨[], [], _, _, rfl, rfl, (fun t ht => by cases ht), ao s0 M8, ae, .nil⟩ ?_ ?_⟩
  ·rintro i σ H' hi ⟨ts, vs, v5, v6, rfl, ht, ok, sm, lR, dv⟩
   have e1 : (st : Int) + 1 + (0 + (i : Int)) = ((st + 1 + i : Nat) : Int) := by omega
   refine ⟨_, rfl, _, rfl, _, _, rfl, rfl, _, rfl, _, _, rfl, rfl, a, ns, st + 1 + i, (by show [V.ref a, V.int ((st : Int) + 1 + (0 + (i : Int)))] = _; rw [e1]), sm.seq hS, ?_⟩
   generalize ns.getD (st + 1 + i) 0 = cell
   refine ⟨_, rfl, .inl ⟨rfl, _, a6.of lR⟩, _, rfl, _, _, rfl, rfl, ⟨by decide, by decide⟩, _, rfl, _, _, rfl, rfl, (by show (0 : Int) < most; omega), _, _, rfl, rfl, _, rfl, _, _, rfl, rfl, (by show (0 : Int) < 3; decide), _, _, rfl, rfl, aK (by show 2 <= _; decide), fun p hp => ?_⟩
   have Oe : l ≠ p := ax lR hp
   have og : (L2.upd H' p (.tup [V.int (1 + cell / 3 % most), V.bl (decide (cell % 3 < 2))])) l = some (.lst vs) := by rw [aq Oe]; exact lR
   have dl : vs.length = ts.length := aG dv
   refine ⟨l, vs, _, rfl, rfl, og, aJ (by omega), ?_⟩
   refine ⟨ts ++ [(1 + cell / 3 % most, decide (cell % 3 < 2))], _, _, _, rfl, by simp [ht], fun t NG => ?_, ao (ao sm (sm.free hp)) M8, ae, ?_⟩
   ·rcases Ts.mp NG with z | z
    ·exact ok t z
    ·rw [TB.mp z]
     have q0 : 0 <= cell / 3 % most := VH _ (by omega)
     have q1 : cell / 3 % most < most := Ve _ (by omega)
     exact ⟨by show 1 <= 1 + cell / 3 % most; omega, by show 1 + cell / 3 % most <= 1000000000; omega⟩
   ·rw [S4]
    exact (bi og (dv.mono (ag hp)) (aH xY ts)).snoc (c7 og (Jn ae) (xY _))
  ·rintro σ H' ⟨ts, vs, v5, v6, rfl, ht, ok, sm, lR, dv⟩
   exact ⟨_, rfl, k ts l H' (by omega) ok sm ⟨vs, lR, dv⟩⟩
structure rS (H : Hp) (p : Addr) (m : Nat) (ts : List Th) (r : Int) (qs : List Qu) : Prop where
 t : C0 ts
 m : ts.length <= m
 r1 : 1 <= r
 r3 : r <= 3
 q : ∀ q ∈ qs, GI ts.length q
 ex : ∃ a b, H p = some (.tup [.ref a, .int r, .ref b]) /\ LstAt wj H a ts /\ LstAt xN H b qs
theorem rS.mono {H H' : Hp} {p : Addr} {m : Nat} {ts : List Th} {r : Int} {qs : List Qu} (h : rS H p m ts r qs) (e : am H H') : rS H' p m ts r qs :=
 let ⟨a, b, h1, h2, h3⟩ := h.ex
 ⟨h.t, h.m, h.r1, h.r3, h.q, a, b, e _ _ h1, h2.mono e, h3.mono e⟩
def tD (K : VN) : Sp := fun vs H Q _ => ∃ (a : Addr) (ns : List Int) (m : Nat), vs = [.ref a, .int m] /\ a6 K H a (ns.map V.int) /\ 1 <= m /\ m <= 6 /\
 ∀ (ts : List Th) (r : Int) (qs : List Qu) (p : Addr) (H' : Hp), rS H' p m ts r qs -> qs.length <= 4 -> am H H' -> Q (.ref p) H'
theorem eS : au ["script", "most", "many", "room"] ["script", "most"] (ak cU) := fA
theorem Bl {f f1 f2 f3 f4 : Addr} {fd fz mD yj HE : FuncData} (F : Fn K mg "_law_night" cU f fd ["script", "most"]) (T : Txt K mg C Z)
  (aL : Fn K mg "_law_cell_at" bS f1 fz ["script", "k"]) (dX : Fn K mg "_law_quarrel" ce f2 mD ["cell", "many"])
  (iN : Fn K mg "_law_quarrels" cy f3 yj ["script", "start", "many"]) (jU : Fn K mg "_law_things" de f4 HE ["script", "start", "many"]) : av P w K mg base bp 3 f fd ["script", "most"] (tD K) := by
 have bj : av P w K mg base bp 1 f1 fz ["script", "k"] (ir K) := ki aL T
 have nC : av P w K mg base bp 2 f3 yj ["script", "start", "many"] (m3 K) := tN iN T aL dX
 have pW : av P w K mg base bp 2 f4 HE ["script", "start", "many"] (rp K) := yJ jU T aL
 refine F.fn.ok eS (fun vs H Q E h => ?_) (fun b8 A outer s H vs Q E hr h => ?_)
 ·obtain ⟨a, ns, m, rfl, _⟩ := h
  rfl
 ·obtain ⟨a, ns, m, rfl, hS, h1, h6, k⟩ := h
  have hm : (0 : Int) < m := by omega
  obtain ⟨tl, Sc, MQ⟩ : ∃ t, rL (bX P w K mg base ["script", "most", "many", "room"] "_law_night" cU f b8 A outer s H E) ((b7 cU).drop 2) t /\ ∀ n : Nat, 1 <= n -> n <= m -> t (bD Q) [some (.ref a), some (.int m), some (.int n), none] H := by
   refine ⟨_, (ah (sn 3 eS.nd (aF eX (gL (aa ai (aa ai (aa ai (aa ai af))))) (bo dZ (cl bj aL hr aD (aa (pv 0) (aa ai af))) ai) (fun _ _ => rfl)))
   (aj (az (bW (aa (cl pW jU hr aD (aa (pv 0) (aa ai (aa (pv 2) af)))) (aa (pv 3) (aa (cl nC iN hr aD (aa (pv 0) (aa ai (aa (pv 2) af)))) af))))))), fun n n1 nm => ?_⟩
   have d0 : 0 <= ns.getD 1 0 % 4 := VH _ (by decide)
   have d4 : ns.getD 1 0 % 4 < 4 := Ve _ (by decide)
   obtain ⟨v, hv, Jl⟩ := wf (xs := [V.int 2, V.int 3, V.int 2, V.int 1]) d0 (by show _ < ((4 : Nat) : Int); omega)
   obtain ⟨r, rfl, r1, r3⟩ : ∃ r : Int, v = V.int r /\ 1 <= r /\ r <= 3 := by
    rcases S2.mp hv with rfl | hv
    ·exact ⟨2, rfl, by decide, by decide⟩
    rcases S2.mp hv with rfl | hv
    ·exact ⟨3, rfl, by decide, by decide⟩
    rcases S2.mp hv with rfl | hv
    ·exact ⟨2, rfl, by decide, by decide⟩
    rw [TB.mp hv]
    exact ⟨1, rfl, by decide, by decide⟩
   refine ⟨aK (by show 4 <= _; decide), fun l0 vk => ?_⟩
   have s0 : am H (L2.upd H l0 (.lst [V.int 2, V.int 3, V.int 2, V.int 1])) := ag vk
   refine ⟨_, rfl, a, ns, 1, rfl, s0.seq hS, _, _, rfl, rfl, (by show (0 : Int) < 4; decide), l0, _, _, _, rfl, rfl, a6.of ae, Jl, ?_⟩
   refine ⟨_, rfl, _, rfl, a, ns, 2, n, rfl, s0.seq hS, by omega, fun ts pt H1 ht LG s1 lt => ?_⟩
   refine ⟨_, rfl, _, rfl, _, rfl, a, ns, 10, n, rfl, (s0.trans s1).seq hS, n1, by omega, fun qs pq H2 hq Jf s2 lq => ?_⟩
   refine ⟨aK (by show 3 <= _; decide), fun p hp => ?_⟩
   exact k ts r qs p _ ⟨⟨by omega, by omega, LG⟩, by omega, r1, r3, by rw [ht]; exact Jf, pt, pq, ae, (lt.mono s2).mono (ag hp), lq.mono (ag hp)⟩ hq ((s0.trans s1).trans (s2.trans (ag hp)))
  refine ⟨_, (ah (sn 2 eS.nd (bo gK ai (bo dZ (cl bj aL hr aD (aa (pv 0) (aa ai af))) (pv 1))))
   (ah (bM (aE jX (bo dZ (bo js (cl bj aL hr aD (aa (pv 0) (aa ai af))) ai) ai) ai (a7 _))
   (aj (sn 2 eS.nd (pv 1)))
   aP)
   Sc)), ?_⟩
  refine ⟨_, rfl, a, ns, 0, rfl, hS, _, rfl, _, _, rfl, rfl, hm, _, _, rfl, rfl, ?_⟩
  have c0 : 0 <= ns.getD 0 0 % (m : Int) := VH _ (by omega)
  have c1 : ns.getD 0 0 % (m : Int) < m := Ve _ hm
  refine ⟨_, rfl, a, ns, 0, rfl, hS, _, _, rfl, rfl, ⟨by decide, by decide⟩, _, _, rfl, rfl, (by show (0 : Int) < 2; decide), rfl, _, rfl, ?_⟩
  refine BH (fun h => ?_) (fun h => ?_)
  ·refine ⟨_, rfl, ?_⟩
   exact MQ m h1 (SX _)
  ·have e : (1 : Int) + ns.getD 0 0 % (m : Int) = (((1 + ns.getD 0 0 % (m : Int)).toNat : Nat) : Int) := by omega
   have z := MQ (1 + ns.getD 0 0 % (m : Int)).toNat (by omega) (by omega)
   rw [<- e] at z
   exact z
def xp : Sp := fun vs H Q _ => ∃ (num : Int) (n : Nat), vs = [.int num, .int n] /\ n <= 1000 /\ ∀ (p : Addr) (H' : Hp), am H H' -> H' p = some (.tup ((bits n num).map V.int)) -> Q (.ref p) H'
theorem fJ : au ["number", "many", "group", "thing"] ["number", "many"] (ak fe) := fA
theorem Dp {f : Addr} {fd : FuncData} (F : Fn K mg "_law_bits" fe f fd ["number", "many"]) (T : Txt K mg C Z) : av P w K mg base bp 1 f fd ["number", "many"] xp := by
 refine F.fn.ok fJ (fun vs H Q E h => ?_) (fun b8 A outer s H vs Q E hr h => ?_)
 ·obtain ⟨num, n, rfl, _⟩ := h
  rfl
 ·obtain ⟨num, n, rfl, hn, k⟩ := h
  refine ⟨_, (ah (sn 2 fJ.nd (gL af))
   (ah (cY TR rfl (cA (by rfl) T.ej (aa (pv 1) af)) (gn 3 fJ.nd)
   (ah (bM (aE jX (bo dZ (pv 0) ai) ai (a7 _))
   (aj (dn (qS UA U7 U6 fL (pv 2) (aa (pv 3) af))))
   aP)
   (aj (sn 0 fJ.nd (bo js (pv 0) ai)))))
   (aj (az (bu bv (by rfl) T.cN UW (aa (pv 2) af)))))), ?_⟩
  refine ⟨Tw _, fun l hl => ?_⟩
  refine ⟨_, rfl, (n : Int), rfl, by omega, by omega, jF (fun i σ H' => ∃ (g : List Int) (m : Int) (v3 : Option V), σ = [some (.int m), some (.int n), some (.ref l), v3] /\ g.length <= i /\ i <= n /\ g ++ bY (n - i) i m = bits n num /\ am H H' /\ H' l = some (.lst (g.map V.int)))
   ⟨[], num, _, rfl, Tw _, Tw _, rfl, ag hl, ae⟩ ?_ ?_⟩
  ·rintro i σ H' hi ⟨g, m, v3, rfl, hg, tw, hb, sm, lR⟩
   have e0 : n - i = (n - (i + 1)) + 1 := by omega
   rw [e0] at hb
   have e1 : ((0 : Int) + (i : Int)) = (i : Int) := by omega
   have e2 : ((i + 1 : Nat) : Int) = (i : Int) + 1 := by omega
   refine ⟨_, rfl, _, _, rfl, rfl, (by show (0 : Int) < 2; decide), rfl, _, rfl, ?_⟩
   refine BH (fun h => ?_) (fun h => ?_)
   ·have hm : m % 2 = 1 := by
     have z : V.int (m % 2) = V.int 1 := Tt h
     injection z
    refine ⟨_, rfl, .inl ⟨rfl, _, a6.of lR⟩, _, rfl, l, _, _, rfl, rfl, lR, ?_, ?_⟩
    ·rw [SW]; exact aJ (by omega)
    refine ⟨_, rfl, _, _, rfl, rfl, ⟨by decide, by decide⟩, ?_⟩
    refine ⟨g ++ [(i : Int)], m / 2, _, rfl, by simp; omega, by omega, ?_, ao sm hl, ?_⟩
    ·rw [<- hb, bY, if_pos hm, e2, Tf]
    ·rw [ae, S4, e1]
     rfl
   ·have hm : ¬ m % 2 = 1 := fun z => h (S9 (by show V.int (m % 2) = V.int 1; rw [z]))
    refine ⟨_, rfl, _, _, rfl, rfl, ⟨by decide, by decide⟩, ?_⟩
    refine ⟨g, m / 2, _, rfl, by omega, by omega, ?_, sm, lR⟩
    rw [<- hb, bY, if_neg hm, e2]
    rfl
  ·rintro σ H' ⟨g, m, v3, rfl, hg, tw, hb, sm, lR⟩
   have e0 : n - ((n : Int)).toNat = 0 := by omega
   rw [e0] at hb
   have zF : g = bits n num := by rw [<- hb]; simp [bY]
   subst zF
   exact ⟨_, rfl, l, _, rfl, .inl ⟨a6.of lR, fun p hp => k p _ (ao sm (sm.free hp)) ae⟩⟩
def mf : Sp := fun vs H Q _ => ∃ (n : Nat), vs = [.int n] /\ n <= 6 /\ ∀ (p : Addr) (H' : Hp), am H H' -> LstAt i6 H' p (groups n) -> Q (.ref p) H'
theorem EU {n : Nat} (h : n <= 6) : zx [V.int 1, V.int 2, V.int 4, V.int 8, V.int 16, V.int 32, V.int 64] (n : Int) = some (V.int ((2 ^ n : Nat) : Int)) := by
 have c : n = 0 \/ n = 1 \/ n = 2 \/ n = 3 \/ n = 4 \/ n = 5 \/ n = 6 := by omega
 rcases c with rfl | rfl | rfl | rfl | rfl | rfl | rfl <;> rfl
theorem BP {n : Nat} (h : n <= 6) : 2 ^ n <= 64 := by
 have c : n = 0 \/ n = 1 \/ n = 2 \/ n = 3 \/ n = 4 \/ n = 5 \/ n = 6 := by omega
 rcases c with rfl | rfl | rfl | rfl | rfl | rfl | rfl <;> decide
theorem n0 : au ["many"] ["many"] (ak eW) := fA
theorem qC {f f1 : Addr} {fd fz : FuncData} (F : Fn K mg "_law_groups" eW f fd ["many"]) (T : Txt K mg C Z) (mS : Fn K mg "_law_bits" fe f1 fz ["number", "many"]) : av P w K mg base bp 2 f fd ["many"] mf := by
 have tL : av P w K mg base bp 1 f1 fz ["number", "many"] xp := Dp mS T
 refine F.fn.ok n0 (fun vs H Q E h => ?_) (fun b8 A outer s H vs Q E hr h => ?_)
 ·obtain ⟨n, rfl, _⟩ := h
  rfl
 ·obtain ⟨n, rfl, hn, k⟩ := h
  refine ⟨_, (aj (az (ba rfl (N' := ["number", "many"]) (cap := [none, some 0]) ⟨rfl, by with_unfolding_all rfl⟩ (cA (by rfl) T.ej (aa (aF eX (gL (aa ai (aa ai (aa ai (aa ai (aa ai (aa ai (aa ai af)))))))) (pv 0) (fun _ _ => rfl)) af)) (fun _ => (gn 0 (show (["number", "many"] : List Str).Nodup by decide +kernel))) (fun _ => bR) (fun _ => (cl tL mS hr aD (aa (pv 0) (aa (pv 1) af))))))), ?_⟩
  have hp := BP hn
  have Sm : (0 : Int) <= ((2 ^ n : Nat) : Int) := Int.natCast_nonneg _
  refine ⟨aK (by show 7 <= _; decide), fun l0 vk => ?_⟩
  have s0 : am H (L2.upd H l0 (.lst [V.int 1, V.int 2, V.int 4, V.int 8, V.int 16, V.int 32, V.int 64])) := ag vk
  refine ⟨_, rfl, l0, _, _, _, rfl, rfl, a6.of ae, EU hn, _, rfl, by omega, by omega, fun D hD => ?_⟩
  have Nv : H D = none := s0.free hD
  refine eQ (fun i xs H' => am H H' /\ H' D = some (.lst xs) /\ bF H' (((bn i).map (bits n)).map i6) xs)
   ⟨ao s0 Nv, ae, .nil⟩ (fun i xs H' _ ⟨_, h, _⟩ => h) ?_ ?_
  ·rintro i xs H' hi ⟨sm, dL, dv⟩
   have e1 : ((0 : Int) + (i : Int)) = (i : Int) := by omega
   have pT : i < 2 ^ n := by omega
   refine ⟨bP.set rfl, ?_⟩
   refine ⟨_, rfl, _, rfl, _, n, rfl, by omega, fun p H2 Gb K4 => ?_⟩
   have jq := Gb _ _ dL
   have dl : xs.length = i := by rw [aG dv, SW, aO]
   refine ⟨jq, aJ (by omega), ao (sm.trans Gb) Nv, ae, ?_⟩
   rw [cQ, S4, S4]
   refine (bi jq (dv.mono Gb) (aH fi _)).snoc (c7 jq (hW ?_) (fi _))
   rw [K4, e1]
  ·rintro xs H1 ⟨sm, pV, dv⟩
   have e : (((2 ^ n : Nat) : Int)).toNat = 2 ^ n := Ue _
   rw [e] at dv
   exact k D H1 sm ⟨xs, pV, dv⟩
end
section
variable {P : Program} {w : World} {K : VN} {mg : Str -> Option Value} {base : Heap} {C : Addr} {Z : Ad}
def iL : Sp := fun vs H Q _ => ∃ (a : Addr) (ts : List Th), vs = [.ref a] /\ LstAt wj H a ts /\ C0 ts /\ Q .cq H
theorem fq : au ["things", "pace", "rows"] ["things"] (ak cJ) := fA
theorem m8 {f : Addr} {fd : FuncData} (F : Fn K mg "check_things" cJ f fd ["things"]) (T : Txt K mg C Z) : av P w K mg base bp 1 f fd ["things"] iL := by
 refine F.fn.ok fq (fun vs H Q E h => ?_) (fun b8 A outer s H vs Q E hr h => ?_)
 ·obtain ⟨a, ts, rfl, _⟩ := h
  rfl
 ·obtain ⟨a, ts, rfl, ⟨va, ha, dv⟩, ok, k⟩ := h
  refine ⟨_, (ah (bM (eI (kN jc jc ai (ay aC (by rfl) T.c8 TL (aa (pv 0) af)) (iG (v := .int (6)) (by rfl) T.qu ⟨_, rfl⟩)))
   (aj hV)
   aP)
   (aj (cY TR rfl (bL (pv 0)) (mG rfl (aY (gn 1 fq.nd) (aY (gn 2 fq.nd) gg)))
   (aj (bM (eI (kN jc jc ai (pv 1) (iG (v := .int (1000000000)) (by rfl) T.ou ⟨_, rfl⟩)))
   (aj hV)
   aP))))), ?_⟩
  have hl := aG dv
  have l1 := ok.l1
  have l6 := ok.l6
  refine ⟨_, rfl, a, _, rfl, .inl (a6.of ha), _, _, rfl, rfl, _, rfl, ?_⟩
  rw [S9 (show (1 : Int) <= (va.length : Int) by omega)]
  refine ni ⟨_, _, rfl, rfl, _, rfl, ?_⟩
  rw [S9 (show (va.length : Int) <= 6 by omega)]
  refine dQ ?_
  refine ⟨_, rfl, a, rfl, ⟨_, a6.of ha⟩, dN (K := K) (a := a) (xs := va) (fun i σ H' => H' = H /\ ∃ v1 v2, σ = [some (.ref a), v1, v2]) ⟨rfl, _, _, rfl⟩ (fun i σ H' _ ⟨e, _⟩ => by rw [e]; exact a6.of ha) ?_ ?_⟩
  ·rintro i x σ H' hi ⟨rfl, v1, v2, rfl⟩
   obtain ⟨t, ht, dt⟩ := bE dv hi
   obtain ⟨b, rfl, hb⟩ := Am dt
   obtain ⟨p1, p2⟩ := ok.p t (Tx ht)
   refine ⟨b, _, rfl, aX.of hb, rfl, _, _, rfl, _, _, rfl, rfl, ?_⟩
   refine ⟨_, rfl, _, _, rfl, rfl, _, rfl, ?_⟩
   rw [S9 (show (1 : Int) <= t.1 from p1)]
   refine ni ⟨_, _, rfl, rfl, _, rfl, ?_⟩
   rw [S9 (show t.1 <= (1000000000 : Int) from p2)]
   exact dQ ⟨rfl, _, _, rfl⟩
  ·rintro σ H' ⟨rfl, v1, v2, rfl⟩
   exact k
def jY : Sp := fun vs H Q _ => ∃ (r : Int), vs = [.int r] /\ 1 <= r /\ r <= 3 /\ Q .cq H
theorem p8 : au ["room"] ["room"] (ak dM) := fA
theorem qp {f : Addr} {fd : FuncData} (F : Fn K mg "check_room" dM f fd ["room"]) (T : Txt K mg C Z) : av P w K mg base bp 1 f fd ["room"] jY := by
 refine F.fn.ok p8 (fun vs H Q E h => ?_) (fun b8 A outer s H vs Q E hr h => ?_)
 ·obtain ⟨r, rfl, _⟩ := h
  rfl
 ·obtain ⟨r, rfl, r1, r3, k⟩ := h
  refine ⟨_, (aj (bM (eI (kN jc jc ai (pv 0) (iG (v := .int (3)) (by rfl) T.tQ ⟨_, rfl⟩)))
   (aj hV)
   aP)), ?_⟩
  refine ⟨_, rfl, _, _, rfl, rfl, _, rfl, ?_⟩
  rw [S9 (show (1 : Int) <= r from r1)]
  refine ni ⟨_, _, rfl, rfl, _, rfl, ?_⟩
  rw [S9 (show r <= (3 : Int) from r3)]
  exact dQ k
def gr : Sp := fun vs H Q _ => ∃ (n c : Int), vs = [.int n, .int c] /\ Q (.bl (decide (0 <= n /\ n < c))) H
theorem tG : au ["number", "count"] ["number", "count"] (ak cw) := fA
theorem jh {f : Addr} {fd : FuncData} (F : Fn K mg "is_thing" cw f fd ["number", "count"]) : av P w K mg base bp 1 f fd ["number", "count"] gr := by
 refine F.fn.ok tG (fun vs H Q E h => ?_) (fun b8 A outer s H vs Q E hr h => ?_)
 ·obtain ⟨n, c, rfl, _⟩ := h
  rfl
 ·obtain ⟨n, c, rfl, k⟩ := h
  refine ⟨_, (aj (az (uZ jc uw ai (pv 0) (pv 1)))), ?_⟩
  refine ⟨_, rfl, _, _, rfl, rfl, _, rfl, ?_⟩
  refine BH (fun h => ?_) (fun h => ?_)
  ·have h0 : 0 <= n := Tt h
   refine ⟨_, rfl, _, _, rfl, rfl, ?_⟩
   have e : decide (n < c) = decide (0 <= n /\ n < c) := by rw [Vi]; simp [h0]
   show Q (V.bl (decide (n < c))) H
   rw [e]
   exact k
  ·have h0 : ¬ 0 <= n := fun z => h (S9 z)
   have e : decide (0 <= n /\ n < c) = false := Tp (fun z => h0 z.1)
   rw [e] at k
   exact k
def pe : Sp := fun vs H Q _ => ∃ (a b c : Int), vs = [.int a, .int b, .int c] /\ Q (.bl (decide (0 <= a /\ a < c) && (decide (0 <= b /\ b < c) && !decide (V.int a = V.int b)))) H
theorem wq : au ["one", "other", "count"] ["one", "other", "count"] (ak fM) := fA
theorem vA {f f1 : Addr} {fd fz : FuncData} (F : Fn K mg "is_pair" fM f fd ["one", "other", "count"]) (bh : Fn K mg "is_thing" cw f1 fz ["number", "count"]) : av P w K mg base bp 2 f fd ["one", "other", "count"] pe := by
 have eK : av P w K mg base bp 1 f1 fz ["number", "count"] gr := jh bh
 refine F.fn.ok wq (fun vs H Q E h => ?_) (fun b8 A outer s H vs Q E hr h => ?_)
 ·obtain ⟨a, b, c, rfl, _⟩ := h
  rfl
 ·obtain ⟨a, b, c, rfl, k⟩ := h
  refine ⟨_, (aj (az (eN (cl eK bh hr aD (aa (pv 0) (aa (pv 2) af))) (eN (cl eK bh hr aD (aa (pv 1) (aa (pv 2) af))) (ii (fB lP (pv 0) (pv 1) (a7 _))))))), ?_⟩
  refine ⟨_, rfl, _, rfl, _, _, rfl, _, rfl, ?_⟩
  refine bC (fun h1 => ?_) (fun h1 => ?_)
  ·refine ⟨_, rfl, _, rfl, _, _, rfl, _, rfl, ?_⟩
   refine bC (fun h2 => ?_) (fun h2 => ?_)
   ·refine ⟨_, rfl, _, rfl, rfl, ?_⟩
    rw [h1, h2] at k
    exact k
   ·rw [h1, h2] at k
    exact k
  ·rw [h1] at k
   exact k
def kF : Sp := fun vs H Q _ => ∃ (kp a b c : Int), vs = [.int kp, .int a, .int b, .int c] /\ Q (.bl (decide (V.int kp = V.int (-1)) || (decide (0 <= kp /\ kp < c) && (!decide (V.int kp = V.int a) && !decide (V.int kp = V.int b))))) H
theorem sQ : au ["keeper", "one", "other", "count"] ["keeper", "one", "other", "count"] (ak dI) := fA
theorem rP {f f1 : Addr} {fd fz : FuncData} (F : Fn K mg "is_keeper" dI f fd ["keeper", "one", "other", "count"]) (T : Txt K mg C Z) (bh : Fn K mg "is_thing" cw f1 fz ["number", "count"]) : av P w K mg base bp 2 f fd ["keeper", "one", "other", "count"] kF := by
 have eK : av P w K mg base bp 1 f1 fz ["number", "count"] gr := jh bh
 refine F.fn.ok sQ (fun vs H Q E h => ?_) (fun b8 A outer s H vs Q E hr h => ?_)
 ·obtain ⟨kp, a, b, c, rfl, _⟩ := h
  rfl
 ·obtain ⟨kp, a, b, c, rfl, k⟩ := h
  refine ⟨_, (ah (bM (aE jX (pv 0) (iG (v := .int (-1)) (by rfl) T.tU ⟨_, rfl⟩) (a7 _))
   (aj (az gW))
   aP)
   (aj (az (eN (cl eK bh hr aD (aa (pv 0) (aa (pv 3) af))) (eN (fB lP (pv 0) (pv 1) (a7 _)) (ii (fB lP (pv 0) (pv 2) (a7 _)))))))), ?_⟩
  refine ⟨_, rfl, rfl, _, rfl, ?_⟩
  refine bC (fun h0 => ?_) (fun h0 => ?_)
  ·rw [h0] at k
   exact k
  ·rw [h0] at k
   refine ⟨_, rfl, _, rfl, _, _, rfl, _, rfl, ?_⟩
   refine bC (fun h1 => ?_) (fun h1 => ?_)
   ·rw [h1] at k
    refine ⟨_, rfl, _, rfl, rfl, _, rfl, ?_⟩
    refine bC (fun h2 => ?_) (fun h2 => ?_)
    ·rw [h2] at k
     refine ⟨_, rfl, _, rfl, rfl, ?_⟩
     exact k
    ·rw [h2] at k
     exact k
   ·rw [h1] at k
    exact k
def gy : Sp := fun vs H Q _ => ∃ (a : Addr) (n : Nat) (qs : List Qu), vs = [.ref a, .int n] /\ LstAt xN H a qs /\ qs.length <= 30 /\ (∀ q ∈ qs, GI n q) /\ Q .cq H
theorem cD : au ["quarrels", "count", "one", "other", "keeper"] ["quarrels", "count"] (ak ci) := fA
theorem lu {f f1 f2 f3 : Addr} {fd fz mD yj : FuncData} (F : Fn K mg "check_quarrels" ci f fd ["quarrels", "count"]) (T : Txt K mg C Z) (bh : Fn K mg "is_thing" cw f1 fz ["number", "count"])
  (jL : Fn K mg "is_pair" fM f2 mD ["one", "other", "count"]) (gh : Fn K mg "is_keeper" dI f3 yj ["keeper", "one", "other", "count"]) : av P w K mg base bp 3 f fd ["quarrels", "count"] gy := by
 have zf : av P w K mg base bp 2 f2 mD ["one", "other", "count"] pe := vA jL bh
 have tS : av P w K mg base bp 2 f3 yj ["keeper", "one", "other", "count"] kF := rP gh T bh
 refine F.fn.ok cD (fun vs H Q E h => ?_) (fun b8 A outer s H vs Q E hr h => ?_)
 ·obtain ⟨a, n, qs, rfl, _⟩ := h
  rfl
 ·obtain ⟨a, n, qs, rfl, ⟨va, ha, dv⟩, RU, ok, k⟩ := h
  refine ⟨_, (ah (bM (aE xP (ay aC (by rfl) T.c8 TL (aa (pv 0) af)) (iG (v := .int (30)) (by rfl) T.nj ⟨_, rfl⟩) (a7 _))
   (aj hV)
   aP)
   (aj (cY TR rfl (bL (pv 0)) (mG rfl (aY (gn 2 cD.nd) (aY (gn 3 cD.nd) (aY (gn 4 cD.nd) gg))))
   (ah (bM (eI (cF (cl zf jL hr aD (aa (pv 2) (aa (pv 3) (aa (pv 1) af))))))
   (aj hV)
   aP)
   (aj (bM (eI (cF (cl tS gh hr aD (aa (pv 4) (aa (pv 2) (aa (pv 3) (aa (pv 1) af)))))))
   (aj hV)
   aP)))))), ?_⟩
  have hl := aG dv
  refine ⟨_, rfl, a, _, rfl, .inl (a6.of ha), _, _, rfl, rfl, _, rfl, ?_⟩
  rw [Tp (show ¬ (30 : Int) < (va.length : Int) by omega)]
  refine dQ ?_
  refine ⟨_, rfl, a, rfl, ⟨_, a6.of ha⟩, dN (K := K) (a := a) (xs := va) (fun i σ H' => H' = H /\ ∃ v1 v2 v3, σ = [some (.ref a), some (.int n), v1, v2, v3]) ⟨rfl, _, _, _, rfl⟩ (fun i σ H' _ ⟨e, _⟩ => by rw [e]; exact a6.of ha) ?_ ?_⟩
  ·rintro i x σ H' hi ⟨rfl, v1, v2, v3, rfl⟩
   obtain ⟨q, hq, dq⟩ := bE dv hi
   obtain ⟨b, rfl, hb⟩ := we dq
   have o := ok q (Tx hq)
   refine ⟨b, _, rfl, aX.of hb, rfl, _, _, rfl, _, _, rfl, _, _, rfl, rfl, ?_⟩
   refine ⟨_, rfl, _, rfl, _, rfl, _, _, _, rfl, _, rfl, ?_⟩
   have e1 : decide (0 <= q.1 /\ q.1 < (n : Int)) = true := S9 ⟨o.a0, o.a1⟩
   have e2 : decide (0 <= q.2.1 /\ q.2.1 < (n : Int)) = true := S9 ⟨o.b0, o.b1⟩
   have e3 : decide (V.int q.1 = V.int q.2.1) = false := Tp fun z => o.ab (by injection z)
   rw [e1, e2, e3]
   refine dQ ?_
   refine ⟨_, rfl, _, rfl, _, rfl, _, rfl, _, _, _, _, rfl, _, rfl, ?_⟩
   have e4 : (decide (V.int q.2.2 = V.int (-1)) || (decide (0 <= q.2.2 /\ q.2.2 < (n : Int)) && (!decide (V.int q.2.2 = V.int q.1) && !decide (V.int q.2.2 = V.int q.2.1)))) = true := by
    rcases o.k with z | ⟨z1, z2, z3, z4⟩
    ·rw [S9 (show V.int q.2.2 = V.int (-1) by rw [z])]
     rfl
    ·rw [S9 (show 0 <= q.2.2 /\ q.2.2 < (n : Int) from ⟨z1, z2⟩), Tp (show ¬ V.int q.2.2 = V.int q.1 from fun z => z3 (by injection z)), Tp (show ¬ V.int q.2.2 = V.int q.2.1 from fun z => z4 (by injection z))]
     simp
   rw [e4]
   exact dQ ⟨rfl, _, _, _, rfl⟩
  ·rintro σ H' ⟨rfl, v1, v2, v3, rfl⟩
   exact k
def xj (C : Addr) : Sp := fun vs H Q _ => ∃ (p dx a b : Addr) (ts : List Th) (r : Int) (qs : List Qu), vs = [.ref p, .ref a, .int r, .ref b] /\ H p = some (.ins C dx []) /\ LstAt wj H a ts /\ C0 ts /\ 1 <= r /\ r <= 3 /\ LstAt xN H b qs /\ qs.length <= 30 /\ (∀ q ∈ qs, GI ts.length q) /\
 ∀ H', bb C H' p ts r qs -> (∀ b o, H b = some o -> b ≠ p -> H' b = some o) -> Q .cq H'
theorem kZ : au ["self", "things", "room", "quarrels"] ["self", "things", "room", "quarrels"] (ak cO) := fA
theorem DE {f f1 f2 f3 f4 f5 f6 : Addr} {fd fz mD yj HE MO MY : FuncData} (F : Mt K "__init__" "Night.__init__" cO f fd ["self", "things", "room", "quarrels"]) (T : Txt K mg C Z) (bh : Fn K mg "is_thing" cw f1 fz ["number", "count"])
  (jL : Fn K mg "is_pair" fM f2 mD ["one", "other", "count"]) (gh : Fn K mg "is_keeper" dI f3 yj ["keeper", "one", "other", "count"])
  (ja : Fn K mg "check_things" cJ f4 HE ["things"]) (kP : Fn K mg "check_room" dM f5 MO ["room"]) (hJ : Fn K mg "check_quarrels" ci f6 MY ["quarrels", "count"]) :
  av P w K mg base bp 4 f fd ["self", "things", "room", "quarrels"] (xj C) := by
 have oG : av P w K mg base bp 1 f4 HE ["things"] iL := m8 ja T
 have rQ : av P w K mg base bp 1 f5 MO ["room"] jY := qp kP T
 have mE : av P w K mg base bp 3 f6 MY ["quarrels", "count"] gy := lu hJ T bh jL gh
 refine F.fn.ok kZ (fun vs H Q E h => ?_) (fun b8 A outer s H vs Q E hr h => ?_)
 ·obtain ⟨p, dx, a, b, ts, r, qs, rfl, _⟩ := h
  rfl
 ·obtain ⟨p, dx, a, b, ts, r, qs, rfl, hp, lt, LG, r1, r3, lq, hq, Jf, k⟩ := h
  refine ⟨_, (ah (dn (cl oG ja hr aD (aa (pv 1) af)))
   (ah (dn (cl rQ kP hr aD (aa (pv 2) af)))
   (ah (dn (cl mE hJ hr aD (aa (pv 3) (aa (ay aC (by rfl) T.c8 TL (aa (pv 1) af)) af))))
   (ah (wr (pv 0) (bu bv (by rfl) T.cN UW (aa (pv 1) af)) rfl)
   (ah (wr (pv 0) (pv 2) rfl)
   (aj (wr (pv 0) (bu bv (by rfl) T.cN UW (aa (pv 3) af)) rfl))))))), ?_⟩
  obtain ⟨va, ha, NL⟩ := id lt
  obtain ⟨vb, hb, PD⟩ := id lq
  have hl := aG NL
  refine ⟨_, rfl, a, ts, rfl, lt, LG, ?_⟩
  refine ⟨_, rfl, r, rfl, r1, r3, ?_⟩
  refine ⟨_, rfl, _, rfl, a, _, rfl, .inl (a6.of ha), b, va.length, qs, rfl, lq, hq, by rw [hl]; exact Jf, ?_⟩
  refine ⟨_, rfl, a, _, rfl, .inl ⟨a6.of ha, fun t ht => ?_⟩⟩
  have Nm : p ≠ t := ax hp ht
  have Qg : b ≠ t := ax hb ht
  refine ⟨_, rfl, p, C, dx, [], rfl, (by rw [aq Nm]; exact hp), T.bK, T.oU, (by show 0 < 1000; decide), ?_⟩
  refine ⟨_, rfl, _, rfl, p, C, dx, _, rfl, ae, T.bK, T.zO, (by show 1 < 1000; decide), ?_⟩
  have MZ : b ≠ p := eu hb hp (by intro z; cases z)
  have RJ : ∀ o o', (L2.upd (L2.upd (L2.upd H t (.tup va)) p o) p o') b = some (.lst vb) := fun o o' => by rw [aq MZ, aq MZ, aq Qg]; exact hb
  refine ⟨_, rfl, b, _, rfl, .inl ⟨a6.of (RJ _ _), fun q vh => ?_⟩⟩
  have M0 : p ≠ q := ax (H := L2.upd (L2.upd (L2.upd H t (.tup va)) p _) p _) ae vh
  refine ⟨_, rfl, p, C, dx, _, rfl, (by rw [aq M0]; exact ae), T.bK, T.pN, (by show 2 < 1000; decide), ?_⟩
  have old : ∀ b o, H b = some o -> b ≠ p -> (L2.upd (L2.upd (L2.upd (L2.upd (L2.upd H t (.tup va)) p (.ins C dx (dE "kept_things" (.ref t) []))) p (.ins C dx (dE "kept_room" (.int r) (dE "kept_things" (.ref t) [])))) q (.tup vb)) p (.ins C dx (lF t r q))) b = some o := fun c o hc Hl => by
   have Pg : c ≠ t := ax hc ht
   have h1 : (L2.upd (L2.upd (L2.upd H t (.tup va)) p (.ins C dx (dE "kept_things" (.ref t) []))) p (.ins C dx (dE "kept_room" (.int r) (dE "kept_things" (.ref t) [])))) c = some o := by rw [aq Hl, aq Hl, aq Pg]; exact hc
   have RH : c ≠ q := ax h1 vh
   rw [aq Hl, aq RH]
   exact h1
  have LL : t ≠ p := fun e => Nm e.symm
  have Na : (L2.upd (L2.upd (L2.upd H t (.tup va)) p (.ins C dx (dE "kept_things" (.ref t) []))) p (.ins C dx (dE "kept_room" (.int r) (dE "kept_things" (.ref t) [])))) t = some (.tup va) := by rw [aq LL, aq LL]; exact ae
  have QA : t ≠ q := ax Na vh
  have sm : ∀ {α : Type} {f : α -> PyData} {l : List α} {vs : List V}, (∀ x, eD (f x) = true) -> bF H (l.map f) vs -> bF (L2.upd (L2.upd (L2.upd (L2.upd (L2.upd H t (.tup va)) p (.ins C dx (dE "kept_things" (.ref t) []))) p (.ins C dx (dE "kept_room" (.int r) (dE "kept_things" (.ref t) [])))) q (.tup vb)) p (.ins C dx (lF t r q))) (l.map f) vs := fun {α f l vs} hf h => nR (fun b ws hb => old b _ hb (by
    intro z
    rw [z, hp] at hb
    cases hb)) h (aH hf l)
  refine k _ ⟨dx, t, q, ae, ⟨va, ?_, sm xY NL⟩, ⟨vb, ?_, sm xR PD⟩⟩ old
  ·rw [aq LL, aq QA]; exact Na
  ·rw [aq (fun e => M0 e.symm)]; exact ae
def fT (C : Addr) : Sp := fun vs H Q _ => ∃ (p : Addr) (ts : List Th) (r : Int) (qs : List Qu), vs = [.ref p] /\ bb C H p ts r qs /\ ∀ l vs, H l = none -> bF H (ts.map wj) vs -> Q (.ref l) (L2.upd H l (.lst vs))
theorem nD : au ["self"] ["self"] (ak bz) := fA
theorem ik {f : Addr} {fd : FuncData} (F : Mt K "things" "Night.things" bz f fd ["self"]) (T : Txt K mg C Z) : av P w K mg base bp 1 f fd ["self"] (fT C) := by
 refine F.fn.ok nD (fun vs H Q E h => ?_) (fun b8 A outer s H vs Q E hr h => ?_)
 ·obtain ⟨p, ts, r, qs, rfl, _⟩ := h
  rfl
 ·obtain ⟨p, ts, r, qs, rfl, N, k⟩ := h
  obtain ⟨dx, t, q, hp, ⟨vt, ht, dt⟩, _⟩ := N.ex
  refine ⟨_, (aj (az (bu iC (by rfl) T.rR boot_list (aa (sK (pv 0) rfl) af)))), ?_⟩
  exact ⟨_, rfl, p, C, dx, _, _, rfl, hp, T.bK, T.oU, Be _ _ _, t, _, rfl, .inr (aX.of ht), fun l hl => k l vt hl dt⟩
def uC (C : Addr) : Sp := fun vs H Q _ => ∃ (p : Addr) (ts : List Th) (r : Int) (qs : List Qu), vs = [.ref p] /\ bb C H p ts r qs /\ Q (.int r) H
theorem p0 : au ["self"] ["self"] (ak fC) := fA
theorem Bf {f : Addr} {fd : FuncData} (F : Mt K "room" "Night.room" fC f fd ["self"]) (T : Txt K mg C Z) : av P w K mg base bp 1 f fd ["self"] (uC C) := by
 refine F.fn.ok p0 (fun vs H Q E h => ?_) (fun b8 A outer s H vs Q E hr h => ?_)
 ·obtain ⟨p, ts, r, qs, rfl, _⟩ := h
  rfl
 ·obtain ⟨p, ts, r, qs, rfl, N, k⟩ := h
  obtain ⟨dx, t, q, hp, _, _⟩ := N.ex
  refine ⟨_, (aj (az (sK (pv 0) rfl))), ?_⟩
  exact ⟨_, rfl, p, C, dx, _, _, rfl, hp, T.bK, T.zO, Gc _ _ _, k⟩
def E6 (n : Nat) : PyData := .tuple [i6 (bn n), .int 0]
def oh (C : Addr) : Sp := fun vs H Q _ => ∃ (p : Addr) (ts : List Th) (r : Int) (qs : List Qu), vs = [.ref p] /\ bb C H p ts r qs /\ ts.length <= 6 /\ ∀ l H', am H H' -> DV H' (E6 ts.length) (.ref l) -> Q (.ref l) H'
theorem nu : au ["self"] ["self"] (ak cG) := fA
theorem vJ {f : Addr} {fd : FuncData} (F : Mt K "begins" "Night.begins" cG f fd ["self"]) (T : Txt K mg C Z) : av P w K mg base bp 1 f fd ["self"] (oh C) := by
 refine F.fn.ok nu (fun vs H Q E h => ?_) (fun b8 A outer s H vs Q E hr h => ?_)
 ·obtain ⟨p, ts, r, qs, rfl, _⟩ := h
  rfl
 ·obtain ⟨p, ts, r, qs, rfl, N, h6, k⟩ := h
  obtain ⟨dx, t, q, hp, ⟨vt, ht, dt⟩, _⟩ := N.ex
  have hl := aG dt
  refine ⟨_, (aj (az (bW (aa (bu (mk rfl) (by rfl) T.cN UW (aa (bu t4 (by rfl) T.ej boot_range (aa (ay aC (by rfl) T.c8 TL (aa (sK (pv 0) rfl) af)) af)) af)) (aa ai af))))), ?_⟩
  refine ⟨_, rfl, p, C, dx, _, _, rfl, hp, T.bK, T.oU, Be _ _ _, t, _, rfl, .inr (aX.of ht), _, rfl, fun l lR => ?_⟩
  refine ⟨l, ts.length, rfl, by rw [hl]; exact ae, by omega, fun g hg => ?_⟩
  refine ⟨aK (by show 2 <= _; decide), fun o ho => ?_⟩
  have sg : am H (L2.upd (L2.upd H l (.Cf 0 (vt.length : Nat))) g (.tup ((bn ts.length).map V.int))) := ao (ag lR) ((ag lR).free hg)
  refine k o _ (ao sg (sg.free ho)) (.tup ae (.cons (hW ?_) (.cons (.int 0) .nil)))
  rw [aq (ax (H := L2.upd (L2.upd H l (.Cf 0 (vt.length : Nat))) g (.tup ((bn ts.length).map V.int))) ae ho)]
  exact ae
def LX : PyData := .tuple [.tuple [], .int 1]
def vc : Sp := fun vs H Q _ => ∃ (p : Addr), vs = [.ref p] /\ ∀ l H', am H H' -> DV H' LX (.ref l) -> Q (.ref l) H'
theorem qd : au ["self"] ["self"] (ak fG) := fA
theorem Ag {f : Addr} {fd : FuncData} (F : Mt K "ends" "Night.ends" fG f fd ["self"]) : av P w K mg base bp 1 f fd ["self"] vc := by
 refine F.fn.ok qd (fun vs H Q E h => ?_) (fun b8 A outer s H vs Q E hr h => ?_)
 ·obtain ⟨p, rfl, _⟩ := h
  rfl
 ·obtain ⟨p, rfl, k⟩ := h
  refine ⟨_, (aj (az (bW (aa (bW af) (aa ai af))))), ?_⟩
  refine ⟨Tw _, fun g hg => ⟨aK (by show 2 <= _; decide), fun o ho => ?_⟩⟩
  have sg : am H (L2.upd H g (.tup [])) := ag hg
  refine k o _ (ao sg (sg.free ho)) (.tup ae (.cons (.tup ?_ .nil) (.cons (.int 1) .nil)))
  rw [aq (ax (H := L2.upd H g (.tup [])) ae ho)]
  exact ae
end
theorem cx (t : Addr) (r : Int) (q : Addr) : (lF t r q).lookup ("things" : Str) = none := rM _ _ _ (by decide +kernel) (by decide +kernel) (by decide +kernel)
theorem vN (t : Addr) (r : Int) (q : Addr) : (lF t r q).lookup ("room" : Str) = none := rM _ _ _ (by decide +kernel) (by decide +kernel) (by decide +kernel)
theorem jH (t : Addr) (r : Int) (q : Addr) : (lF t r q).lookup ("peace" : Str) = none := rM _ _ _ (by decide +kernel) (by decide +kernel) (by decide +kernel)
def cI (H : Hp) (a : Addr) (st : bc) : Prop := ∃ b, H a = some (.tup [.ref b, .int st.2]) /\ H b = some (.tup (st.1.map V.int))
theorem cI.mono {H H' : Hp} {a : Addr} {st : bc} (h : cI H a st) (e : am H H') : cI H' a st := let ⟨b, h1, h2⟩ := h; ⟨b, e _ _ h1, e _ _ h2⟩
theorem cI.dv {H : Hp} {a : Addr} {st : bc} (h : cI H a st) : DV H (jz st) (.ref a) := let ⟨_, h1, h2⟩ := h; .tup h1 (.cons (hW h2) (.cons (.int _) .nil))
section
variable {P : Program} {w : World} {K : VN} {mg : Str -> Option Value} {base : Heap} {C : Addr} {Z : Ad}
def uT : Sp := fun vs H Q _ => ∃ (a : Addr) (g : List Int), vs = [.ref a] /\ H a = some (.tup (g.map V.int)) /\ g.length <= 1000 /\ ∀ H', am H H' -> Q (.bl (m4 g)) H'
theorem AL : au ["group"] ["group"] (ak lj) := fA
theorem A6 {f : Addr} {fd : FuncData} (F : Fn K mg "rises" lj f fd ["group"]) (T : Txt K mg C Z) : av P w K mg base bp 1 f fd ["group"] uT := by
 refine F.fn.ok AL (fun vs H Q E h => ?_) (fun b8 A outer s H vs Q E hr h => ?_)
 ·obtain ⟨a, g, rfl, _⟩ := h
  rfl
 ·obtain ⟨a, g, rfl, ha, hl, k⟩ := h
  refine ⟨_, (aj (az (ay (ox rfl) (by rfl) T.A5 boot_all (aa (ba rfl (N' := ["one", "other"]) (cap := [none, none]) ⟨rfl, by with_unfolding_all rfl⟩ (ET (by rfl) T.Jc boot_zip (aa (pv 0) (aa (Bj B0 (pv 0) (Dk ai) DK) af))) (fun _ => (tupK (K := K) (n := 2) rfl rfl (aY (gn 0 (show (["one", "other"] : List Str).Nodup by decide +kernel)) (aY (gn 1 (show (["one", "other"] : List Str).Nodup by decide +kernel)) gg)))) (fun _ => bR) (fun _ => (fB uw (pv 0) (pv 1) (a7 _)))) af)))), ?_⟩
  refine ⟨_, rfl, _, rfl, 1, rfl, ?_⟩
  by_cases hg : g = []
  ·subst hg
   refine .inr ⟨a, _, rfl, aX.of ha, ⟨rfl, rfl⟩, a, a, _, _, rfl, ha, ha, fun D hD => ?_⟩
   refine u3 (n := 0) (fun i xs H' => am H H' /\ H' D = some (.lst xs) /\ xs = [] /\ H' a = some (.tup [])) ⟨ag hD, ae, rfl, (ag hD) _ _ ha⟩ rfl (fun i xs H' _ ⟨_, h, _, h2⟩ => ⟨h, h2, h2⟩) ?_ ?_
   ·rintro i x y xs H' p hx
    simp at hx
   ·rintro xs H' ⟨sm, dL, rfl, _⟩
    exact ⟨D, [], rfl, a6.of dL, k H' sm⟩
  ·have h1 : 1 <= g.length := Vy.mpr hg
   have e1 : HT.dC (g.map V.int).length 0 (some ((1 : Nat) : Int)) = 1 := by rw [HT.CL, SW]; omega
   refine .inl ⟨a, _, rfl, aX.of ha, (fun z => by have z1 := z.1; rw [show (1 : Int) = ((1 : Nat) : Int) from rfl, e1] at z1; cases z1), fun p hp => ?_⟩
   have ec : t3 (g.map V.int) (some 1) none = (g.drop 1).map V.int := by
    unfold t3
    rw [show (1 : Int) = ((1 : Nat) : Int) from rfl, e1]
    show List.take ((g.map V.int).length - 1) _ = _
    rw [<- List.map_drop, Ta (by simp)]
   rw [ec]
   have s1 : am H (L2.upd H p (.tup ((g.drop 1).map V.int))) := ag hp
   refine ⟨a, p, _, _, rfl, s1 _ _ ha, ae, fun D hD => ?_⟩
   have Qt := s1.free hD
   refine u3 (as := g.map V.int) (bs := (g.drop 1).map V.int) (n := g.length - 1) (fun i xs H' => am (L2.upd H p (.tup ((g.drop 1).map V.int))) H' /\ H' D = some (.lst xs) /\ xs = ((g.zip (g.drop 1)).take i).map fun q => V.bl (decide (q.1 < q.2)))
    ⟨ag hD, ae, by simp⟩ (by simp) (fun i xs H' _ ⟨sm, h, _⟩ => ⟨h, sm _ _ (s1 _ _ ha), sm _ _ ae⟩) ?_ ?_
   ·rintro i x y xs H' q hx hy hq ⟨sm, dL, rfl⟩
    rw [Tc, TV] at hx hy
    obtain ⟨x', tj, rfl⟩ := hx
    obtain ⟨y', gd, rfl⟩ := hy
    refine ⟨q, _, rfl, aX.of ae, rfl, _, _, rfl, _, _, rfl, rfl, (bP.set rfl).trans (bP.set rfl), ?_⟩
    have sq : am H' (L2.upd H' q (.tup [V.int x', V.int y'])) := ag hq
    have R9 := sq _ _ dL
    refine ⟨_, rfl, _, rfl, _, _, rfl, rfl, R9, aJ (by rw [SW, Tl]; simp; omega), ao (sm.trans sq) hD, ae, ?_⟩
    have ez : (g.zip (g.drop 1))[i]? = some (x', y') := by rw [List.getElem?_zip_eq_some]; exact ⟨tj, gd⟩
    rw [To, ez]
    simp
   ·rintro xs H' ⟨sm, dL, rfl⟩
    refine ⟨D, (g.zip (g.drop 1)).map (fun q : Int × Int => decide (q.1 < q.2)), rfl, a6.of ?_, k H' (s1.trans sm)⟩
    rw [dL, TN, Ta (by simp)]
    rfl
def gQ (C : Addr) : Sp := fun vs H Q _ => ∃ (p b : Addr) (ts : List Th) (r : Int) (qs : List Qu) (g : List Int), vs = [.ref p, .ref b] /\ bb C H p ts r qs /\ ts.length <= 6 /\ H b = some (.tup (g.map V.int)) /\
 ∀ l H', am H H' -> H' l = some (.tup ((restOf ts.length g).map V.int)) -> Q (.ref l) H'
theorem qt : au ["night", "group"] ["night", "group"] (ak dP) := fA
theorem jV {f f1 : Addr} {fd fz : FuncData} (F : Fn K mg "other_bank" dP f fd ["night", "group"]) (T : Txt K mg C Z) (bd : Meth K C "things" f1) (aR : Mt K "things" "Night.things" bz f1 fz ["self"]) :
  av P w K mg base bp 2 f fd ["night", "group"] (gQ C) := by
 have bT : av P w K mg base bp 1 f1 fz ["self"] (fT C) := ik aR T
 refine F.fn.ok qt (fun vs H Q E h => ?_) (fun b8 A outer s H vs Q E hr h => ?_)
 ·obtain ⟨p, b, ts, r, qs, g, rfl, _⟩ := h
  rfl
 ·obtain ⟨p, b, ts, r, qs, g, rfl, N, h6, hb, k⟩ := h
  obtain ⟨dx, t, q, hp, _, _⟩ := id N.ex
  refine ⟨_, (aj (az (bu bv (by rfl) T.cN UW (aa (ba rfl (N' := ["thing", "group"]) (cap := [none, some 1]) ⟨rfl, by with_unfolding_all rfl⟩ (cA (by rfl) T.ej (aa (ay aC (by rfl) T.c8 TL (aa (fQ (pv 0) T.bK bd bT (hr.mono (by decide)) aR.b .nil aD) af)) af)) (fun _ => (gn 0 (show (["thing", "group"] : List Str).Nodup by decide +kernel))) (fun _ => (ck (aE (pF (K := K) rfl) (pv 0) (pv 1) (by with_unfolding_all rfl)))) (fun _ => (pv 0))) af)))), ?_⟩
  refine ⟨_, rfl, p, dx, _, rfl, hp, cx _ _ _, p, ts, r, qs, rfl, N, fun l vs hl dv => ?_⟩
  have s1 : am H (L2.upd H l (.lst vs)) := ag hl
  have lv := aG dv
  refine ⟨l, _, rfl, .inl (a6.of ae), _, rfl, by omega, by omega, fun D hD => ?_⟩
  have Qt := s1.free hD
  rw [Ue, lv]
  refine eQ (n := ts.length) (fun i xs H' => am (L2.upd H l (.lst vs)) H' /\ H' D = some (.lst xs) /\ xs = ((bn i).filter fun t => !g.contains t).map V.int)
   ⟨ag hD, ae, rfl⟩ (fun i xs H' _ ⟨_, h, _⟩ => h) ?_ ?_
  ·rintro i xs H' hi ⟨sm, dL, rfl⟩
   have e1 : ((0 : Int) + (i : Int)) = (i : Int) := by omega
   refine ⟨bP.set rfl, ?_⟩
   refine ⟨_, rfl, _, rfl, b, _, rfl, .inr (aX.of (sm _ _ (s1 _ _ hb))), rfl, bN g, _, rfl, ?_⟩
   rw [bQ, e1]
   have sl : ((bn i).filter fun t => !g.contains t).length <= i := S8 (Tr _ _) (by rw [aO]; exact SX _)
   refine bC (fun h1 => ?_) (fun h1 => ?_)
   ·refine ⟨_, rfl, dL, aJ (by rw [SW]; omega), ao sm hD, ae, ?_⟩
    rw [cQ, Tv, S4]
    have cX : (!g.contains (i : Int)) = true := h1
    have ef : [(i : Int)].filter (fun t => !g.contains t) = [(i : Int)] := by rw [TF, if_pos cX]; rfl
    rw [ef]
    rfl
   ·refine ⟨sm, dL, ?_⟩
    have cX : (!g.contains (i : Int)) = false := h1
    have ef : [(i : Int)].filter (fun t => !g.contains t) = [] := by rw [TF, if_neg (by rw [cX]; simp)]; rfl
    rw [cQ, Tv, S4, ef]
    simp
  ·rintro xs H' ⟨sm, dL, rfl⟩
   have sH := s1.trans sm
   exact ⟨D, _, rfl, .inl ⟨a6.of dL, fun o ho => k o _ (ao sH (sH.free ho)) ae⟩⟩
def iu (C : Addr) : Sp := fun vs H Q _ => ∃ (p a : Addr) (ts : List Th) (r : Int) (qs : List Qu) (st : bc), vs = [.ref p, .ref a] /\ bb C H p ts r qs /\ ts.length <= 6 /\ cI H a st /\ ∀ H', am H H' -> Q (.bl (be qs ts.length st.1)) H'
theorem vZ : au ["night", "standing"] ["night", "standing"] (ak jx) := fA
theorem kr {f f1 f2 f3 : Addr} {fd fz mD yj : FuncData} (F : Fn K mg "is_good" jx f fd ["night", "standing"]) (T : Txt K mg C Z) (bd : Meth K C "things" f1) (aR : Mt K "things" "Night.things" bz f1 fz ["self"])
  (jT : Meth K C "peace" f2) (gH : Mt K "peace" "Night.peace" di f2 mD ["self", "group"]) (fD : Fn K mg "other_bank" dP f3 yj ["night", "group"]) : av P w K mg base bp 3 f fd ["night", "standing"] (iu C) := by
 have j3 : av P w K mg base bp 1 f2 mD ["self", "group"] (qG C) := zv gH T
 have iE : av P w K mg base bp 2 f3 yj ["night", "group"] (gQ C) := jV fD T bd aR
 refine F.fn.ok vZ (fun vs H Q E h => ?_) (fun b8 A outer s H vs Q E hr h => ?_)
 ·obtain ⟨p, a, ts, r, qs, st, rfl, _⟩ := h
  rfl
 ·obtain ⟨p, a, ts, r, qs, st, rfl, N, h6, ⟨b, ha, hb⟩, k⟩ := h
  obtain ⟨dx, t, q, hp, _, _⟩ := id N.ex
  refine ⟨_, (aj (az (eN (wT (pv 0) T.bK jT j3 (hr.mono (by decide)) gH.b .nil aD (aa (aF aI (pv 1) ai (fun _ _ => rfl)) af)) (ii (wT (pv 0) T.bK jT j3 (hr.mono (by decide)) gH.b .nil aD (aa (cl iE fD hr aD (aa (pv 0) (aa (aF aI (pv 1) ai (fun _ _ => rfl)) af))) af)))))), ?_⟩
  refine ⟨_, rfl, p, dx, _, rfl, hp, jH _ _ _, _, rfl, a, _, _, _, rfl, rfl, aX.of ha, kE, p, b, ts, r, qs, st.1, rfl, N, hb, _, rfl, ?_⟩
  refine bC (fun h1 => ?_) (fun h1 => ?_)
  ·refine ⟨_, rfl, p, dx, _, rfl, hp, jH _ _ _, _, rfl, _, rfl, a, _, _, _, rfl, rfl, aX.of ha, kE, p, b, ts, r, qs, st.1, rfl, N, h6, hb, fun l H' sm hl => ?_⟩
   refine ⟨p, l, ts, r, qs, _, rfl, N.mono sm, hl, ?_⟩
   have k' := k H' sm
   unfold be at k'
   rw [h1, VC] at k'
   exact k'
  ·have k' := k H (am.refl H)
   unfold be at k'
   rw [h1, TM] at k'
   exact k'
theorem Ji (i : Int) : tH (.int i) [V.int 0, V.int 1] = (decide (i = 0) || decide (i = 1)) := by
 show ((0 == i) || ((1 == i) || false)) = _
 rw [Bool.or_false, Bool.beq_eq_decide_eq, Bool.beq_eq_decide_eq]
 congr 1
 ·exact decide_eq_decide.mpr ⟨fun h => h.symm, fun h => h.symm⟩
 ·exact decide_eq_decide.mpr ⟨fun h => h.symm, fun h => h.symm⟩
def jn (C : Addr) : Sp := fun vs H Q _ => ∃ (p a : Addr) (ts : List Th) (r : Int) (qs : List Qu) (st : bc), vs = [.ref p, .ref a] /\ bb C H p ts r qs /\ ts.length <= 6 /\ cI H a st /\ st.1.length <= 1000 /\ ∀ H', am H H' -> Q (.bl (cZ ts.length st)) H'
theorem fV : au ["night", "standing", "group", "count"] ["night", "standing"] (ak eZ) := fA
theorem pc {f f1 f2 f3 : Addr} {fd fz mD yj : FuncData} (F : Fn K mg "is_standing" eZ f fd ["night", "standing"]) (T : Txt K mg C Z) (bd : Meth K C "things" f1) (aR : Mt K "things" "Night.things" bz f1 fz ["self"])
  (xy : Fn K mg "rises" lj f2 mD ["group"]) (bh : Fn K mg "is_thing" cw f3 yj ["number", "count"]) : av P w K mg base bp 2 f fd ["night", "standing"] (jn C) := by
 have bT : av P w K mg base bp 1 f1 fz ["self"] (fT C) := ik aR T
 have CD : av P w K mg base bp 1 f2 mD ["group"] uT := A6 xy T
 have eK : av P w K mg base bp 1 f3 yj ["number", "count"] gr := jh bh
 refine F.fn.ok fV (fun vs H Q E h => ?_) (fun b8 A outer s H vs Q E hr h => ?_)
 ·obtain ⟨p, a, ts, r, qs, st, rfl, _⟩ := h
  rfl
 ·obtain ⟨p, a, ts, r, qs, st, rfl, N, h6, ⟨b, ha, hb⟩, hl, k⟩ := h
  obtain ⟨dx, t, q, hp, _, _⟩ := id N.ex
  refine ⟨_, (ah (sn 2 fV.nd (aF aI (pv 1) ai (fun _ _ => rfl)))
   (ah (sn 3 fV.nd (ay aC (by rfl) T.c8 TL (aa (fQ (pv 0) T.bK bd bT (hr.mono (by decide)) aR.b .nil aD) af)))
   (aj (az (eN (fB fK (aF aI (pv 1) ai (fun _ _ => rfl)) (iG (v := .ref Z.px) (by rfl) T.xt rfl) (by with_unfolding_all rfl)) (eN (cl CD xy hr aD (aa (pv 2) af)) (ii (ay (ox rfl) (by rfl) T.A5 boot_all (aa (ba rfl (N' := ["thing", "count"]) (cap := [none, some 3]) ⟨rfl, by with_unfolding_all rfl⟩ (fv (pv 2)) (fun _ => (gn 0 (show (["thing", "count"] : List Str).Nodup by decide +kernel))) (fun _ => bR) (fun _ => (cl eK bh hr aD (aa (pv 0) (aa (pv 1) af))))) af))))))))), ?_⟩
  refine ⟨_, rfl, a, _, _, _, rfl, rfl, aX.of ha, kE, ?_⟩
  refine ⟨_, rfl, p, dx, _, rfl, hp, cx _ _ _, p, ts, r, qs, rfl, N, fun l vs lR dv => ?_⟩
  have s1 : am H (L2.upd H l (.lst vs)) := ag lR
  have lv := aG dv
  refine ⟨l, _, rfl, .inl (a6.of ae), ?_⟩
  rw [lv]
  refine ⟨_, rfl, a, _, _, _, rfl, rfl, aX.of (s1 _ _ ha), lY, Z.px, _, rfl, .inr (T.rJ _), rfl, rfl, _, rfl, ?_⟩
  refine bC (fun h1 => ?_) (fun h1 => ?_)
  ·have cX : (decide (st.2 = 0) || decide (st.2 = 1)) = true := by rw [<- Ji]; exact h1
   refine ⟨_, rfl, b, st.1, rfl, s1 _ _ hb, hl, fun H2 s2 => ⟨_, rfl, ?_⟩⟩
   refine bC (fun h2 => ?_) (fun h2 => ?_)
   ·refine ⟨_, rfl, b, rfl, ⟨_, aX.of (s2 _ _ (s1 _ _ hb))⟩, fun D hD => ?_⟩
    refine dh (K := K) (a := b) (ys := st.1.map V.int) (fun i xs H' => am H2 H' /\ H' D = some (.lst xs) /\ xs = (st.1.take i).map fun t => V.bl (Ju ts.length t))
     ⟨ag hD, ae, rfl⟩ (fun i xs H' _ ⟨sm, h, _⟩ => ⟨h, aX.of (sm _ _ (s2 _ _ (s1 _ _ hb)))⟩) ?_ ?_
    ·rintro i x xs H' hi ⟨sm, dL, rfl⟩
     rw [Tc, TV] at hi
     obtain ⟨x', tj, rfl⟩ := hi
     refine ⟨bP.set rfl, ?_⟩
     refine ⟨_, rfl, _, rfl, _, _, rfl, dL, aJ (by rw [SW, Tl]; omega), ao sm hD, ae, ?_⟩
     rw [To, tj]
     simp [Ju]
    ·rintro xs H' ⟨sm, dL, rfl⟩
     refine ⟨D, st.1.map (Ju ts.length), rfl, a6.of ?_, ?_⟩
     ·rw [dL, SW, Uw, TN]
      rfl
     ·have k' := k H' (s1.trans (s2.trans sm))
      unfold cZ at k'
      rw [cX, h2, VC, VC] at k'
      rw [List.all_map]
      exact k'
   ·have k' := k H2 (s1.trans s2)
    unfold cZ at k'
    rw [h2, TM, UE] at k'
    exact k'
  ·have cX : (decide (st.2 = 0) || decide (st.2 = 1)) = false := by rw [<- Ji]; exact h1
   have k' := k _ s1
   unfold cZ at k'
   rw [cX, TM] at k'
   exact k'
def gj (C : Addr) (Z : Ad) : Sp := fun vs H Q E => ∃ (p a : Addr) (ts : List Th) (r : Int) (qs : List Qu) (st : bc), vs = [.ref p, .ref a] /\ bb C H p ts r qs /\ ts.length <= 6 /\ cI H a st /\ st.1.length <= 1000 /\
 (cZ ts.length st = true -> ∀ H', am H H' -> Q .cq H') /\ (cZ ts.length st = false -> ∀ H', am H H' -> E (.ref Z.eF) none H')
structure Lk (K : VN) (mg : Str -> Option Value) (C : Addr) (fs : Nat -> Addr) (ds : Nat -> FuncData) : Prop where
 cx : Meth K C "things" (fs 1)
 things : Mt K "things" "Night.things" bz (fs 1) (ds 1) ["self"]
 vN : Meth K C "room" (fs 2)
 room : Mt K "room" "Night.room" fC (fs 2) (ds 2) ["self"]
 jH : Meth K C "peace" (fs 3)
 gb : Mt K "peace" "Night.peace" di (fs 3) (ds 3) ["self", "group"]
 uv : Fn K mg "is_thing" cw (fs 4) (ds 4) ["number", "count"]
 m4 : Fn K mg "rises" lj (fs 5) (ds 5) ["group"]
 mQ : Fn K mg "is_standing" eZ (fs 6) (ds 6) ["night", "standing"]
 fR : Fn K mg "other_bank" dP (fs 7) (ds 7) ["night", "group"]
 jD : Fn K mg "is_good" jx (fs 8) (ds 8) ["night", "standing"]
 i4 : Fn K mg "check_standing" eJ (fs 9) (ds 9) ["night", "standing"]
 mZ : Fn K mg "check_start" gT (fs 10) (ds 10) ["night", "standing"]
 ju : Fn K mg "groups_of" gx (fs 11) (ds 11) ["bank"]
 kH : Fn K mg "bank_of_boat" fS (fs 12) (ds 12) ["night", "standing"]
 qN : Fn K mg "is_manned" iT (fs 13) (ds 13) ["night", "crew"]
 nI : Fn K mg "crossed" jw (fs 14) (ds 14) ["standing", "crew"]
 uH : Fn K mg "crews" sJ (fs 15) (ds 15) ["night", "standing"]
variable {fs : Nat -> Addr} {ds : Nat -> FuncData}
theorem lC : au ["night", "standing"] ["night", "standing"] (ak eJ) := fA
theorem kW (L : Lk K mg C fs ds) (T : Txt K mg C Z) : av P w K mg base (Ay P w) 3 (fs 9) (ds 9) ["night", "standing"] (gj C Z) := by
 have pY := L.mQ
 have p9 : av P w K mg base bp 2 (fs 6) (ds 6) ["night", "standing"] (jn C) := pc L.mQ T L.cx L.things L.m4 L.uv
 refine L.i4.fn.K8 lC (fun vs H Q E h => ?_) (fun b8 A outer s H vs Q E hr h => ?_)
 ·obtain ⟨p, a, ts, r, qs, st, rfl, _⟩ := h
  rfl
 ·obtain ⟨p, a, ts, r, qs, st, rfl, N, h6, oq, hl, k1, k2⟩ := h
  refine ⟨_, (aj (bM (eI (cF (cl p9 pY hr aD (aa (pv 0) (aa (pv 1) af)))))
   (aj (uQ uq rfl (by rfl) T.sG T.sh PySem.F.excBase_ValueError (aa zQ af)))
   aP)), ?_⟩
  refine ⟨_, rfl, _, rfl, p, a, ts, r, qs, st, rfl, N, h6, oq, hl, fun H' sm => ⟨_, rfl, ?_⟩⟩
  refine bC (fun h1 => ?_) (fun h1 => ?_)
  ·exact ⟨aK (by show 1 <= _; decide), k2 (by simpa using h1) H' sm⟩
  ·exact k1 (by simpa using h1) H' sm
def jf (C : Addr) (Z : Ad) : Sp := fun vs H Q E => ∃ (p a : Addr) (ts : List Th) (r : Int) (qs : List Qu) (st : bc), vs = [.ref p, .ref a] /\ bb C H p ts r qs /\ ts.length <= 6 /\ cI H a st /\ st.1.length <= 1000 /\
 (cZ ts.length st = true -> be qs ts.length st.1 = true -> ∀ H', am H H' -> Q .cq H') /\ (cZ ts.length st = false -> ∀ H', am H H' -> E (.ref Z.eF) none H') /\
 (cZ ts.length st = true -> be qs ts.length st.1 = false -> ∀ H', am H H' -> E (.ref Z.je) none H')
theorem pP : au ["night", "standing"] ["night", "standing"] (ak gT) := fA
theorem oZ (L : Lk K mg C fs ds) (T : Txt K mg C Z) : av P w K mg base (Ay P w) 4 (fs 10) (ds 10) ["night", "standing"] (jf C Z) := by
 have l8 := L.i4
 have gV := L.jD
 have mF : av P w K mg base (Ay P w) 3 (fs 9) (ds 9) ["night", "standing"] (gj C Z) := kW L T
 have gX : av P w K mg base bp 3 (fs 8) (ds 8) ["night", "standing"] (iu C) := kr L.jD T L.cx L.things L.jH L.gb L.fR
 refine L.mZ.fn.K8 pP (fun vs H Q E h => ?_) (fun b8 A outer s H vs Q E hr h => ?_)
 ·obtain ⟨p, a, ts, r, qs, st, rfl, _⟩ := h
  rfl
 ·obtain ⟨p, a, ts, r, qs, st, rfl, N, h6, oq, hl, k1, k2, k3⟩ := h
  refine ⟨_, (ah (dn (cl mF l8 hr oQ (aa (pv 0) (aa (pv 1) af))))
   (aj (bM (eI (cF (cl gX gV hr aD (aa (pv 0) (aa (pv 1) af)))))
   (aj (uQ uq rfl (by rfl) T.wu T.vI PySem.F.excBase_ValueError (aa zQ af)))
   aP))), ?_⟩
  refine ⟨_, rfl, _, rfl, p, a, ts, r, qs, st, rfl, N, h6, oq, hl, fun hS H1 s1 => ?_, k2⟩
  refine ⟨_, rfl, _, rfl, p, a, ts, r, qs, st, rfl, N.mono s1, h6, oq.mono s1, fun H2 s2 => ⟨_, rfl, ?_⟩⟩
  refine bC (fun h1 => ?_) (fun h1 => ?_)
  ·exact ⟨aK (by show 1 <= _; decide), k3 hS (by simpa using h1) H2 (s1.trans s2)⟩
  ·exact k1 hS (by simpa using h1) H2 (s1.trans s2)
def iB : Sp := fun vs H Q _ => ∃ (b : Addr) (jQ : List Int), vs = [.ref b] /\ H b = some (.tup (jQ.map V.int)) /\ jQ.length <= 6 /\ ∀ l H', am H H' -> LstAt i6 H' l (ip jQ) -> Q (.ref l) H'
theorem fH : au ["bank", "groups", "thing"] ["bank"] (ak gx) := fA
theorem kM {f : Addr} {fd : FuncData} (F : Fn K mg "groups_of" gx f fd ["bank"]) : av P w K mg base bp 1 f fd ["bank"] iB := by
 refine F.fn.ok fH (fun vs H Q E h => ?_) (fun b8 A outer s H vs Q E hr h => ?_)
 ·obtain ⟨b, jQ, rfl, _⟩ := h
  rfl
 ·obtain ⟨b, jQ, rfl, hb, h6, k⟩ := h
  refine ⟨_, (ah (sn 1 fH.nd (gL (aa (bW af) af)))
   (ah (cY TR rfl (fv (pv 0)) (gn 2 fH.nd)
   (aj (sn 1 fH.nd (bo BJ (pv 1) (ba rfl (N' := ["group", "thing"]) (cap := [none, some 2]) ⟨rfl, by with_unfolding_all rfl⟩ (bL (pv 1)) (fun _ => (gn 0 (show (["group", "thing"] : List Str).Nodup by decide +kernel))) (fun _ => bR) (fun _ => (bo (G3 (K := K) rfl) (pv 0) (bW (aa (pv 1) af)))))))))
   (aj (az (pv 1))))), ?_⟩
  refine ⟨aK (by show 0 <= _; decide), fun e he => ?_⟩
  have s1 : am H (L2.upd H e (.tup [])) := ag he
  refine ⟨aK (by show 1 <= _; decide), fun l0 vk => ?_⟩
  have s2 : am (L2.upd H e (.tup [])) (L2.upd (L2.upd H e (.tup [])) l0 (.lst [.ref e])) := ag vk
  refine ⟨_, rfl, b, rfl, ⟨_, aX.of (s2 _ _ (s1 _ _ hb))⟩, xk (K := K) (a := b) (xs := jQ.map V.int) (fun i σ H' => am H H' /\ ∃ l v, σ = [some (.ref b), some (.ref l), v] /\ LstAt i6 H' l (ip (jQ.take i)))
   ⟨s1.trans s2, l0, _, rfl, [.ref e], ae, .cons (.tup (s2 _ _ ae) .nil) .nil⟩ (fun i σ H' _ ⟨sm, _⟩ => aX.of (sm _ _ hb)) ?_ ?_⟩
  ·rintro i x σ H1 hi ⟨sm, l, v, rfl, vs, hl, dv⟩
   rw [Tc, TV] at hi
   obtain ⟨t, ht, rfl⟩ := hi
   have ib : i < jQ.length := (Tk.mp ht).1
   have lg : (ip (jQ.take i)).length <= 64 := by
    rw [io, Tl]
    exact S8 (UO (by decide) (show min i jQ.length <= 6 by omega)) (by decide)
   have lv := aG dv
   refine ⟨_, rfl, _, rfl, l, rfl, ⟨_, a6.of hl⟩, fun D hD => ?_⟩
   refine cB (K := K) (a := l) (ys := vs) (fun j xs H' => am H1 H' /\ H' D = some (.lst xs) /\ xs.length = j /\ bF H' (((ip (jQ.take i)).take j).map (fun g => i6 (g ++ [t]))) xs)
    ⟨ag hD, ae, rfl, .nil⟩ (fun j xs H' _ ⟨s3, h, _⟩ => ⟨h, a6.of (s3 _ _ hl)⟩) ?_ ?_
   ·rintro j y xs H2 hj ⟨s3, jq, lx, dx⟩
    obtain ⟨g, hg, dg⟩ := bE dv hj
    obtain ⟨c, rfl, hc⟩ := fZ dg
    have Cw := s3 _ _ hc
    have Ep := (Tk.mp hj).1
    have gl : g.length <= 6 := by
     have := (gi (Tx hg)).length_le
     rw [Tl] at this
     omega
    refine ⟨bP.set rfl, ?_⟩
    refine ⟨_, rfl, _, rfl, aK (by show 1 <= _; decide), fun o ho => ?_⟩
    have s4 : am H2 (L2.upd H2 o (.tup [.int t])) := ag ho
    have fin : ∀ (H3 : Hp) (y : V), am H2 H3 -> DV H3 (i6 (g ++ [t])) y -> H3 D = some (.lst xs) /\ xs.length < sizeLine /\ (am H1 (L2.upd H3 D (.lst (xs ++ [y]))) /\ (L2.upd H3 D (.lst (xs ++ [y]))) D = some (.lst (xs ++ [y])) /\ (xs ++ [y]).length = j + 1 /\
      bF (L2.upd H3 D (.lst (xs ++ [y]))) (((ip (jQ.take i)).take (j + 1)).map (fun g => i6 (g ++ [t]))) (xs ++ [y])) := by
     intro H3 y s5 dy
     have DR := s5 _ _ jq
     refine ⟨DR, aJ (by omega), ao (s3.trans s5) hD, ae, by simp [lx], ?_⟩
     rw [To, hg, S4]
     exact (bi DR (dx.mono s5) (aH (fun g => fi _) _)).snoc (c7 DR dy (fi _))
    refine ⟨c, o, _, _, rfl, rfl, aX.of (s4 _ _ Cw), aX.of ae, aK (by simp; omega), fun z => ?_, (fun _ z => by cases z), fun z _ o2 pQ => ?_⟩
    ·have gz : g = [] := by simpa using z
     refine fin _ _ s4 (hW ?_)
     rw [gz]; exact ae
    ·refine fin _ _ (s4.trans (ag pQ)) (hW ?_)
     rw [S4]; exact ae
   ·rintro xs H2 ⟨s3, jq, lx, dx⟩
    rw [Ta (by omega)] at dx
    refine ⟨l, D, vs, xs, rfl, rfl, s3 _ _ hl, jq, aK (by omega), fun l2 og => ?_⟩
    have s4 : am H2 (L2.upd H2 l2 (.lst (vs ++ xs))) := ag og
    refine ⟨sm.trans (s3.trans s4), l2, _, rfl, vs ++ xs, ae, ?_⟩
    have eb : jQ.take (i + 1) = jQ.take i ++ [t] := by rw [To, ht]; rfl
    rw [eb, fP, S4, TN]
    exact (dv.mono (s3.trans s4)).append (dx.mono s4)
  ·rintro σ H1 ⟨sm, l, v, rfl, hL⟩
   rw [SW, Uw] at hL
   exact ⟨_, rfl, k l H1 sm hL⟩
def xZ (C : Addr) : Sp := fun vs H Q _ => ∃ (p a : Addr) (ts : List Th) (r : Int) (qs : List Qu) (st : bc), vs = [.ref p, .ref a] /\ bb C H p ts r qs /\ ts.length <= 6 /\ cI H a st /\ ∀ l H', am H H' -> H' l = some (.tup ((aN ts.length st).map V.int)) -> Q (.ref l) H'
theorem nz : au ["night", "standing"] ["night", "standing"] (ak fS) := fA
theorem Dq (L : Lk K mg C fs ds) (T : Txt K mg C Z) : av P w K mg base bp 3 (fs 12) (ds 12) ["night", "standing"] (xZ C) := by
 have fD := L.fR
 have iE : av P w K mg base bp 2 (fs 7) (ds 7) ["night", "group"] (gQ C) := jV L.fR T L.cx L.things
 refine L.kH.fn.ok nz (fun vs H Q E h => ?_) (fun b8 A outer s H vs Q E hr h => ?_)
 ·obtain ⟨p, a, ts, r, qs, st, rfl, _⟩ := h
  rfl
 ·obtain ⟨p, a, ts, r, qs, st, rfl, N, h6, ⟨b, ha, hb⟩, k⟩ := h
  refine ⟨_, (ah (bM (aE jX (aF aI (pv 1) ai (fun _ _ => rfl)) ai (a7 _))
   (aj (az (aF aI (pv 1) ai (fun _ _ => rfl))))
   aP)
   (aj (az (cl iE fD hr aD (aa (pv 0) (aa (aF aI (pv 1) ai (fun _ _ => rfl)) af)))))), ?_⟩
  refine ⟨_, rfl, a, _, _, _, rfl, rfl, aX.of ha, lY, rfl, _, rfl, ?_⟩
  refine bC (fun h1 => ?_) (fun h1 => ?_)
  ·have e : st.2 = 0 := by have := Tt h1; injection this
   refine ⟨_, rfl, a, _, _, _, rfl, rfl, aX.of ha, kE, k b H (am.refl H) ?_⟩
   unfold aN
   rw [if_pos e]; exact hb
  ·have e : ¬ st.2 = 0 := fun z => by rw [z] at h1; exact absurd h1 (by simp)
   refine ⟨_, rfl, _, rfl, a, _, _, _, rfl, rfl, aX.of ha, kE, p, b, ts, r, qs, st.1, rfl, N, h6, hb, fun l H' sm hl => k l H' sm ?_⟩
   unfold aN
   rw [if_neg e]; exact hl
def qF (C : Addr) : Sp := fun vs H Q _ => ∃ (p b : Addr) (ts : List Th) (r : Int) (qs : List Qu) (c : List Int), vs = [.ref p, .ref b] /\ bb C H p ts r qs /\ ts.length <= 6 /\ H b = some (.tup (c.map V.int)) /\ c.length <= 1000 /\ (∀ t ∈ c, 0 <= t /\ t < (ts.length : Int)) /\
 ∀ H', am H H' -> Q (.bl (dB ts r c)) H'
theorem x4 {H : Hp} {ts : List Th} {vs : List V} {t : Int} (dv : bF H (ts.map wj) vs) (h0 : 0 <= t) (h1 : t < (ts.length : Int)) : ∃ b, zx vs t = some (.ref b) /\ H b = some (.tup [.int (iD ts t), .bl (eG ts t)]) := by
 have hj : t.toNat < ts.length := by omega
 have e : ts[t.toNat]? = some (ts.getD t.toNat (0, false)) := by simp [hj]
 obtain ⟨v, hv, d⟩ := dv.get (i := t.toNat) (d := wj (ts.getD t.toNat (0, false))) (by rw [Tc, e]; rfl)
 obtain ⟨b, rfl, hb⟩ := Am d
 refine ⟨b, ?_, hb⟩
 have q := eV hv
 rwa [show ((t.toNat : Nat) : Int) = t by omega] at q
theorem kO : au ["night", "crew", "things"] ["night", "crew"] (ak iT) := fA
theorem yL (L : Lk K mg C fs ds) (T : Txt K mg C Z) : av P w K mg base bp 2 (fs 13) (ds 13) ["night", "crew"] (qF C) := by
 have aR := L.things
 have sL := L.room
 have bd := L.cx
 have sx := L.vN
 have bT : av P w K mg base bp 1 (fs 1) (ds 1) ["self"] (fT C) := ik L.things T
 have rV : av P w K mg base bp 1 (fs 2) (ds 2) ["self"] (uC C) := Bf L.room T
 refine L.qN.fn.ok kO (fun vs H Q E h => ?_) (fun b8 A outer s H vs Q E hr h => ?_)
 ·obtain ⟨p, b, ts, r, qs, c, rfl, _⟩ := h
  rfl
 ·obtain ⟨p, b, ts, r, qs, c, rfl, N, h6, hb, hc, tw, k⟩ := h
  obtain ⟨dx, t, q, hp, _, _⟩ := id N.ex
  refine ⟨_, (ah (sn 2 kO.nd (fQ (pv 0) T.bK bd bT (hr.mono (by decide)) aR.b .nil aD))
   (aj (az (eN (uZ jc jc ai (ay aC (by rfl) T.c8 TL (aa (pv 1) af)) (fQ (pv 0) T.bK sx rV (hr.mono (by decide)) sL.b .nil aD)) (ii (ay (AO rfl) (by rfl) T.Ix boot_any (aa (ba rfl (N' := ["thing", "things"]) (cap := [none, some 2]) ⟨rfl, by with_unfolding_all rfl⟩ (fv (pv 1)) (fun _ => (gn 0 (show (["thing", "things"] : List Str).Nodup by decide +kernel))) (fun _ => bR) (fun _ => (aF (Aj (K := K) rfl) (aF (Cd (K := K) rfl) (pv 1) (pv 0) (fun _ _ => rfl)) ai (fun _ _ => rfl)))) af))))))), ?_⟩
  refine ⟨_, rfl, p, dx, _, rfl, hp, cx _ _ _, p, ts, r, qs, rfl, N, fun l vs hl dv => ?_⟩
  have s1 : am H (L2.upd H l (.lst vs)) := ag hl
  have GX := dv.mono s1
  have N1 := N.mono s1
  have xg := s1 _ _ hb
  have zA : (L2.upd H l (.lst vs)) l = some (.lst vs) := ae
  have DT := s1 _ _ hp
  generalize L2.upd H l (.lst vs) = H1 at s1 GX N1 xg zA DT ⊢
  refine ⟨_, rfl, b, _, rfl, .inr (aX.of xg), _, _, rfl, rfl, _, rfl, ?_⟩
  rw [SW]
  refine bC (fun h1 => ?_) (fun h1 => ?_)
  ·refine ⟨_, rfl, p, dx, _, rfl, DT, vN _ _ _, p, ts, r, qs, rfl, N1, _, _, rfl, rfl, _, rfl, ?_⟩
   refine bC (fun h2 => ?_) (fun h2 => ?_)
   ·have hm : decide (1 <= (c.length : Int) /\ (c.length : Int) <= r) = true := S9 ⟨Tt h1, Tt h2⟩
    refine ⟨_, rfl, b, rfl, ⟨_, aX.of xg⟩, fun D hD => ?_⟩
    refine dh (K := K) (a := b) (ys := c.map V.int) (fun i xs H' => am H1 H' /\ H' D = some (.lst xs) /\ xs = (c.take i).map fun t => V.bl (eG ts t))
     ⟨ag hD, ae, rfl⟩ (fun i xs H' _ ⟨sm, h, _⟩ => ⟨h, aX.of (sm _ _ xg)⟩) ?_ ?_
    ·rintro i x xs H' hi ⟨sm, dL, rfl⟩
     rw [Tc, TV] at hi
     obtain ⟨x', tj, rfl⟩ := hi
     obtain ⟨x0, x1⟩ := tw x' (Tx tj)
     obtain ⟨o, qe, pQ⟩ := x4 GX x0 x1
     refine ⟨bP.set rfl, ?_⟩
     refine ⟨_, rfl, _, rfl, l, _, _, _, rfl, rfl, a6.of (sm _ _ zA), qe, o, _, _, _, rfl, rfl, aX.of (sm _ _ pQ), lY, dL, aJ (by rw [SW, Tl]; omega), ao sm hD, ae, ?_⟩
     rw [To, tj]
     simp
    ·rintro xs H' ⟨sm, dL, rfl⟩
     refine ⟨D, c.map (eG ts), rfl, a6.of ?_, ?_⟩
     ·rw [dL, SW, Uw, TN]
      rfl
     ·have k' := k H' (s1.trans sm)
      unfold dB at k'
      rw [hm, VC] at k'
      rw [List.any_map]
      exact k'
   ·have hm : decide (1 <= (c.length : Int) /\ (c.length : Int) <= r) = false := Tp fun z => by rw [S9 z.2] at h2; cases h2
    have k' := k _ s1
    unfold dB at k'
    rw [hm, TM] at k'
    exact k'
  ·have hm : decide (1 <= (c.length : Int) /\ (c.length : Int) <= r) = false := Tp fun z => by rw [S9 z.1] at h1; cases h1
   have k' := k _ s1
   unfold dB at k'
   rw [hm, TM] at k'
   exact ⟨_, rfl, dQ k'⟩
end
theorem merged {n : Nat} {g c ns : List Int} (hg : g.Pairwise (· < ·)) (RN : ∀ t ∈ g, 0 <= t /\ t < (n : Int)) (hc : c.Pairwise (· < ·)) (JA : ∀ t ∈ c, (0 <= t /\ t < (n : Int)) /\ t ∉ g) (hp : ns.Perm (g ++ c)) (hs : ns.Pairwise (· <= ·)) :
  ns = (bn n).filter fun t => g.contains t || c.contains t := by
 have nd : (g ++ c).Nodup := by
  rw [List.nodup_append]
  refine ⟨hg.imp (fun h => Int.ne_of_lt h), hc.imp (fun h => Int.ne_of_lt h), fun a ha b hb e => ?_⟩
  exact (JA b hb).2 (by rw [<- e]; exact ha)
 have Jk : ns.Nodup := hp.nodup_iff.mpr nd
 have pw : ns.Pairwise (· < ·) := by
  have := hs.and Jk
  exact this.imp fun h => by have h1 := h.1; have h2 := h.2; omega
 refine kq pw (eP _ (fI n)) fun x => ?_
 rw [hp.mem_iff, Ts, TH, Bool.or_eq_true, contains_iff, contains_iff, cE]
 constructor
 ·rintro (h | h)
  ·exact ⟨RN x h, .inl h⟩
  ·exact ⟨(JA x h).1, .inr h⟩
 ·rintro ⟨_, h⟩
  exact h
section
variable {P : Program} {w : World} {K : VN} {mg : Str -> Option Value} {base : Heap} {C : Addr} {Z : Ad} {fs : Nat -> Addr} {ds : Nat -> FuncData}
def kh : Sp := fun vs H Q _ => ∃ (a b : Addr) (st : bc) (c : List Int) (n : Nat), vs = [.ref a, .ref b] /\ cI H a st /\ H b = some (.tup (c.map V.int)) /\ cZ n st = true /\ n <= 6 /\ c.Sublist (aN n st) /\
 ∀ l H', am H H' -> cI H' l (behind n st c) -> Q (.ref l) H'
theorem wa : au ["standing", "crew"] ["standing", "crew"] (ak jw) := fA
theorem pO {f : Addr} {fd : FuncData} (F : Fn K mg "crossed" jw f fd ["standing", "crew"]) (T : Txt K mg C Z) : av P w K mg base bp 1 f fd ["standing", "crew"] kh := by
 refine F.fn.ok wa (fun vs H Q E h => ?_) (fun b8 A outer s H vs Q E hr h => ?_)
 ·obtain ⟨a, b, st, c, n, rfl, _⟩ := h
  rfl
 ·obtain ⟨a, b, st, c, n, rfl, ⟨g0, ha, xF⟩, hb, hS, h6, y7, k⟩ := h
  obtain ⟨Nj, tw, MJ⟩ := fN hS
  have lg : st.1.length <= 6 := by
   have e := fU Nj tw
   have : ((bn n).filter fun t => st.1.contains t).length <= n := S8 (Tr _ _) (by rw [aO]; exact SX _)
   rw [e] at this
   omega
  have lc : c.length <= 6 := S8 y7.length_le (S8 (fg hS) h6)
  refine ⟨_, (ah (bM (aE jX (aF aI (pv 0) ai (fun _ _ => rfl)) ai (a7 _))
   (aj (az (bW (aa (bu bv (by rfl) T.cN UW (aa (ba rfl (N' := ["thing", "crew"]) (cap := [none, some 1]) ⟨rfl, by with_unfolding_all rfl⟩ (fv (aF aI (pv 0) ai (fun _ _ => rfl))) (fun _ => (gn 0 (show (["thing", "crew"] : List Str).Nodup by decide +kernel))) (fun _ => (ck (aE (pF (K := K) rfl) (pv 0) (pv 1) (by with_unfolding_all rfl)))) (fun _ => (pv 0))) af)) (aa ai af)))))
   aP)
   (aj (az (bW (aa (bu bv (by rfl) T.cN UW (aa (ay sY (by rfl) T.jm boot_sorted (aa (bo xh (aF aI (pv 0) ai (fun _ _ => rfl)) (pv 1)) af)) af)) (aa ai af)))))), ?_⟩
  refine ⟨_, rfl, a, _, _, _, rfl, rfl, aX.of ha, lY, rfl, _, rfl, ?_⟩
  refine bC (fun h1 => ?_) (fun h1 => ?_)
  ·have e : st.2 = 0 := by have := Tt h1; injection this
   refine ⟨_, rfl, a, _, _, _, rfl, rfl, aX.of ha, kE, g0, rfl, ⟨_, aX.of xF⟩, fun D hD => ?_⟩
   refine dh (K := K) (a := g0) (ys := st.1.map V.int) (fun i xs H' => am H H' /\ H' D = some (.lst xs) /\ xs = ((st.1.take i).filter fun t => !c.contains t).map V.int)
    ⟨ag hD, ae, rfl⟩ (fun i xs H' _ ⟨sm, h, _⟩ => ⟨h, aX.of (sm _ _ xF)⟩) ?_ ?_
   ·rintro i x xs H' hi ⟨sm, dL, rfl⟩
    rw [Tc, TV] at hi
    obtain ⟨t, ht, rfl⟩ := hi
    have sl : ((st.1.take i).filter fun t => !c.contains t).length <= 6 := S8 (Tr _ _) (by rw [Tl]; omega)
    refine ⟨bP.set rfl, ?_⟩
    refine ⟨_, rfl, _, rfl, b, _, rfl, .inr (aX.of (sm _ _ hb)), rfl, bN c, _, rfl, ?_⟩
    rw [bQ]
    have et : st.1.take (i + 1) = st.1.take i ++ [t] := by rw [To, ht]; rfl
    refine bC (fun h2 => ?_) (fun h2 => ?_)
    ·have ij : (!c.contains t) = true := h2
     refine ⟨_, rfl, dL, aJ (by rw [SW]; omega), ao sm hD, ae, ?_⟩
     have ef : [t].filter (fun t => !c.contains t) = [t] := by rw [TF, if_pos ij]; rfl
     rw [et, Tv, S4, ef]
     rfl
    ·have ij : (!c.contains t) = false := h2
     refine ⟨sm, dL, ?_⟩
     have ef : [t].filter (fun t => !c.contains t) = [] := by rw [TF, if_neg (by rw [ij]; simp)]; rfl
     rw [et, Tv, S4, ef]
     simp
   ·rintro xs H' ⟨sm, dL, rfl⟩
    rw [SW, Uw] at dL
    refine ⟨D, _, rfl, .inl ⟨a6.of dL, fun o ho => ?_⟩⟩
    have s2 : am H' (L2.upd H' o (.tup ((st.1.filter fun t => !c.contains t).map V.int))) := ag ho
    refine ⟨aK (by show 2 <= _; decide), fun o2 pQ => ?_⟩
    have s3 := ag (o := .tup [.ref o, .int 1]) pQ
    refine k o2 _ (sm.trans (s2.trans s3)) ?_
    unfold behind
    rw [if_pos e]
    exact ⟨o, ae, s3 _ _ ae⟩
  ·have e : ¬ st.2 = 0 := fun z => by rw [z] at h1; exact absurd h1 (by simp)
   have Qx : aN n st = restOf n st.1 := by unfold aN; rw [if_neg e]
   rw [Qx] at y7
   have JA : ∀ t ∈ c, (0 <= t /\ t < (n : Int)) /\ t ∉ st.1 := fun t ht => by
    obtain ⟨z1, z2⟩ := TH.mp (y7.subset ht)
    refine ⟨cE.mp z1, fun z => ?_⟩
    rw [contains_iff.mpr z] at z2
    cases z2
   have Hl : c.Pairwise (· < ·) := List.Pairwise.sublist y7 (eP _ (fI n))
   have tail : ∀ (x : Addr) (H1 : Hp), am H H1 -> H1 x = some (.tup ((st.1 ++ c).map V.int)) -> ∃ (p : Addr) (ns : List Int), [V.ref x] = [V.ref p] /\ aX K H1 p (ns.map V.int) /\ ns.length < 64 /\ ∀ (l : Addr) (sB : List Int), H1 l = none -> sB.Perm ns -> sB.Pairwise (· <= ·) ->
     ∃ (p' : Addr) (ys : List V), [V.ref l] = [V.ref p'] /\ ((a6 K (L2.upd H1 l (.lst (sB.map V.int))) p' ys /\ ∀ l2 : Addr, (L2.upd H1 l (.lst (sB.map V.int))) l2 = none -> [V.ref l2, V.int 0].length <= sizeLine /\ ∀ o : Addr, (L2.upd (L2.upd H1 l (.lst (sB.map V.int))) l2 (.tup ys)) o = none ->
      Q (.ref o) (L2.upd (L2.upd (L2.upd H1 l (.lst (sB.map V.int))) l2 (.tup ys)) o (.tup [.ref l2, .int 0]))) \/ (aX K (L2.upd H1 l (.lst (sB.map V.int))) p' ys /\ [V.ref p', V.int 0].length <= sizeLine /\ ∀ o : Addr, (L2.upd H1 l (.lst (sB.map V.int))) o = none ->
      Q (.ref o) (L2.upd (L2.upd H1 l (.lst (sB.map V.int))) o (.tup [.ref p', .int 0])))) := by
    intro x H1 s1 hx
    refine ⟨x, st.1 ++ c, rfl, aX.of hx, by rw [Tq]; omega, fun l sB hl hp hs => ⟨l, _, rfl, .inl ⟨a6.of ae, fun l2 og => ⟨aK (by show 2 <= _; decide), fun o ho => ?_⟩⟩⟩⟩
    have s2 : am H1 (L2.upd H1 l (.lst (sB.map V.int))) := ag hl
    have s3 := ag (o := .tup (sB.map V.int)) og
    have s4 := ag (o := .tup [.ref l2, .int 0]) ho
    refine k o _ (s1.trans (s2.trans (s3.trans s4))) ?_
    unfold behind
    rw [if_neg e, <- merged Nj tw Hl JA hp hs]
    exact ⟨l2, ae, s4 _ _ ae⟩
   refine ⟨_, rfl, a, _, _, _, rfl, rfl, aX.of ha, kE, _, rfl, g0, b, _, _, rfl, rfl, aX.of xF, aX.of hb, aK (by simp; omega), fun z => ?_, fun z z2 => ?_, fun z z2 o ho => ?_⟩
   ·have gz : st.1 = [] := by simpa using z
    exact tail b H (am.refl H) (by rw [gz]; exact hb)
   ·have cz : c = [] := by simpa using z2
    exact tail g0 H (am.refl H) (by rw [cz, VG]; exact xF)
   ·exact tail o _ (ag ho) (by rw [S4]; exact ae)
theorem dm {H : Hp} {gs : List (List Int)} {xs : List V} {i : Nat} {g : List Int} {q : List Int -> Bool} (hg : gs[i]? = some g) (hq : q g = false) (dx : bF H (((gs.take i).filter q).map i6) xs) : bF H (((gs.take (i + 1)).filter q).map i6) xs := by
 have e : gs.take (i + 1) = gs.take i ++ [g] := by rw [To, hg]; rfl
 have ef : [g].filter q = [] := by rw [TF, if_neg (by rw [hq]; simp)]; rfl
 rw [e, Tv, ef, VG]
 exact dx
theorem gu {gs : List (List Int)} {i : Nat} {g : List Int} {q : List Int -> Bool} (hg : gs[i]? = some g) (hq : q g = true) : (gs.take (i + 1)).filter q = (gs.take i).filter q ++ [g] := by
 have e : gs.take (i + 1) = gs.take i ++ [g] := by rw [To, hg]; rfl
 have ef : [g].filter q = [g] := by rw [TF, if_pos hq]; rfl
 rw [e, Tv, ef]
def tE (C : Addr) (Z : Ad) : Sp := fun vs H Q E => ∃ (p a : Addr) (ts : List Th) (r : Int) (qs : List Qu) (st : bc), vs = [.ref p, .ref a] /\ bb C H p ts r qs /\ ts.length <= 6 /\ cI H a st /\ st.1.length <= 1000 /\
 (cZ ts.length st = true -> be qs ts.length st.1 = true -> ∀ l H', H l = none -> am H H' -> LstAt i6 H' l (eg ts r qs st) -> Q (.ref l) H') /\ (cZ ts.length st = false -> ∀ H', am H H' -> E (.ref Z.eF) none H') /\
 (cZ ts.length st = true -> be qs ts.length st.1 = false -> ∀ H', am H H' -> E (.ref Z.je) none H')
theorem tZ : au ["night", "standing", "manned"] ["night", "standing"] (ak sJ) := fA
theorem AH (L : Lk K mg C fs ds) (T : Txt K mg C Z) : av P w K mg base (Ay P w) 5 (fs 15) (ds 15) ["night", "standing"] (tE C Z) := by
 have pU := L.mZ
 have gV := L.jD
 have i0 := L.ju
 have oP := L.kH
 have uV := L.qN
 have ma := L.nI
 have p7 : av P w K mg base (Ay P w) 4 (fs 10) (ds 10) ["night", "standing"] (jf C Z) := oZ L T
 have gX : av P w K mg base bp 3 (fs 8) (ds 8) ["night", "standing"] (iu C) := kr L.jD T L.cx L.things L.jH L.gb L.fR
 have iZ : av P w K mg base bp 1 (fs 11) (ds 11) ["bank"] iB := kM L.ju
 have oY : av P w K mg base bp 3 (fs 12) (ds 12) ["night", "standing"] (xZ C) := Dq L T
 have ve : av P w K mg base bp 2 (fs 13) (ds 13) ["night", "crew"] (qF C) := yL L T
 have l4 : av P w K mg base bp 1 (fs 14) (ds 14) ["standing", "crew"] kh := pO L.nI T
 refine L.uH.fn.K8 tZ (fun vs H Q E h => ?_) (fun b8 A outer s H vs Q E hr h => ?_)
 ·obtain ⟨p, a, ts, r, qs, st, rfl, _⟩ := h
  rfl
 ·obtain ⟨p, a, ts, r, qs, st, rfl, N, h6, oq, hl, k1, k2, k3⟩ := h
  have hu := hr.units
  refine ⟨_, (ah (dn (cl p7 pU hr oQ (aa (pv 0) (aa (pv 1) af))))
   (ah (nL (j := 2) rfl (N' := ["crew", "night"]) (cap := [none, some 0]) ⟨rfl, by with_unfolding_all rfl⟩ (bL (cl iZ i0 hr aD (aa (cl oY oP hr aD (aa (pv 0) (aa (pv 1) af))) af))) (fun _ => (gn 0 (show (["crew", "night"] : List Str).Nodup by decide +kernel))) (fun _ => (ck (cF (cl ve uV hr aD (aa (pv 1) (aa (pv 0) af)))))) (fun _ => (pv 0)) tZ.nd (by rfl) (by rfl) (by with_unfolding_all rfl))
   (aj (az (ay (iF hu) (by rfl) T.jm boot_sorted (aa (ba rfl (N' := ["crew", "night", "standing"]) (cap := [none, some 0, some 1]) ⟨rfl, by with_unfolding_all rfl⟩ (bL (pv 2)) (fun _ => (gn 0 (show (["crew", "night", "standing"] : List Str).Nodup by decide +kernel))) (fun _ => (ck (cF (cl gX gV hr aD (aa (pv 1) (aa (cl l4 ma hr aD (aa (pv 2) (aa (pv 0) af))) af)))))) (fun _ => (pv 0))) af)))))), ?_⟩
  refine ⟨_, rfl, _, rfl, p, a, ts, r, qs, st, rfl, N, h6, oq, hl, fun hS hG H1 s1 => ?_, k2, k3⟩
  have N1 := N.mono s1
  have G7 := oq.mono s1
  refine ⟨_, rfl, _, rfl, p, a, ts, r, qs, st, rfl, N1, h6, G7, fun lb H2 s2 BU => ?_⟩
  have N2 := N1.mono s2
  have Mf := G7.mono s2
  refine ⟨lb, _, rfl, BU, S8 (fg hS) h6, fun lg H3 s3 NV => ?_⟩
  have N3 := N2.mono s3
  have K3 := Mf.mono s3
  obtain ⟨vg, uL, dg⟩ := NV
  have EC := aG dg
  have Lz : (ip (aN ts.length st)).length <= 64 := by
   rw [io]
   exact S8 (UO (by decide) (S8 (fg hS) h6)) (by decide)
  refine ⟨lg, rfl, ⟨_, a6.of uL⟩, fun D hD => ?_⟩
  refine cB (K := K) (a := lg) (ys := vg) (fun j xs H' => am H3 H' /\ H' D = some (.lst xs) /\ bF H' ((((ip (aN ts.length st)).take j).filter (dB ts r)).map i6) xs)
   ⟨ag hD, ae, .nil⟩ (fun j xs H' _ ⟨sm, h, _⟩ => ⟨h, a6.of (sm _ _ uL)⟩) ?_ ?_
  ·rintro j y xs H4 hj ⟨s4, wU, dx⟩
   obtain ⟨g, hg, Gp⟩ := bE dg hj
   obtain ⟨c, rfl, hc⟩ := fZ Gp
   have sub := gi (Tx hg)
   have N9 : ∀ t ∈ g, 0 <= t /\ t < (ts.length : Int) := fun t ht => lI hS (sub.subset ht)
   have gl : g.length <= 6 := S8 sub.length_le (S8 (fg hS) h6)
   refine ⟨bP.set rfl, ?_⟩
   refine ⟨_, rfl, _, rfl, p, c, ts, r, qs, g, rfl, N3.mono s4, h6, s4 _ _ hc, by omega, N9, fun H5 s5 => ⟨_, rfl, ?_⟩⟩
   have GS := dx.mono s5
   have gS := s5 _ _ wU
   have lx : xs.length <= 64 := by
    rw [aG dx]
    exact S8 (Tr _ _) (by rw [Tl]; omega)
   refine bC (fun h1 => ?_) (fun h1 => ?_)
   ·refine ⟨_, rfl, gS, aJ (by omega), ao (s4.trans s5) hD, ae, ?_⟩
    rw [gu hg h1, S4]
    exact (bi gS GS (aH fi _)).snoc (c7 gS (hW (s5 _ _ (s4 _ _ hc))) (fi _))
   ·exact ⟨s4.trans s5, gS, dm hg h1 GS⟩
  ·rintro xs H4 ⟨s4, wU, dx⟩
   rw [Ta (by omega)] at dx
   have N4 := N3.mono s4
   have Ko := K3.mono s4
   have lx : xs.length < 64 := by
    rw [aG dx]
    exact kG (qs := qs) hS h6
   have e0 : (ip (aN ts.length st)).filter (dB ts r) = (ip (aN ts.length st)).filter (dB ts r) := rfl
   generalize hM : (ip (aN ts.length st)).filter (dB ts r) = M at dx e0
   have mem : ∀ g ∈ M, g.Sublist (aN ts.length st) /\ g ≠ [] := fun g hg => by
    rw [<- hM] at hg
    obtain ⟨z1, z2⟩ := TH.mp hg
    exact ⟨gi z1, qx z2⟩
   refine ⟨_, rfl, D, rfl, ⟨_, a6.of wU⟩, fun D2 jq => ?_⟩
   refine cB (K := K) (a := D) (ys := xs) (fun j zs H' => am H4 H' /\ H' D2 = some (.lst zs) /\ bF H' (((M.take j).filter fun c => be qs ts.length (behind ts.length st c).1).map i6) zs)
    ⟨ag jq, ae, .nil⟩ (fun j zs H' _ ⟨sm, h, _⟩ => ⟨h, a6.of (sm _ _ wU)⟩) ?_ ?_
   ·rintro j y zs H5 hj ⟨s5, gS, dz⟩
    obtain ⟨g, hg, Gp⟩ := bE dx hj
    obtain ⟨c, rfl, hc⟩ := fZ Gp
    obtain ⟨sub, _⟩ := mem g (Tx hg)
    refine ⟨bP.set rfl, ?_⟩
    refine ⟨_, rfl, _, rfl, _, rfl, a, c, st, g, ts.length, rfl, Ko.mono s5, s5 _ _ hc, hS, h6, sub, fun l H6 s6 Rp => ?_⟩
    refine ⟨p, l, ts, r, qs, _, rfl, (N4.mono s5).mono s6, h6, Rp, fun H7 s7 => ⟨_, rfl, ?_⟩⟩
    have Ck := s6.trans s7
    have NU := dz.mono Ck
    have Jv := Ck _ _ gS
    have lz : zs.length <= 64 := by
     rw [aG dz]
     exact S8 (Tr _ _) (by rw [Tl]; have := aG dx; omega)
    refine bC (fun h1 => ?_) (fun h1 => ?_)
    ·refine ⟨_, rfl, Jv, aJ (by omega), ao (s5.trans Ck) jq, ae, ?_⟩
     rw [gu hg h1, S4]
     exact (bi Jv NU (aH fi _)).snoc (c7 Jv (hW (Ck _ _ (s5 _ _ hc))) (fi _))
    ·exact ⟨s5.trans Ck, Jv, dm hg h1 NU⟩
   ·rintro zs H5 ⟨s5, gS, dz⟩
    have lM : xs.length = M.length := aG dx
    rw [Ta (by omega)] at dz
    have PF : (M.filter fun c => be qs ts.length (behind ts.length st c).1).Nodup := by rw [<- hM]; exact qy hS
    refine ⟨D2, _, zs, rfl, gS, dz, PF, fun l pI lR HN => ?_⟩
    have E5 := s1.trans (s2.trans (s3.trans (s4.trans s5)))
    refine k1 hS hG l _ (E5.free lR) (ao E5 (E5.free lR)) ⟨pI, ae, ?_⟩
    unfold eg dS
    rw [hM]
    exact HN.mono (ag lR)
end
theorem sP {n : Nat} {st : bc} (h : cZ n st = true) (h6 : n <= 6) : st.1.length <= 6 := by
 obtain ⟨h1, h2, _⟩ := fN h
 have e := fU h1 h2
 have l : ((bn n).filter fun t => st.1.contains t).length <= n := S8 (Tr _ _) (by rw [aO]; exact SX _)
 rw [e] at l
 omega
theorem wl (n : Nat) : groups n = ip (bn n) := by
 have := c9 (fun _ => true) n
 rw [List.filter_eq_self.mpr (by intro a _; simp), List.filter_eq_self.mpr (by intro a _; rfl)] at this
 exact this
theorem wL {n : Nat} {c : List Int} (h : c ∈ groups n) : c.Sublist (bn n) := by rw [wl] at h; exact gi h
section
variable {P : Program} {w : World} {K : VN} {mg : Str -> Option Value} {base : Heap} {C : Addr} {Z : Ad} {fs : Nat -> Addr} {ds : Nat -> FuncData}
def sR : Sp := fun vs H Q _ => ∃ (b : Addr) (g : List Int) (n : Nat), vs = [.ref b, .int n] /\ H b = some (.tup (g.map V.int)) /\ n <= 6 /\ ∀ l H', am H H' -> H' l = some (.tup ((restOf n g).map V.int)) -> Q (.ref l) H'
theorem sC : au ["group", "many"] ["group", "many"] (ak fh) := fA
theorem w8 {f : Addr} {fd : FuncData} (F : Fn K mg "_law_rest" fh f fd ["group", "many"]) (T : Txt K mg C Z) : av P w K mg base bp 1 f fd ["group", "many"] sR := by
 refine F.fn.ok sC (fun vs H Q E h => ?_) (fun b8 A outer s H vs Q E hr h => ?_)
 ·obtain ⟨b, g, n, rfl, _⟩ := h
  rfl
 ·obtain ⟨b, g, n, rfl, hb, h6, k⟩ := h
  refine ⟨_, (aj (az (bu bv (by rfl) T.cN UW (aa (ba rfl (N' := ["thing", "group"]) (cap := [none, some 0]) ⟨rfl, by with_unfolding_all rfl⟩ (cA (by rfl) T.ej (aa (pv 1) af)) (fun _ => (gn 0 (show (["thing", "group"] : List Str).Nodup by decide +kernel))) (fun _ => (ck (aE (pF (K := K) rfl) (pv 0) (pv 1) (by with_unfolding_all rfl)))) (fun _ => (pv 0))) af)))), ?_⟩
  refine ⟨_, rfl, _, rfl, by omega, by omega, fun D hD => ?_⟩
  rw [Ue]
  refine eQ (n := n) (fun i xs H' => am H H' /\ H' D = some (.lst xs) /\ xs = ((bn i).filter fun t => !g.contains t).map V.int)
   ⟨ag hD, ae, rfl⟩ (fun i xs H' _ ⟨_, h, _⟩ => h) ?_ ?_
  ·rintro i xs H' hi ⟨sm, dL, rfl⟩
   have e1 : ((0 : Int) + (i : Int)) = (i : Int) := by omega
   refine ⟨bP.set rfl, ?_⟩
   refine ⟨_, rfl, _, rfl, b, _, rfl, .inr (aX.of (sm _ _ hb)), rfl, bN g, _, rfl, ?_⟩
   rw [bQ, e1]
   have sl : ((bn i).filter fun t => !g.contains t).length <= i := S8 (Tr _ _) (by rw [aO]; exact SX _)
   refine bC (fun h1 => ?_) (fun h1 => ?_)
   ·refine ⟨_, rfl, dL, aJ (by rw [SW]; omega), ao sm hD, ae, ?_⟩
    have cX : (!g.contains (i : Int)) = true := h1
    have ef : [(i : Int)].filter (fun t => !g.contains t) = [(i : Int)] := by rw [TF, if_pos cX]; rfl
    rw [cQ, Tv, S4, ef]
    rfl
   ·have cX : (!g.contains (i : Int)) = false := h1
    have ef : [(i : Int)].filter (fun t => !g.contains t) = [] := by rw [TF, if_neg (by rw [cX]; simp)]; rfl
    refine ⟨sm, dL, ?_⟩
    rw [cQ, Tv, S4, ef]
    simp
  ·rintro xs H' ⟨sm, dL, rfl⟩
   exact ⟨D, _, rfl, .inl ⟨a6.of dL, fun o ho => k o _ (ao sm (sm.free ho)) ae⟩⟩
def pi (K : VN) : Sp := fun vs H Q _ => ∃ (q b : Addr) (qs : List Qu) (g : List Int) (n : Nat), vs = [.ref q, .ref b, .int n] /\ LstAt xN H q qs /\ H b = some (.tup (g.map V.int)) /\ n <= 6 /\ ∀ H', am H H' -> Q (.bl (be qs n g)) H'
theorem su : au ["quarrels", "group", "many"] ["quarrels", "group", "many"] (ak gw) := fA
theorem uI {f f1 f2 : Addr} {fd fz mD : FuncData} (F : Fn K mg "_law_good" gw f fd ["quarrels", "group", "many"]) (T : Txt K mg C Z) (iA : Fn K mg "_law_peace" dW f1 fz ["quarrels", "group"])
  (gv : Fn K mg "_law_rest" fh f2 mD ["group", "many"]) : av P w K mg base bp 2 f fd ["quarrels", "group", "many"] (pi K) := by
 have lJ : av P w K mg base bp 1 f1 fz ["quarrels", "group"] (t5 K) := A4 iA
 have i5 : av P w K mg base bp 1 f2 mD ["group", "many"] sR := w8 gv T
 refine F.fn.ok su (fun vs H Q E h => ?_) (fun b8 A outer s H vs Q E hr h => ?_)
 ·obtain ⟨q, b, qs, g, n, rfl, _⟩ := h
  rfl
 ·obtain ⟨q, b, qs, g, n, rfl, hq, hb, h6, k⟩ := h
  refine ⟨_, (aj (az (eN (cl lJ iA hr aD (aa (pv 0) (aa (pv 1) af))) (ii (cl lJ iA hr aD (aa (pv 0) (aa (cl i5 gv hr aD (aa (pv 1) (aa (pv 2) af))) af))))))), ?_⟩
  refine ⟨_, rfl, _, rfl, q, b, qs, g, rfl, hq, hb, _, rfl, ?_⟩
  refine bC (fun h1 => ?_) (fun h1 => ?_)
  ·refine ⟨_, rfl, _, rfl, _, rfl, b, g, n, rfl, hb, h6, fun l H' sm hl => ?_⟩
   refine ⟨q, l, qs, _, rfl, hq.mono sm, hl, ?_⟩
   have k' := k H' sm
   unfold be at k'
   rw [h1, VC] at k'
   exact k'
  ·have k' := k H (am.refl H)
   unfold be at k'
   rw [h1, TM] at k'
   exact k'
def mn : Sp := fun vs H Q _ => ∃ (a b : Addr) (st : bc) (c : List Int) (n : Nat), vs = [.ref a, .ref b, .int n] /\ cI H a st /\ H b = some (.tup (c.map V.int)) /\ st.1.length <= 1000 /\ n <= 6 /\ ∀ l H', am H H' -> cI H' l (behind n st c) -> Q (.ref l) H'
theorem oA : au ["standing", "crew", "many"] ["standing", "crew", "many"] (ak eY) := fA
theorem qX {f : Addr} {fd : FuncData} (F : Fn K mg "_law_behind" eY f fd ["standing", "crew", "many"]) (T : Txt K mg C Z) : av P w K mg base bp 1 f fd ["standing", "crew", "many"] mn := by
 refine F.fn.ok oA (fun vs H Q E h => ?_) (fun b8 A outer s H vs Q E hr h => ?_)
 ·obtain ⟨a, b, st, c, n, rfl, _⟩ := h
  rfl
 ·obtain ⟨a, b, st, c, n, rfl, ⟨g0, ha, xF⟩, hb, lg, h6, k⟩ := h
  refine ⟨_, (ah (bM (aE jX (aF aI (pv 0) ai (fun _ _ => rfl)) ai (a7 _))
   (aj (az (bW (aa (bu bv (by rfl) T.cN UW (aa (ba rfl (N' := ["thing", "crew"]) (cap := [none, some 1]) ⟨rfl, by with_unfolding_all rfl⟩ (fv (aF aI (pv 0) ai (fun _ _ => rfl))) (fun _ => (gn 0 (show (["thing", "crew"] : List Str).Nodup by decide +kernel))) (fun _ => (ck (aE (pF (K := K) rfl) (pv 0) (pv 1) (by with_unfolding_all rfl)))) (fun _ => (pv 0))) af)) (aa ai af)))))
   aP)
   (aj (az (bW (aa (bu bv (by rfl) T.cN UW (aa (ba rfl (N' := ["thing", "standing", "crew"]) (cap := [none, some 0, some 1]) ⟨rfl, by with_unfolding_all rfl⟩ (cA (by rfl) T.ej (aa (pv 2) af)) (fun _ => (gn 0 (show (["thing", "standing", "crew"] : List Str).Nodup by decide +kernel))) (fun _ => (ck (PW.pt (pw_or (aE (M6 (K := K) rfl) (pv 0) (aF (Aj (K := K) rfl) (pv 1) ai (fun _ _ => rfl)) (by with_unfolding_all rfl)) (pw_or1 (aE (M6 (K := K) rfl) (pv 0) (pv 2) (by with_unfolding_all rfl))))))) (fun _ => (pv 0))) af)) (aa ai af)))))), ?_⟩
  refine ⟨_, rfl, a, _, _, _, rfl, rfl, aX.of ha, lY, rfl, _, rfl, ?_⟩
  refine bC (fun h1 => ?_) (fun h1 => ?_)
  ·have e : st.2 = 0 := by have := Tt h1; injection this
   refine ⟨_, rfl, a, _, _, _, rfl, rfl, aX.of ha, kE, g0, rfl, ⟨_, aX.of xF⟩, fun D hD => ?_⟩
   refine dh (K := K) (a := g0) (ys := st.1.map V.int) (fun i xs H' => am H H' /\ H' D = some (.lst xs) /\ xs = ((st.1.take i).filter fun t => !c.contains t).map V.int)
    ⟨ag hD, ae, rfl⟩ (fun i xs H' _ ⟨sm, h, _⟩ => ⟨h, aX.of (sm _ _ xF)⟩) ?_ ?_
   ·rintro i x xs H' hi ⟨sm, dL, rfl⟩
    rw [Tc, TV] at hi
    obtain ⟨t, ht, rfl⟩ := hi
    have sl : ((st.1.take i).filter fun t => !c.contains t).length <= 1000 := S8 (Tr _ _) (by rw [Tl]; omega)
    refine ⟨bP.set rfl, ?_⟩
    refine ⟨_, rfl, _, rfl, b, _, rfl, .inr (aX.of (sm _ _ hb)), rfl, bN c, _, rfl, ?_⟩
    rw [bQ]
    have et : st.1.take (i + 1) = st.1.take i ++ [t] := by rw [To, ht]; rfl
    refine bC (fun h2 => ?_) (fun h2 => ?_)
    ·have ij : (!c.contains t) = true := h2
     refine ⟨_, rfl, dL, aJ (by rw [SW]; omega), ao sm hD, ae, ?_⟩
     have ef : [t].filter (fun t => !c.contains t) = [t] := by rw [TF, if_pos ij]; rfl
     rw [et, Tv, S4, ef]
     rfl
    ·have ij : (!c.contains t) = false := h2
     refine ⟨sm, dL, ?_⟩
     have ef : [t].filter (fun t => !c.contains t) = [] := by rw [TF, if_neg (by rw [ij]; simp)]; rfl
     rw [et, Tv, S4, ef]
     simp
   ·rintro xs H' ⟨sm, dL, rfl⟩
    rw [SW, Uw] at dL
    refine ⟨D, _, rfl, .inl ⟨a6.of dL, fun o ho => ?_⟩⟩
    have s2 : am H' (L2.upd H' o (.tup ((st.1.filter fun t => !c.contains t).map V.int))) := ag ho
    refine ⟨aK (by show 2 <= _; decide), fun o2 pQ => ?_⟩
    have s3 := ag (o := .tup [.ref o, .int 1]) pQ
    refine k o2 _ (sm.trans (s2.trans s3)) ?_
    unfold behind
    rw [if_pos e]
    exact ⟨o, ae, s3 _ _ ae⟩
  ·have e : ¬ st.2 = 0 := fun z => by rw [z] at h1; exact absurd h1 (by simp)
   refine ⟨_, rfl, _, rfl, by omega, by omega, fun D hD => ?_⟩
   rw [Ue]
   refine eQ (n := n) (fun i xs H' => am H H' /\ H' D = some (.lst xs) /\ xs = ((bn i).filter fun t => st.1.contains t || c.contains t).map V.int)
    ⟨ag hD, ae, rfl⟩ (fun i xs H' _ ⟨_, h, _⟩ => h) ?_ ?_
   ·rintro i xs H' hi ⟨sm, dL, rfl⟩
    have e1 : ((0 : Int) + (i : Int)) = (i : Int) := by omega
    have sl : ((bn i).filter fun t => st.1.contains t || c.contains t).length <= i := S8 (Tr _ _) (by rw [aO]; exact SX _)
    have yes : (st.1.contains (i : Int) || c.contains (i : Int)) = true -> ((bn i).filter fun t => st.1.contains t || c.contains t).map V.int ++ [V.int ((0 : Int) + (i : Int))] = ((bn (i + 1)).filter fun t => st.1.contains t || c.contains t).map V.int := fun h => by
     have ef : [(i : Int)].filter (fun t => st.1.contains t || c.contains t) = [(i : Int)] := by rw [TF, if_pos h]; rfl
     rw [cQ, Tv, S4, ef, e1]
     rfl
    have no : (st.1.contains (i : Int) || c.contains (i : Int)) = false -> ((bn i).filter fun t => st.1.contains t || c.contains t).map V.int = ((bn (i + 1)).filter fun t => st.1.contains t || c.contains t).map V.int := fun h => by
     have ef : [(i : Int)].filter (fun t => st.1.contains t || c.contains t) = [] := by rw [TF, if_neg (by rw [h]; simp)]; rfl
     rw [cQ, Tv, S4, ef]
     simp
    refine ⟨bP.set rfl, ?_⟩
    refine ⟨_, rfl, _, rfl, a, _, _, _, rfl, rfl, aX.of (sm _ _ ha), kE, g0, _, rfl, .inr (aX.of (sm _ _ xF)), rfl, bN st.1, _, rfl, ?_⟩
    rw [bQ, e1]
    refine bC (fun h2 => ?_) (fun h2 => ?_)
    ·have ij : st.1.contains (i : Int) = true := h2
     refine ni ⟨_, rfl, dL, aJ (by rw [SW]; omega), ao sm hD, ae, ?_⟩
     rw [<- e1]
     exact yes (by rw [ij]; rfl)
    ·have ij : st.1.contains (i : Int) = false := h2
     refine ⟨_, rfl, _, rfl, b, _, rfl, .inr (aX.of (sm _ _ hb)), rfl, bN c, _, rfl, ?_⟩
     rw [bQ]
     refine bC (fun h3 => ?_) (fun h3 => ?_)
     ·have qf : c.contains (i : Int) = true := h3
      refine ⟨_, rfl, dL, aJ (by rw [SW]; omega), ao sm hD, ae, ?_⟩
      rw [<- e1]
      exact yes (by rw [qf]; simp)
     ·have qf : c.contains (i : Int) = false := h3
      exact ⟨sm, dL, no (by rw [ij, qf]; rfl)⟩
   ·rintro xs H' ⟨sm, dL, rfl⟩
    refine ⟨D, _, rfl, .inl ⟨a6.of dL, fun o ho => ?_⟩⟩
    have s2 := ag (o := .tup (((bn n).filter fun t => st.1.contains t || c.contains t).map V.int)) ho
    refine ⟨aK (by show 2 <= _; decide), fun o2 pQ => ?_⟩
    have s3 := ag (o := .tup [.ref o, .int 0]) pQ
    refine k o2 _ (sm.trans (s2.trans s3)) ?_
    unfold behind
    rw [if_neg e]
    exact ⟨o, ae, s3 _ _ ae⟩
end
theorem AM {l : List Int} : decide (V.int (l.map V.int).length = V.int 0) = decide (l = []) := by
 rw [SW]
 refine decide_eq_decide.mpr ⟨fun h => ?_, fun h => by rw [h]; rfl⟩
 injection h with h
 exact List.length_eq_zero_iff.mp (by omega)
theorem zK {l : List Int} : decide ((0 : Int) < ((l.map V.int).length : Int)) = decide (l ≠ []) := by
 rw [SW]
 refine decide_eq_decide.mpr ⟨(fun h z => by rw [z] at h; cases h), fun h => ?_⟩
 have := Vy.mpr h
 omega
section
variable {P : Program} {w : World} {K : VN} {mg : Str -> Option Value} {base : Heap} {C : Addr} {Z : Ad} {fs : Nat -> Addr} {ds : Nat -> FuncData}
structure Lw (K : VN) (mg : Str -> Option Value) (fs : Nat -> Addr) (ds : Nat -> FuncData) : Prop where
 gb : Fn K mg "_law_peace" dW (fs 1) (ds 1) ["quarrels", "group"]
 bits : Fn K mg "_law_bits" fe (fs 2) (ds 2) ["number", "many"]
 groups : Fn K mg "_law_groups" eW (fs 3) (ds 3) ["many"]
 rest : Fn K mg "_law_rest" fh (fs 4) (ds 4) ["group", "many"]
 good : Fn K mg "_law_good" gw (fs 5) (ds 5) ["quarrels", "group", "many"]
 behind : Fn K mg "_law_behind" eY (fs 6) (ds 6) ["standing", "crew", "many"]
 uH : Fn K mg "_law_crews" dR (fs 7) (ds 7) ["things", "room", "quarrels", "standing"]
variable {gs : Nat -> Addr} {es : Nat -> FuncData}
def qJ : Sp := fun vs H Q _ => ∃ (t q a : Addr) (ts : List Th) (r : Int) (qs : List Qu) (st : bc), vs = [.ref t, .int r, .ref q, .ref a] /\ LstAt wj H t ts /\ LstAt xN H q qs /\ cI H a st /\ cZ ts.length st = true /\ ts.length <= 6 /\
 ∀ l H', H l = none -> am H H' -> LstAt i6 H' l (eg ts r qs st) -> Q (.ref l) H'
theorem b9 : au ["things", "room", "quarrels", "standing", "many", "bank", "found", "crew", "rowing"] ["things", "room", "quarrels", "standing"] (ak dR) := fA
theorem y9 (L : Lw K mg gs es) (T : Txt K mg C Z) : av P w K mg base bp 3 (gs 7) (es 7) ["things", "room", "quarrels", "standing"] qJ := by
 have gv := L.rest
 have gI := L.groups
 have jp := L.good
 have gO := L.behind
 have i5 : av P w K mg base bp 1 (gs 4) (es 4) ["group", "many"] sR := w8 L.rest T
 have gM : av P w K mg base bp 2 (gs 3) (es 3) ["many"] mf := qC L.groups T L.bits
 have jo : av P w K mg base bp 2 (gs 5) (es 5) ["quarrels", "group", "many"] (pi K) := uI L.good T L.gb L.rest
 have gN : av P w K mg base bp 1 (gs 6) (es 6) ["standing", "crew", "many"] mn := qX L.behind T
 refine L.uH.fn.ok b9 (fun vs H Q E h => ?_) (fun b8 A outer s H vs Q E hr h => ?_)
 ·obtain ⟨t, q, a, ts, r, qs, st, rfl, _⟩ := h
  rfl
 obtain ⟨t, q, a, ts, r, qs, st, rfl, ⟨vt, ht, dt⟩, hq, ⟨g0, ha, xF⟩, hS, h6, k⟩ := h
 have hu := hr.units
 have lt := aG dt
 have MJ := (fN hS).2.2
 have lst := sP hS h6
 obtain ⟨tB, hB, rB⟩ : ∃ tt, rL (bX P w K mg base ["things", "room", "quarrels", "standing", "many", "bank", "found", "crew", "rowing"] "_law_crews" dR (gs 7) b8 A outer s H E) ((b7 dR).drop 3) tt /\ ∀ (H1 : Hp) (lb : Addr), am H H1 -> H1 lb = some (.tup ((aN ts.length st).map V.int)) ->
   tt (bD Q) [some (.ref t), some (.int r), some (.ref q), some (.ref a), some (.int ts.length), some (.ref lb), none, none, none] H1 := by
  refine ⟨_, (ah (sn 6 b9.nd (gL af))
   (ah (cY TR rfl (bL (cl gM gI hr aD (aa (pv 4) af))) (gn 7 b9.nd)
   (aj (bM (PW.pt (pw_and (kN jc jc ai (ay aC (by rfl) T.c8 TL (aa (pv 7) af)) (pv 1)) (pw_and1 (aE jX (ay aC (by rfl) T.c8 TL (aa (ba rfl (N' := ["thing", "bank"]) (cap := [none, some 5]) ⟨rfl, by with_unfolding_all rfl⟩ (fv (pv 7)) (fun _ => (gn 0 (show (["thing", "bank"] : List Str).Nodup by decide +kernel))) (fun _ => (ck (aE (pF (K := K) rfl) (pv 0) (pv 1) (by with_unfolding_all rfl)))) (fun _ => (pv 0))) af)) ai (a7 _)))))
   (ah (nL (j := 8) rfl (N' := ["thing", "things"]) (cap := [none, some 0]) ⟨rfl, by with_unfolding_all rfl⟩ (fv (pv 7)) (fun _ => (gn 0 (show (["thing", "things"] : List Str).Nodup by decide +kernel))) (fun _ => (ck (cF (aF (Aj (K := K) rfl) (aF (Cd (K := K) rfl) (pv 1) (pv 0) (fun _ _ => rfl)) ai (fun _ _ => rfl))))) (fun _ => (pv 0)) b9.nd (by rfl) (by rfl) (by with_unfolding_all rfl))
   (aj (bM (PW.pt (pw_and (aE xP (ay aC (by rfl) T.c8 TL (aa (pv 8) af)) ai (a7 _)) (pw_and1 (cF (cl jo jp hr aD (aa (pv 2) (aa (aF aI (cl gN gO hr aD (aa (pv 3) (aa (pv 7) (aa (pv 4) af)))) ai (fun _ _ => rfl)) (aa (pv 4) af))))))))
   (aj (dn (qS UA U7 U6 fL (pv 6) (aa (pv 7) af))))
   aP)))
   aP)))
   (aj (az (ay (iF hu) (by rfl) T.jm boot_sorted (aa (pv 6) af)))))), fun H1 lb s1 BU => ?_⟩
  refine ⟨aK (Tw _), fun F hF => ?_⟩
  have Px := s1.free hF
  have s2 : am H1 (L2.upd H1 F (.lst [])) := ag hF
  refine ⟨_, rfl, ts.length, rfl, h6, fun lg H3 s3 ⟨vg, Co, dg⟩ => ?_⟩
  have EC := aG dg
  have Sf : (groups ts.length).length <= 64 := by
   unfold groups
   rw [SW, aO]
   exact BP h6
  have MS : H3 F = some (.lst []) := s3 _ _ ae
  refine ⟨lg, rfl, ⟨_, a6.of Co⟩, dN (K := K) (a := lg) (xs := vg) (fun i σ H' => am H H' /\ H' lb = some (.tup ((aN ts.length st).map V.int)) /\ H' lg = some (.lst vg) /\ bF H' ((groups ts.length).map i6) vg /\ (∃ v7 v8, σ = [some (.ref t), some (.int r), some (.ref q), some (.ref a), some (.int ts.length), some (.ref lb), some (.ref F), v7, v8]) /\
    ∃ xs, H' F = some (.lst xs) /\ bF H' ((((groups ts.length).take i).filter (m9 ts r qs st)).map i6) xs)
   ⟨s1.trans (s2.trans s3), s3 _ _ (s2 _ _ BU), Co, dg, ⟨_, _, rfl⟩, [], MS, .nil⟩ (fun i σ H' _ ⟨_, _, h, _⟩ => a6.of h) ?_ ?_⟩
  ·rintro i x σ H4 hi ⟨s4, Cp, IS, Md, ⟨v7, v8, rfl⟩, xs, JP, dx⟩
   obtain ⟨c, hc, dc⟩ := bE Md hi
   obtain ⟨o, rfl, ho⟩ := fZ dc
   have sA := wL (Tx hc)
   have cin : ∀ y ∈ c, 0 <= y /\ y < (ts.length : Int) := fun y hy => cE.mp (sA.subset hy)
   have cl : c.length <= 6 := S8 sA.length_le (by rw [aO]; exact h6)
   have lx : xs.length <= 64 := by
    rw [aG dx]
    exact S8 (Tr _ _) (by rw [Tl]; omega)
   have no : ∀ (H' : Hp) (JX J1 : Option V), am H4 H' -> m9 ts r qs st c = false ->
     am H H' /\ H' lb = some (.tup ((aN ts.length st).map V.int)) /\ H' lg = some (.lst vg) /\ bF H' ((groups ts.length).map i6) vg /\ (∃ v7 v8, ([some (.ref t), some (.int r), some (.ref q), some (.ref a), some (.int ts.length), some (.ref lb), some (.ref F), JX, J1] : List (Option V)) = [some (.ref t), some (.int r), some (.ref q), some (.ref a), some (.int ts.length), some (.ref lb), some (.ref F), v7, v8]) /\
     ∃ xs, H' F = some (.lst xs) /\ bF H' ((((groups ts.length).take (i + 1)).filter (m9 ts r qs st)).map i6) xs := fun H' JX J1 sm hf =>
    ⟨s4.trans sm, sm _ _ Cp, sm _ _ IS, Md.mono sm, ⟨_, _, rfl⟩, xs, sm _ _ JP, dm hc hf (dx.mono sm)⟩
   refine ⟨_, rfl, o, _, rfl, .inr (aX.of ho), _, _, rfl, rfl, _, rfl, ?_⟩
   rw [SW]
   refine bC (fun h1 => ?_) (fun h1 => ?_)
   ·refine ⟨_, rfl, _, _, rfl, rfl, _, rfl, ?_⟩
    refine bC (fun h2 => ?_) (fun h2 => ?_)
    ·have hm : decide (1 <= (c.length : Int) /\ (c.length : Int) <= r) = true := S9 ⟨Tt h1, Tt h2⟩
     refine ⟨_, rfl, o, rfl, ⟨_, aX.of ho⟩, fun D hD => ?_⟩
     refine dh (K := K) (a := o) (ys := c.map V.int) (fun j ys H' => am H4 H' /\ H' D = some (.lst ys) /\ ys = ((c.take j).filter fun t => !(aN ts.length st).contains t).map V.int)
      ⟨ag hD, ae, rfl⟩ (fun j ys H' _ ⟨sm, h, _⟩ => ⟨h, aX.of (sm _ _ ho)⟩) ?_ ?_
     ·rintro j x ys H5 hj ⟨s5, gS, rfl⟩
      rw [Tc, TV] at hj
      obtain ⟨y, hy, rfl⟩ := hj
      have sl : ((c.take j).filter fun t => !(aN ts.length st).contains t).length <= 6 := S8 (Tr _ _) (by rw [Tl]; omega)
      have et : c.take (j + 1) = c.take j ++ [y] := by rw [To, hy]; rfl
      refine ⟨bP.set rfl, ?_⟩
      refine ⟨_, rfl, _, rfl, lb, _, rfl, .inr (aX.of (s5 _ _ Cp)), rfl, bN _, _, rfl, ?_⟩
      rw [bQ]
      refine bC (fun h3 => ?_) (fun h3 => ?_)
      ·have qf : (!(aN ts.length st).contains y) = true := h3
       refine ⟨_, rfl, gS, aJ (by rw [SW]; omega), ao s5 hD, ae, ?_⟩
       have ef : [y].filter (fun t => !(aN ts.length st).contains t) = [y] := by rw [TF, if_pos qf]; rfl
       rw [et, Tv, S4, ef]
       rfl
      ·have qf : (!(aN ts.length st).contains y) = false := h3
       refine ⟨s5, gS, ?_⟩
       have ef : [y].filter (fun t => !(aN ts.length st).contains t) = [] := by rw [TF, if_neg (by rw [qf]; simp)]; rfl
       rw [et, Tv, S4, ef]
       simp
     ·rintro ys H5 ⟨s5, gS, rfl⟩
      rw [SW, Uw] at gS
      refine ⟨D, _, rfl, .inl (a6.of gS), rfl, _, rfl, ?_⟩
      rw [AM]
      refine bC (fun h3 => ?_) (fun h3 => ?_)
      ·refine ⟨_, rfl, o, rfl, ⟨_, aX.of (s5 _ _ ho)⟩, fun D2 jq => ?_⟩
       have Oi := s5 _ _ (s4 _ _ ht)
       have RA := (dt.mono s4).mono s5
       refine dh (K := K) (a := o) (ys := c.map V.int) (fun j ys H' => am H5 H' /\ H' D2 = some (.lst ys) /\ ys = ((c.take j).filter (eG ts)).map V.int)
        ⟨ag jq, ae, rfl⟩ (fun j ys H' _ ⟨sm, h, _⟩ => ⟨h, aX.of (sm _ _ (s5 _ _ ho))⟩) ?_ ?_
       ·rintro j x ys H6 hj ⟨s6, qo, rfl⟩
        rw [Tc, TV] at hj
        obtain ⟨y, hy, rfl⟩ := hj
        obtain ⟨y0, y1⟩ := cin y (Tx hy)
        obtain ⟨oo, qe, pQ⟩ := x4 RA y0 y1
        have sl : ((c.take j).filter (eG ts)).length <= 6 := S8 (Tr _ _) (by rw [Tl]; omega)
        have et : c.take (j + 1) = c.take j ++ [y] := by rw [To, hy]; rfl
        refine ⟨bP.set rfl, ?_⟩
        refine ⟨_, rfl, _, rfl, t, _, _, _, rfl, rfl, a6.of (s6 _ _ Oi), qe, oo, _, _, _, rfl, rfl, aX.of (s6 _ _ pQ), lY, _, rfl, ?_⟩
        refine bC (fun h4 => ?_) (fun h4 => ?_)
        ·refine ⟨_, rfl, qo, aJ (by rw [SW]; omega), ao s6 jq, ae, ?_⟩
         have ef : [y].filter (eG ts) = [y] := by rw [TF, if_pos h4]; rfl
         rw [et, Tv, S4, ef]
         rfl
        ·refine ⟨s6, qo, ?_⟩
         have ef : [y].filter (eG ts) = [] := by rw [TF, if_neg (by rw [h4]; simp)]; rfl
         rw [et, Tv, S4, ef]
         simp
       ·rintro ys H6 ⟨s6, qo, rfl⟩
        rw [SW, Uw] at qo
        have Ia := s5.trans s6
        refine ⟨_, rfl, D2, _, rfl, .inl (a6.of qo), _, _, rfl, rfl, _, rfl, ?_⟩
        rw [zK]
        refine bC (fun h4 => ?_) (fun h4 => ?_)
        ·refine ⟨_, rfl, _, rfl, _, rfl, _, rfl, a, o, st, c, ts.length, rfl, ⟨g0, Ia _ _ (s4 _ _ ha), Ia _ _ (s4 _ _ xF)⟩, Ia _ _ ho, by omega, h6, fun lz H7 s7 ⟨gz, wQ, Gn⟩ => ?_⟩
         have Nx := Ia.trans s7
         refine ⟨lz, _, _, _, rfl, rfl, aX.of wQ, kE, _, rfl, q, gz, qs, _, ts.length, rfl, (hq.mono s4).mono Nx, Gn, h6, fun H8 s8 => ⟨_, rfl, ?_⟩⟩
         have Dc := Nx.trans s8
         refine bC (fun h5 => ?_) (fun h5 => ?_)
         ·have GO := Dc _ _ JP
          refine ⟨_, rfl, .inl ⟨rfl, _, a6.of GO⟩, _, rfl, F, xs, _, rfl, rfl, GO, aJ (by omega), ?_⟩
          refine ⟨ao (s4.trans Dc) Px, ?_, ?_, ?_, ⟨_, _, rfl⟩, xs ++ [.ref o], ae, ?_⟩
          ·rw [aq (eu (Dc _ _ Cp) GO (by intro z; cases z))]; exact Dc _ _ Cp
          ·have nn : lg ≠ F := fun z => by
            rw [z, MS] at Co
            cases Co
            have : (0 : Nat) = (groups ts.length).length := EC
            unfold groups at this
            rw [SW, aO] at this
            have := Nat.two_pow_pos ts.length
            omega
           rw [aq nn]; exact Dc _ _ IS
          ·exact bi GO (Md.mono Dc) (aH fi _)
          ·rw [gu hc (by unfold m9; rw [hm, h3, h4, h5]; rfl), S4]
           exact (bi GO (dx.mono Dc) (aH fi _)).snoc (c7 GO (hW (Dc _ _ ho)) (fi _))
         ·exact no H8 _ _ Dc (by unfold m9; rw [h5, UE, UE])
        ·exact dQ (no H6 _ _ Ia (by unfold m9; rw [h4, TM, UE]))
      ·exact no H5 _ _ s5 (by unfold m9; rw [h3, UE, TM])
    ·exact dQ (no H4 _ _ (am.refl H4) (by
      have hm : decide (1 <= (c.length : Int) /\ (c.length : Int) <= r) = false := Tp fun z => by rw [S9 z.2] at h2; cases h2
      unfold m9; rw [hm, TM, TM]))
   ·exact ⟨_, rfl, dQ (dQ (no H4 _ _ (am.refl H4) (by
      have hm : decide (1 <= (c.length : Int) /\ (c.length : Int) <= r) = false := Tp fun z => by rw [S9 z.1] at h1; cases h1
      unfold m9; rw [hm, TM, TM])))⟩
  ·rintro σ H4 ⟨s4, _, _, _, ⟨v7, v8, rfl⟩, xs, JP, dx⟩
   rw [Ta (by omega)] at dx
   have e : ((groups ts.length).filter (m9 ts r qs st)) = dS ts r qs st := yP hS
   rw [e] at dx
   refine ⟨_, rfl, F, _, xs, rfl, JP, dx, qy hS, fun l pI lR HN => ?_⟩
   exact k l _ (s4.free lR) (ao s4 (s4.free lR)) ⟨pI, ae, HN.mono (ag lR)⟩
 refine ⟨_, (ah (sn 4 b9.nd (ay aC (by rfl) T.c8 TL (aa (pv 0) af)))
   (ah (sn 5 b9.nd (aF aI (pv 3) ai (fun _ _ => rfl)))
   (ah (bM (aE jX (aF aI (pv 3) ai (fun _ _ => rfl)) ai (a7 _))
   (aj (sn 5 b9.nd (cl i5 gv hr aD (aa (aF aI (pv 3) ai (fun _ _ => rfl)) (aa (pv 4) af)))))
   aP)
   hB))), ?_⟩
 refine ⟨_, rfl, t, _, rfl, .inl (a6.of ht), ?_⟩
 rw [lt]
 refine ⟨_, rfl, a, _, _, _, rfl, rfl, aX.of ha, kE, ?_⟩
 refine ⟨_, rfl, a, _, _, _, rfl, rfl, aX.of ha, lY, rfl, _, rfl, ?_⟩
 refine bC (fun h1 => ?_) (fun h1 => ?_)
 ·have e : st.2 = 1 := by have := Tt h1; injection this
  refine ⟨_, rfl, a, _, _, _, rfl, rfl, aX.of ha, kE, _, rfl, g0, st.1, ts.length, rfl, xF, h6, fun l H' sm hl => ?_⟩
  refine rB H' l sm ?_
  unfold aN
  rw [if_neg (by rw [e]; decide)]; exact hl
 ·have e : st.2 = 0 := by
   rcases MJ with z | z
   ·exact z
   ·rw [z] at h1; exact absurd h1 (by simp)
  refine rB H g0 (am.refl H) ?_
  unfold aN
  rw [if_pos e]; exact xF
theorem vT (g : List Int) : (i6 g).canLay0 = true := by simp [i6, PyData.canLay0, zP]
theorem IU (g : List Int) : (i6 g).depth <= 6 := by
 have h := kX (f := PyData.int) (n := 5) (fun i => by simp [PyData.depth]) g
 simp only [i6, PyData.depth]
 omega
def qU : Sp := fun vs H Q _ => ∃ (a b : Addr) (g : List Int), vs = [.ref a, .ref b] /\ H a = some (.tup (g.map V.int)) /\ H b = some (.tup (g.map V.int)) /\ g.length <= 1000 /\ ∀ H', am H H' -> Q (.bl true) H'
theorem qq : au ["found", "due"] ["found", "due"] (ak dU) := fA
theorem zp {f f1 : Addr} {fd fz : FuncData} (F : Fn K mg "_law_group" dU f fd ["found", "due"]) (T : Txt K mg C Z) (cv : Fn K mg "_law_whole" cP f1 fz ["found"]) : av P w K mg base bp 2 f fd ["found", "due"] qU := by
 have fE : av P w K mg base bp 1 f1 fz ["found"] pM := tF cv T
 refine F.fn.ok qq (fun vs H Q E h => ?_) (fun b8 A outer s H vs Q E hr h => ?_)
 ·obtain ⟨a, b, g, rfl, _⟩ := h
  rfl
 ·obtain ⟨a, b, g, rfl, ha, hb, hl, k⟩ := h
  have hu := hr.units
  have dp := IU g
  refine ⟨_, (aj (az (eN (ay dF (by rfl) T.cM VF (aa (pv 0) (aa (jv (v := .ty "tuple") (by rfl) T.cN UW rfl) af))) (eN (fB (Gr hu) (pv 0) (pv 1) (a7 _)) (ii (ay (ox rfl) (by rfl) T.A5 boot_all (aa (ba rfl (N' := ["thing"]) (cap := [none]) ⟨rfl, by with_unfolding_all rfl⟩ (fv (pv 0)) (fun _ => (gn 0 (show (["thing"] : List Str).Nodup by decide +kernel))) (fun _ => bR) (fun _ => (cl fE cv hr aD (aa (pv 0) af)))) af))))))), ?_⟩
  refine ⟨_, rfl, _, _, _, _, rfl, .tup ha, iX _ _, _, rfl, ni ?_⟩
  refine ⟨_, rfl, _, rfl, i6 g, i6 g, hW ha, hW hb, vT g, vT g, by omega, _, rfl, ?_⟩
  rw [SeqAt.eqv_refl _ (vT g)]
  refine ni ?_
  refine ⟨_, rfl, a, rfl, ⟨_, aX.of ha⟩, fun D hD => ?_⟩
  refine dh (K := K) (a := a) (ys := g.map V.int) (fun i xs H' => am H H' /\ H' D = some (.lst xs) /\ xs = (List.replicate i true).map V.bl)
   ⟨ag hD, ae, rfl⟩ (fun i xs H' _ ⟨sm, h, _⟩ => ⟨h, aX.of (sm _ _ ha)⟩) ?_ ?_
  ·rintro i x xs H' hi ⟨sm, dL, rfl⟩
   have il : i < g.length := by simpa using (Tk.mp hi).1
   rw [Tc, TV] at hi
   obtain ⟨x', tj, rfl⟩ := hi
   refine ⟨bP.set rfl, ?_⟩
   refine ⟨_, rfl, _, rfl, dL, aJ (by simp; omega), ao sm hD, ae, ?_⟩
   rw [List.replicate_succ', S4]
   rfl
  ·rintro xs H' ⟨sm, dL, rfl⟩
   refine ⟨D, _, rfl, a6.of dL, ?_⟩
   have e : (List.replicate (g.map V.int).length true).all id = true := by simp
   rw [e]
   exact k H' sm
end
section
variable {P : Program} {w : World} {K : VN} {mg : Str -> Option Value} {base : Heap} {C : Addr} {Z : Ad} {fs gs : Nat -> Addr} {ds es : Nat -> FuncData}
def oz (C : Addr) : Sp := fun vs H Q _ => ∃ (p b : Addr) (ts : List Th) (r : Int) (qs : List Qu) (c : List Int), vs = [.ref p, .ref b] /\ bb C H p ts r qs /\ ts.length <= 6 /\ H b = some (.tup (c.map V.int)) /\ c.length <= 1000 /\ c ≠ [] /\ (∀ t ∈ c, 0 <= t /\ t < (ts.length : Int)) /\
 ∀ H', am H H' -> Q (.int (a9 ts c)) H'
theorem pD : au ["night", "crew", "things"] ["night", "crew"] (ak jI) := fA
theorem vP {f f1 : Addr} {fd fz : FuncData} (F : Fn K mg "minutes" jI f fd ["night", "crew"]) (T : Txt K mg C Z) (bd : Meth K C "things" f1) (aR : Mt K "things" "Night.things" bz f1 fz ["self"]) :
  av P w K mg base bp 2 f fd ["night", "crew"] (oz C) := by
 have bT : av P w K mg base bp 1 f1 fz ["self"] (fT C) := ik aR T
 refine F.fn.ok pD (fun vs H Q E h => ?_) (fun b8 A outer s H vs Q E hr h => ?_)
 ·obtain ⟨p, b, ts, r, qs, c, rfl, _⟩ := h
  rfl
 ·obtain ⟨p, b, ts, r, qs, c, rfl, N, h6, hb, hc, si, tw, k⟩ := h
  obtain ⟨dx, t, q, hp, _, _⟩ := id N.ex
  refine ⟨_, (ah (sn 2 pD.nd (fQ (pv 0) T.bK bd bT (hr.mono (by decide)) aR.b .nil aD))
   (aj (az (ay (ul rfl) (by rfl) T.Eh boot_max (aa (ba rfl (N' := ["thing", "things"]) (cap := [none, some 2]) ⟨rfl, by with_unfolding_all rfl⟩ (fv (pv 1)) (fun _ => (gn 0 (show (["thing", "things"] : List Str).Nodup by decide +kernel))) (fun _ => bR) (fun _ => (aF (Aj (K := K) rfl) (aF (Cd (K := K) rfl) (pv 1) (pv 0) (fun _ _ => rfl)) ai (fun _ _ => rfl)))) af))))), ?_⟩
  refine ⟨_, rfl, p, dx, _, rfl, hp, cx _ _ _, p, ts, r, qs, rfl, N, fun l vs hl dv => ?_⟩
  have s1 : am H (L2.upd H l (.lst vs)) := ag hl
  have GX := dv.mono s1
  have xg := s1 _ _ hb
  have zA : (L2.upd H l (.lst vs)) l = some (.lst vs) := ae
  generalize L2.upd H l (.lst vs) = H1 at s1 GX xg zA ⊢
  refine ⟨_, rfl, b, rfl, ⟨_, aX.of xg⟩, fun D hD => ?_⟩
  refine dh (K := K) (a := b) (ys := c.map V.int) (fun i xs H' => am H1 H' /\ H' D = some (.lst xs) /\ xs = (c.take i).map fun t => V.int (iD ts t))
   ⟨ag hD, ae, rfl⟩ (fun i xs H' _ ⟨sm, h, _⟩ => ⟨h, aX.of (sm _ _ xg)⟩) ?_ ?_
  ·rintro i x xs H' hi ⟨sm, dL, rfl⟩
   rw [Tc, TV] at hi
   obtain ⟨x', tj, rfl⟩ := hi
   obtain ⟨x0, x1⟩ := tw x' (Tx tj)
   obtain ⟨o, qe, pQ⟩ := x4 GX x0 x1
   refine ⟨bP.set rfl, ?_⟩
   refine ⟨_, rfl, _, rfl, l, _, _, _, rfl, rfl, a6.of (sm _ _ zA), qe, o, _, _, _, rfl, rfl, aX.of (sm _ _ pQ), kE, dL, aJ (by rw [SW, Tl]; omega), ao sm hD, ae, ?_⟩
   rw [To, tj]
   simp
  ·rintro xs H' ⟨sm, dL, rfl⟩
   refine ⟨D, c.map (iD ts), rfl, a6.of ?_, ?_, k H' (s1.trans sm)⟩
   ·rw [dL, SW, Uw, TN]
    rfl
   ·simpa using si
def mU : Sp := fun vs H Q _ => ∃ (t b : Addr) (ts : List Th) (c : List Int), vs = [.ref t, .ref b] /\ LstAt wj H t ts /\ H b = some (.tup (c.map V.int)) /\ c.length <= 1000 /\ c ≠ [] /\ (∀ t ∈ c, 0 <= t /\ t < (ts.length : Int)) /\ ∀ H', am H H' -> Q (.int (a9 ts c)) H'
theorem nh : au ["things", "crew"] ["things", "crew"] (ak cK) := fA
theorem tW {f : Addr} {fd : FuncData} (F : Fn K mg "_law_minutes" cK f fd ["things", "crew"]) (T : Txt K mg C Z) : av P w K mg base bp 1 f fd ["things", "crew"] mU := by
 refine F.fn.ok nh (fun vs H Q E h => ?_) (fun b8 A outer s H vs Q E hr h => ?_)
 ·obtain ⟨t, b, ts, c, rfl, _⟩ := h
  rfl
 ·obtain ⟨t, b, ts, c, rfl, ⟨vt, ht, dt⟩, hb, hc, si, tw, k⟩ := h
  refine ⟨_, (aj (az (ay (ul rfl) (by rfl) T.Eh boot_max (aa (ba rfl (N' := ["thing", "things"]) (cap := [none, some 0]) ⟨rfl, by with_unfolding_all rfl⟩ (fv (pv 1)) (fun _ => (gn 0 (show (["thing", "things"] : List Str).Nodup by decide +kernel))) (fun _ => bR) (fun _ => (aF (Aj (K := K) rfl) (aF (Cd (K := K) rfl) (pv 1) (pv 0) (fun _ _ => rfl)) ai (fun _ _ => rfl)))) af)))), ?_⟩
  refine ⟨_, rfl, b, rfl, ⟨_, aX.of hb⟩, fun D hD => ?_⟩
  refine dh (K := K) (a := b) (ys := c.map V.int) (fun i xs H' => am H H' /\ H' D = some (.lst xs) /\ xs = (c.take i).map fun t => V.int (iD ts t))
   ⟨ag hD, ae, rfl⟩ (fun i xs H' _ ⟨sm, h, _⟩ => ⟨h, aX.of (sm _ _ hb)⟩) ?_ ?_
  ·rintro i x xs H' hi ⟨sm, dL, rfl⟩
   rw [Tc, TV] at hi
   obtain ⟨x', tj, rfl⟩ := hi
   obtain ⟨x0, x1⟩ := tw x' (Tx tj)
   obtain ⟨o, qe, pQ⟩ := x4 dt x0 x1
   refine ⟨bP.set rfl, ?_⟩
   refine ⟨_, rfl, _, rfl, t, _, _, _, rfl, rfl, a6.of (sm _ _ ht), qe, o, _, _, _, rfl, rfl, aX.of (sm _ _ pQ), kE, dL, aJ (by rw [SW, Tl]; omega), ao sm hD, ae, ?_⟩
   rw [To, tj]
   simp
  ·rintro xs H' ⟨sm, dL, rfl⟩
   refine ⟨D, c.map (iD ts), rfl, a6.of ?_, ?_, k H' sm⟩
   ·rw [dL, SW, Uw, TN]
    rfl
   ·simpa using si
end
def mh (H : Hp) (D : Addr) (H' : Hp) : Prop := ∀ b u, b ≠ D -> H b = some u -> H' b = some u
theorem mh.of {H H' : Hp} {D : Addr} (h : am H H') : mh H D H' := fun b u _ e => h b u e
theorem mh.next {H H' Ew : Hp} {D : Addr} (h : mh H D H') (g : am H' Ew) : mh H D Ew := fun b u n e => g b u (h b u n e)
theorem mh.upd {H H' : Hp} {D : Addr} {o : HO} (h : mh H D H') : mh H D (L2.upd H' D o) := fun b u n e => by rw [aq n]; exact h b u n e
theorem mh.same {H H' : Hp} {D : Addr} (h : mh H D H') (n : H D = none) : am H H' := fun b u e => h b u (ax e n) e
theorem mh.eL {H H' : Hp} {D : Addr} {ys : List V} (h : mh H D H') (n : H D = some (.lst ys)) : ∀ b vs, H b = some (.tup vs) -> H' b = some (.tup vs) := fun b vs e => h b _ (fun z => by rw [z, n] at e; cases e) e
theorem jR.st {H : Hp} {a : Addr} {st : bc} (h : cI H a st) : jR H st a := h
theorem St.ka {H : Hp} {a : Addr} {st : bc} (h : jR H st a) : cI H a st := h
theorem gD (st : bc) : eD (jz st) = true := by
 show cu [i6 st.1, .int st.2] = true
 simp only [cu, Bool.and_true, fi]
 rfl
theorem dY {H : Hp} {st : bc} {v : V} (h : DV H (jz st) v) : ∃ a, v = .ref a /\ cI H a st := jR.of h
theorem E9 {H : Hp} {st aB : bc} {v : V} (h : DV H (jz st) v) (h' : DV H (jz aB) v) : st = aB := by
 obtain ⟨a, e, b, h1, h2⟩ := dY h
 obtain ⟨a', e', b', cX, ij⟩ := dY h'
 rw [e] at e'; cases e'
 rw [h1] at cX
 injection cX with e
 injection e with e
 injection e with e1 e2
 injection e1 with e1
 injection e2 with e2 _
 injection e2 with e2
 subst e1
 rw [h2] at ij
 injection ij with e
 injection e with e
 refine Prod.ext ?_ e2
 exact List.map_inj_right (fun x y z => by injection z) |>.mp e
theorem zu (gs : List (List Int)) : (gs.flatMap fun g => [((g, 0) : bc), (g, 1)]).length = 2 * gs.length := by
 induction gs with
 | nil => rfl
 | cons g gs ih => rw [List.flatMap_cons, Tq, ih]; simp; omega
theorem zM {α : Type} {f : α -> PyData} {H : Hp} : ∀ {vs pI : List V}, pI.Perm vs -> ∀ {l : List α}, bF H (l.map f) vs -> ∃ l' : List α, l'.Perm l /\ bF H (l'.map f) pI := by
 intro vs pI hp
 induction hp with
 | nil => exact fun {l} h => ⟨l, List.Perm.refl _, h⟩
 | cons x _ ih =>
  intro l h
  cases l with
  | nil => cases h
  | cons a l =>
   cases h with
   | cons h1 h2 =>
    obtain ⟨l', h3, h4⟩ := ih h2
    exact ⟨a :: l', h3.cons a, .cons h1 h4⟩
 | swap x y l0 =>
  intro l h
  cases l with
  | nil => cases h
  | cons a l =>
   cases h with
   | cons h1 h2 =>
    cases l with
    | nil => cases h2
    | cons b l =>
     cases h2 with
     | cons h3 h4 => exact ⟨b :: a :: l, List.Perm.swap _ _ _, .cons h3 (.cons h1 h4)⟩
 | trans _ _ MA LM =>
  intro l h
  obtain ⟨l1, h1, h2⟩ := LM h
  obtain ⟨l2, h3, h4⟩ := MA h2
  exact ⟨l2, h3.trans h1, h4⟩
open Classical in
noncomputable def wD (H : Hp) (v : V) : Int × List Int := if e : ∃ st : bc, DV H (jz st) v then sw (Classical.choose e) else (0, [])
theorem xu {H : Hp} {v : V} {st : bc} (h : DV H (jz st) v) : wD H v = sw st := by
 unfold wD
 rw [dif_pos ⟨st, h⟩]
 rw [E9 (Classical.choose_spec (⟨st, h⟩ : ∃ st : bc, DV H (jz st) v)) h]
theorem vG {H : Hp} : ∀ {l : List bc} {vs : List V}, bF H (l.map jz) vs -> vs.map (wD H) = l.map sw
 | [], _, .nil => rfl
 | _ :: _, _ :: _, .cons h t => by rw [Ti, Ti, xu h, vG t]
theorem Jg {H : Hp} {l : List bc} {vs : List V} (h : bF H (l.map jz) vs) (hp : vs.Pairwise fun x y => aS (wD H x) (wD H y) = true) : l.Pairwise fun a b => aS (sw a) (sw b) = true := by
 have h1 : (vs.map (wD H)).Pairwise fun a b => aS a b = true := by rw [T6]; exact hp
 rw [vG h, T6] at h1
 exact h1
theorem jG {ts : List Th} {r : Int} {qs : List Qu} {st : bc} (h : cZ ts.length st = true) (h6 : ts.length <= 6) : (eg ts r qs st).length <= 1000 /\ ∀ g ∈ eg ts r qs st, g.length <= 1000 := by
 have pm := hU (dS ts r qs st)
 constructor
 ·rw [show (eg ts r qs st).length = _ from pm.length_eq]
  have : (dS ts r qs st).length < 64 := Nat.lt_of_le_of_lt (Tr _ _) (kG (qs := qs) h h6)
  omega
 ·intro g hg
  have Lg := pm.mem_iff.mp hg
  have := (gi (TH.mp (TH.mp Lg).1).1).length_le
  have := fg h
  omega
section
variable {P : Program} {w : World} {K : VN} {mg : Str -> Option Value} {base : Heap} {C : Addr} {Z : Ad} {fs : Nat -> Addr} {ds : Nat -> FuncData}
def oM : Sp := fun vs H Q _ => ∃ (a b : Addr) (sd : Int), vs = [.ref a] /\ H a = some (.tup [.ref b, .int sd]) /\ ∀ q, H q = none -> Q (.ref q) (L2.upd H q (.tup [.int sd, .ref b]))
theorem wb : au ["standing"] ["standing"] (ak gZ) := fA
theorem vD {f : Addr} {fd : FuncData} (F : Fn K mg "by_side" gZ f fd ["standing"]) : av P w K mg base bp 1 f fd ["standing"] oM := by
 refine F.fn.ok wb (fun vs H Q E h => ?_) (fun b8 A outer s H vs Q E hr h => ?_)
 ·obtain ⟨a, b, sd, rfl, _⟩ := h
  rfl
 ·obtain ⟨a, b, sd, rfl, ha, k⟩ := h
  refine ⟨_, (aj (az (bW (aa (aF aI (pv 0) ai (fun _ _ => rfl)) (aa (aF aI (pv 0) ai (fun _ _ => rfl)) af))))), ?_⟩
  exact ⟨_, rfl, a, _, _, _, rfl, rfl, aX.of ha, lY, _, rfl, a, _, _, _, rfl, rfl, aX.of ha, kE, aK (by show 2 <= _; decide), fun o ho => k o ho⟩
def Au (C : Addr) : Sp := fun vs H Q _ => ∃ (p : Addr) (ts : List Th) (r : Int) (qs : List Qu), vs = [.ref p] /\ bb C H p ts r qs /\ ts.length <= 6 /\ ∀ l H', am H H' -> LstAt jz H' l (bB qs ts.length) -> Q (.ref l) H'
theorem ei : au ["night", "standings", "group"] ["night"] (ak cL) := fA
theorem FH {f f1 f2 : Addr} {fd fz mD : FuncData} (F : Fn K mg "good_standings" cL f fd ["night"]) (L : Lk K mg C fs ds) (T : Txt K mg C Z) (mz : Fn K mg "by_side" gZ f1 fz ["standing"])
  (o8 : Meth K C "begins" f2) (iS : Mt K "begins" "Night.begins" cG f2 mD ["self"]) : av P w K mg base bp 4 f fd ["night"] (Au C) := by
 have i0 := L.ju
 have gV := L.jD
 have oi : av P w K mg base bp 1 f2 mD ["self"] (oh C) := vJ iS T
 have iZ : av P w K mg base bp 1 (fs 11) (ds 11) ["bank"] iB := kM L.ju
 have gX : av P w K mg base bp 3 (fs 8) (ds 8) ["night", "standing"] (iu C) := kr L.jD T L.cx L.things L.jH L.gb L.fR
 refine F.fn.ok ei (fun vs H Q E h => ?_) (fun b8 A outer s H vs Q E hr h => ?_)
 ·obtain ⟨p, ts, r, qs, rfl, _⟩ := h
  rfl
 ·obtain ⟨p, ts, r, qs, rfl, N, h6, k⟩ := h
  have hu := hr.units
  obtain ⟨dx, t, q, hp, _, _⟩ := id N.ex
  refine ⟨_, (ah (sn 1 ei.nd (gL af))
   (ah (cY TR rfl (bL (cl iZ i0 hr aD (aa (aF aI (fQ (pv 0) T.bK o8 oi (hr.mono (by decide)) iS.b .nil aD) ai (fun _ _ => rfl)) af))) (gn 2 ei.nd)
   (aj (dn (qS UA PySem.F.slot_list_extend PySem.F.type_list_extend yY (pv 1) (aa (ba rfl (N' := ["side", "group"]) (cap := [none, some 2]) ⟨rfl, by with_unfolding_all rfl⟩ (fv (iG (v := .ref Z.px) (by rfl) T.xt rfl)) (fun _ => (gn 0 (show (["side", "group"] : List Str).Nodup by decide +kernel))) (fun _ => bR) (fun _ => (bW (aa (pv 1) (aa (pv 0) af))))) af)))))
   (aj (az (yd hu (by rfl) T.jm (by rfl) mz.g (aa (ba rfl (N' := ["standing", "night"]) (cap := [none, some 0]) ⟨rfl, by with_unfolding_all rfl⟩ (bL (pv 1)) (fun _ => (gn 0 (show (["standing", "night"] : List Str).Nodup by decide +kernel))) (fun _ => (ck (cF (cl gX gV hr aD (aa (pv 1) (aa (pv 0) af)))))) (fun _ => (pv 0))) af)))))), ?_⟩
  refine ⟨aK (by show 0 <= _; decide), fun l0 vk => ?_⟩
  have s1 : am H (L2.upd H l0 (.lst [])) := ag vk
  have e1 : (L2.upd H l0 (.lst [])) l0 = some (.lst []) := ae
  generalize L2.upd H l0 (.lst []) = H1 at s1 e1 ⊢
  refine ⟨_, rfl, p, dx, _, rfl, s1 _ _ hp, rfl, p, ts, r, qs, rfl, N.mono s1, h6, fun lb H2 s2 hb => ?_⟩
  obtain ⟨_, e, BU⟩ := dY (st := (bn ts.length, 0)) hb
  cases e
  obtain ⟨g0, BU, xF⟩ := BU
  refine ⟨lb, _, _, _, rfl, rfl, aX.of BU, kE, g0, bn ts.length, rfl, xF, by rw [aO]; exact h6, fun lg H3 s3 hG => ?_⟩
  obtain ⟨vg, uL, dg⟩ := hG
  have EC := aG dg
  have Lz : (ip (bn ts.length)).length <= 64 := by
   rw [io, aO]
   exact S8 (UO (by decide) h6) (by decide)
  have vj := s2.trans s3
  have e3 : H3 l0 = some (.lst []) := vj _ _ e1
  have Hy : lg ≠ l0 := fun z => by
   rw [z, e3] at uL
   cases uL
   have := List.length_pos_of_mem (xz (bn ts.length))
   simp at EC; omega
  have OK := s1.trans vj
  refine ⟨lg, rfl, ⟨_, a6.of uL⟩, dN (K := K) (a := lg) (xs := vg) (fun i σ H' => am H H' /\ mh H3 l0 H' /\ (∃ v2, σ = [some (.ref p), some (.ref l0), v2]) /\ ∃ xs, H' l0 = some (.lst xs) /\ bF H' ((((ip (bn ts.length)).take i).flatMap fun g => [((g, 0) : bc), (g, 1)]).map jz) xs)
   ⟨OK, mh.of (am.refl _), ⟨_, rfl⟩, [], e3, .nil⟩ (fun i σ H' _ ⟨_, bt, _⟩ => a6.of (bt _ _ Hy uL)) ?_ ?_⟩
  ·rintro i x σ H4 hi ⟨s4, bt, ⟨v2, rfl⟩, xs, hx, dx⟩
   obtain ⟨g, hg, QE⟩ := bE dg hi
   obtain ⟨c, rfl, hc⟩ := fZ QE
   have Rl := bt.eL e3 _ _ hc
   have et : ((ip (bn ts.length)).take (i + 1)).flatMap (fun g => [((g, 0) : bc), (g, 1)]) = ((ip (bn ts.length)).take i).flatMap (fun g => [((g, 0) : bc), (g, 1)]) ++ [(g, 0), (g, 1)] := by
    rw [To, hg, List.flatMap_append]; rfl
   have lx : xs.length <= 128 := by
    rw [aG dx, zu, Tl]
    omega
   refine ⟨_, rfl, .inl ⟨rfl, _, a6.of hx⟩, Z.px, rfl, ⟨_, T.rJ _⟩, fun D hD => ?_⟩
   refine dh (K := K) (a := Z.px) (ys := [.int 0, .int 1]) (fun j zs H' => am H4 H' /\ H' D = some (.lst zs) /\ zs.length = j /\ bF H' (([((g, 0) : bc), (g, 1)].take j).map jz) zs)
    ⟨ag hD, ae, rfl, .nil⟩ (fun j zs H' _ ⟨_, h, _⟩ => ⟨h, T.rJ _⟩) ?_ ?_
   ·rintro j y zs H5 hj ⟨s5, gS, lz, dz⟩
    obtain ⟨sd, rfl, Pf⟩ : ∃ sd : Int, y = .int sd /\ [((g, 0) : bc), (g, 1)][j]? = some (g, sd) := by
     match j, hj with
     | 0, hj => exact ⟨0, by simpa using hj.symm, rfl⟩
     | 1, hj => exact ⟨1, by simpa using hj.symm, rfl⟩
     | j + 2, hj => simp at hj
    have Iv : j < 2 := (Tk.mp hj).1
    refine ⟨bP.set rfl, ?_⟩
    refine ⟨_, rfl, _, rfl, aK (by show 2 <= _; decide), fun o ho => ?_⟩
    have s6 : am H5 (L2.upd H5 o (.tup [.ref c, .int sd])) := ag ho
    have qo := s6 _ _ gS
    have Oz : cI (L2.upd H5 o (.tup [.ref c, .int sd])) o (g, sd) := ⟨c, ae, s6 _ _ (s5 _ _ Rl)⟩
    refine ⟨qo, aJ (by omega), ao (s5.trans s6) hD, ae, by simp [lz], ?_⟩
    rw [To, Pf, S4]
    exact (bi qo (dz.mono s6) (aH gD _)).snoc (c7 qo Oz.dv (gD _))
   ·rintro zs H5 ⟨s5, gS, lz, dz⟩
    have Sl : zs.length = 2 := lz
    refine ⟨l0, D, xs, zs, rfl, rfl, s5 _ _ hx, gS, aK (by omega), ?_⟩
    refine ⟨ao (s4.trans s5) vk, (bt.next s5).upd, ⟨_, rfl⟩, _, ae, ?_⟩
    rw [et, S4]
    exact (bi (s5 _ _ hx) (dx.mono s5) (aH gD _)).append (bi (s5 _ _ hx) dz (aH gD _))
  ·rintro σ H4 ⟨s4, bt, ⟨v2, rfl⟩, xs, hx, dx⟩
   rw [Ta (by omega)] at dx
   have lx := aG dx
   have AD := yy qs h6
   generalize hM : (ip (bn ts.length)).flatMap (fun g => [((g, 0) : bc), (g, 1)]) = M at dx lx AD
   refine ⟨_, rfl, l0, rfl, ⟨_, a6.of hx⟩, fun D hD => ?_⟩
   refine cB (K := K) (a := l0) (ys := xs) (fun j zs H' => am H4 H' /\ H' D = some (.lst zs) /\ bF H' (((M.take j).filter fun st => be qs ts.length st.1).map jz) zs)
    ⟨ag hD, ae, .nil⟩ (fun j zs H' _ ⟨sm, h, _⟩ => ⟨h, a6.of (sm _ _ hx)⟩) ?_ ?_
   ·rintro j y zs H5 hj ⟨s5, gS, dz⟩
    obtain ⟨st, oq, dst⟩ := bE dx hj
    obtain ⟨a, rfl, Em⟩ := dY dst
    refine ⟨bP.set rfl, ?_⟩
    refine ⟨_, rfl, _, rfl, p, a, ts, r, qs, st, rfl, N.mono (s4.trans s5), h6, Em.mono s5, fun H6 s6 => ⟨_, rfl, ?_⟩⟩
    have qo := s6 _ _ gS
    have NK := dz.mono s6
    have lz : zs.length <= 128 := by
     rw [aG dz]
     exact S8 (Tr _ _) (by rw [Tl]; omega)
    have et : M.take (j + 1) = M.take j ++ [st] := by rw [To, oq]; rfl
    refine bC (fun h1 => ?_) (fun h1 => ?_)
    ·refine ⟨_, rfl, qo, aJ (by omega), ao (s5.trans s6) hD, ae, ?_⟩
     have ef : [st].filter (fun st => be qs ts.length st.1) = [st] := by rw [TF, if_pos h1]; rfl
     rw [et, Tv, ef, S4]
     exact (bi qo NK (aH gD _)).snoc (c7 qo (Em.mono (s5.trans s6)).dv (gD _))
    ·refine ⟨s5.trans s6, qo, ?_⟩
     have cX : be qs ts.length st.1 = false := h1
     have ef : [st].filter (fun st => be qs ts.length st.1) = [] := by rw [TF, if_neg (by rw [cX]; simp)]; rfl
     rw [et, Tv, ef, VG]
     exact NK
   ·rintro zs H5 ⟨s5, gS, dz⟩
    rw [lx, Uw] at dz
    have eM : M.filter (fun st => be qs ts.length st.1) = oK qs ts.length := by rw [<- hM]; rfl
    rw [eM] at dz
    have yC : av P w K mg base bp 1 f1 fz ["standing"] oM := vD mz
    refine ⟨D, zs, wD H5, rfl, a6.of gS, rl.of yC (hr.mono (by decide)) mz.b (fun _ _ _ _ _ z => z) (fun y hy => ?_), by rw [vG dz]; exact uc _ _, fun H6 l R7 s6 hl hp hs => ?_⟩
    ·obtain ⟨i, hi⟩ := Vk.mp hy
     obtain ⟨st, _, dst⟩ := bE dz hi
     have ek := xu dst
     obtain ⟨a, rfl, b, ha, hb⟩ := dY dst
     refine ⟨b, by rw [ek]; exact hb, fun H' sm Q hq => ⟨a, b, st.2, rfl, sm _ _ ha, fun q hn => ?_⟩⟩
     have := hq q hn
     rw [ek] at this
     exact this
    ·obtain ⟨l', h1, h2⟩ := zM hp dz
     have e := tJ h1 (Jg h2 hs)
     rw [e] at h2
     have s7 := s4.trans (s5.trans s6)
     exact k l _ (ao s7 (s7.free hl)) ⟨R7, ae, (h2.mono s6).mono (ag hl)⟩
end
def Ef (x : Wy) : PyData := .tuple [i6 x.1, .int x.2.1, jz x.2.2]
theorem tR (x : Wy) : eD (Ef x) = true := by
 show cu [i6 x.1, .int x.2.1, jz x.2.2] = true
 simp only [cu, Bool.and_true, fi, gD]
 rfl
theorem FF {H : Hp} {x : Wy} {v : V} (h : DV H (Ef x) v) : ∃ a b c, v = .ref a /\ H a = some (.tup [.ref b, .int x.2.1, .ref c]) /\ H b = some (.tup (x.1.map V.int)) /\ cI H c x.2.2 := by
 obtain ⟨a, vs, rfl, e, q⟩ := h.eT
 obtain ⟨v, w, u, rfl, h1, h2, h3⟩ := q.jy
 obtain ⟨b, rfl, hb⟩ := fZ h1
 cases h2.int_inv
 obtain ⟨c, rfl, hc⟩ := dY h3
 exact ⟨a, b, c, rfl, e, hb, hc⟩
theorem Hh {H : Hp} {x : Wy} {a b c : Addr} (h : H a = some (.tup [.ref b, .int x.2.1, .ref c])) (hb : H b = some (.tup (x.1.map V.int))) (hc : cI H c x.2.2) : DV H (Ef x) (.ref a) := .tup h (.cons (hW hb) (.cons (.int _) (.cons hc.dv .nil)))
theorem LstAt.keep {α : Type} {f : α -> PyData} {H H' : Hp} {a : Addr} {l : List α} (h : LstAt f H a l) (kl : ∀ b vs, H b = some (.lst vs) -> H' b = some (.lst vs)) (kt : ∀ b vs, H b = some (.tup vs) -> H' b = some (.tup vs)) (no : ∀ x, eD (f x) = true) : LstAt f H' a l :=
 let ⟨vs, h1, h2⟩ := h
 ⟨vs, kl _ _ h1, nR kt h2 (aH no l)⟩
abbrev ui (H : Hp) : bI × V -> bc × List Wy -> Prop := fun kv c => kv.1 = c.1 /\ ∃ a, kv.2 = .ref a /\ LstAt Ef H a c.2
def zh (P : Program) (w : World) (H : Hp) (p : Addr) (cs : List (bc × List Wy)) : Prop := ∃ kvs, DF P w H p kvs /\ Paired (ui H) kvs cs
theorem ui.mono {H H' : Hp} {kvs : List (bI × V)} {cs : List (bc × List Wy)} (h : Paired (ui H) kvs cs) (e : am H H') : Paired (ui H') kvs cs := Paired.vQ h fun _ _ ⟨h1, a, h2, h3⟩ => ⟨h1, a, h2, h3.mono e⟩
theorem zh.mono {P : Program} {w : World} {H H' : Hp} {p : Addr} {cs : List (bc × List Wy)} (h : zh P w H p cs) (e : am H H') : zh P w H' p cs := let ⟨kvs, h1, h2⟩ := h; ⟨kvs, h1.mono e, ui.mono h2 e⟩
theorem ui.keys {H : Hp} : ∀ {kvs : List (bI × V)} {cs : List (bc × List Wy)}, Paired (ui H) kvs cs -> kvs.map (·.1) = cs.map (·.1)
 | [], _, .nil => rfl
 | _ :: _, _ :: _, .cons h r => by rw [Ti, Ti, h.1, ui.keys r]
theorem ui.at {H : Hp} : ∀ {kvs : List (bI × V)} {cs : List (bc × List Wy)} {i : Nat} {k : bI} {y : V}, Paired (ui H) kvs cs -> kvs[i]? = some (k, y) -> ∃ wy a, cs[i]? = some (k, wy) /\ y = .ref a /\ LstAt Ef H a wy
 | [], _, _, _, _, .nil, e => by simp at e
 | p :: _, c :: _, 0, k, y, .cons h _, e => by
  simp at e; subst e
  obtain ⟨h1, a, h2, h3⟩ := h
  obtain ⟨c1, c2⟩ := c
  have h1 : k = c1 := h1
  subst h1
  exact ⟨c2, a, rfl, h2, h3⟩
 | _ :: _, _ :: _, i + 1, k, y, .cons _ r, e => by
  obtain ⟨wy, a, h1, h2⟩ := ui.at (i := i) (k := k) (y := y) r (by simpa using e)
  exact ⟨wy, a, by simpa using h1, h2⟩
theorem qE {kvs : List (bI × V)} {k : bI} (h : k ∉ kvs.map (·.1)) : c6 kvs k = none := by
 unfold c6
 rw [List.find?_eq_none.mpr]
 ·rfl
 ·intro x hx z
  exact h (by rw [<- Tt z]; exact T4 (f := fun x : bI × V => x.1) hx)
theorem yz {kvs : List (bI × V)} {k : bI} (h : k ∈ kvs.map (·.1)) : (c6 kvs k).isSome = true := by
 unfold c6
 rw [Ut, List.find?_isSome]
 obtain ⟨p, hp, rfl⟩ := TD.mp h
 exact ⟨p, hp, S9 rfl⟩
theorem BO {kvs : List (bI × V)} {k : bI} {v : V} (h : k ∉ kvs.map (·.1)) : pZ kvs k v = kvs ++ [(k, v)] := by
 unfold pZ
 rw [qE h, if_neg (by simp)]
theorem vz {α : Type} {l : List α} {i : Nat} {x : α} (nd : l.Nodup) (h : l[i]? = some x) : x ∉ l.take i := by
 intro hm
 obtain ⟨j, hj, e⟩ := List.mem_take_iff_getElem.mp hm
 obtain ⟨hi, e2⟩ := Tk.mp h
 rw [<- e2] at e
 have := oF nd _ _ e
 omega
abbrev Bg := Int × List Int × bc
def GV (x : Bg) : PyData := .tuple [.int x.1, i6 x.2.1, jz x.2.2]
theorem Ek (x : Bg) : eD (GV x) = true := by
 show cu [.int x.1, i6 x.2.1, jz x.2.2] = true
 simp only [cu, Bool.and_true, fi, gD]
 rfl
theorem FR {H : Hp} {x : Bg} {v : V} (h : DV H (GV x) v) : ∃ a b c, v = .ref a /\ H a = some (.tup [.int x.1, .ref b, .ref c]) /\ H b = some (.tup (x.2.1.map V.int)) /\ cI H c x.2.2 := by
 obtain ⟨a, vs, rfl, e, q⟩ := h.eT
 obtain ⟨v, w, u, rfl, h1, h2, h3⟩ := q.jy
 cases h1.int_inv
 obtain ⟨b, rfl, hb⟩ := fZ h2
 obtain ⟨c, rfl, hc⟩ := dY h3
 exact ⟨a, b, c, rfl, e, hb, hc⟩
theorem Iz {H : Hp} {x : Bg} {a b c : Addr} (h : H a = some (.tup [.int x.1, .ref b, .ref c])) (hb : H b = some (.tup (x.2.1.map V.int))) (hc : cI H c x.2.2) : DV H (GV x) (.ref a) := .tup h (.cons (.int _) (.cons (hW hb) (.cons hc.dv .nil)))
def cV (f : Sh.Mp bc) (ft : List Wy) : List Bg := (ft.filter fun x => (Sh.lk f x.2.2).isSome).map fun x => (x.2.1 + (Sh.lk f x.2.2).getD 0, x.1, x.2.2)
theorem oW (f : Sh.Mp bc) (ft : List Wy) : (cV f ft).map (·.1) = Sh.yA f ft := by
 unfold cV Sh.yA
 rw [TN]
 rfl
theorem du (f : Sh.Mp bc) (k : bI) : c6 (iv f) k = (Sh.lk f k).map V.int := rK f k
theorem sW (f : Sh.Mp bc) (k : bI) (v : Int) : pZ (iv f) k (.int v) = iv (Sh.put f k v) := by
 unfold pZ Sh.put
 rw [du, Ut]
 by_cases h : (Sh.lk f k).isSome = true
 ·rw [if_pos h, if_pos h]
  unfold iv
  rw [TN, TN]
  refine Vx fun x _ => ?_
  show (if x.1 = k then (x.1, V.int v) else (x.1, V.int x.2)) = ((if x.1 = k then (x.1, v) else x).1, V.int (if x.1 = k then (x.1, v) else x).2)
  by_cases e : x.1 = k
  ·rw [if_pos e, if_pos e]
  ·rw [if_neg e, if_neg e]
 ·rw [if_neg h, if_neg h]
  unfold iv
  rw [S4]
  rfl
section
variable {P : Program} {w : World} {K : VN} {mg : Str -> Option Value} {base : Heap} {C : Addr} {Z : Ad} {fs : Nat -> Addr} {ds : Nat -> FuncData}
def xq (P : Program) (w : World) (C : Addr) : Sp := fun vs H Q _ => ∃ (p : Addr) (ts : List Th) (r : Int) (qs : List Qu), vs = [.ref p] /\ bb C H p ts r qs /\ ts.length <= 6 /\ ∀ l H', am H H' -> zh P w H' l (cc ts r qs) -> Q (.ref l) H'
structure Lp (K : VN) (mg : Str -> Option Value) (C : Addr) (fs : Nat -> Addr) (ds : Nat -> FuncData) : Prop where
 AN : Meth K C "begins" (fs 60)
 FS : Mt K "begins" "Night.begins" cG (fs 60) (ds 60) ["self"]
 FA : Meth K C "ends" (fs 61)
 ends : Mt K "ends" "Night.ends" fG (fs 61) (ds 61) ["self"]
 xo : Fn K mg "minutes" jI (fs 62) (ds 62) ["night", "crew"]
 BX : Fn K mg "by_side" gZ (fs 63) (ds 63) ["standing"]
 iU : Fn K mg "good_standings" cL (fs 64) (ds 64) ["night"]
 jZ : Fn K mg "all_crossings" fu (fs 65) (ds 65) ["night"]
 Av : Fn K mg "begun_by" fO (fs 66) (ds 66) ["ways", "fewest"]
 jW : Fn K mg "with_one_more" dk (fs 67) (ds 67) ["crossings", "fewest"]
 i8 : Fn K mg "fewest_minutes" cj (fs 68) (ds 68) ["crossings", "end"]
theorem cT : au ["night", "crossings", "standing", "let"] ["night"] (ak fu) := fA
theorem Dd (L : Lk K mg C fs ds) (B : Lp K mg C fs ds) (T : Txt K mg C Z) : av P w K mg base bp 6 (fs 65) (ds 65) ["night"] (xq P w C) := by
 have mr := B.iU
 have Dt := L.uH
 have ma := L.nI
 have zj := B.xo
 have mK : av P w K mg base bp 4 (fs 64) (ds 64) ["night"] (Au C) := FH B.iU L T B.BX B.AN B.FS
 have B9 : av P w K mg base (Ay P w) 5 (fs 15) (ds 15) ["night", "standing"] (tE C Z) := AH L T
 have l4 : av P w K mg base bp 1 (fs 14) (ds 14) ["standing", "crew"] kh := pO L.nI T
 have za : av P w K mg base bp 2 (fs 62) (ds 62) ["night", "crew"] (oz C) := vP B.xo T L.cx L.things
 refine B.jZ.fn.ok cT (fun vs H Q E h => ?_) (fun b8 A outer s H vs Q E hr h => ?_)
 ·obtain ⟨p, ts, r, qs, rfl, _⟩ := h
  rfl
 ·obtain ⟨p, ts, r, qs, rfl, N, h6, k⟩ := h
  have hu := hr.units
  refine ⟨_, (ah (sn 1 cT.nd (n4 (P := P) (w := w) rfl rfl))
   (ah (cY TR rfl (bL (cl mK mr hr aD (aa (pv 0) af))) (gn 2 cT.nd)
   (ah (sn 3 cT.nd (cl B9 Dt hr IQ (aa (pv 0) (aa (pv 2) af))))
   (aj (vv (ba rfl (N' := ["crew", "night", "standing"]) (cap := [none, some 0, some 2]) ⟨rfl, by with_unfolding_all rfl⟩ (bL (pv 3)) (fun _ => (gn 0 (show (["crew", "night", "standing"] : List Str).Nodup by decide +kernel))) (fun _ => bR) (fun _ => (bW (aa (pv 0) (aa (cl za zj hr aD (aa (pv 1) (aa (pv 0) af))) (aa (cl l4 ma hr aD (aa (pv 2) (aa (pv 0) af))) af)))))) (wt (pv 1) (pv 2) (FC (P := P) (w := w) rfl rfl hu))))))
   (aj (az (B5 (P := P) (w := w) rfl rfl (pv 1)))))), ?_⟩
  refine fun D0 o0 IV DJ => ?_
  have s1 : am H (L2.upd H D0 o0) := ag IV
  generalize L2.upd H D0 o0 = H1 at s1 DJ ⊢
  refine ⟨_, rfl, p, ts, r, qs, rfl, N.mono s1, h6, fun lg H2 s2 hG => ?_⟩
  obtain ⟨vg, uL, dg⟩ := hG
  have EC := aG dg
  have AD := jd qs h6
  obtain ⟨x0, e0⟩ := (DJ.mono s2).at
  have Hy : lg ≠ D0 := eu uL e0 (by intro z; cases z)
  have IC := s1.trans s2
  have eL : ∀ {H' : Hp}, mh H2 D0 H' -> ∀ b vs, H2 b = some (.tup vs) -> H' b = some (.tup vs) := fun bt b vs e => bt b _ (eu e e0 (by intro z; cases z)) e
  refine ⟨lg, rfl, ⟨_, a6.of uL⟩, dN (K := K) (a := lg) (xs := vg) (fun i σ H' => am H H' /\ mh H2 D0 H' /\ (∃ v2 v3, σ = [some (.ref p), some (.ref D0), v2, v3]) /\ ∃ kvs, DW P w H' D0 kvs /\ Paired (ui H') kvs ((cc ts r qs).take i))
   ⟨IC, mh.of (am.refl _), ⟨_, _, rfl⟩, [], DJ.mono s2, .nil⟩ (fun i σ H' _ ⟨_, bt, _⟩ => a6.of (bt _ _ Hy uL)) ?_ ?_⟩
  ·rintro i x σ H4 hi ⟨s4, bt, ⟨v2, v3, rfl⟩, kvs, dw, pr⟩
   obtain ⟨st, oq, dst⟩ := bE dg hi
   obtain ⟨a, rfl, Em⟩ := dY (pG (eL bt) dst (gD _))
   obtain ⟨hS, hG⟩ := fF (Tx oq)
   have lst := sP hS h6
   refine ⟨_, rfl, _, rfl, p, a, ts, r, qs, st, rfl, N.mono s4, h6, Em, by omega, fun _ _ l H5 hl s5 hL => ?_, (fun hn => by rw [hS] at hn; cases hn), (fun _ hn => by rw [hG] at hn; cases hn)⟩
   have wG := s4.trans s5
   have BA := Em.mono s5
   obtain ⟨vl, Jh, dl⟩ := hL
   have lvl := aG dl
   have cl := (jG (r := r) (qs := qs) hS h6).1
   refine ⟨_, rfl, l, rfl, ⟨_, a6.of Jh⟩, fun D hD => ?_⟩
   refine cB (K := K) (a := l) (ys := vl) (fun j zs H' => am H5 H' /\ H' D = some (.lst zs) /\ zs.length = j /\ bF H' (((gR ts r qs st).take j).map Ef) zs)
    ⟨ag hD, ae, rfl, .nil⟩ (fun j zs H' _ ⟨sm, h, _⟩ => ⟨h, a6.of (sm _ _ Jh)⟩) ?_ ?_
   ·rintro j y zs H6 hj ⟨s6, qo, lz, dz⟩
    obtain ⟨c, hc, dc⟩ := bE dl hj
    obtain ⟨o, rfl, ho⟩ := fZ dc
    have Iv := (Tk.mp hj).1
    obtain ⟨sA, Bs, cg⟩ := jB (Tx hc)
    have Mc : c.length <= 6 := S8 sA.length_le (S8 (fg hS) h6)
    refine ⟨bP.set rfl, ?_⟩
    refine ⟨_, rfl, _, rfl, _, rfl, p, o, ts, r, qs, c, rfl, N.mono (wG.trans s6), h6, s6 _ _ ho, by omega, Bs, (fun t ht => lI hS (sA.subset ht)), fun H7 s7 => ?_⟩
    have Ck := s6.trans s7
    refine ⟨_, rfl, _, rfl, a, o, st, c, ts.length, rfl, BA.mono Ck, Ck _ _ ho, hS, h6, sA, fun l2 H8 s8 h8 => ?_⟩
    have Ox := Ck.trans s8
    refine ⟨aK (by show 3 <= _; decide), fun o3 Ie => ?_⟩
    have s9 : am H8 (L2.upd H8 o3 (.tup [.ref o, .int (a9 ts c), .ref l2])) := ag Ie
    have JV := (s7.trans s8).trans s9
    have dy : DV (L2.upd H8 o3 (.tup [.ref o, .int (a9 ts c), .ref l2])) (Ef (c, a9 ts c, behind ts.length st c)) (.ref o3) := Hh ae (s9 _ _ (Ox _ _ ho)) (h8.mono s9)
    generalize L2.upd H8 o3 (.tup [.ref o, .int (a9 ts c), .ref l2]) = H9 at JV dy ⊢
    have LB := JV _ _ qo
    refine ⟨LB, aJ (by omega), ao (s6.trans JV) hD, ae, by simp [lz], ?_⟩
    have ew : (gR ts r qs st)[j]? = some (c, a9 ts c, behind ts.length st c) := by unfold gR; rw [Tc, hc]; rfl
    rw [To, ew, S4]
    exact (bi LB (dz.mono JV) (aH tR _)).snoc (c7 LB dy (tR _))
   ·rintro zs H6 ⟨s6, qo, lz, dz⟩
    have lw : (gR ts r qs st).length = vl.length := by unfold gR; rw [SW, lvl]
    rw [Ta (by omega)] at dz
    have JC := s5.trans s6
    have IZ := dw.mono JC
    have hk : kvs.length <= 128 := by
     rw [Uq pr, Tl]
     unfold cc
     rw [SW]; omega
    have nk : st ∉ kvs.map (·.1) := by
     rw [ui.keys pr, List.map_take, fc]
     exact vz (o9 _ _) oq
    refine ⟨_, rfl, _, rfl, D0, a, st, kvs, rfl, rfl, BA.mono s6, IZ, aJ (by omega), fun o' tq => ?_⟩
    rw [BO nk] at tq
    obtain ⟨kl, kt⟩ := IZ.nl (o := o')
    refine ⟨ao (s4.trans JC) IV, (bt.next JC).upd, ⟨_, _, rfl⟩, _, tq, ?_⟩
    have ec : (cc ts r qs)[i]? = some (st, gR ts r qs st) := by unfold cc; rw [Tc, oq]; rfl
    rw [To, ec]
    refine Paired.snoc (Paired.vQ (ui.mono pr JC) fun _ _ ⟨h1, a', h2, h3⟩ => ⟨h1, a', h2, h3.keep kl kt tR⟩) ⟨rfl, D, rfl, LstAt.keep ⟨zs, qo, dz⟩ kl kt tR⟩
  ·rintro σ H4 ⟨s4, bt, ⟨v2, v3, rfl⟩, kvs, dw, pr⟩
   have lc : (cc ts r qs).length = vg.length := by unfold cc; rw [SW, EC]
   rw [Ta (by omega)] at pr
   refine ⟨_, rfl, D0, kvs, rfl, dw, fun o df => k D0 _ (ao s4 IV) ⟨kvs, df, ?_⟩⟩
   obtain ⟨kl, kt⟩ := dw.nl (o := o)
   exact Paired.vQ pr fun _ _ ⟨h1, a', h2, h3⟩ => ⟨h1, a', h2, h3.keep kl kt tR⟩
def um (P : Program) (w : World) : Sp := fun vs H Q _ => ∃ (a d : Addr) (ft : List Wy) (f : Sh.Mp bc), vs = [.ref a, .ref d] /\ LstAt Ef H a ft /\ ft.length <= 1000 /\ DS P w H d (iv f) /\ ∀ l H', H l = none -> am H H' -> LstAt GV H' l (cV f ft) -> Q (.ref l) H'
theorem uG : au ["ways", "fewest"] ["ways", "fewest"] (ak fO) := fA
theorem A0 {f : Addr} {fd : FuncData} (F : Fn K mg "begun_by" fO f fd ["ways", "fewest"]) : av P w K mg base bp 1 f fd ["ways", "fewest"] (um P w) := by
 refine F.fn.ok uG (fun vs H Q E h => ?_) (fun b8 A outer s H vs Q E hr h => ?_)
 ·obtain ⟨a, d, ft, f, rfl, _⟩ := h
  rfl
 ·obtain ⟨a, d, ft, f, rfl, ⟨vw, ha, dv⟩, hl, hd, k⟩ := h
  have hu := hr.units
  have lw := aG dv
  refine ⟨_, (aj (az (ba rfl (N' := ["crew", "lasts", "behind", "fewest"]) (cap := [none, none, none, some 1]) ⟨rfl, by with_unfolding_all rfl⟩ (bL (pv 0)) (fun _ => (tupK (K := K) (n := 3) rfl rfl (aY (gn 0 (show (["crew", "lasts", "behind", "fewest"] : List Str).Nodup by decide +kernel)) (aY (gn 1 (show (["crew", "lasts", "behind", "fewest"] : List Str).Nodup by decide +kernel)) (aY (gn 2 (show (["crew", "lasts", "behind", "fewest"] : List Str).Nodup by decide +kernel)) gg))))) (fun _ => (ck (aE (IY (P := P) (w := w) rfl rfl hu) (pv 2) (pv 3) (by with_unfolding_all rfl)))) (fun _ => (bW (aa (bo gK (pv 1) (aF (HK (P := P) (w := w) rfl rfl hu) (pv 3) (pv 2) (fun _ _ => rfl))) (aa (pv 0) (aa (pv 2) af)))))))), ?_⟩
  refine ⟨_, rfl, a, rfl, ⟨_, a6.of ha⟩, fun D hD => ?_⟩
  refine cB (K := K) (a := a) (ys := vw) (fun j zs H' => am H H' /\ H' D = some (.lst zs) /\ zs.length <= j /\ bF H' ((cV f (ft.take j)).map GV) zs)
   ⟨ag hD, ae, Tw _, .nil⟩ (fun j zs H' _ ⟨sm, h, _⟩ => ⟨h, a6.of (sm _ _ ha)⟩) ?_ ?_
  ·rintro j y zs H1 hj ⟨s1, pV, lz, dz⟩
   obtain ⟨x, hx, dx⟩ := bE (dv.mono s1) hj
   have Iv := (Tk.mp hj).1
   obtain ⟨o, b, c, rfl, ho, hb, hc⟩ := FF dx
   refine ⟨o, _, rfl, aX.of ho, rfl, _, _, rfl, _, _, rfl, _, _, rfl, rfl, (bP.set rfl).trans ((bP.set rfl).trans (bP.set rfl)), ?_⟩
   refine ⟨_, rfl, _, rfl, d, c, x.2.2, iv f, rfl, rfl, hc, hd.mono s1, _, rfl, ?_⟩
   rw [du, Ut]
   have et : ft.take (j + 1) = ft.take j ++ [x] := by rw [To, hx]; rfl
   refine bC (fun h1 => ?_) (fun h1 => ?_)
   ·have cX : (Sh.lk f x.2.2).isSome = true := h1
    obtain ⟨v, hv⟩ := UL.mp cX
    refine ⟨_, rfl, _, rfl, _, rfl, d, c, x.2.2, iv f, .int v, rfl, rfl, hc, hd.mono s1, by rw [du, hv]; rfl, _, _, rfl, rfl, _, rfl, _, rfl, aK (by show 3 <= _; decide), fun o3 Ie => ?_⟩
    have s2 : am H1 (L2.upd H1 o3 (.tup [.int (x.2.1 + v), .ref b, .ref c])) := ag Ie
    have jq := s2 _ _ pV
    have dy : DV (L2.upd H1 o3 (.tup [.int (x.2.1 + v), .ref b, .ref c])) (GV (x.2.1 + v, x.1, x.2.2)) (.ref o3) := Iz ae (s2 _ _ hb) (hc.mono s2)
    refine ⟨jq, aJ (by omega), ao (s1.trans s2) hD, ae, by simp; omega, ?_⟩
    have eb : cV f (ft.take (j + 1)) = cV f (ft.take j) ++ [(x.2.1 + v, x.1, x.2.2)] := by
     unfold cV
     rw [et, Tv, TF, if_pos cX, S4]
     simp [hv]
    rw [eb, S4]
    exact (bi jq (dz.mono s2) (aH Ek _)).snoc (c7 jq dy (Ek _))
   ·have cX : (Sh.lk f x.2.2).isSome = false := h1
    refine ⟨s1, pV, by omega, ?_⟩
    have eb : cV f (ft.take (j + 1)) = cV f (ft.take j) := by
     unfold cV
     rw [et, Tv, TF, if_neg (by rw [cX]; simp)]
     simp
    rw [eb]
    exact dz
  ·rintro zs H1 ⟨s1, pV, lz, dz⟩
   rw [Ta (by omega)] at dz
   exact k D H1 hD s1 ⟨zs, pV, dz⟩
end
theorem qB {b : Bool} {D : Ends} {t1 t2 : TS} {σ : L2.St} {H : Hp} (M : L2.St -> Hp -> Prop) (hM : ∀ σ H, M σ H -> D.nx σ H) (h : (∀ σ H, M σ H -> D.nx σ H) -> if b = true then t1 D σ H else t2 D σ H) : if b = true then t1 D σ H else t2 D σ H := h hM
structure El (f : Sh.Mp bc) : Prop where
 nd : (f.map (·.1)).Nodup
 all : ∀ k ∈ f.map (·.1), k ∈ fm
 len : f.length <= 1000
theorem El.hash {P : Program} {w : World} {f : Sh.Mp bc} (h : El f) : nT P w (iv f) := by
 have e : (iv f).map (·.1) = f.map (·.1) := by unfold iv; rw [TN]; rfl
 refine zk (by rw [e]; exact h.nd) fun p hp => h.all _ ?_
 rw [<- e]; exact T4 (f := fun x : bI × V => x.1) hp
structure K1 (cs : List (bc × List Wy)) : Prop where
 all : ∀ k ∈ cs.map (·.1), k ∈ fm
 len : cs.length <= 200
 ft : ∀ c ∈ cs, c.2.length <= 1000
theorem B7 {cs us : List (bc × List Wy)} {f : Sh.Mp bc} (hs : ∀ c ∈ us, c ∈ cs) (hc : K1 cs) (hf : (f.map (·.1)).Nodup) (ha : ∀ k ∈ f.map (·.1), k ∈ fm) : El (us.foldl (Sh.cW f) f) := by
 obtain ⟨h1, h2⟩ := Sh.fW us f hf
 have all : ∀ k ∈ (us.foldl (Sh.cW f) f).map (·.1), k ∈ fm := fun k hk => by
  rcases h2 k hk with z | z
  ·exact ha k z
  ·obtain ⟨c, w5, rfl⟩ := TD.mp z
   exact hc.all _ (T4 (f := fun x : bc × List Wy => x.1) (hs c w5))
 refine ⟨h1, all, ?_⟩
 have := Sh.sub_len h1 all
 rw [SW] at this
 have e : fm.length = 128 := by decide +kernel
 omega
theorem Jj {ts : List Th} {r : Int} {qs : List Qu} (h6 : ts.length <= 6) : K1 (cc ts r qs) where
 all := by rw [fc]; exact fun k hk => A8 (fF hk).1 h6
 len := by unfold cc; rw [SW]; have := jd qs h6; omega
 ft := fun c hc => by
  unfold cc at hc
  obtain ⟨st, h1, rfl⟩ := TD.mp hc
  show (gR ts r qs st).length <= 1000
  unfold gR
  rw [SW]
  exact (jG (fF h1).1 h6).1
theorem oH {ts : List Th} {r : Int} {qs : List Qu} {f : Sh.Mp bc} (h6 : ts.length <= 6) (h : Sh.iP (jS ts r qs) bH (bB qs ts.length) f) : El f := by
 have all : ∀ k ∈ f.map (·.1), k ∈ fm := fun k hk => by
  rcases h.keys k hk with z | z
  ·rw [z]; decide +kernel
  ·exact A8 (fF z).1 h6
 refine ⟨h.nd, all, ?_⟩
 have := Sh.sub_len h.nd all
 rw [SW] at this
 have e : fm.length = 128 := by decide +kernel
 omega
section
variable {P : Program} {w : World} {K : VN} {mg : Str -> Option Value} {base : Heap} {C : Addr} {Z : Ad} {fs : Nat -> Addr} {ds : Nat -> FuncData}
def x6 (P : Program) (w : World) : Sp := fun vs H Q _ => ∃ (a d : Addr) (cs : List (bc × List Wy)) (f : Sh.Mp bc), vs = [.ref a, .ref d] /\ zh P w H a cs /\ DS P w H d (iv f) /\ El f /\ K1 cs /\ ∀ l H', H l = none -> am H H' -> DW P w H' l (iv (Sh.oneMore cs f)) -> Q (.ref l) H'
theorem cn : au ["crossings", "fewest", "longer", "standing", "ways", "totals"] ["crossings", "fewest"] (ak dk) := fA
theorem Cv {f f1 : Addr} {fd fz : FuncData} (F : Fn K mg "with_one_more" dk f fd ["crossings", "fewest"]) (oX : Fn K mg "begun_by" fO f1 fz ["ways", "fewest"]) (T : Txt K mg C Z) : av P w K mg base bp 2 f fd ["crossings", "fewest"] (x6 P w) := by
 have vY : av P w K mg base bp 1 f1 fz ["ways", "fewest"] (um P w) := A0 oX
 refine F.fn.ok cn (fun vs H Q E h => ?_) (fun b8 A outer s H vs Q E hr h => ?_)
 ·obtain ⟨a, d, cs, f, rfl, _⟩ := h
  rfl
 ·obtain ⟨a, d, cs, f, rfl, ⟨kvs, ⟨hz, Mn, ob, xs, pS, ks⟩, pr⟩, hd, om, oc, k⟩ := h
  have hu := hr.units
  have lk := Uq pr
  refine ⟨_, (ah (sn 2 cn.nd (bu (wg (P := P) (w := w) rfl rfl) (by rfl) T.Fa boot_dict (aa (pv 1) af)))
   (ah (cY TR rfl (zg (P := P) (w := w) rfl rfl (pv 0)) (mG rfl (aY (gn 3 cn.nd) (aY (gn 4 cn.nd) gg)))
   (ah (nL (j := 5) rfl (N' := ["total", "crew", "behind"]) (cap := [none, none, none]) ⟨rfl, by with_unfolding_all rfl⟩ (bL (cl vY oX hr aD (aa (pv 4) (aa (pv 1) af)))) (fun _ => (tupK (K := K) (n := 3) rfl rfl (aY (gn 0 (show (["total", "crew", "behind"] : List Str).Nodup by decide +kernel)) (aY (gn 1 (show (["total", "crew", "behind"] : List Str).Nodup by decide +kernel)) (aY (gn 2 (show (["total", "crew", "behind"] : List Str).Nodup by decide +kernel)) gg))))) (fun _ => bR) (fun _ => (pv 0)) cn.nd (by rfl) (by rfl) (by with_unfolding_all rfl))
   (ah (bM (aE (IY (P := P) (w := w) rfl rfl hu) (pv 3) (pv 1) (by with_unfolding_all rfl))
   (aj (dn (qS UA U7 U6 fL (pv 5) (aa (aF (HK (P := P) (w := w) rfl rfl hu) (pv 1) (pv 3) (fun _ _ => rfl)) af))))
   aP)
   (aj (bM (zW (pv 5) (by intro _; rfl))
   (aj (vv (ay (yN rfl) (by rfl) T.IA boot_min (aa (pv 5) af)) (wt (pv 2) (pv 3) (FC (P := P) (w := w) rfl rfl hu))))
   aP)))))
   (aj (az (pv 2))))), ?_⟩
  refine ⟨_, rfl, d, iv f, rfl, hd, om.hash, fun l0 o0 vk DJ => ?_⟩
  have s1 : am H (L2.upd H l0 o0) := ag vk
  generalize L2.upd H l0 o0 = H1 at s1 DJ ⊢
  refine ⟨_, rfl, a, ob, xs, kvs.map (·.2), rfl, Mn, s1 _ _ pS, ks.vals, yI (P := P) (w := w) (o := ob) (d := a) (xs := xs) (kvs := kvs) (fun i σ H' => am H H' /\ (∃ v3 v4 v5, σ = [some (.ref a), some (.ref d), some (.ref l0), v3, v4, v5]) /\ DW P w H' l0 (iv ((cs.take i).foldl (Sh.cW f) f)))
   ⟨s1, ⟨_, _, _, rfl⟩, DJ⟩ (fun i σ H' _ ⟨sm, _⟩ => ⟨sm _ _ pS, ks.mono fun _ _ => sm _ _⟩) ?_ ?_⟩
  ·rintro i key y b p σ H2 hi kb hp ⟨s2, ⟨v3, v4, v5, rfl⟩, dw⟩
   obtain ⟨wy, aw, hc, rfl, hL⟩ := ui.at pr hi
   have ow := oc.ft _ (Tx hc)
   have s3 : am H2 (L2.upd H2 p (.tup [.ref b, .ref aw])) := ag hp
   have e3 : (L2.upd H2 p (.tup [.ref b, .ref aw])) p = some (.tup [.ref b, .ref aw]) := ae
   generalize L2.upd H2 p (.tup [.ref b, .ref aw]) = H3 at s3 e3 ⊢
   have vj := s2.trans s3
   refine ⟨p, _, rfl, aX.of e3, rfl, _, _, rfl, _, _, rfl, rfl, ?_⟩
   refine ⟨_, rfl, _, rfl, aw, d, wy, f, rfl, hL.mono vj, ow, hd.mono vj, fun lb H4 BU s4 hB => ?_⟩
   obtain ⟨vb, MP, db⟩ := hB
   have SG := aG db
   have O5 : (cV f wy).length <= 1000 := by
    unfold cV
    rw [SW]
    exact S8 (Tr _ _) ow
   refine ⟨lb, rfl, ⟨_, a6.of MP⟩, fun D hD => ?_⟩
   refine cB (K := K) (a := lb) (ys := vb) (fun j zs H' => am H4 H' /\ H' D = some (.lst zs) /\ zs = (((cV f wy).take j).map (·.1)).map V.int)
    ⟨ag hD, ae, rfl⟩ (fun j zs H' _ ⟨sm, h, _⟩ => ⟨h, a6.of (sm _ _ MP)⟩) ?_ ?_
   ·rintro j y zs H5 hj ⟨s5, gS, rfl⟩
    obtain ⟨x, hx, dx⟩ := bE (db.mono s5) hj
    obtain ⟨o, b1, c1, rfl, ho, xg, GQ⟩ := FR dx
    refine ⟨o, _, rfl, aX.of ho, rfl, _, _, rfl, _, _, rfl, _, _, rfl, rfl, (bP.set rfl).trans ((bP.set rfl).trans (bP.set rfl)), ?_⟩
    refine ⟨_, rfl, gS, aJ (by simp; omega), ao s5 hD, ae, ?_⟩
    rw [To, hx, S4, S4]
    rfl
   ·rintro zs H5 ⟨s5, gS, rfl⟩
    rw [Ta (by omega), oW] at gS
    have JF := s3.trans (s4.trans s5)
    have wG := s2.trans JF
    have JO : jR H5 key b := kb.mono fun _ _ => JF _ _
    have IV : H D = none := (vj.trans s4).free hD
    have Sz : (Sh.yA f wy).length <= 1000 := by rw [<- oW, SW]; exact O5
    have fo : (cs.take (i + 1)).foldl (Sh.cW f) f = Sh.cW f ((cs.take i).foldl (Sh.cW f) f) (key, wy) := by
     rw [To, hc, List.foldl_append]; rfl
    have lL : (iv ((cs.take i).foldl (Sh.cW f) f)).length <= 1000 := by
     unfold iv
     rw [SW]
     exact (B7 (fun c hc => Uy hc) oc om.nd om.all).len
    refine ⟨_, rfl, _, rfl, d, b, key, iv f, rfl, rfl, JO, hd.mono wG, _, rfl, ?_⟩
    rw [du, Ut]
    refine qB (fun σ H' => σ = [some (.ref a), some (.ref d), some (.ref l0), some (.ref b), some (.ref aw), some (.ref D)] /\ am H H' /\ DW P w H' l0 (iv ((cs.take i).foldl (Sh.cW f) f)) /\ jR H' key b /\ H' D = some (.lst ((Sh.ge f (key, wy)).map V.int))) ?_ (fun fin => ?_)
    ·rintro σ H6 ⟨rfl, s6, IZ, Ol, qo⟩
     refine ⟨_, rfl, _, .inl ⟨_, a6.of qo, rfl⟩, ?_⟩
     refine bC (fun h2 => ?_) (fun h2 => ?_)
     ·have ne : Sh.ge f (key, wy) ≠ [] := fun z => by rw [z] at h2; cases h2
      refine ⟨_, rfl, D, Sh.ge f (key, wy), rfl, a6.of qo, ne, fun m hm hle => ⟨_, rfl, _, rfl, l0, b, key, _, rfl, rfl, Ol, IZ, aJ (by omega), fun o' tq => ?_⟩⟩
      refine ⟨ao s6 vk, ⟨_, _, _, rfl⟩, ?_⟩
      rw [fo]
      unfold Sh.cW
      rw [if_neg ne, <- Sh.C6 hm hle, <- sW]
      exact tq
     ·have ez : Sh.ge f (key, wy) = [] := by
       cases q : Sh.ge f (key, wy) with
       | nil => rfl
       | cons x l => rw [q] at h2; cases h2
      refine ⟨s6, ⟨_, _, _, rfl⟩, ?_⟩
      rw [fo]
      unfold Sh.cW
      rw [if_pos ez]
      exact IZ
    ·refine bC (fun h1 => ?_) (fun h1 => ?_)
     ·have cX : (Sh.lk f key).isSome = true := h1
      obtain ⟨v, hv⟩ := UL.mp cX
      refine ⟨_, rfl, .inl ⟨rfl, _, a6.of gS⟩, _, rfl, _, rfl, d, b, key, iv f, .int v, rfl, rfl, JO, hd.mono wG, by rw [du, hv]; rfl, D, _, _, rfl, rfl, gS, aJ (by rw [SW]; omega), ?_⟩
      refine fin _ _ ⟨rfl, ao wG IV, (dw.mono JF).LQ gS, JO.mono (fun b' pI e => by rw [aq (eu e gS (by intro z; cases z))]; exact e), ?_⟩
      rw [ae]
      unfold Sh.ge
      rw [hv, S4]
      rfl
     ·have cX : Sh.lk f key = none := by
       cases q : Sh.lk f key with
       | none => rfl
       | some v => rw [q] at h1; cases h1
      refine fin _ _ ⟨rfl, wG, dw.mono JF, JO, ?_⟩
      unfold Sh.ge
      rw [cX, gS]
      simp
  ·rintro σ H2 ⟨s2, ⟨v3, v4, v5, rfl⟩, dw⟩
   rw [Ta (by omega)] at dw
   exact ⟨_, rfl, k l0 H2 vk s2 dw⟩
def Bz (P : Program) (w : World) : Sp := fun vs H Q _ => ∃ (a b : Addr) (ts : List Th) (r : Int) (qs : List Qu), vs = [.ref a, .ref b] /\ zh P w H a (cc ts r qs) /\ cI H b bH /\ C0 ts /\ ∀ l H' f, H l = none -> am H H' -> Mq ts r qs f -> DW P w H' l (iv f) -> Q (.ref l) H'
theorem b6 : au ["crossings", "end", "fewest", "longer"] ["crossings", "end"] (ak cj) := fA
theorem ER (B : Lp K mg C fs ds) (T : Txt K mg C Z) : av P w K mg base bp 3 (fs 68) (ds 68) ["crossings", "end"] (Bz P w) := by
 have m7 := B.jW
 have nB : av P w K mg base bp 2 (fs 67) (ds 67) ["crossings", "fewest"] (x6 P w) := Cv B.jW B.Av T
 refine B.i8.fn.ok b6 (fun vs H Q E h => ?_) (fun b8 A outer s H vs Q E hr h => ?_)
 ·obtain ⟨a, b, ts, r, qs, rfl, _⟩ := h
  rfl
 ·obtain ⟨a, b, ts, r, qs, rfl, hC, he, ok, k⟩ := h
  have hu := hr.units
  have h6 := ok.l6
  have nd : ((cc ts r qs).map (·.1)).Nodup := by rw [fc]; exact o9 _ _
  have oc := Jj (r := r) (qs := qs) h6
  obtain ⟨tC, Ps, rC⟩ : ∃ t0, rL (bX P w K mg base ["crossings", "end", "fewest", "longer"] "fewest_minutes" cj (fs 68) b8 A outer s H E) ((b7 cj).drop 2) t0 /\ ∀ (H2 : Hp) (D1 D2 : Addr) (lg : Sh.Mp bc), am H H2 -> DW P w H2 D1 (iv []) -> DW P w H2 D2 (iv lg) -> H D1 = none -> H D2 = none ->
    ((bH ∈ bB qs ts.length /\ lg = [(bH, 0)]) \/ (bH ∉ bB qs ts.length /\ lg = [])) -> t0 (bD Q) [some (.ref a), some (.ref b), some (.ref D1), some (.ref D2)] H2 := by
   refine ⟨_, (ah (uf TR (aE (Rg (P := P) (w := w) rfl rfl hu) (pv 3) (pv 2) (a7 _))
   (ah (sn 2 b6.nd (pv 3))
   (aj (sn 3 b6.nd (cl nB m7 hr aD (aa (pv 0) (aa (pv 2) af)))))))
   (aj (az (pv 2)))), fun H2 D1 D2 lg s2 DX BW n1 n2 Co => ?_⟩
   obtain ⟨n, hn⟩ : ∃ n, bH ∈ bB qs ts.length -> Sh.eqB (Sh.oneMore (cc ts r qs) (Sh.it (Sh.oneMore (cc ts r qs)) n [(bH, 0)])) (Sh.it (Sh.oneMore (cc ts r qs)) n [(bH, 0)]) = true := by
    by_cases e : bH ∈ bB qs ts.length
    ·obtain ⟨n, hn⟩ := Sh.Ba (e := bH) nd tells (later ok) (by rw [fc]; exact e)
     exact ⟨n, fun _ => hn⟩
    ·exact ⟨0, fun z => absurd z e⟩
   have nF : ∀ i, Sh.iP (jS ts r qs) bH (bB qs ts.length) (Sh.it (Sh.oneMore (cc ts r qs)) i [(bH, 0)]) := fun i => by
    have := Sh.vM (P := Sh.iP (jS ts r qs) bH ((cc ts r qs).map (·.1))) (fun x h => Sh.lQ nd tells h) i [(bH, 0)] (Sh.ic _)
    rwa [fc] at this
   refine ⟨fun m σ H' => am H H' /\ ∃ d1 d2 fw lw, σ = [some (.ref a), some (.ref b), some (.ref d1), some (.ref d2)] /\ H d1 = none /\ H d2 = none /\ DW P w H' d1 (iv fw) /\ DW P w H' d2 (iv lw) /\
     ((bH ∈ bB qs ts.length /\ ((fw = [] /\ lw = [(bH, 0)] /\ m = n + 1) \/ ∃ i, i + m = n /\ fw = Sh.it (Sh.oneMore (cc ts r qs)) i [(bH, 0)] /\ lw = Sh.it (Sh.oneMore (cc ts r qs)) (i + 1) [(bH, 0)])) \/ (bH ∉ bB qs ts.length /\ fw = [] /\ lw = [])),
    ⟨n + 1, s2, D1, D2, [], lg, rfl, n1, n2, DX, BW, ?_⟩, ?_⟩
   ·rcases Co with ⟨e1, e2⟩ | ⟨e1, e2⟩
    ·exact .inl ⟨e1, .inl ⟨rfl, e2, rfl⟩⟩
    ·exact .inr ⟨e1, rfl, e2⟩
   rintro m σ H3 ⟨s3, d1, d2, fw, lw, rfl, n1, n2, DX, BW, hc⟩
   refine ⟨_, rfl, _, rfl, d2, d1, lw, fw, rfl, rfl, BW.ds, DX.ds, _, rfl, ?_⟩
   refine bC (fun h1 => ?_) (fun h1 => ?_)
   ·have cX : Sh.eqB lw fw = false := by
     have : (!Sh.eqB lw fw) = true := h1
     simpa using this
    have om : El lw := by
     rcases hc with ⟨_, ⟨_, e, _⟩ | ⟨i, _, _, e⟩⟩ | ⟨_, e1, e2⟩
     ·rw [e]; exact oH h6 (nF 0)
     ·rw [e]; exact oH h6 (nF (i + 1))
     ·rw [e1, e2] at cX; cases cX
    refine ⟨fun σ' H' => am H H' /\ ∃ d3, σ' = [some (.ref a), some (.ref b), some (.ref d2), some (.ref d3)] /\ H d3 = none /\ DW P w H' d2 (iv lw) /\ DW P w H' d3 (iv (Sh.oneMore (cc ts r qs) lw)), ?_, ?_⟩
    ·rintro σ' H' ⟨s', d3, rfl, n3, Jd, HU⟩
     rcases hc with ⟨e, ⟨_, e2, em⟩ | ⟨i, M5, e1, e2⟩⟩ | ⟨_, e1, e2⟩
     ·exact ⟨n, by omega, s', d2, d3, lw, _, rfl, n2, n3, Jd, HU, .inl ⟨e, .inr ⟨0, Nat.zero_add _, e2, by rw [e2]; rfl⟩⟩⟩
     ·have ne : i ≠ n := fun z => by
       have := hn e
       rw [<- z] at this
       have L7 : lw = Sh.oneMore (cc ts r qs) (Sh.it (Sh.oneMore (cc ts r qs)) i [(bH, 0)]) := e2
       rw [e1, L7, this] at cX
       cases cX
      exact ⟨m - 1, by omega, s', d2, d3, lw, _, rfl, n2, n3, Jd, HU, .inl ⟨e, .inr ⟨i + 1, by omega, e2, by rw [e2]; rfl⟩⟩⟩
     ·rw [e1, e2] at cX; cases cX
    ·refine ⟨_, rfl, _, rfl, _, rfl, a, d2, cc ts r qs, lw, rfl, hC.mono s3, BW.ds, om, oc, fun l H4 hl s4 ON => ?_⟩
     exact ⟨s3.trans s4, l, rfl, s3.free hl, BW.mono s4, ON⟩
   ·have cX : Sh.eqB lw fw = true := by
     have : (!Sh.eqB lw fw) = false := h1
     simpa using this
    refine ⟨_, rfl, k d1 H3 fw n1 s3 ?_ DX⟩
    rcases hc with ⟨e, ⟨e1, e2, em⟩ | ⟨i, M5, e1, e2⟩⟩ | ⟨e, e1, e2⟩
    ·rw [e1, e2] at cX; cases cX
    ·refine ⟨fun _ => ⟨by rw [e1]; exact nF i, ?_⟩, fun z => absurd e z⟩
     have L7 : lw = Sh.oneMore (cc ts r qs) (Sh.it (Sh.oneMore (cc ts r qs)) i [(bH, 0)]) := e2
     rw [e1, L7] at cX
     rw [e1]
     exact Sh.vp (e := bH) nd tells (by rw [fc]; exact nF i) cX
    ·exact ⟨fun z => absurd z e, fun _ => e1⟩
  refine ⟨_, (ah (sn 2 b6.nd (n4 (P := P) (w := w) rfl rfl))
   (ah (sn 3 b6.nd (Ak (aE (IY (P := P) (w := w) rfl rfl hu) (pv 1) (pv 0) (by with_unfolding_all rfl)) (qM (P := P) (w := w) rfl rfl hu (pv 1) ai) (n4 (P := P) (w := w) rfl rfl)))
   Ps)), ?_⟩
  refine fun D1 o1 pV DX => ?_
  have s1 : am H (L2.upd H D1 o1) := ag pV
  generalize L2.upd H D1 o1 = H1 at s1 DX ⊢
  obtain ⟨kvs, df, pr⟩ := id (hC.mono s1)
  have ek := ui.keys pr
  rw [fc] at ek
  refine ⟨_, rfl, _, rfl, a, b, bH, kvs, rfl, rfl, he.mono s1, df.ds, _, rfl, ?_⟩
  refine bC (fun h1 => ?_) (fun h1 => ?_)
  ·have e : bH ∈ bB qs ts.length := by
    rw [<- ek]
    refine Classical.byContradiction fun z => ?_
    have cX : (c6 kvs bH).isSome = true := h1
    rw [qE z] at cX
    cases cX
   refine fun D2 o2 jq BW => ?_
   have s2 : am H1 (L2.upd H1 D2 o2) := ag jq
   generalize L2.upd H1 D2 o2 = H2 at s2 BW ⊢
   refine ⟨_, rfl, b, bH, rfl, (he.mono s1).mono s2, BW, fun o' tq => ?_⟩
   have s3 : am H1 (L2.upd H2 D2 o') := ao s2 jq
   exact rC _ D1 D2 [(bH, 0)] (s1.trans s3) (DX.mono s3) tq pV (s1.free jq) (.inl ⟨e, rfl⟩)
  ·have e : bH ∉ bB qs ts.length := fun z => by
    rw [<- ek] at z
    have cX : (c6 kvs bH).isSome = false := h1
    rw [yz z] at cX
    cases cX
   refine fun D2 o2 jq BW => ?_
   have s2 : am H1 (L2.upd H1 D2 o2) := ag jq
   exact rC _ D1 D2 [] (s1.trans s2) (DX.mono s2) BW pV (s1.free jq) (.inr ⟨e, rfl⟩)
end
def Ds : Option Int -> PyData
 | none => .none
 | some i => .int i
def oV : Option Int -> V
 | none => .cq
 | some i => .int i
theorem Mi {H : Hp} (x : Option Int) : DV H (Ds x) (oV x) := by cases x with
 | none => exact .cq
 | some i => exact .int i
theorem IK {H : Hp} {x : Option Int} {v : V} (h : DV H (Ds x) v) : v = oV x := by
 cases x with
 | none => cases h; rfl
 | some i => exact h.int_inv
theorem Hs {f : Sh.Mp bc} {k : bI} : (c6 (iv f) k).getD .cq = oV (Sh.lk f k) := by
 rw [du]
 cases Sh.lk f k <;> rfl
abbrev Hg := bc × Option Int
def Eg (x : Hg) : PyData := .tuple [jz x.1, Ds x.2]
theorem DZ (x : Hg) : eD (Eg x) = true := by
 obtain ⟨s, o⟩ := x
 show cu [jz s, Ds o] = true
 simp only [cu, Bool.and_true, gD]
 cases o <;> rfl
theorem BK {H : Hp} {x : Hg} {v : V} (h : DV H (Eg x) v) : ∃ a b, v = .ref a /\ H a = some (.tup [.ref b, oV x.2]) /\ cI H b x.1 := by
 obtain ⟨a, vs, rfl, e, q⟩ := h.eT
 obtain ⟨v, w, rfl, h1, h2⟩ := q.nO
 obtain ⟨b, rfl, hb⟩ := dY h1
 cases IK h2
 exact ⟨a, b, rfl, e, hb⟩
theorem HM {H : Hp} {x : Hg} {a b : Addr} (h : H a = some (.tup [.ref b, oV x.2])) (hb : cI H b x.1) : DV H (Eg x) (.ref a) := .tup h (.cons hb.dv (.cons (Mi _) .nil))
def uk (ts : List Th) (qs : List Qu) (f : Sh.Mp bc) : List Hg := (bB qs ts.length).map fun st => (st, Sh.lk f st)
section
variable {P : Program} {w : World} {K : VN} {mg : Str -> Option Value} {base : Heap} {C : Addr} {Z : Ad} {fs : Nat -> Addr} {ds : Nat -> FuncData}
def pb (C : Addr) : Sp := fun vs H Q _ => ∃ (p : Addr) (ts : List Th) (r : Int) (qs : List Qu), vs = [.ref p] /\ bb C H p ts r qs /\ C0 ts /\ ∀ l H' f, H l = none -> am H H' -> Mq ts r qs f -> LstAt Eg H' l (uk ts qs f) -> Q (.ref l) H'
theorem kx : au ["night", "crossings", "fewest"] ["night"] (ak jK) := fA
theorem wA {f : Addr} {fd : FuncData} (F : Fn K mg "heights" jK f fd ["night"]) (L : Lk K mg C fs ds) (B : Lp K mg C fs ds) (T : Txt K mg C Z) : av P w K mg base bp 7 f fd ["night"] (pb C) := by
 have nq := B.jZ
 have me := B.i8
 have sM := B.ends
 have sN := B.FA
 have nG : av P w K mg base bp 6 (fs 65) (ds 65) ["night"] (xq P w C) := Dd L B T
 have my : av P w K mg base bp 3 (fs 68) (ds 68) ["crossings", "end"] (Bz P w) := ER B T
 have sU : av P w K mg base bp 1 (fs 61) (ds 61) ["self"] vc := Ag B.ends
 refine F.fn.ok kx (fun vs H Q E h => ?_) (fun b8 A outer s H vs Q E hr h => ?_)
 ·obtain ⟨p, ts, r, qs, rfl, _⟩ := h
  rfl
 ·obtain ⟨p, ts, r, qs, rfl, N, ok, k⟩ := h
  have hu := hr.units
  have h6 := ok.l6
  obtain ⟨dx, t, q, hp, _, _⟩ := id N.ex
  refine ⟨_, (ah (sn 1 kx.nd (cl nG nq hr aD (aa (pv 0) af)))
   (ah (sn 2 kx.nd (cl my me hr aD (aa (pv 1) (aa (fQ (pv 0) T.bK sN sU (hr.mono (by decide)) sM.b .nil aD) af))))
   (aj (az (ba rfl (N' := ["standing", "fewest"]) (cap := [none, some 2]) ⟨rfl, by with_unfolding_all rfl⟩ (AQ (P := P) (w := w) rfl rfl (pv 1)) (fun _ => (gn 0 (show (["standing", "fewest"] : List Str).Nodup by decide +kernel))) (fun _ => bR) (fun _ => (bW (aa (pv 0) (aa (Dg (P := P) (w := w) rfl rfl hu (pv 1) (aa (pv 0) af)) af))))))))), ?_⟩
  refine ⟨_, rfl, p, ts, r, qs, rfl, N, h6, fun lc H1 s1 hC => ?_⟩
  refine ⟨_, rfl, _, rfl, p, dx, _, rfl, s1 _ _ hp, rfl, p, rfl, fun le H2 s2 he => ?_⟩
  obtain ⟨_, e, he⟩ := dY (st := bH) he
  cases e
  refine ⟨lc, le, ts, r, qs, rfl, hC.mono s2, he, ok, fun lf H3 f Se s3 fw dw => ?_⟩
  have Q9 := (hC.mono s2).mono s3
  obtain ⟨kvs, ⟨hz, Mn, ob, xs, pS, ks⟩, pr⟩ := id Q9
  have lk := Uq pr
  have ek := ui.keys pr
  rw [fc] at ek
  have AD := jd qs h6
  have SK : kvs.length = (bB qs ts.length).length := by rw [<- ek, SW]
  refine ⟨_, rfl, lc, ob, xs, rfl, Mn, pS, fun D hD => ?_⟩
  refine yt (P := P) (w := w) (o := ob) (d := lc) (kxs := xs) (kvs := kvs) (fun j zs H' => am H3 H' /\ H' D = some (.lst zs) /\ zs.length = j /\ bF H' (((uk ts qs f).take j).map Eg) zs)
   ⟨ag hD, ae, rfl, .nil⟩ (fun j zs H' _ ⟨sm, h, _⟩ => ⟨h, sm _ _ pS, ks.mono fun _ _ => sm _ _⟩) ?_ ?_
  ·rintro j key y b zs H4 hj kb ⟨s4, wU, lz, dz⟩
   have Iv := (Tk.mp hj).1
   refine ⟨bP.set rfl, ?_⟩
   refine ⟨_, rfl, _, rfl, ⟨lf, _, rfl, (dw.mono s4).ds⟩, _, rfl, lf, b, key, _, rfl, rfl, kb, (dw.mono s4).ds, ?_⟩
   rw [Hs]
   refine ⟨aK (by show 2 <= _; decide), fun o ho => ?_⟩
   have s5 : am H4 (L2.upd H4 o (.tup [.ref b, oV (Sh.lk f key)])) := ag ho
   have gS := s5 _ _ wU
   have dy : DV (L2.upd H4 o (.tup [.ref b, oV (Sh.lk f key)])) (Eg (key, Sh.lk f key)) (.ref o) := HM ae (cI.mono kb s5)
   refine ⟨gS, aJ (by omega), ao (s4.trans s5) hD, ae, by simp [lz], ?_⟩
   have eh : (uk ts qs f)[j]? = some (key, Sh.lk f key) := by
    unfold uk
    rw [Tc, <- ek, Tc, hj]
    rfl
   rw [To, eh, S4]
   exact (bi gS (dz.mono s5) (aH DZ _)).snoc (c7 gS dy (DZ _))
  ·rintro zs H4 ⟨s4, wU, lz, dz⟩
   rw [Ta (by unfold uk; rw [SW]; omega)] at dz
   have xH := s1.trans (s2.trans s3)
   exact k D H4 f (xH.free hD) (xH.trans s4) fw ⟨zs, wU, dz⟩
end
def EH (t : Sh.qK bc) : PyData := .tuple [jz t.1, .int t.2.1, jz t.2.2]
theorem xU (t : Sh.qK bc) : eD (EH t) = true := by
 show cu [jz t.1, .int t.2.1, jz t.2.2] = true
 simp only [cu, Bool.and_true, gD]
 rfl
theorem Gm {H : Hp} {x : Sh.qK bc} {v : V} (h : DV H (EH x) v) : ∃ a b c, v = .ref a /\ H a = some (.tup [.ref b, .int x.2.1, .ref c]) /\ cI H b x.1 /\ cI H c x.2.2 := by
 obtain ⟨a, vs, rfl, e, q⟩ := h.eT
 obtain ⟨v, w, u, rfl, h1, h2, h3⟩ := q.jy
 obtain ⟨b, rfl, hb⟩ := dY h1
 cases h2.int_inv
 obtain ⟨c, rfl, hc⟩ := dY h3
 exact ⟨a, b, c, rfl, e, hb, hc⟩
theorem Jp {H : Hp} {x : Sh.qK bc} {a b c : Addr} (h : H a = some (.tup [.ref b, .int x.2.1, .ref c])) (hb : cI H b x.1) (hc : cI H c x.2.2) : DV H (EH x) (.ref a) := .tup h (.cons hb.dv (.cons (.int _) (.cons hc.dv .nil)))
section
variable {P : Program} {w : World} {K : VN} {mg : Str -> Option Value} {base : Heap} {C : Addr} {Z : Ad} {gs : Nat -> Addr} {es : Nat -> FuncData}
def wx : Sp := fun vs H Q _ => ∃ (q : Addr) (qs : List Qu) (n : Nat), vs = [.ref q, .int n] /\ LstAt xN H q qs /\ n <= 6 /\ ∀ l H', H l = none -> am H H' -> LstAt jz H' l (bB qs n) -> Q (.ref l) H'
theorem gA : au ["quarrels", "many", "groups"] ["quarrels", "many"] (ak cp) := fA
theorem zN {f : Addr} {fd : FuncData} (F : Fn K mg "_law_standings" cp f fd ["quarrels", "many"]) (L : Lw K mg gs es) (T : Txt K mg C Z) : av P w K mg base bp 3 f fd ["quarrels", "many"] wx := by
 have gI := L.groups
 have jp := L.good
 have gM : av P w K mg base bp 2 (gs 3) (es 3) ["many"] mf := qC L.groups T L.bits
 have jo : av P w K mg base bp 2 (gs 5) (es 5) ["quarrels", "group", "many"] (pi K) := uI L.good T L.gb L.rest
 refine F.fn.ok gA (fun vs H Q E h => ?_) (fun b8 A outer s H vs Q E hr h => ?_)
 ·obtain ⟨q, qs, n, rfl, _⟩ := h
  rfl
 ·obtain ⟨q, qs, n, rfl, hq, h6, k⟩ := h
  have hu := hr.units
  refine ⟨_, (ah (sn 2 gA.nd (ay (iF hu) (by rfl) T.jm boot_sorted (aa (ba rfl (N' := ["group", "quarrels", "many"]) (cap := [none, some 0, some 1]) ⟨rfl, by with_unfolding_all rfl⟩ (bL (cl gM gI hr aD (aa (pv 1) af))) (fun _ => (gn 0 (show (["group", "quarrels", "many"] : List Str).Nodup by decide +kernel))) (fun _ => (ck (cF (cl jo jp hr aD (aa (pv 1) (aa (pv 0) (aa (pv 2) af))))))) (fun _ => (pv 0))) af)))
   (aj (az (bo BJ (ba rfl (N' := ["group"]) (cap := [none]) ⟨rfl, by with_unfolding_all rfl⟩ (bL (pv 2)) (fun _ => (gn 0 (show (["group"] : List Str).Nodup by decide +kernel))) (fun _ => bR) (fun _ => (bW (aa (pv 0) (aa ai af))))) (ba rfl (N' := ["group"]) (cap := [none]) ⟨rfl, by with_unfolding_all rfl⟩ (bL (pv 2)) (fun _ => (gn 0 (show (["group"] : List Str).Nodup by decide +kernel))) (fun _ => bR) (fun _ => (bW (aa (pv 0) (aa ai af))))))))), ?_⟩
  refine ⟨_, rfl, n, rfl, h6, fun lg H1 s1 hG => ?_⟩
  obtain ⟨vg, uL, dg⟩ := hG
  have EC := aG dg
  have Lz : (groups n).length <= 64 := by
   rw [fX, io, aO]
   exact S8 (UO (by decide) h6) (by decide)
  refine ⟨lg, rfl, ⟨_, a6.of uL⟩, fun D hD => ?_⟩
  refine cB (K := K) (a := lg) (ys := vg) (fun j zs H' => am H1 H' /\ H' D = some (.lst zs) /\ bF H' ((((groups n).take j).filter (be qs n)).map i6) zs)
   ⟨ag hD, ae, .nil⟩ (fun j zs H' _ ⟨sm, h, _⟩ => ⟨h, a6.of (sm _ _ uL)⟩) ?_ ?_
  ·rintro j y zs H2 hj ⟨s2, jq, dz⟩
   obtain ⟨g, hg, Gp⟩ := bE dg hj
   obtain ⟨c, rfl, hc⟩ := fZ Gp
   refine ⟨bP.set rfl, ?_⟩
   refine ⟨_, rfl, _, rfl, _, rfl, q, c, qs, g, n, rfl, hq.mono (s1.trans s2), s2 _ _ hc, h6, fun H3 s3 => ⟨_, rfl, ?_⟩⟩
   have DR := s3 _ _ jq
   have NQ := dz.mono s3
   have lz : zs.length <= 64 := by
    rw [aG dz]
    exact S8 (Tr _ _) (by rw [Tl]; omega)
   refine bC (fun h1 => ?_) (fun h1 => ?_)
   ·refine ⟨_, rfl, DR, aJ (by omega), ao (s2.trans s3) hD, ae, ?_⟩
    rw [gu hg h1, S4]
    exact (bi DR NQ (aH fi _)).snoc (c7 DR (hW (s3 _ _ (s2 _ _ hc))) (fi _))
   ·exact ⟨s2.trans s3, DR, dm hg h1 NQ⟩
  ·rintro zs H2 ⟨s2, jq, dz⟩
   rw [Ta (by omega)] at dz
   refine ⟨D, _, zs, rfl, jq, dz, (kJ n).sublist Vz, fun l pI hl HN => ?_⟩
   have IC := s1.trans s2
   have s3 : am H2 (L2.upd H2 l (.lst pI)) := ag hl
   have e3 : (L2.upd H2 l (.lst pI)) l = some (.lst pI) := ae
   have dG : bF (L2.upd H2 l (.lst pI)) ((xb qs n).map i6) pI := HN.mono s3
   generalize L2.upd H2 l (.lst pI) = H3 at s3 e3 dG ⊢
   have vj := IC.trans s3
   have lG := aG dG
   have Su : (xb qs n).length <= 64 := by
    unfold xb
    rw [(hU _).length_eq]
    exact S8 (Tr _ _) Lz
   have step : ∀ (sd : Int) (H0 : Hp) (D1 : Addr) (j : Nat) (y : V) (zs : List V) (H4 : Hp), pI[j]? = some y -> am H3 H0 -> H0 D1 = none -> am H0 H4 -> H4 D1 = some (.lst zs) -> zs.length = j -> bF H4 ((((xb qs n).take j).map fun g => ((g, sd) : bc)).map jz) zs -> ∃ c, y = .ref c /\ ∀ o, H4 o = none ->
     (L2.upd H4 o (.tup [.ref c, .int sd])) D1 = some (.lst zs) /\ zs.length < sizeLine /\ (am H0 (L2.upd (L2.upd H4 o (.tup [.ref c, .int sd])) D1 (.lst (zs ++ [.ref o]))) /\ (L2.upd (L2.upd H4 o (.tup [.ref c, .int sd])) D1 (.lst (zs ++ [.ref o]))) D1 = some (.lst (zs ++ [.ref o])) /\ (zs ++ [V.ref o]).length = j + 1 /\
      bF (L2.upd (L2.upd H4 o (.tup [.ref c, .int sd])) D1 (.lst (zs ++ [.ref o]))) ((((xb qs n).take (j + 1)).map fun g => ((g, sd) : bc)).map jz) (zs ++ [.ref o])) := by
    intro sd H0 D1 j y zs H4 hj sH pV s4 wU lz dz
    have Iv := (Tk.mp hj).1
    obtain ⟨g, hg, Gp⟩ := bE dG hj
    obtain ⟨c, rfl, hc⟩ := fZ Gp
    refine ⟨c, rfl, fun o ho => ?_⟩
    have s5 : am H4 (L2.upd H4 o (.tup [.ref c, .int sd])) := ag ho
    have hs : cI (L2.upd H4 o (.tup [.ref c, .int sd])) o (g, sd) := ⟨c, ae, s5 _ _ (s4 _ _ (sH _ _ hc))⟩
    have gS := s5 _ _ wU
    refine ⟨gS, aJ (by omega), ao (s4.trans s5) pV, ae, by simp [lz], ?_⟩
    rw [To, hg, S4, S4]
    exact (bi gS (dz.mono s5) (aH gD _)).snoc (c7 gS hs.dv (gD _))
   refine ⟨_, rfl, l, rfl, ⟨_, a6.of e3⟩, fun D1 pV => ?_⟩
   refine cB (K := K) (a := l) (ys := pI) (fun j zs H' => am H3 H' /\ H' D1 = some (.lst zs) /\ zs.length = j /\ bF H' ((((xb qs n).take j).map fun g => ((g, 0) : bc)).map jz) zs)
    ⟨ag pV, ae, rfl, .nil⟩ (fun j zs H' _ ⟨sm, h, _⟩ => ⟨h, a6.of (sm _ _ e3)⟩) ?_ ?_
   ·rintro j y zs H4 hj ⟨s4, wU, lz, dz⟩
    obtain ⟨c, rfl, h⟩ := step 0 H3 D1 j y zs H4 hj (am.refl _) pV s4 wU lz dz
    exact ⟨bP.set rfl, _, rfl, aK (by show 2 <= _; decide), h⟩
   ·rintro z0 H4 ⟨s4, wU, lz, d0⟩
    rw [Ta (by omega)] at d0
    refine ⟨_, rfl, l, rfl, ⟨_, a6.of (s4 _ _ e3)⟩, fun D2 jq => ?_⟩
    refine cB (K := K) (a := l) (ys := pI) (fun j zs H' => am H4 H' /\ H' D2 = some (.lst zs) /\ zs.length = j /\ bF H' ((((xb qs n).take j).map fun g => ((g, 1) : bc)).map jz) zs)
     ⟨ag jq, ae, rfl, .nil⟩ (fun j zs H' _ ⟨sm, h, _⟩ => ⟨h, a6.of (sm _ _ (s4 _ _ e3))⟩) ?_ ?_
    ·rintro j y zs H5 hj ⟨s5, gS, lz, dz⟩
     obtain ⟨c, rfl, h⟩ := step 1 H4 D2 j y zs H5 hj s4 jq s5 gS lz dz
     exact ⟨bP.set rfl, _, rfl, aK (by show 2 <= _; decide), h⟩
    ·rintro z1 H5 ⟨s5, gS, OC, d1⟩
     rw [Ta (by omega)] at d1
     have OW : z1.length = pI.length := OC
     have Ob : z0.length = pI.length := lz
     refine ⟨D1, D2, z0, z1, rfl, rfl, s5 _ _ wU, gS, aK (by omega), fun l2 og => ?_⟩
     have wG := vj.trans (s4.trans s5)
     refine k l2 _ (wG.free og) (ao wG (wG.free og)) ⟨z0 ++ z1, ae, ?_⟩
     unfold bB
     rw [S4]
     exact ((d0.mono s5).mono (ag og)).append (d1.mono (ag og))
end
theorem B8 {ts : List Th} {r : Int} {qs : List Qu} {f : Sh.Mp bc} (h6 : ts.length <= 6) (h : Sh.iP (jS ts r qs) bH ((aU ts r qs).map (·.1)) f) : El f := oH (r := r) h6 ⟨h.sound, h.nd, h.base, fun k hk => (h.keys k hk).imp id qY⟩
theorem uB {α β : Type} {f : α -> List β} {m : Nat} : ∀ {l : List α}, (∀ x ∈ l, (f x).length <= m) -> (l.flatMap f).length <= l.length * m
 | [], _ => by simp
 | a :: l, h => by
  rw [List.flatMap_cons, Tq, TY, Nat.succ_mul]
  have := h a S0
  have := uB (l := l) fun x hx => h x (SY _ hx)
  omega
section
variable {P : Program} {w : World} {K : VN} {mg : Str -> Option Value} {base : Heap} {C : Addr} {Z : Ad} {gs : Nat -> Addr} {es : Nat -> FuncData}
def wS (P : Program) (w : World) : Sp := fun vs H Q _ => ∃ (t q : Addr) (ts : List Th) (r : Int) (qs : List Qu), vs = [.ref t, .int r, .ref q] /\ LstAt wj H t ts /\ LstAt xN H q qs /\ C0 ts /\ ∀ l H' g, H l = none -> am H H' -> Kn ts r qs g -> DW P w H' l (iv g) -> Q (.ref l) H'
theorem aQ : au ["things", "room", "quarrels", "many", "steps", "standing", "crew", "known", "turned", "step", "height"] ["things", "room", "quarrels"] (ak cm) := fA
theorem DM {f f1 f2 : Addr} {fd fz mD : FuncData} (F : Fn K mg "_law_heights" cm f fd ["things", "room", "quarrels"]) (L : Lw K mg gs es) (T : Txt K mg C Z) (cS : Fn K mg "_law_standings" cp f1 fz ["quarrels", "many"])
  (jg : Fn K mg "_law_minutes" cK f2 mD ["things", "crew"]) : av P w K mg base bp 4 f fd ["things", "room", "quarrels"] (wS P w) := by
 have se := L.uH
 have gO := L.behind
 have eH : av P w K mg base bp 3 f1 fz ["quarrels", "many"] wx := zN cS L T
 have sI : av P w K mg base bp 3 (gs 7) (es 7) ["things", "room", "quarrels", "standing"] qJ := y9 L T
 have oT : av P w K mg base bp 1 f2 mD ["things", "crew"] mU := tW jg T
 have gN : av P w K mg base bp 1 (gs 6) (es 6) ["standing", "crew", "many"] mn := qX L.behind T
 refine F.fn.ok aQ (fun vs H Q E h => ?_) (fun b8 A outer s H vs Q E hr h => ?_)
 ·obtain ⟨t, q, ts, r, qs, rfl, _⟩ := h
  rfl
 obtain ⟨t, q, ts, r, qs, rfl, hT, hQ, ok, k⟩ := h
 have hu := hr.units
 have h6 := ok.l6
 obtain ⟨tC, hC, rC⟩ : ∃ t0, rL (bX P w K mg base ["things", "room", "quarrels", "many", "steps", "standing", "crew", "known", "turned", "step", "height"] "_law_heights" cm f b8 A outer s H E) ((b7 cm).drop 3) t0 /\ ∀ (H1 : Hp) (ls : Addr) (vl : List V) (v5 v6 : Option V), am H H1 -> H1 ls = some (.lst vl) -> bF H1 ((aU ts r qs).map EH) vl ->
   t0 (bD Q) [some (.ref t), some (.int r), some (.ref q), some (.int ts.length), some (.ref ls), v5, v6, none, none, none, none] H1 := by
  refine ⟨_, (ah (sn 7 aQ.nd (qM (P := P) (w := w) rfl rfl hu (bW (aa (bW af) (aa ai af))) ai))
   (ah (sn 8 aQ.nd gW)
   (ah (uf TR (cF (pv 8))
   (ah (sn 8 aQ.nd gW)
   (aj (cY TR rfl (bL (pv 4)) (gn 9 aQ.nd)
   (aj (bM (aE (IY (P := P) (w := w) rfl rfl hu) (aF aI (pv 9) ai (fun _ _ => rfl)) (pv 7) (by with_unfolding_all rfl))
   (ah (sn 10 aQ.nd (bo gK (aF aI (pv 9) ai (fun _ _ => rfl)) (aF (HK (P := P) (w := w) rfl rfl hu) (pv 7) (aF aI (pv 9) ai (fun _ _ => rfl)) (fun _ _ => rfl))))
   (aj (bM (PW.pt (pw_or (aE (Fk (P := P) (w := w) rfl rfl hu) (aF aI (pv 9) ai (fun _ _ => rfl)) (pv 7) (by with_unfolding_all rfl)) (pw_or1 (aE uw (pv 10) (aF (HK (P := P) (w := w) rfl rfl hu) (pv 7) (aF aI (pv 9) ai (fun _ _ => rfl)) (fun _ _ => rfl)) (a7 _)))))
   (ah (vv (pv 10) (wt (pv 7) (aF aI (pv 9) ai (fun _ _ => rfl)) (FC (P := P) (w := w) rfl rfl hu)))
   (aj (sn 8 aQ.nd gW)))
   aP)))
   aP))))))
   (aj (az (pv 7)))))), fun H1 ls vl v5 v6 s1 EY dl => ?_⟩
  have lvl := aG dl
  refine fun kd NO G6 DJ => ⟨Tw _, fun g hg => ⟨aK (by show 2 <= _; decide), fun o ho => ?_⟩⟩
  have s2 : am H1 (L2.upd H1 kd NO) := ag G6
  generalize L2.upd H1 kd NO = H2 at s2 DJ hg ho ⊢
  have s3 : am H2 (L2.upd H2 g (.tup [])) := ag hg
  have e3 : (L2.upd H2 g (.tup [])) g = some (.tup []) := ae
  generalize L2.upd H2 g (.tup []) = H3 at s3 e3 ho ⊢
  have s4 : am H3 (L2.upd H3 o (.tup [.ref g, .int 1])) := ag ho
  have ke : jR (L2.upd H3 o (.tup [.ref g, .int 1])) bH o := ⟨g, ae, s4 _ _ e3⟩
  generalize L2.upd H3 o (.tup [.ref g, .int 1]) = H4 at s4 ke ⊢
  have Nl := s3.trans s4
  refine ⟨o, bH, rfl, ke, DJ.mono Nl, fun o' tq => ?_⟩
  have s5 : am H1 (L2.upd H4 kd o') := ao (s2.trans Nl) G6
  have Mv : DW P w (L2.upd H4 kd o') kd (iv [(bH, 0)]) := tq
  generalize L2.upd H4 kd o' = H5 at s5 Mv ⊢
  obtain ⟨x5, e5⟩ := Mv.at
  have FO := s5 _ _ EY
  have Od := dl.mono s5
  have Nq : ls ≠ kd := eu FO e5 (by intro z; cases z)
  have eL : ∀ {H' : Hp}, mh H5 kd H' -> ∀ b vs, H5 b = some (.tup vs) -> H' b = some (.tup vs) := fun bt b vs e => bt b _ (eu e e5 (by intro z; cases z)) e
  have hE : ∀ t ∈ aU ts r qs, jS ts r qs t.1 t.2.1 t.2.2 := fun t ht => mI.mp ht
  obtain ⟨n, hn⟩ := Sh.yq (e := bH) hE (later ok)
  have nF : ∀ i, Sh.iP (jS ts r qs) bH ((aU ts r qs).map (·.1)) (Sh.it (Sh.iM (aU ts r qs)) i [(bH, 0)]) := fun i => Sh.vM (fun x h => Sh.l3 hE h) i _ (Sh.ic _)
  have fin : ∀ (H' : Hp) (x9 : Sh.Mp bc), mh H5 kd H' -> Kn ts r qs x9 -> DW P w H' kd (iv x9) -> Q (.ref kd) H' := fun H' x9 bt kn dw => by
   have hk : H kd = none := s1.free G6
   refine k kd H' x9 hk (fun b u e => bt b u (ax e hk) (s5 _ _ (s1 _ _ e))) kn dw
  refine ⟨fun m σ H' => mh H5 kd H' /\ ∃ tv v9 v10, σ = [some (.ref t), some (.int r), some (.ref q), some (.int ts.length), some (.ref ls), v5, v6, some (.ref kd), some (.bl tv), v9, v10] /\
    ((tv = true /\ ∃ i, i <= n /\ i + m = n + 1 /\ DW P w H' kd (iv (Sh.it (Sh.iM (aU ts r qs)) i [(bH, 0)]))) \/ (tv = false /\ ∃ x9, Kn ts r qs x9 /\ DW P w H' kd (iv x9))),
   ⟨n + 1, mh.of (am.refl _), true, _, _, rfl, .inl ⟨rfl, 0, Tw _, Nat.zero_add _, Mv⟩⟩, ?_⟩
  rintro m σ H6 ⟨bt, tv, v9, v10, rfl, hc⟩
  refine ⟨_, rfl, tv, rfl, ?_⟩
  rcases hc with ⟨rfl, i, hi, M5, dw⟩ | ⟨rfl, x9, kn, dw⟩
  ·refine ni ⟨fun σ' H' => mh H5 kd H' /\ ∃ v9 v10, σ' = [some (.ref t), some (.int r), some (.ref q), some (.int ts.length), some (.ref ls), v5, v6, some (.ref kd), some (.bl (Sh.pass (aU ts r qs) (Sh.it (Sh.iM (aU ts r qs)) i [(bH, 0)])).2), v9, v10] /\
     DW P w H' kd (iv (Sh.pass (aU ts r qs) (Sh.it (Sh.iM (aU ts r qs)) i [(bH, 0)])).1), ?_, ?_⟩
   ·rintro σ' H' ⟨Hf, NB, Gw, rfl, tq⟩
    refine ⟨m - 1, by omega, Hf, _, _, _, rfl, ?_⟩
    cases hp : (Sh.pass (aU ts r qs) (Sh.it (Sh.iM (aU ts r qs)) i [(bH, 0)])).2 with
    | true =>
     have ne : i ≠ n := fun z => by rw [z, hn] at hp; cases hp
     exact .inl ⟨rfl, i + 1, by omega, by omega, tq⟩
    | false =>
     have e := (Sh.qL hp).1
     have e : (Sh.pass (aU ts r qs) (Sh.it (Sh.iM (aU ts r qs)) i [(bH, 0)])).1 = _ := e
     rw [e] at tq
     exact .inr ⟨rfl, _, IG (nF i) hp, tq⟩
   ·generalize hx : Sh.it (Sh.iM (aU ts r qs)) i [(bH, 0)] = x0 at dw
    have fx := nF i
    rw [hx] at fx
    have fj : ∀ j, El (((aU ts r qs).take j).foldl Sh.cr (x0, false)).1 := fun j => B8 h6 (Sh.rA (x := (x0, false)) hE (fun t ht => Uy ht) fx)
    refine ⟨_, rfl, ls, rfl, ⟨_, a6.of (bt _ _ Nq FO)⟩, dN (K := K) (a := ls) (xs := vl) (fun j σ' H' => mh H5 kd H' /\ ∃ v9 v10, σ' = [some (.ref t), some (.int r), some (.ref q), some (.int ts.length), some (.ref ls), v5, v6, some (.ref kd), some (.bl (((aU ts r qs).take j).foldl Sh.cr (x0, false)).2), v9, v10] /\
      DW P w H' kd (iv (((aU ts r qs).take j).foldl Sh.cr (x0, false)).1)) ⟨bt, _, _, rfl, dw⟩ (fun j σ' H' _ ⟨Hf, _⟩ => a6.of (Hf _ _ Nq FO)) ?_ ?_⟩
    ·rintro j x σ' H7 hj ⟨FE, NB, Gw, rfl, zC⟩
     obtain ⟨sp, xV, O9⟩ := bE Od hj
     obtain ⟨a, b, c, rfl, ha, hb, hc⟩ := Gm (pG (eL FE) O9 (xU _))
     have fo : ((aU ts r qs).take (j + 1)).foldl Sh.cr (x0, false) = Sh.cr (((aU ts r qs).take j).foldl Sh.cr (x0, false)) sp := by
      rw [To, xV, List.foldl_append]; rfl
     have om := fj j
     generalize ((aU ts r qs).take j).foldl Sh.cr (x0, false) = y at zC om fo ⊢
     have ly : (iv y.1).length <= 1000 := by unfold iv; rw [SW]; exact om.len
     refine ⟨_, rfl, a, _, _, _, rfl, rfl, aX.of ha, at2, _, rfl, kd, c, sp.2.2, iv y.1, rfl, rfl, hc, zC.ds, _, rfl, ?_⟩
     rw [du, Ut]
     refine bC (fun h1 => ?_) (fun h1 => ?_)
     ·have cX : (Sh.lk y.1 sp.2.2).isSome = true := h1
      obtain ⟨v, hv⟩ := UL.mp cX
      refine ⟨_, rfl, a, _, _, _, rfl, rfl, aX.of ha, lY, _, rfl, _, rfl, a, _, _, _, rfl, rfl, aX.of ha, at2, kd, c, sp.2.2, iv y.1, .int v, rfl, rfl, hc, zC.ds, by rw [du, hv]; rfl, _, _, rfl, rfl, ?_⟩
      have go : Sh.qZ (Sh.lk y.1 sp.1) (sp.2.1 + v) = true -> ((aU ts r qs).take (j + 1)).foldl Sh.cr (x0, false) = (Sh.put y.1 sp.1 (sp.2.1 + v), true) := fun hb => by
       rw [fo]; unfold Sh.cr; rw [hv]; dsimp only; rw [if_pos hb]
      have no : Sh.qZ (Sh.lk y.1 sp.1) (sp.2.1 + v) = false -> ((aU ts r qs).take (j + 1)).foldl Sh.cr (x0, false) = y := fun hb => by
       rw [fo]; unfold Sh.cr; rw [hv]; dsimp only; rw [if_neg (by rw [hb]; simp)]
      refine ⟨_, rfl, a, _, _, _, rfl, rfl, aX.of ha, kE, _, rfl, kd, b, sp.1, iv y.1, rfl, rfl, hb, zC.ds, _, rfl, ?_⟩
      rw [du, Ut]
      cases Kd : Sh.lk y.1 sp.1 with
      | none =>
       have e := go (by rw [Kd]; rfl)
       refine ni (ni ?_)
       refine ⟨_, rfl, _, rfl, _, rfl, a, _, _, _, rfl, rfl, aX.of ha, kE, kd, b, sp.1, iv y.1, rfl, rfl, hb, zC, aJ (by omega), fun o' tq => ?_⟩
       rw [sW] at tq
       exact ⟨FE.upd, some (.ref a), some (.int (sp.2.1 + v)), by rw [e]; rfl, by rw [e]; exact tq⟩
      | some u =>
       refine dQ ?_
       refine ⟨_, rfl, _, rfl, _, rfl, a, _, _, _, rfl, rfl, aX.of ha, kE, kd, b, sp.1, iv y.1, .int u, rfl, rfl, hb, zC.ds, by rw [du, Kd]; rfl, _, _, rfl, rfl, _, rfl, ?_⟩
       refine bC (fun h2 => ?_) (fun h2 => ?_)
       ·have e := go (by rw [Kd]; exact h2)
        refine ⟨_, rfl, _, rfl, _, rfl, a, _, _, _, rfl, rfl, aX.of ha, kE, kd, b, sp.1, iv y.1, rfl, rfl, hb, zC, aJ (by omega), fun o' tq => ?_⟩
        rw [sW] at tq
        exact ⟨FE.upd, some (.ref a), some (.int (sp.2.1 + v)), by rw [e]; rfl, by rw [e]; exact tq⟩
       ·have e := no (by rw [Kd]; exact h2)
        exact ⟨FE, some (.ref a), some (.int (sp.2.1 + v)), by rw [e]; rfl, by rw [e]; exact zC⟩
     ·have cX : Sh.lk y.1 sp.2.2 = none := by
       cases q : Sh.lk y.1 sp.2.2 with
       | none => rfl
       | some v => rw [q] at h1; cases h1
      have e : ((aU ts r qs).take (j + 1)).foldl Sh.cr (x0, false) = y := by rw [fo]; unfold Sh.cr; rw [cX]
      exact ⟨FE, some (.ref a), Gw, by rw [e]; rfl, by rw [e]; exact zC⟩
    ·rintro σ' H7 ⟨FE, NB, Gw, rfl, zC⟩
     rw [Ta (by omega)] at zC ⊢
     exact ⟨FE, _, _, rfl, zC⟩
  ·exact dQ ⟨_, rfl, fin H6 x9 bt kn dw⟩
 refine ⟨_, (ah (sn 3 aQ.nd (ay aC (by rfl) T.c8 TL (aa (pv 0) af)))
   (ah (sn 4 aQ.nd (gL af))
   (ah (cY TR rfl (bL (cl eH cS hr aD (aa (pv 2) (aa (pv 3) af)))) (gn 5 aQ.nd)
   (aj (cY TR rfl (bL (cl sI se hr aD (aa (pv 0) (aa (pv 1) (aa (pv 2) (aa (pv 5) af)))))) (gn 6 aQ.nd)
   (aj (dn (qS UA U7 U6 fL (pv 4) (aa (bW (aa (pv 5) (aa (cl oT jg hr aD (aa (pv 0) (aa (pv 6) af))) (aa (cl gN gO hr aD (aa (pv 5) (aa (pv 6) (aa (pv 3) af)))) af)))) af)))))))
   hC))), ?_⟩
 obtain ⟨vt, ht, dt⟩ := id hT
 have lt := aG dt
 refine ⟨_, rfl, t, _, rfl, .inl (a6.of ht), ?_⟩
 rw [lt]
 refine ⟨aK (by show 0 <= _; decide), fun ls EY => ?_⟩
 have s1 : am H (L2.upd H ls (.lst [])) := ag EY
 have e1 : (L2.upd H ls (.lst [])) ls = some (.lst []) := ae
 generalize L2.upd H ls (.lst []) = H1 at s1 e1 ⊢
 refine ⟨_, rfl, _, rfl, q, qs, ts.length, rfl, hQ.mono s1, h6, fun lg H2 Co s2 hG => ?_⟩
 obtain ⟨vg, uL, dg⟩ := hG
 have EC := aG dg
 have AD := jd qs h6
 have IC := s1.trans s2
 have e2 : H2 ls = some (.lst []) := s2 _ _ e1
 have Hy : lg ≠ ls := fun z => by rw [z, e1] at Co; cases Co
 refine ⟨lg, rfl, ⟨_, a6.of uL⟩, dN (K := K) (a := lg) (xs := vg) (fun i σ H' => am H H' /\ mh H2 ls H' /\ (∃ v5 v6, σ = [some (.ref t), some (.int r), some (.ref q), some (.int ts.length), some (.ref ls), v5, v6, none, none, none, none]) /\ ∃ xs, H' ls = some (.lst xs) /\ bF H' ((((bB qs ts.length).take i).flatMap (dA ts r qs)).map EH) xs)
  ⟨IC, mh.of (am.refl _), ⟨_, _, rfl⟩, [], e2, .nil⟩ (fun i σ H' _ ⟨_, bt, _⟩ => a6.of (bt _ _ Hy uL)) ?_ ?_⟩
 ·rintro i x σ H3 hi ⟨s3, bt, ⟨v5, v6, rfl⟩, xs, hx, dx⟩
  obtain ⟨st, oq, dst⟩ := bE dg hi
  obtain ⟨a, rfl, Em⟩ := dY (pG (bt.eL e2) dst (gD _))
  obtain ⟨hS, hG⟩ := fF (Tx oq)
  have lst := sP hS h6
  have cl := (jG (r := r) (qs := qs) hS h6).1
  have lx : xs.length <= 128 * 1000 := by
   rw [aG dx]
   refine S8 (uB (m := 1000) fun s hs => ?_) (Nat.mul_le_mul_right _ ?_)
   ·unfold dA
    rw [SW]
    exact (jG (fF (Uy hs)).1 h6).1
   ·rw [Tl]; omega
  refine ⟨_, rfl, _, rfl, _, rfl, _, rfl, t, q, a, ts, r, qs, st, rfl, hT.mono s3, hQ.mono s3, Em, hS, h6, fun lc H4 Ny s4 hL => ?_⟩
  obtain ⟨vl, Jh, dl⟩ := hL
  have lvl := aG dl
  have Kg := s4 _ _ hx
  have O1 : lc ≠ ls := fun z => by rw [z, hx] at Ny; cases Ny
  refine ⟨lc, rfl, ⟨_, a6.of Jh⟩, dN (K := K) (a := lc) (xs := vl) (fun j σ H' => am H H' /\ mh H4 ls H' /\ (∃ v6, σ = [some (.ref t), some (.int r), some (.ref q), some (.int ts.length), some (.ref ls), some (.ref a), v6, none, none, none, none]) /\ ∃ zs, H' ls = some (.lst (xs ++ zs)) /\ bF H' ((((bB qs ts.length).take i).flatMap (dA ts r qs)).map EH) xs /\ bF H' (((dA ts r qs st).take j).map EH) zs)
   ⟨s3.trans s4, mh.of (am.refl _), ⟨_, rfl⟩, [], by rw [VG]; exact Kg, dx.mono s4, .nil⟩ (fun j σ H' _ ⟨_, Hf, _⟩ => a6.of (Hf _ _ O1 Jh)) ?_ ?_⟩
  ·rintro j y σ H5 hj ⟨s5, GW, ⟨QT, rfl⟩, zs, hz, GS, dz⟩
   have Iv := (Tk.mp hj).1
   obtain ⟨c, hc, dc⟩ := bE dl hj
   obtain ⟨o, rfl, ho⟩ := fZ (pG (GW.eL Kg) dc (fi _))
   have BA : cI H5 a st := by
    obtain ⟨b0, h1, h2⟩ := Em.mono s4
    exact ⟨b0, GW.eL Kg _ _ h1, GW.eL Kg _ _ h2⟩
   obtain ⟨sA, Bs, cg⟩ := jB (Tx hc)
   have Mc : c.length <= 6 := S8 sA.length_le (S8 (fg hS) h6)
   have lz : zs.length <= 1000 := by
    rw [aG dz, Tl]
    unfold dA
    rw [SW]; omega
   refine ⟨_, rfl, .inl ⟨rfl, _, a6.of hz⟩, _, rfl, _, rfl, _, rfl, t, o, ts, c, rfl, hT.mono s5, ho, by omega, Bs, (fun t ht => lI hS (sA.subset ht)), fun H6 s6 => ?_⟩
   refine ⟨_, rfl, _, rfl, _, rfl, a, o, st, c, ts.length, rfl, BA.mono s6, s6 _ _ ho, by omega, h6, fun l2 H7 s7 h7 => ?_⟩
   refine ⟨aK (by show 3 <= _; decide), fun o3 Ie => ?_⟩
   have s8 : am H7 (L2.upd H7 o3 (.tup [.ref a, .int (a9 ts c), .ref l2])) := ag Ie
   have Fv := s6.trans (s7.trans s8)
   have dy : DV (L2.upd H7 o3 (.tup [.ref a, .int (a9 ts c), .ref l2])) (EH (st, a9 ts c, behind ts.length st c)) (.ref o3) := Jp ae (BA.mono Fv) (h7.mono s8)
   generalize L2.upd H7 o3 (.tup [.ref a, .int (a9 ts c), .ref l2]) = H8 at Fv dy ⊢
   have Kh := Fv _ _ hz
   refine ⟨ls, xs ++ zs, _, rfl, rfl, Kh, aJ (by rw [Tq]; omega), ?_⟩
   refine ⟨ao (s5.trans Fv) EY, (GW.next Fv).upd, ⟨_, rfl⟩, zs ++ [.ref o3], by rw [<- Tf]; exact ae, bi Kh (GS.mono Fv) (aH xU _), ?_⟩
   have ew : (dA ts r qs st)[j]? = some (st, a9 ts c, behind ts.length st c) := by unfold dA; rw [Tc, hc]; rfl
   rw [To, ew, S4]
   exact (bi Kh (dz.mono Fv) (aH xU _)).snoc (c7 Kh dy (xU _))
  ·rintro σ H5 ⟨s5, GW, ⟨QT, rfl⟩, zs, hz, GS, dz⟩
   rw [Ta (by unfold dA; rw [SW]; omega)] at dz
   refine ⟨s5, ?_, ⟨_, _, rfl⟩, xs ++ zs, hz, ?_⟩
   ·exact fun b u n e => GW b u n (s4 _ _ (bt b u n e))
   ·rw [To, oq, List.flatMap_append, S4]
    have e : (some st).toList.flatMap (dA ts r qs) = dA ts r qs st := by simp
    rw [e]
    exact GS.append dz
 ·rintro σ H3 ⟨s3, bt, ⟨v5, v6, rfl⟩, xs, hx, dx⟩
  rw [Ta (by omega)] at dx
  exact rC H3 ls xs v5 v6 s3 hx dx
end
structure All (K : VN) (mg : Str -> Option Value) (C : Addr) (fs : Nat -> Addr) (ds : Nat -> FuncData) : Prop where
 r9 : Fn K mg "check_things" cJ (fs 21) (ds 21) ["things"]
 ww : Fn K mg "check_room" dM (fs 22) (ds 22) ["room"]
 CI : Fn K mg "is_pair" fM (fs 23) (ds 23) ["one", "other", "count"]
 yB : Fn K mg "is_keeper" dI (fs 24) (ds 24) ["keeper", "one", "other", "count"]
 oB : Fn K mg "check_quarrels" ci (fs 25) (ds 25) ["quarrels", "count"]
 init : Mt K "__init__" "Night.__init__" cO (fs 26) (ds 26) ["self", "things", "room", "quarrels"]
 Ct : Fn K mg "_law_cell_at" bS (fs 28) (ds 28) ["script", "k"]
 whole : Fn K mg "_law_whole" cP (fs 29) (ds 29) ["found"]
 BZ : Fn K mg "_law_quarrel" ce (fs 30) (ds 30) ["cell", "many"]
 yX : Fn K mg "_law_quarrels" cy (fs 31) (ds 31) ["script", "start", "many"]
 Cq : Fn K mg "_law_things" de (fs 32) (ds 32) ["script", "start", "many"]
 night : Fn K mg "_law_night" cU (fs 33) (ds 33) ["script", "most"]
 group : Fn K mg "_law_group" dU (fs 34) (ds 34) ["found", "due"]
 AW : Fn K mg "_law_minutes" cK (fs 35) (ds 35) ["things", "crew"]
 j7 : Fn K mg "_law_standings" cp (fs 36) (ds 36) ["quarrels", "many"]
 tM : Fn K mg "_law_heights" cm (fs 37) (ds 37) ["things", "room", "quarrels"]
 pair : Fn K mg "_law_pair_right" cC (fs 38) (ds 38) ["pair", "standing", "height"]
 xr : Fn K mg "heights" jK (fs 39) (ds 39) ["night"]
 lk : Lk K mg C fs ds
 lw : Lw K mg (fun i => fs (i + 40)) (fun i => ds (i + 40))
 lp : Lp K mg C fs ds
 C5 : Mk K C (fs 26)
section
variable {P : Program} {w : World} {K : VN} {mg : Str -> Option Value} {base : Heap} {C : Addr} {Z : Ad} {fs : Nat -> Addr} {ds : Nat -> FuncData}
def wR : Sp := fun vs H Q _ => ∃ (a b : Addr) (st : bc) (o : Option Int), vs = [.ref a, .ref b, oV o] /\ DV H (Eg (st, o)) (.ref a) /\ cI H b st /\ st.1.length <= 1000 /\ ∀ H', am H H' -> Q (.bl true) H'
theorem kB : au ["pair", "standing", "height"] ["pair", "standing", "height"] (ak cC) := fA
theorem Cz {f f1 f2 : Addr} {fd fz mD : FuncData} (F : Fn K mg "_law_pair_right" cC f fd ["pair", "standing", "height"]) (T : Txt K mg C Z) (cv : Fn K mg "_law_whole" cP f1 fz ["found"]) (kT : Fn K mg "_law_group" dU f2 mD ["found", "due"]) :
  av P w K mg base bp 3 f fd ["pair", "standing", "height"] wR := by
 have fE : av P w K mg base bp 1 f1 fz ["found"] pM := tF cv T
 have rX : av P w K mg base bp 2 f2 mD ["found", "due"] qU := zp kT T cv
 refine F.fn.ok kB (fun vs H Q E h => ?_) (fun b8 A outer s H vs Q E hr h => ?_)
 ·obtain ⟨a, b, st, o, rfl, _⟩ := h
  rfl
 ·obtain ⟨a, b, st, o, rfl, dv, hb, hl, k⟩ := h
  have hu := hr.units
  obtain ⟨_, c, e, ha, hc⟩ := BK dv
  cases e
  have ha : H a = some (.tup [.ref c, oV o]) := ha
  obtain ⟨g1, GQ, Ru⟩ := hc
  obtain ⟨g2, xg, Kl⟩ := hb
  refine ⟨_, (ah (bM (PW.pt (pw_or (eI (cF (ay dF (by rfl) T.cM VF (aa (pv 0) (aa (jv (v := .ty "tuple") (by rfl) T.cN UW rfl) af))))) (pw_or (aE lP (ay aC (by rfl) T.c8 TL (aa (pv 0) af)) ai (a7 _)) (pw_or (eI (cF (ay dF (by rfl) T.cM VF (aa (aF aI (pv 0) ai (fun _ _ => rfl)) (aa (jv (v := .ty "tuple") (by rfl) T.cN UW rfl) af))))) (pw_or1 (aE lP (ay aC (by rfl) T.c8 TL (aa (aF aI (pv 0) ai (fun _ _ => rfl)) af)) ai (a7 _)))))))
   (aj (az gW))
   aP)
   (ah (bM (PW.pt (pw_or (eI (cF (cl rX kT hr aD (aa (aF aI (aF aI (pv 0) ai (fun _ _ => rfl)) ai (fun _ _ => rfl)) (aa (aF aI (pv 1) ai (fun _ _ => rfl)) af))))) (pw_or (eI (cF (cl fE cv hr aD (aa (aF aI (aF aI (pv 0) ai (fun _ _ => rfl)) ai (fun _ _ => rfl)) af)))) (pw_or1 (aE lP (aF aI (aF aI (pv 0) ai (fun _ _ => rfl)) ai (fun _ _ => rfl)) (aF aI (pv 1) ai (fun _ _ => rfl)) (a7 _))))))
   (aj (az gW))
   aP)
   (ah (bM (aE BE (pv 2) vV (a7 _))
   (aj (az (fB BE (aF aI (pv 0) ai (fun _ _ => rfl)) vV (a7 _))))
   aP)
   (aj (az (eN (cl fE cv hr aD (aa (aF aI (pv 0) ai (fun _ _ => rfl)) af)) (ii (fB jX (aF aI (pv 0) ai (fun _ _ => rfl)) (pv 2) (a7 _))))))))), ?_⟩
  refine ⟨_, rfl, _, _, _, _, rfl, .tup ha, iX _ _, _, rfl, dQ ?_⟩
  refine ⟨_, rfl, a, _, rfl, .inr (aX.of ha), rfl, _, rfl, dQ ?_⟩
  refine ⟨_, rfl, a, _, _, _, rfl, rfl, aX.of ha, kE, _, _, _, _, rfl, .tup GQ, iX _ _, _, rfl, dQ ?_⟩
  refine ⟨_, rfl, a, _, _, _, rfl, rfl, aX.of ha, kE, c, _, rfl, .inr (aX.of GQ), rfl, _, rfl, dQ ?_⟩
  refine ⟨_, rfl, a, _, _, _, rfl, rfl, aX.of ha, kE, c, _, _, _, rfl, rfl, aX.of GQ, kE, _, rfl, b, _, _, _, rfl, rfl, aX.of xg, kE, g1, g2, st.1, rfl, Ru, Kl, hl, fun H1 s1 => ⟨_, rfl, dQ ?_⟩⟩
  refine ⟨_, rfl, a, _, _, _, rfl, rfl, aX.of (s1 _ _ ha), kE, c, _, _, _, rfl, rfl, aX.of (s1 _ _ GQ), lY, _, rfl, _, rfl, dQ ?_⟩
  refine ⟨_, rfl, a, _, _, _, rfl, rfl, aX.of (s1 _ _ ha), kE, c, _, _, _, rfl, rfl, aX.of (s1 _ _ GQ), lY, _, rfl, b, _, _, _, rfl, rfl, aX.of (s1 _ _ xg), lY, rfl, _, rfl, D7 rfl ?_⟩
  have k1 := k H1 s1
  cases o with
  | none =>
   refine ⟨_, rfl, rfl, _, rfl, ni ?_⟩
   exact ⟨_, rfl, a, _, _, _, rfl, rfl, aX.of (s1 _ _ ha), lY, rfl, k1⟩
  | some i =>
   refine ⟨_, rfl, rfl, _, rfl, dQ ?_⟩
   refine ⟨_, rfl, a, _, _, _, rfl, rfl, aX.of (s1 _ _ ha), lY, i, rfl, _, rfl, ni ?_⟩
   refine ⟨_, rfl, a, _, _, _, rfl, rfl, aX.of (s1 _ _ ha), lY, _, rfl, rfl, ?_⟩
   rw [S9 rfl]
   exact k1
def wo (K : VN) : Sp := fun vs H Q _ => ∃ (a : Addr) (ns : List Int), vs = [.ref a] /\ a6 K H a (ns.map V.int) /\ ns.length <= 63 /\ ∀ H', Q (.bl true) H'
theorem gP : au ["script", "night", "made", "known", "some", "turn", "found", "k", "height"] ["script"] (ak tT) := fA
theorem EV {f : Addr} {fd : FuncData} (F : Fn K mg "law" tT f fd ["script"]) (T : Txt K mg C Z) (L : All K mg C fs ds) : av P w K mg base bp 8 f fd ["script"] (wo K) := by
 have rF := L.night
 have oI := L.tM
 have cS := L.j7
 have la := L.pair
 have yF := L.xr
 have mB := L.init
 have Dr := L.C5
 have sT : av P w K mg base bp 3 _ _ ["script", "most"] (tD K) := Bl L.night T L.Ct L.BZ L.yX L.Cq
 have oN : av P w K mg base bp 4 _ _ ["things", "room", "quarrels"] (wS P w) := DM L.tM L.lw T L.j7 L.AW
 have eH : av P w K mg base bp 3 _ _ ["quarrels", "many"] wx := zN L.j7 L.lw T
 have lN : av P w K mg base bp 3 _ _ ["pair", "standing", "height"] wR := Cz L.pair T L.whole L.group
 have yZ : av P w K mg base bp 7 _ _ ["night"] (pb C) := wA L.xr L.lk L.lp T
 have mq : av P w K mg base bp 4 _ _ ["self", "things", "room", "quarrels"] (xj C) := DE L.init T L.lk.uv L.CI L.yB L.r9 L.ww L.oB
 refine F.fn.ok gP (fun vs H Q E h => ?_) (fun b8 A outer s H vs Q E hr h => ?_)
 ·obtain ⟨a, ns, rfl, _⟩ := h
  rfl
 obtain ⟨a, ns, rfl, hS, hlen, k⟩ := h
 have hu := hr.units
 obtain ⟨tC, hC, rC⟩ : ∃ t, rL (bX P w K mg base ["script", "night", "made", "known", "some", "turn", "found", "k", "height"] "law" tT f b8 A outer s H E) ((b7 tT).drop 4) t /\ ∀ (H1 : Hp) (p pm kd ls : Addr) (ts : List Th) (r : Int) (qs : List Qu) (g : Sh.Mp bc), C0 ts -> bb C H1 pm ts r qs -> DW P w H1 kd (iv g) -> Kn ts r qs g -> LstAt jz H1 ls (bB qs ts.length) ->
   t (bD Q) [some (.ref a), some (.ref p), some (.ref pm), some (.ref kd), some (.ref ls), none, none, none, none] H1 := by
  refine ⟨_, (ah (cY TR rfl (cA (by rfl) T.ej (aa ai af)) (gn 5 gP.nd)
   (ah (sn 6 gP.nd (cl yZ yF hr aD (aa (pv 2) af)))
   (ah (bM (PW.pt (pw_or (eI (cF (ay dF (by rfl) T.cM VF (aa (pv 6) (aa (jv (v := .ty "list") (by rfl) T.rR boot_list rfl) af))))) (pw_or1 (aE lP (ay aC (by rfl) T.c8 TL (aa (pv 6) af)) (ay aC (by rfl) T.c8 TL (aa (pv 4) af)) (a7 _)))))
   (aj (az gW))
   aP)
   (ah (cY TR rfl (cA (by rfl) T.ej (aa (ay aC (by rfl) T.c8 TL (aa (pv 4) af)) af)) (gn 7 gP.nd)
   (ah (sn 8 gP.nd vV)
   (ah (bM (aE (IY (P := P) (w := w) rfl rfl hu) (aF eX (pv 4) (pv 7) (fun _ _ => rfl)) (pv 3) (by with_unfolding_all rfl))
   (aj (sn 8 gP.nd (aF (HK (P := P) (w := w) rfl rfl hu) (pv 3) (aF eX (pv 4) (pv 7) (fun _ _ => rfl)) (fun _ _ => rfl))))
   aP)
   (aj (bM (eI (cF (cl lN la hr aD (aa (aF eX (pv 6) (pv 7) (fun _ _ => rfl)) (aa (aF eX (pv 4) (pv 7) (fun _ _ => rfl)) (aa (pv 8) af))))))
   (aj (az gW))
   aP)))))
   (aj (dn (Fb UA PySem.F.slot_list_clear PySem.F.type_list_clear Bo (pv 6))))))))
   (aj (az gW))), fun H1 p pm kd ls ts r qs g ok NA dw kn EY => ?_⟩
  have h6 := ok.l6
  obtain ⟨vs, L5, m5⟩ := EY
  have NM := aG m5
  have AD := jd qs h6
  refine ⟨2, rfl, by decide, by decide, jF (n := (2 : Int).toNat) (fun i σ H' => am H1 H' /\ ∃ v5 v6 v7 v8, σ = [some (.ref a), some (.ref p), some (.ref pm), some (.ref kd), some (.ref ls), v5, v6, v7, v8]) ⟨am.refl _, _, _, _, _, rfl⟩ ?_ ?_⟩
  ·rintro i σ H2 hi ⟨s2, v5, v6, v7, v8, rfl⟩
   refine ⟨_, rfl, pm, ts, r, qs, rfl, NA.mono s2, ok, fun l H3 m hl s3 fw hL => ?_⟩
   have vj := s2.trans s3
   obtain ⟨vf, Jz, MK⟩ := hL
   have PV := aG MK
   have lh : (uk ts qs m).length = (bB qs ts.length).length := by unfold uk; rw [SW]
   refine ⟨_, rfl, _, _, _, _, rfl, .lst Jz, iX _ _, _, rfl, dQ ?_⟩
   refine ⟨_, rfl, l, _, rfl, .inl (a6.of Jz), _, rfl, ls, _, rfl, .inl (a6.of (vj _ _ L5)), rfl, _, rfl, ?_⟩
   rw [PV, NM, lh]
   refine D7 rfl ?_
   refine ⟨_, rfl, ls, _, rfl, .inl (a6.of (vj _ _ L5)), _, rfl, by omega, by omega, ?_⟩
   rw [Ue, NM]
   refine jF (n := (bB qs ts.length).length) (fun j σ H' => am H3 H' /\ ∃ v7 v8, σ = [some (.ref a), some (.ref p), some (.ref pm), some (.ref kd), some (.ref ls), some (.int (0 + (i : Int))), some (.ref l), v7, v8]) ⟨am.refl _, _, _, rfl⟩ ?_ ?_
   ·rintro j σ H4 hj ⟨s4, JX, J1, rfl⟩
    have e1 : ((0 : Int) + (j : Int)) = (j : Int) := by omega
    have jl : j < (bB qs ts.length).length := hj
    have xH := vj.trans s4
    have K5 := xH _ _ L5
    have Qs := m5.mono xH
    obtain ⟨x, hx, dx⟩ := Qs.get (i := j) (d := jz (bB qs ts.length)[j]) (by rw [Tc, S1 jl]; rfl)
    obtain ⟨y, hy, dy⟩ := (MK.mono s4).get (i := j) (d := Eg ((bB qs ts.length)[j], Sh.lk m (bB qs ts.length)[j])) (by unfold uk; rw [Tc, Tc, S1 jl]; rfl)
    have hm : (bB qs ts.length)[j] ∈ bB qs ts.length := UK jl
    generalize (bB qs ts.length)[j] = st at dx dy hm
    obtain ⟨b, rfl, hb⟩ := dY dx
    obtain ⟨c, c2, rfl, hc, Cw⟩ := BK dy
    have lst := sP (fF hm).1 h6
    have ek := EW fw kn hm
    rw [ek] at dy
    refine ⟨_, rfl, _, rfl, ls, _, _, _, rfl, rfl, a6.of K5, (by rw [e1]; exact eV hx), _, rfl, kd, b, st, iv g, rfl, rfl, hb, (dw.mono xH).ds, _, rfl, ?_⟩
    rw [du, Ut]
    refine qB (fun σ H' => H' = H4 /\ σ = [some (.ref a), some (.ref p), some (.ref pm), some (.ref kd), some (.ref ls), some (.int (0 + (i : Int))), some (.ref l), some (.int (0 + (j : Int))), some (oV (Sh.lk g st))]) ?_ (fun fin => ?_)
    ·rintro σ H5 ⟨rfl, rfl⟩
     refine ⟨_, rfl, _, rfl, l, _, _, _, rfl, rfl, a6.of (s4 _ _ Jz), (by rw [e1]; exact eV hy), _, rfl, _, rfl, ls, _, _, _, rfl, rfl, a6.of K5, (by rw [e1]; exact eV hx), _, rfl, c, b, st, Sh.lk g st, rfl, dy, hb, by omega, fun H6 s6 => ⟨_, rfl, dQ ?_⟩⟩
     exact ⟨s4.trans s6, _, _, rfl⟩
    ·refine bC (fun h1 => ?_) (fun h1 => ?_)
     ·have cX : (Sh.lk g st).isSome = true := h1
      obtain ⟨v, hv⟩ := UL.mp cX
      refine ⟨_, rfl, _, rfl, _, rfl, ls, _, _, _, rfl, rfl, a6.of K5, (by rw [e1]; exact eV hx), kd, b, st, iv g, .int v, rfl, rfl, hb, (dw.mono xH).ds, by rw [du, hv]; rfl, ?_⟩
      exact fin _ _ ⟨rfl, by rw [hv]; rfl⟩
     ·have cX : Sh.lk g st = none := by
       cases q : Sh.lk g st with
       | none => rfl
       | some v => rw [q] at h1; cases h1
      exact fin _ _ ⟨rfl, by rw [cX]; rfl⟩
   ·rintro σ H4 ⟨s4, JX, J1, rfl⟩
    have Np := s4 _ _ Jz
    refine ⟨_, rfl, .inl ⟨rfl, _, a6.of Np⟩, l, _, rfl, rfl, Np, ?_⟩
    exact ⟨ao (vj.trans s4) (s2.free hl), _, _, _, _, rfl⟩
  ·rintro σ H2 ⟨s2, v5, v6, v7, v8, rfl⟩
   exact k H2
 refine ⟨_, (ah (sn 1 gP.nd (cl sT rF hr aD (aa (pv 0) (aa ai af))))
   (ah (sn 2 gP.nd (CA Dr mq (hr.mono (by decide)) (by rfl) T.Dx mB.b .nil aD (aa (bu iC (by rfl) T.rR boot_list (aa (aF aI (pv 1) ai (fun _ _ => rfl)) af)) (aa (aF aI (pv 1) ai (fun _ _ => rfl)) (aa (bu iC (by rfl) T.rR boot_list (aa (aF aI (pv 1) ai (fun _ _ => rfl)) af)) af)))))
   (ah (sn 3 gP.nd (cl oN oI hr aD (aa (aF aI (pv 1) ai (fun _ _ => rfl)) (aa (aF aI (pv 1) ai (fun _ _ => rfl)) (aa (aF aI (pv 1) ai (fun _ _ => rfl)) af)))))
   (ah (sn 4 gP.nd (cl eH cS hr aD (aa (aF aI (pv 1) ai (fun _ _ => rfl)) (aa (ay aC (by rfl) T.c8 TL (aa (aF aI (pv 1) ai (fun _ _ => rfl)) af)) af))))
   hC)))), ?_⟩
 refine ⟨_, rfl, a, ns, 5, rfl, hS, by decide, by decide, fun ts r qs p H1 ND q4 s1 => ?_⟩
 have l6 := ND.t.l6
 obtain ⟨ap, bq, hp, Nf, Lv⟩ := id ND.ex
 obtain ⟨vt, ht, dt⟩ := id Nf
 obtain ⟨vq, hq, dq⟩ := id Lv
 have ct := aG dt
 refine ⟨_, rfl, p, _, _, _, rfl, rfl, aX.of hp, kE, ap, _, rfl, .inl (a6.of ht), fun l0 vk => ?_⟩
 have s2 : am H1 (L2.upd H1 l0 (.lst vt)) := ag vk
 have e0 : (L2.upd H1 l0 (.lst vt)) l0 = some (.lst vt) := ae
 generalize L2.upd H1 l0 (.lst vt) = H2 at s2 e0 ⊢
 refine ⟨_, rfl, p, _, _, _, rfl, rfl, aX.of (s2 _ _ hp), lY, _, rfl, p, _, _, _, rfl, rfl, aX.of (s2 _ _ hp), at2, bq, _, rfl, .inl (a6.of (s2 _ _ hq)), fun l1 zA => ?_⟩
 have s3 : am H2 (L2.upd H2 l1 (.lst vq)) := ag zA
 have e1 : (L2.upd H2 l1 (.lst vq)) l1 = some (.lst vq) := ae
 generalize L2.upd H2 l1 (.lst vq) = H3 at s3 e1 ⊢
 have vj := s2.trans s3
 refine fun pm dx nx RI SF => ?_
 have JI : am H3 (L2.upd (L2.upd H3 dx (.own pm)) pm (.ins C dx [])) := ao (ag RI) nx
 have st := vj.trans JI
 refine ⟨pm, dx, l0, l1, ts, r, qs, rfl, ae, ⟨vt, JI _ _ (s3 _ _ e0), dt.mono st⟩, ND.t, ND.r1, ND.r3, ⟨vq, JI _ _ e1, dq.mono st⟩, by omega, ND.q, fun H4 NA kp => ⟨rfl, ?_⟩⟩
 have s4 : am H3 H4 := fun b o e => kp b o (JI b o e) (ax e nx)
 have xH := vj.trans s4
 refine ⟨_, rfl, p, _, _, _, rfl, rfl, aX.of (xH _ _ hp), kE, _, rfl, p, _, _, _, rfl, rfl, aX.of (xH _ _ hp), lY, _, rfl, p, _, _, _, rfl, rfl, aX.of (xH _ _ hp), at2, ap, bq, ts, r, qs, rfl, Nf.mono xH, Lv.mono xH, ND.t, fun kd H5 g G6 s5 kn dw => ?_⟩
 have wG := xH.trans s5
 refine ⟨_, rfl, p, _, _, _, rfl, rfl, aX.of (wG _ _ hp), at2, _, rfl, p, _, _, _, rfl, rfl, aX.of (wG _ _ hp), kE, ap, _, rfl, .inl (a6.of (wG _ _ ht)), bq, qs, ts.length, by rw [ct]; rfl, Lv.mono wG, l6, fun ls H6 EY s6 hL => ?_⟩
 exact rC H6 p pm kd ls ts r qs g ND.t ((NA.mono s5).mono s6) (dw.mono s6) kn hL
end
open PySem L2
theorem GA {K : VN} {D : Addr} {v : Value} (h : PySem.W.mroIn K D v = some true) : (PySem.W.clsIn K D).isSome = true := by
 unfold PySem.W.mroIn at h
 cases e : PySem.W.clsIn K D with
 | none => rw [e] at h; cases h
 | some c => rfl
theorem na {K : VN} {C : Addr} {x : Str} (a : PySem.W.findIn K (.ref C) x = some none := by k_is) : gU K C x := a
section
variable {K : VN} {h : Heap} {mg : Str -> Option Value} (X : K.In h) (G : h.Ns mainGlobals mg)
include X G
abbrev Mx {E : Addr} (_ : mg "FerryError" = some (.ref E)) : Addr := E
theorem nn {x : Str} (a : PySem.W.nsIn K mainGlobals x = some none := by k_is) : mg x = none := PySem.W.mg_none_of X G a
theorem gl (x : Str) {D : Addr} (a : PySem.W.nsIn K mainGlobals x = some (some (.ref D)) := by k_is) : mg x = some (.ref D) := VB X G a
theorem BI (x : Str) {D : Addr} (a : PySem.W.nsIn K mainGlobals x = some (some (.ref D)) := by k_is) : ∃ D, mg x = some (.ref D) := ⟨D, VB X G a⟩
theorem uo (x : Str) (i : Int) {k : Tok} (a : PySem.W.nsIn K mainGlobals x = some (some (.int i k)) := by k_is) : ∃ k, mg x = some (.int i k) := ⟨k, VB X G a⟩
theorem Jo (x : Str) {D : Addr} {d : Option Addr} {t0 t1 : Tok} {n : Nat} {sl : Array (Option Value)} (a : PySem.W.nsIn K mainGlobals x = some (some (.ref D)) := by k_is) (l : K.lookup D = some ⟨.type "tuple", d, .seq #[.int 0 t0, .int 1 t1] n, sl⟩ := by k_is) : ∃ D, mg x = some (.ref D) /\ ∀ H, aX K H D [.int 0, .int 1] :=
 ⟨D, VB X G a, fun H => .inr ⟨_, _, _, l, rfl, rfl, by show 2 <= sizeLine; decide, .cons ⟨_, rfl⟩ (.cons ⟨_, rfl⟩ .nil)⟩⟩
theorem aZ (x : Str) (st : Stmt) (ps : List Str) {f : Addr} {oc : Value} {od an : Option Addr} {sl : Array (Option Value)} {kV dc pm cd ct : Value} (a : PySem.W.nsIn K mainGlobals x = some (some (.ref f)) := by k_is)
  (l : K.lookup f = some ⟨oc, od, .func (PySem.W.fnOf x x (eR st) (b7 st) (ak st) .none kV dc pm an cd ct), sl⟩ := by k_is) (c : PySem.W.codeIn K cd x = true := by k_is) (k : PySem.W.keepIn K (.ref f) = true := by k_is)
  (b : ∀ (kV dc pm : Value) (an : Option Addr) (cd ct : Value) (us : List Value), us.length = ps.length -> bindArgs (PySem.W.fnOf x x (eR st) (b7 st) (ak st) .none kV dc pm an cd ct) ⟨us, []⟩ = pure (ps.zip us) := by
   intro _ _ _ _ _ _ us hl; rcases us with _ | ⟨_, _ | ⟨_, _ | ⟨_, _ | ⟨_, _ | ⟨_, _⟩⟩⟩⟩⟩ <;> first | rfl | cases hl) : ∃ f fd, Fn K mg x st f fd ps := ⟨f, _, l7 l c k, (l7 l c k).binds b, VB X G a⟩
omit G in
theorem rf {C : Addr} (_ : mg "Night" = some (.ref C)) (x y : Str) (st : Stmt) (ps : List Str) {f : Addr} {oc : Value} {od an : Option Addr} {sl : Array (Option Value)} {kV dc pm cd ct : Value} (a : PySem.W.findIn K (.ref C) x = some (some (.ref f)) := by k_is) (i : PySem.W.isFn K (.ref f) = true := by k_is)
  (l : K.lookup f = some ⟨oc, od, .func (PySem.W.fnOf x y (eR st) (b7 st) (ak st) .none kV dc pm an cd ct), sl⟩ := by k_is) (c : PySem.W.codeIn K cd y = true := by k_is) (k : PySem.W.keepIn K (.ref f) = true := by k_is)
  (b : ∀ (kV dc pm : Value) (an : Option Addr) (cd ct : Value) (us : List Value), us.length = ps.length -> bindArgs (PySem.W.fnOf x y (eR st) (b7 st) (ak st) .none kV dc pm an cd ct) ⟨us, []⟩ = pure (ps.zip us) := by
   intro _ _ _ _ _ _ us hl; rcases us with _ | ⟨_, _ | ⟨_, _ | ⟨_, _ | ⟨_, _ | ⟨_, _⟩⟩⟩⟩⟩ <;> first | rfl | cases hl) : ∃ f fd, Mt K x y st f fd ps /\ Meth K C x f := ⟨f, _, ⟨l7 l c k, (l7 l c k).binds b⟩, a, i, k⟩
theorem DU {E : Addr} (_ : mg "FerryError" = some (.ref E)) (x : Str) {D : Addr} (a : PySem.W.nsIn K mainGlobals x = some (some (.ref D)) := by k_is) (e1 : PySem.W.excIn K D JS "ValueError.__new__" = true := by k_exc) (e2 : PySem.W.findIn K (.ref D) "__getattribute__" = some (some (.builtin "BaseException.__getattribute__")) := by k_is)
  (e3 : PySem.W.findIn K (.ref D) "__getattr__" = some none := by k_is) (e4 : PySem.W.findIn K (.ref D) "__class__" = some (some (.builtin "object.__class__")) := by k_is) (gt : PySem.W.specialIn K (.builtin "object.__class__") "__get__" = some (some (.builtin "getset_descriptor.__get__")) := by k_is)
  (tk : PySem.W.takesIn K (.builtin "object.__class__") = some true := by k_is) (e5 : PySem.W.mroIn K D (.type "object") = some true := by k_is) (e6 : PySem.W.mroIn K D (.type "BaseException") = some true := by k_is) (e8 : PySem.W.exmOne K (.ref D) (.ref E) = some true := by kts_exm)
  (e9 : PySem.W.kitOne K (.ref D) (.type "ValueError") = some true := by kit_is) : ∃ D, ∀ Z : Ad, Z.j5 = E -> Ref K mg Z x D := ⟨D, fun Z hZ => ⟨VB X G a, e1, ⟨e2, e3, e4, gt, tk, e5, e6, GA e5⟩, by rw [hZ]; exact e8, e9⟩⟩
theorem HS (x : Str) (st : Stmt) {f : Addr} {oc : Value} {od an : Option Addr} {sl : Array (Option Value)} {kV dc pm cd ct : Value} (a : PySem.W.nsIn K mainGlobals x = some (some (.ref f)) := by k_is)
  (l : K.lookup f = some ⟨oc, od, .func (PySem.W.fnOf x x (eR st) (b7 st) (ak st) .none kV dc pm an cd ct), sl⟩ := by k_is) (c : PySem.W.codeIn K cd x = true := by k_is) (k : PySem.W.keepIn K (.ref f) = true := by k_is)
  (b : ∀ (kV dc pm : Value) (an : Option Addr) (cd ct : Value) (us : List Value), us.length = 1 -> bindArgs (PySem.W.fnOf x x (eR st) (b7 st) (ak st) .none kV dc pm an cd ct) ⟨us, []⟩ = pure ((["script"] : List Str).zip us) := by
   intro _ _ _ _ _ _ us hl; rcases us with _ | ⟨_, _ | ⟨_, _⟩⟩ <;> first | rfl | cases hl) : ∃ f fd, Fn K mg x st f fd ["script"] /\ ∀ (s : Shared) (v : Value), BindsTo s fd ⟨[v], []⟩ [("script", v)] := ⟨f, _, ⟨l7 l c k, (l7 l c k).binds b, VB X G a⟩, fun s v => .of_eq (b _ _ _ _ _ _ [v] rfl)⟩
end
theorem walk {l : PySem.W.OpenLaw} {q : Program} {loose : List Str} {XP : (Str -> Option Value) -> Heap -> Prop} {YP : World -> Heap -> Prop} {d : DefRec} {K : Params -> VN} (hn : l.most = some 63) (IP : d.params.defaults = [])
  (hY : ∀ (w : World) (h : Heap), YP w h -> (K w.params).In h)
  (F : ∀ (w : World) (mg : Str -> Option Value) (fa : Addr) (h : Heap), (K w.params).In h -> h.Ns mainGlobals mg -> mg d.name = some (.ref fa) ->
   ∃ fd : FuncData, (∀ (s : Shared) (u : Value), BindsTo s fd ⟨[u], []⟩ [("script", u)]) /\ ∀ base : Heap, (K w.params).In base -> base.Ns mainGlobals mg -> av l.prog w (K w.params) mg base bp 8 fa fd ["script"] (wo (K w.params))) :
  PySem.W.WalkO q loose XP YP l.row.toRowW d [] (fun f vs => PySem.call f vs) :=
 L2.CJ (n := 63) (k := 8) (x := "script") (CX := fun _ => bp) (sp := fun w => wo (K w.params)) hn (by decide) IP ⟨rfl, by decide, by decide⟩ hY F (fun _ _ a ns hl _ hS => ⟨a, ns, rfl, hS, hl, fun _ => rfl⟩) fun _ _ _ _ _ z => z
end FN
def PySem.W.Fast.tw12921501036920841027 : Unit := ()
def PySem.W.Fast.tw14838622665861955753 : Unit := ()
def PySem.W.Fast.tw453399844961706636 : Unit := ()
def PySem.W.Fast.tw11151012686402657228 : Unit := ()
def PySem.W.Fast.tw12898036465652137199 : Unit := ()
def PySem.W.Fast.tw18341120547682176531 : Unit := ()
def PySem.W.Fast.tw11157053667693020083 : Unit := ()
def PySem.W.Fast.tw17332710049362215188 : Unit := ()
def PySem.W.Fast.tw3145105393682262293 : Unit := ()
def PySem.W.Fast.tw7144483600504741813 : Unit := ()
def PySem.W.Fast.tw14307255907599159768 : Unit := ()
def PySem.W.Fast.tw14611590218089989017 : Unit := ()
def PySem.W.Fast.tw15871015433709193948 : Unit := ()
def PySem.W.Fast.tw13022778424944445821 : Unit := ()
def PySem.W.Fast.tw7613008644900269470 : Unit := ()
def PySem.W.Fast.tw17144364139236741918 : Unit := ()
def PySem.W.Fast.tw6349386152190211025 : Unit := ()
def PySem.W.Fast.tw9169449395597184761 : Unit := ()
def PySem.W.Fast.tw12692177609667723492 : Unit := ()
def PySem.W.Fast.tw16463907747823140279 : Unit := ()
def PySem.W.Fast.tw9430216136213492031 : Unit := ()
def PySem.W.Fast.tw18234566161691670128 : Unit := ()
def PySem.W.Fast.tw16419149077563926953 : Unit := ()
def PySem.W.Fast.tw12237923016105548637 : Unit := ()
def PySem.W.Fast.tw92381958102932331 : Unit := ()
def PySem.W.Fast.tw15913929574480719059 : Unit := ()
def PySem.W.Fast.tw1588643499690093757 : Unit := ()
def PySem.W.Fast.tw17482721175450488985 : Unit := ()
def PySem.W.Fast.tw2949901247982990142 : Unit := ()
def PySem.W.Fast.tw11617418669777898694 : Unit := ()
def PySem.W.Fast.tw13418168353266842133 : Unit := ()
def PySem.W.Fast.tw442752624244329029 : Unit := ()
def PySem.W.Fast.tw2629178529884069138 : Unit := ()
def PySem.W.Fast.tw7170924618115055591 : Unit := ()
def PySem.W.Fast.tw2889498676531406229 : Unit := ()
def PySem.W.Fast.tw3017417649411166894 : Unit := ()
def PySem.W.Fast.tw16933199159012410785 : Unit := ()
def PySem.W.Fast.tw4947416445823354984 : Unit := ()
def PySem.W.Fast.tw16097599660679468790 : Unit := ()
def PySem.W.Fast.tw13916144818601094133 : Unit := ()
def PySem.W.Fast.tw8877370023592389348 : Unit := ()
def PySem.W.Fast.tw11555812155684457851 : Unit := ()
def PySem.W.Fast.tw8175502640292331767 : Unit := ()
def PySem.W.Fast.tw5644136698498549526 : Unit := ()
def PySem.W.Fast.tw8227726369094484004 : Unit := ()
def PySem.W.Fast.tw7777553779872491235 : Unit := ()
def PySem.W.Fast.tw9744477749699222087 : Unit := ()
def PySem.W.Fast.tw18361465430119632143 : Unit := ()
def PySem.W.Fast.tw6077569750119759055 : Unit := ()
def PySem.W.Fast.tw17473991065080878332 : Unit := ()
def PySem.W.Fast.tw2334863247486365354 : Unit := ()
def PySem.W.Fast.tw10832244222938052589 : Unit := ()
def PySem.W.Fast.tw6399435978890795177 : Unit := ()
def PySem.W.Fast.tw16399086647689790118 : Unit := ()
def PySem.W.Fast.tw15075725921039157887 : Unit := ()
def PySem.W.Fast.tw7670559461572713619 : Unit := ()
def PySem.W.Fast.tw12931259860315144143 : Unit := ()
def PySem.W.Fast.tw11678048880739127671 : Unit := ()
def PySem.W.Fast.tw3303685283566384441 : Unit := ()
def PySem.W.Fast.tw14904497642010253845 : Unit := ()
def PySem.W.Fast.tw11034008278542545951 : Unit := ()
def PySem.W.Fast.tw5626503633400375622 : Unit := ()
def PySem.W.Fast.tw11809095037532083605 : Unit := ()
def PySem.W.Fast.tw9873919383057694340 : Unit := ()
def PySem.W.Fast.tw8315688725760786197 : Unit := ()
def PySem.W.Fast.tw5268313343715359505 : Unit := ()
def PySem.W.Fast.tw9731095550291632034 : Unit := ()
def PySem.W.Fast.tw9869015771877551756 : Unit := ()
def PySem.W.Fast.tw7690611040702534147 : Unit := ()
def PySem.W.Fast.tw4229930311146194985 : Unit := ()
def PySem.W.Fast.tw2798619394499266691 : Unit := ()
def PySem.W.Fast.tw14911125153341369484 : Unit := ()
def PySem.W.Fast.tw10670328072808907048 : Unit := ()
def PySem.W.Fast.tw4753285586792267846 : Unit := ()
def PySem.W.Fast.tw1633563790034645195 : Unit := ()
def PySem.W.Fast.tw18290030336481000875 : Unit := ()
def PySem.W.Fast.tw15510560134186805533 : Unit := ()
def PySem.W.Fast.tw16847536478483447646 : Unit := ()
def PySem.W.Fast.tw6332820577976755828 : Unit := ()
def PySem.W.Fast.tw1728141887501491153 : Unit := ()
def PySem.W.Fast.tw17889832639756328918 : Unit := ()
def PySem.W.Fast.tw18284740753391623665 : Unit := ()
def PySem.W.Fast.tw6557564405431835003 : Unit := ()
def PySem.W.Fast.tw5984358634091917706 : Unit := ()
def PySem.W.Fast.tw16367686028100653897 : Unit := ()
def PySem.W.Fast.tw5318334601005621497 : Unit := ()
def PySem.W.Fast.tw1986888763679567023 : Unit := ()
def PySem.W.Fast.tw17293812251801294369 : Unit := ()
def PySem.W.Fast.tw13153511744480761485 : Unit := ()
def PySem.W.Fast.tw11896537676001327503 : Unit := ()
def PySem.W.Fast.tw5767714459555153770 : Unit := ()
def PySem.W.Fast.tw9044702800603336715 : Unit := ()
def PySem.W.Fast.tw17652249301357201787 : Unit := ()
def PySem.W.Fast.tw14367704354633549716 : Unit := ()
def PySem.W.Fast.tw4205742741459448873 : Unit := ()
def PySem.W.Fast.tw15411778883782533110 : Unit := ()
def PySem.W.Fast.tw4347940055164737001 : Unit := ()
def PySem.W.Fast.tw17105989350201098375 : Unit := ()
def PySem.W.Fast.tw12764229598436209679 : Unit := ()
def PySem.W.Fast.tw5790650054805540906 : Unit := ()
def PySem.W.Fast.tw13134524654766363314 : Unit := ()
def PySem.W.Fast.tw14713503870682201641 : Unit := ()
def PySem.W.Fast.tw6830607275592253815 : Unit := ()
def PySem.W.Fast.tw12667730502900725748 : Unit := ()
def PySem.W.Fast.tw15666284966140459029 : Unit := ()
def PySem.W.Fast.tw4293975514087550416 : Unit := ()
def PySem.W.Fast.tw18313930265249034384 : Unit := ()
def PySem.W.Fast.tw5812213720303436821 : Unit := ()
def PySem.W.Fast.tw1272168311276913150 : Unit := ()
def PySem.W.Fast.tw4843617013119392518 : Unit := ()
def PySem.W.Fast.tw2281114296429298479 : Unit := ()
def PySem.W.Fast.tw16930331337394613977 : Unit := ()
def PySem.W.Fast.tw13393855238249873538 : Unit := ()
def PySem.W.Fast.tw17656142188023519964 : Unit := ()
def PySem.W.Fast.tw14723216586156766129 : Unit := ()
def PySem.W.Fast.tw10731460307060974668 : Unit := ()
def PySem.W.Fast.tw1494660664443541758 : Unit := ()
def PySem.W.Fast.tw14017058175730809760 : Unit := ()
def PySem.W.Fast.tw14759658744222020479 : Unit := ()
def PySem.W.Fast.tw15175729719035973856 : Unit := ()
def PySem.W.Fast.tw4922752255439877705 : Unit := ()
def PySem.W.Fast.tw5660861797024701245 : Unit := ()
def PySem.W.Fast.tw6848005902222445065 : Unit := ()
def PySem.W.Fast.tw1454286311403565207 : Unit := ()
def PySem.W.Fast.tw2916629444749307032 : Unit := ()
def PySem.W.Fast.tw15133172841964499886 : Unit := ()
def PySem.W.Fast.tw4302170076325053951 : Unit := ()
def PySem.W.Fast.tw18345542340925356106 : Unit := ()
def PySem.W.Fast.tw387745985319785372 : Unit := ()
def PySem.W.Fast.tw9036596220496450177 : Unit := ()
def PySem.W.Fast.tw6310898170396322961 : Unit := ()
def PySem.W.Fast.tw13388272607473388275 : Unit := ()
def PySem.W.Fast.tw14673603459534873549 : Unit := ()
def PySem.W.Fast.tw7721345229465723431 : Unit := ()
def PySem.W.Fast.tw9133051801559583428 : Unit := ()
def PySem.W.Fast.tw7373819909195392332 : Unit := ()
def PySem.W.Fast.tw4850070772060235072 : Unit := ()
def PySem.W.Fast.tw11462397874568753328 : Unit := ()
def PySem.W.Fast.tw8143310761855043114 : Unit := ()
def PySem.W.Fast.tw13329063947973285282 : Unit := ()
def PySem.W.Fast.tw8656710279163674876 : Unit := ()
def PySem.W.Fast.tw17939083790698048051 : Unit := ()
def PySem.W.Fast.tw18379391676920497763 : Unit := ()
def PySem.W.Fast.tw9506972831994593000 : Unit := ()
def PySem.W.Fast.tw7163234088100823976 : Unit := ()
def PySem.W.Fast.tw6946189381909156495 : Unit := ()
def PySem.W.Fast.tw2083884672324290564 : Unit := ()
def PySem.W.Fast.tw10023321056619371343 : Unit := ()
def PySem.W.Fast.tw12457574434679145469 : Unit := ()
def PySem.W.Fast.tw2911776891620293765 : Unit := ()
def PySem.W.Fast.tw17866000431179016369 : Unit := ()
def PySem.W.Fast.tw12521549597066706831 : Unit := ()
def PySem.W.Fast.tw15590209024934073354 : Unit := ()
def PySem.W.Fast.tw4010284826982378109 : Unit := ()
def PySem.W.Fast.tw8051355338128274249 : Unit := ()
def PySem.W.Fast.tw16144026685861119716 : Unit := ()
def PySem.W.Fast.tw8259393303245342221 : Unit := ()
def PySem.W.Fast.tw16242398387180034725 : Unit := ()
def PySem.W.Fast.tw1890815722224858105 : Unit := ()
def PySem.W.Fast.tw6789820718446739721 : Unit := ()
def PySem.W.Fast.tw9102174833938854741 : Unit := ()
def PySem.W.Fast.tw15063830580861150632 : Unit := ()
def PySem.W.Fast.tw12789718070439554096 : Unit := ()
def PySem.W.Fast.tw13563943858294038335 : Unit := ()
def PySem.W.Fast.tw16203842290351736281 : Unit := ()
def PySem.W.Fast.tw9401857838291304542 : Unit := ()
def PySem.W.Fast.tw17687063908059629130 : Unit := ()
def PySem.W.Fast.tw6049111299618087568 : Unit := ()
def PySem.W.Fast.tw13861943117809293196 : Unit := ()
def PySem.W.Fast.tw6380924233403576955 : Unit := ()
def PySem.W.Fast.tw13947448733374861236 : Unit := ()
def PySem.W.Fast.tw3429542922349731849 : Unit := ()
def PySem.W.Fast.tw11304731048481019443 : Unit := ()
def PySem.W.Fast.tw3870984531468617810 : Unit := ()
def PySem.W.Fast.tw9003710379583485763 : Unit := ()
def PySem.W.Fast.tw11344116243045306155 : Unit := ()
def PySem.W.Fast.tw13915049672128891670 : Unit := ()
def PySem.W.Fast.tw11559704517209719855 : Unit := ()
def PySem.W.Fast.tw13771841296971959315 : Unit := ()
def PySem.W.Fast.tw7777703621387640280 : Unit := ()
def PySem.W.Fast.tw10842228588134565785 : Unit := ()
def PySem.W.Fast.tw17453803727570846132 : Unit := ()
def PySem.W.Fast.tw17187260661420602064 : Unit := ()
def PySem.W.Fast.tw13163981529378746986 : Unit := ()
def PySem.W.Fast.tw765342115944397845 : Unit := ()
def PySem.W.Fast.tw2487632852427565646 : Unit := ()
def PySem.W.Fast.tw13435949735025411010 : Unit := ()
def PySem.W.Fast.tw10291047036496875967 : Unit := ()
def PySem.W.Fast.tw14644244271144441443 : Unit := ()
def PySem.W.Fast.tw5356294974472308675 : Unit := ()
def PySem.W.Fast.tw15862481267714892084 : Unit := ()
def PySem.W.Fast.tw14227059539723246671 : Unit := ()
def PySem.W.Fast.tw11264490574151863131 : Unit := ()
def PySem.W.Fast.tw18286958706482440811 : Unit := ()
def PySem.W.Fast.tw14465977941911567802 : Unit := ()
def PySem.W.Fast.tw17417678066444246343 : Unit := ()
def PySem.W.Fast.tw9107210268986134305 : Unit := ()
def PySem.W.Fast.tw9008438277763609403 : Unit := ()
def PySem.W.Fast.tw7620116440302576386 : Unit := ()
def PySem.W.Fast.tw7125825765866903979 : Unit := ()
def PySem.W.Fast.tw914907958551857862 : Unit := ()
def PySem.W.Fast.tw5037197461161972826 : Unit := ()
def PySem.W.Fast.tw17812227060753559974 : Unit := ()
def PySem.W.Fast.tw16050899984380419991 : Unit := ()
def PySem.W.Fast.tw14438881405841327159 : Unit := ()
def PySem.W.Fast.tw10294793459363324372 : Unit := ()
def PySem.W.Fast.tw13466123819231954985 : Unit := ()
def PySem.W.Fast.tw13343610315836593847 : Unit := ()
def PySem.W.Fast.tw5151396015026675361 : Unit := ()
def PySem.W.Fast.tw14539313042663449668 : Unit := ()
def PySem.W.Fast.tw9910525108739565272 : Unit := ()
def PySem.W.Fast.tw1775722576665550936 : Unit := ()
def PySem.W.Fast.tw1215736154123561518 : Unit := ()
def PySem.W.Fast.tw11011128793232039113 : Unit := ()
def PySem.W.Fast.tw14501840678199983082 : Unit := ()
def PySem.W.Fast.tw4722177604751824984 : Unit := ()
def PySem.W.Fast.tw2205586028772610388 : Unit := ()
def PySem.W.Fast.tw15243332571128700471 : Unit := ()
def PySem.W.Fast.tw9939332850670937692 : Unit := ()
def PySem.W.Fast.tw16788195813075878002 : Unit := ()
def PySem.W.Fast.tw9802243182351633387 : Unit := ()
def PySem.W.Fast.tw862042729939803995 : Unit := ()
def PySem.W.Fast.tw11721010085977280392 : Unit := ()
def PySem.W.Fast.tw11762683312163835883 : Unit := ()
def PySem.W.Fast.tw114556976932053860 : Unit := ()
def PySem.W.Fast.tw4191751810527523265 : Unit := ()
def PySem.W.Fast.tw15971287891136062931 : Unit := ()
def PySem.W.Fast.tw2971792093135129780 : Unit := ()
def PySem.W.Fast.tw12043988534811736976 : Unit := ()
def PySem.W.Fast.tw6801316574400225769 : Unit := ()
def PySem.W.Fast.tw15585461087657779416 : Unit := ()
def PySem.W.Fast.tw13891233259876366446 : Unit := ()
def PySem.W.Fast.tw1285106357990559999 : Unit := ()
def PySem.W.Fast.tw7613383276930730747 : Unit := ()
def PySem.W.Fast.tw15488855626830234465 : Unit := ()
def PySem.W.Fast.tw2179894207090945092 : Unit := ()
open PySem PySem.W PyProof.Rows
set_option maxRecDepth 100000 in
set_option maxHeartbeats 0 in
theorem PySem.Challenge.cw_ferrynight_k05_whole_heights_of_all_stan_holds : PySem.Challenge.rw_ferrynight_k05_whole_heights_of_all_stan.Holds := by
 w_on; o_law; k_head; (case hw => w_witness2)
 k_fill
 refine FN.walk (l := PySem.Challenge.rw_ferrynight_k05_whole_heights_of_all_stan) rfl rfl (fun w h Y => PySem.W.kIn_of Y) ?F
 case F =>
  intro w mg fa h KX G Hz
  have gC := FN.gl KX G "Night"
  have gF := FN.gl KX G "FerryError"
  obtain ⟨Pt, OZ, P8⟩ := FN.aZ KX G "check_things" FN.cJ ["things"]
  obtain ⟨OD, Qz, Rc⟩ := FN.aZ KX G "check_room" FN.dM ["room"]
  obtain ⟨Oy, RW, Py⟩ := FN.aZ KX G "is_pair" FN.fM ["one", "other", "count"]
  obtain ⟨OX, Ro, Ow⟩ := FN.aZ KX G "is_keeper" FN.dI ["keeper", "one", "other", "count"]
  obtain ⟨P1, PP, Q0⟩ := FN.aZ KX G "check_quarrels" FN.ci ["quarrels", "count"]
  obtain ⟨f4, d4, F4⟩ := FN.aZ KX G "is_thing" FN.cw ["number", "count"]
  obtain ⟨f5, d5, F5⟩ := FN.aZ KX G "rises" FN.lj ["group"]
  obtain ⟨f6, d6, F6⟩ := FN.aZ KX G "is_standing" FN.eZ ["night", "standing"]
  obtain ⟨f7, d7, F7⟩ := FN.aZ KX G "other_bank" FN.dP ["night", "group"]
  obtain ⟨f8, d8, F8⟩ := FN.aZ KX G "is_good" FN.jx ["night", "standing"]
  obtain ⟨f9, d9, F9⟩ := FN.aZ KX G "check_standing" FN.eJ ["night", "standing"]
  obtain ⟨Qi, Q3, Os⟩ := FN.aZ KX G "check_start" FN.gT ["night", "standing"]
  obtain ⟨RM, QN, OR⟩ := FN.aZ KX G "groups_of" FN.gx ["bank"]
  obtain ⟨Pa, PQ, Rb⟩ := FN.aZ KX G "bank_of_boat" FN.fS ["night", "standing"]
  obtain ⟨Pk, QO, RF⟩ := FN.aZ KX G "is_manned" FN.iT ["night", "crew"]
  obtain ⟨QC, Rr, O2⟩ := FN.aZ KX G "crossed" FN.jw ["standing", "crew"]
  obtain ⟨QU, NX, Om⟩ := FN.aZ KX G "crews" FN.sJ ["night", "standing"]
  obtain ⟨OE, Pu, RY⟩ := FN.aZ KX G "_law_cell_at" FN.bS ["script", "k"]
  obtain ⟨OU, Qy, RS⟩ := FN.aZ KX G "_law_whole" FN.cP ["found"]
  obtain ⟨Oh, O3, NY⟩ := FN.aZ KX G "_law_quarrel" FN.ce ["cell", "many"]
  obtain ⟨RP, Ra, Q6⟩ := FN.aZ KX G "_law_quarrels" FN.cy ["script", "start", "many"]
  obtain ⟨Op, O0, RR⟩ := FN.aZ KX G "_law_things" FN.de ["script", "start", "many"]
  obtain ⟨R1, RV, N8⟩ := FN.aZ KX G "_law_night" FN.cU ["script", "most"]
  obtain ⟨QK, QB, Qc⟩ := FN.aZ KX G "_law_group" FN.dU ["found", "due"]
  obtain ⟨PM, R6, P5⟩ := FN.aZ KX G "_law_minutes" FN.cK ["things", "crew"]
  obtain ⟨Pc, Qw, O7⟩ := FN.aZ KX G "_law_standings" FN.cp ["quarrels", "many"]
  obtain ⟨RL, OF, QD⟩ := FN.aZ KX G "_law_heights" FN.cm ["things", "room", "quarrels"]
  obtain ⟨Qj, QQ, Rk⟩ := FN.aZ KX G "_law_pair_right" FN.cC ["pair", "standing", "height"]
  obtain ⟨QG, Rj, Qh⟩ := FN.aZ KX G "heights" FN.jK ["night"]
  obtain ⟨PB, PL, QX⟩ := FN.aZ KX G "minutes" FN.jI ["night", "crew"]
  obtain ⟨PU, Q8, QV⟩ := FN.aZ KX G "by_side" FN.gZ ["standing"]
  obtain ⟨Rm, Oj, OM⟩ := FN.aZ KX G "good_standings" FN.cL ["night"]
  obtain ⟨QI, Pj, Qb⟩ := FN.aZ KX G "all_crossings" FN.fu ["night"]
  obtain ⟨Ry, Rh, P4⟩ := FN.aZ KX G "begun_by" FN.fO ["ways", "fewest"]
  obtain ⟨OA, OP, QJ⟩ := FN.aZ KX G "with_one_more" FN.dk ["crossings", "fewest"]
  obtain ⟨QM, QL, N6⟩ := FN.aZ KX G "fewest_minutes" FN.cj ["crossings", "end"]
  obtain ⟨RC, Qq, O4⟩ := FN.aZ KX G "_law_peace" FN.dW ["quarrels", "group"]
  obtain ⟨RB, QR, Ou⟩ := FN.aZ KX G "_law_bits" FN.fe ["number", "many"]
  obtain ⟨P9, O8, RG⟩ := FN.aZ KX G "_law_groups" FN.eW ["many"]
  obtain ⟨Rt, O6, PJ⟩ := FN.aZ KX G "_law_rest" FN.fh ["group", "many"]
  obtain ⟨P0, OI, Q7⟩ := FN.aZ KX G "_law_good" FN.gw ["quarrels", "group", "many"]
  obtain ⟨RT, R5, Og⟩ := FN.aZ KX G "_law_behind" FN.eY ["standing", "crew", "many"]
  obtain ⟨OV, Pw, RX⟩ := FN.aZ KX G "_law_crews" FN.dR ["things", "room", "quarrels", "standing"]
  obtain ⟨f1, d1, F1, M1⟩ := FN.rf KX gC "things" "Night.things" FN.bz ["self"]
  obtain ⟨f2, d2, F2, M2⟩ := FN.rf KX gC "room" "Night.room" FN.fC ["self"]
  obtain ⟨f3, d3, F3, M3⟩ := FN.rf KX gC "peace" "Night.peace" FN.di ["self", "group"]
  obtain ⟨QZ, OB, Qm, MW⟩ := FN.rf KX gC "__init__" "Night.__init__" FN.cO ["self", "things", "room", "quarrels"]
  obtain ⟨Pe, QY, Q2, Qe⟩ := FN.rf KX gC "begins" "Night.begins" FN.cG ["self"]
  obtain ⟨Qd, Qa, Pd, RE⟩ := FN.rf KX gC "ends" "Night.ends" FN.fG ["self"]
  obtain ⟨SJ, Nc, M7, Pm⟩ := FN.HS KX G "law" FN.tT
  obtain ⟨k0, v0⟩ := FN.uo KX G "MOST_THINGS" (6)
  obtain ⟨k1, v1⟩ := FN.uo KX G "MOST_MINUTES" (1000000000)
  obtain ⟨k2, v2⟩ := FN.uo KX G "MOST_ROOM" (3)
  obtain ⟨k3, v3⟩ := FN.uo KX G "MOST_QUARRELS" (30)
  obtain ⟨k4, v4⟩ := FN.uo KX G "NO_KEEPER" (-1)
  obtain ⟨sd, vS, lS⟩ := FN.Jo KX G "SIDES"
  obtain ⟨yw, ya⟩ := FN.BI KX G "BadThing"
  obtain ⟨Ar, AC⟩ := FN.BI KX G "BadRoom"
  obtain ⟨uK, uX⟩ := FN.BI KX G "BadQuarrel"
  obtain ⟨uj, u7⟩ := FN.DU KX G gF "NoStanding"
  obtain ⟨ye, zc⟩ := FN.DU KX G gF "BadStart"
  let Z : FN.Ad := ⟨k0, k1, k2, k3, k4, sd, FN.Mx gF, yw, Ar, uK, uj, ye, 0, 0⟩
  have T : FN.Txt _ mg _ Z := ⟨FN.nn KX G, FN.nn KX G, FN.nn KX G, FN.nn KX G, FN.nn KX G, FN.nn KX G, FN.nn KX G, FN.nn KX G, FN.nn KX G, FN.nn KX G, FN.nn KX G, FN.nn KX G, FN.nn KX G, FN.nn KX G, FN.nn KX G, FN.nn KX G, v0, v1, v2, v3, v4, gC, ⟨by k_is, by k_is, by k_is, by k_is⟩, FN.na, FN.na, FN.na, vS, lS, gF, ya, AC, uX, u7 Z rfl, zc Z rfl⟩
  let fs : Nat -> Addr := fun i => match i with | 1 => f1 | 2 => f2 | 3 => f3 | 4 => f4 | 5 => f5 | 6 => f6 | 7 => f7 | 8 => f8 | 9 => f9 | 10 => Qi | 11 => RM | 12 => Pa | 13 => Pk | 14 => QC | 15 => QU | 21 => Pt | 22 => OD | 23 => Oy | 24 => OX | 25 => P1 | 26 => QZ | 28 => OE | 29 => OU | 30 => Oh | 31 => RP | 32 => Op | 33 => R1 | 34 => QK | 35 => PM | 36 => Pc | 37 => RL | 38 => Qj | 39 => QG | 41 => RC | 42 => RB | 43 => P9 | 44 => Rt | 45 => P0 | 46 => RT | 47 => OV | 60 => Pe | 61 => Qd | 62 => PB | 63 => PU | 64 => Rm | 65 => QI | 66 => Ry | 67 => OA | 68 => QM | _ => 0
  let ds : Nat -> FuncData := fun i => match i with | 1 => d1 | 2 => d2 | 3 => d3 | 4 => d4 | 5 => d5 | 6 => d6 | 7 => d7 | 8 => d8 | 9 => d9 | 10 => Q3 | 11 => QN | 12 => PQ | 13 => QO | 14 => Rr | 15 => NX | 21 => OZ | 22 => Qz | 23 => RW | 24 => Ro | 25 => PP | 26 => OB | 28 => Pu | 29 => Qy | 30 => O3 | 31 => Ra | 32 => O0 | 33 => RV | 34 => QB | 35 => R6 | 36 => Qw | 37 => OF | 38 => QQ | 39 => Rj | 41 => Qq | 42 => QR | 43 => O8 | 44 => O6 | 45 => OI | 46 => R5 | 47 => Pw | 60 => QY | 61 => Qa | 62 => PL | 63 => Q8 | 64 => Oj | 65 => Pj | 66 => Rh | 67 => OP | 68 => QL | _ => Nc
  have lk : FN.Lk _ mg _ fs ds := ⟨M1, F1, M2, F2, M3, F3, F4, F5, F6, F7, F8, F9, Os, OR, Rb, RF, O2, Om⟩
  have lw : FN.Lw _ mg (fun i => fs (i + 40)) (fun i => ds (i + 40)) := ⟨O4, Ou, RG, PJ, Q7, Og, RX⟩
  have lp : FN.Lp _ mg _ fs ds := ⟨Qe, Q2, RE, Pd, QX, QV, OM, Qb, P4, QJ, N6⟩
  have A : FN.All _ mg _ fs ds := ⟨P8, Rc, Py, Ow, Q0, Qm, RY, RS, NY, Q6, RR, N8, Qc, P5, O7, QD, Rk, Qh, lk, lw, lp, ⟨by k_is, MW.at_, MW.fn, by k_is⟩⟩
  cases Hz.symm.trans M7.g
  exact ⟨Nc, Pm, fun base _ _ => FN.EV M7 T A⟩
