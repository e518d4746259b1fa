import PyProof.Rows.All
import Wide.All
import OpenK.AllK
import Wide.FinOn
import Lean
import PyProof.EqAt
import PyProof.EqKinds
import PyProof.TupleCall
import PyProof.Rows.SortRuns
import PyProof.DictItems
import KE.KPairComp
import PySem.Challenge.RW_ferrynight_k07_whole_heights_and_plans_a
set_option linter.all false
def Sn := @PySem.wpAny_bind
def So := @PySem.wpAny_pure
def Sq := @PySem.Heap.get?_push_of_some
def Sr := @List.length_map.{0,0}
def Ss := @Nat.le_refl
def Su := @List.mem_cons_of_mem.{0}
def Sv := @List.mem_cons_self.{0}
def Sw := @List.getElem?_eq_getElem.{0}
def Sx := @List.mem_cons.{0}
def Sy := @Bool.false_ne_true
def Sz := @List.map_append.{0,0}
def SA := @Array.length_toList.{0}
def SB := @PyProof.Rows.wpS_bind
def SC := @PySem.Heap.get?_push_size
def SD := @Nat.le_trans
def SE := @decide_eq_true
def SF := @List.take_of_length_le.{0}
def SG := @List.size_toArray.{0}
def SH := @List.getElem?_map.{0,0}
def SI := @PySem.Heap.lt_size
def SJ := @PyProof.Rows.wpS_pure
def SK := @List.append_assoc.{0}
def SL := @List.getD_eq_getElem?_getD.{0}
def SN := @List.map_cons.{0,0}
def SQ := @List.pairwise_append.{0}
def SR := @List.getElem?_eq_some_iff.{0}
def SS := @List.length_take.{0}
def SU := @Bool.false_eq_true
def SV := @List.take_add_one.{0}
def SW := @decide_eq_false
def SX := @List.length_append.{0}
def SY := @List.length_filter_le.{0}
def S0 := @List.mem_append.{0}
def S1 := @of_decide_eq_true
def S2 := @Nat.ne_of_lt
def S3 := @List.filter_append.{0}
def S4 := @Nat.zero_le
def S5 := @List.mem_of_getElem?.{0}
def S6 := @Nat.lt_of_lt_of_le
def S7 := @List.mem_singleton.{0}
def S8 := @List.mem_append_right.{0}
def S9 := @List.mem_map.{0,0}
def Ta := @List.filter_cons.{0}
def Tb := @List.mem_filter.{0}
def Tc := @PySem.wpAny_call_entry
def Td := @Bool.and_eq_true
def Te := @PySem.boot_len
def Tf := @Bool.false_and
def Tg := @List.map_map.{0,0,0}
def Ti := @PySem.wpAny_newObj_type
def Tj := @PySem.PassesOwn.never
def Tk := @Array.toList_append.{0}
def Tl := @Option.map_eq_some_iff.{0,0}
def Tn := @List.getElem?_append_right.{0}
def To := @List.length_cons.{0}
def Tp := @bind_congr.{0,0}
def Tq := @List.pairwise_cons.{0}
def Tr := @if_false.{1}
def Ts := @List.mem_map_of_mem.{0,0}
def Tt := @PySem.wpAny_dictEntries
def Tu := @List.pairwise_map.{0,0}
def Tv := @PySem.wpAny_callSpecial?_slot
def Tw := @Option.some.inj.{0}
def Tx := @Array.getElem?_toList.{0}
def Tz := @PySem.Heap.SameBut.update
def TB := @List.all_eq_true.{0}
def TC := @Bool.not_true
def TD := @PySem.wpAny_truthy_bool
def TF := @Int.toNat_natCast
def TH := @PySem.wpAny_field
def TJ := @PyProof.Rows.wpS_forRange
def TK := @PySem.wpAny_setField_rec
def TL := @List.nodup_cons.{0}
def TM := @Nat.lt_irrefl
def TN := @beq_eq_false_iff_ne.{0}
def TQ := @PyProof.Rows.slot_tuple_getitem
def TR := @congrArg.{1,1}
def TU := @List.mem_iff_getElem.{0}
def TV := @PySem.wpAny_holding
def TW := @PySem.Paired.length
def TY := @List.getElem?_append_left.{0}
def TZ := @PySem.wpAny_mono
def T0 := @Option.isSome_map.{0,0}
def T3 := @List.forIn_cons.{0,0,0}
def T4 := @List.take_length.{0}
def T5 := @List.countP_cons.{0}
def T6 := @List.mem_of_mem_take.{0}
def T7 := @List.mem_append_left.{0}
def T8 := @PySem.F.plainAttrs_list
def T9 := @if_true.{1}
def Ua := @PyProof.Rows.wpS_mono
def Ub := @List.drop_drop.{0}
def Uc := @Bool.and_false
def Ud := @List.take_sublist.{0}
def Ue := @Array.size_append.{0}
def Uf := @PySem.mem_of_lookup
def Ug := @PySem.wpAny_rule
def Uh := @PySem.wpAny_isInstance
def Ui := @List.getElem_mem.{0}
def Uj := @Option.isSome_iff_exists.{0}
def Uk := @List.Pairwise.imp_of_mem.{0}
def Ul := @PySem.wpAny_seqItems
def Um := @Nat.pow_le_pow_right
def Uo := @PySem.F.slot_dict_itemiterator_next
def Up := @List.drop_sublist.{0}
def Uq := @PySem.wpAny_dictEpoch
def Ur := @List.find?_cons.{0}
def Us := @Array.size_push.{0}
def Ut := @PySem.F.slot_dict_keyiterator_next
def Uu := @PySem.sizeLine_eq
def Uv := @List.take_append_drop.{0}
def Uw := @List.Perm.append_left.{0}
def Ux := @List.foldl_cons.{0,0}
def Uy := @Nat.le_succ
def Uz := @List.getElem_drop.{0}
def UA := @PySem.Heap.get?_none_of_le
def UB := @Array.toArray_toList.{0}
def UC := @beq_iff_eq.{0}
def UD := @PySem.wpAny_attempt
def UE := @PySem.F.type_list_append
def UF := @PySem.F.slot_list_append
def UG := @PySem.Heap.size_push
def UH := @List.lookup_cons.{0,0}
def UI := @PySem.wpAny_typeNameOfWhole_itemiter
def UJ := @PySem.wpAny_typeNameOfWhole_keyiter
def UK := @True.intro
def UL := @List.zip_cons_cons.{0,0}
def UM := @Int.emod_lt_of_pos
def UN := @Array.size_extract.{0}
def UO := @List.Perm.append_right.{0}
def UP := @PySem.wpAny_passesOwn
def UQ := @Bool.eq_iff_iff
def UR := @List.perm_append_comm.{0}
def US := @List.mem_iff_getElem?.{0}
def UT := @Ne.symm.{1}
def UU := @List.getElem_take.{0}
def UV := @PyProof.Rows.wpS_modify
def UW := @List.forIn_nil.{0,0,0}
def UX := @Array.toList_reverse.{0}
def UY := @PySem.F.slot_tuple_iterator_next
def UZ := @Nat.ne_of_gt
def U0 := @Nat.le_of_lt
def U1 := @PySem.wpAny_eqBool_int
def U2 := @List.not_mem_nil.{0}
def U3 := @List.length_drop.{0}
def U4 := @List.drop_eq_getElem_cons.{0}
def U5 := @List.map_congr_left.{0,0}
def U6 := @List.length_pos_iff.{0}
def U7 := @List.filter_sublist.{0}
def U8 := @PyProof.Rows.listUpdate_at
def U9 := @PySem.W.mg_of
def Va := @Bool.true_and
def Vb := @PySem.wpAny_specialOf
def Vc := @PySem.size_of_entries
def Vd := @List.append_nil.{0}
def Ve := @Int.emod_nonneg
def Vf := @PySem.wpAny_tupleItemsOf
def Vg := @PySem.wpAny_Call_Name_kw
def Vh := @Nat.add_sub_cancel_left
def Vi := @List.pairwise_singleton.{0}
abbrev Vj := PySem.W.Frag
set_option Elab.async false
set_option linter.all false
set_option maxRecDepth 100000
namespace L2
open PySem PySem.Spec PyProof.Rows
abbrev Key := Sum Int Str
def Dz : Key -> Value -> Bool
 | .inl k, v => Value.isInt k v
 | .inr x, v => Value.isStrOf x v
def Ly (w : World) : Key -> Int
 | .inl k => hashInt k
 | .inr x => hashStr w x
theorem bW : ∀ {k : Key} {v : Value}, Dz k v = true -> (∃ i t, k = Sum.inl i /\ v = Value.int i t) \/ (∃ x t, k = Sum.inr x /\ v = Value.str x t)
 | .inl i, v, h => by
  obtain ⟨t, e⟩ := Value.isInt_shape (k := i) (v := v) h
  exact .inl ⟨i, t, rfl, e⟩
 | .inr x, v, h => by
  obtain ⟨t, e⟩ := Value.isStrOf_shape (x := x) (v := v) h
  exact .inr ⟨x, t, rfl, e⟩
theorem Fd (a b : Int) : decide ((Sum.inl a : Key) = Sum.inl b) = (a == b) := by
 by_cases e : a = b
 ·subst e; simp
 ·have h : ¬ (Sum.inl a : Key) = Sum.inl b := fun q => e (Sum.inl.inj q)
  rw [SW h]
  exact (TN.mpr e).symm
theorem FS (a b : Str) : decide ((Sum.inr a : Key) = Sum.inr b) = decide (a = b) := by
 by_cases e : a = b
 ·subst e; simp
 ·have h : ¬ (Sum.inr a : Key) = Sum.inr b := fun q => e (Sum.inr.inj q)
  rw [SW h, SW e]
theorem Fc (a : Int) (b : Str) : decide ((Sum.inl a : Key) = Sum.inr b) = false := SW (fun q => nomatch q)
theorem Et (a : Str) (b : Int) : decide ((Sum.inr a : Key) = Sum.inl b) = false := SW (fun q => nomatch q)
def qR (prog : Program) (w : World) : PySem.KeyKind prog w Key where
 is := Dz
 hash := Ly w
 inj := fun v a b ha hb => by
  rcases bW ha with ⟨i, t, rfl, rfl⟩ | ⟨x, t, rfl, rfl⟩
  ·rcases bW hb with ⟨j, u, rfl, e⟩ | ⟨y, u, rfl, e⟩
   ·injection e with e1 _; rw [e1]
   ·exact nomatch e
  ·rcases bW hb with ⟨j, u, rfl, e⟩ | ⟨y, u, rfl, e⟩
   ·exact nomatch e
   ·injection e with e1 _; rw [e1]
 byValue := fun k v h => by
  rcases bW h with ⟨i, t, rfl, rfl⟩ | ⟨x, t, rfl, rfl⟩ <;> rfl
 pyHash := fun hv h => by
  rcases bW hv with ⟨i, t, rfl, rfl⟩ | ⟨x, t, rfl, rfl⟩
  ·exact wpAny_pyHash_int h
  ·exact wpAny_pyHash_str h
 eqBool := fun hu hv h => by
  rcases bW hu with ⟨i, t, rfl, rfl⟩ | ⟨x, t, rfl, rfl⟩
  ·rcases bW hv with ⟨j, u, rfl, rfl⟩ | ⟨y, u, rfl, rfl⟩
   ·rw [Fd] at h; exact U1 h
   ·rw [Fc] at h; exact SeqAt.EqAt.int_str i t y u _ _ _ _ h
  ·rcases bW hv with ⟨j, u, rfl, rfl⟩ | ⟨y, u, rfl, rfl⟩
   ·rw [Et] at h; exact SeqAt.EqAt.str_int x t j u _ _ _ _ h
   ·rw [FS] at h; exact wpAny_eqBool_str h
 «strs» := fun k x t v h => by
  rcases bW h with ⟨i, u, rfl, e⟩ | ⟨y, u, rfl, e⟩
  ·exact nomatch e
  ·injection e with e1 _
   subst e1
   cases v <;> rfl
inductive V where
 | cc | bl (b : Bool) | int (i : Int) | str (x : Str) | wG (b : Array UInt8) | Jk (b : UInt64) | ref (a : Addr) | ty (n : String)
 deriving DecidableEq
def RelV : V -> Value -> Prop
 | .cc, u => u = Value.none
 | .bl b, u => u = Value.bool b
 | .int i, u => ∃ t, u = Value.int i t
 | .str x, u => ∃ t, u = Value.str x t
 | .wG b, u => ∃ t, u = Value.bytes b t
 | .Jk b, u => ∃ t, u = Value.float b t
 | .ref a, u => u = Value.ref a
 | .ty n, u => u = Value.type n
abbrev Vals : List V -> List Value -> Prop := Paired RelV
theorem Vals.length {xs : List V} {us : List Value} (r : Vals xs us) : xs.length = us.length := TW r
theorem Vals.get : ∀ {xs : List V} {us : List Value} {i : Nat} {x : V}, Vals xs us -> xs[i]? = some x -> ∃ u, us[i]? = some u /\ RelV x u
 | _, _, _, _, .nil, e => by simp at e
 | _, _, 0, _, .cons r _, e => by simp at e; subst e; exact ⟨_, rfl, r⟩
 | _, _, i + 1, x, .cons _ t, e => by
  obtain ⟨u, h1, h2⟩ := Vals.get (i := i) (x := x) t (by simpa using e)
  exact ⟨u, by simpa using h1, h2⟩
theorem Vals.set {x : V} {u : Value} (r : RelV x u) : ∀ {xs : List V} {us : List Value} (i : Nat), Vals xs us -> Vals (xs.set i x) (us.set i u)
 | _, _, _, .nil => .nil
 | _, _, 0, .cons _ t => .cons r t
 | _, _, i + 1, .cons q t => .cons q (Vals.set r i t)
theorem Vals.append : ∀ {xs ys : List V} {us ws : List Value}, Vals xs us -> Vals ys ws -> Vals (xs ++ ys) (us ++ ws)
 | _, _, _, _, .nil, s => s
 | _, _, _, _, .cons r t, s => .cons r (Vals.append t s)
theorem Vals.take : ∀ {xs : List V} {us : List Value} (n : Nat), Vals xs us -> Vals (xs.take n) (us.take n)
 | _, _, 0, _ => .nil
 | _, _, _ + 1, .nil => .nil
 | _, _, n + 1, .cons r t => .cons r (Vals.take n t)
theorem Vals.drop : ∀ {xs : List V} {us : List Value} (n : Nat), Vals xs us -> Vals (xs.drop n) (us.drop n)
 | _, _, 0, r => r
 | _, _, _ + 1, .nil => .nil
 | _, _, n + 1, .cons _ t => Vals.drop n t
def k8 : Option V -> Option Value -> Prop
 | some v, some u => RelV v u
 | none, none => True
 | _, _ => False
def KV {κ : Type} : List (κ × V) -> List (κ × Value) -> Prop := Paired fun (p : κ × V) (q : κ × Value) => p.1 = q.1 /\ RelV p.2 q.2
def kV : Key -> V
 | .inl i => .int i
 | .inr x => .str x
inductive HO where
 | lst (xs : List V)
 | tup (xs : List V)
 | dK (kvs : List (Key × V)) | dT (kvs : List (List Key × V))
 | set (S : Int -> Bool) (n : Nat)
 | ins (C dx : Addr) (fs : List (Str × V))
 | own (x : Addr)
 | xd (fs : List (Str × V))
 | met (f x : Addr)
 | Dj (lo hi : Int)
 | yN (o : Obj) (u : HO)
 | Dv (ps : Array Value)
 | ext (φ : Heap -> Prop)
abbrev Hp := Addr -> Option HO
def upd (H : Hp) (a : Addr) (o : HO) : Hp := fun b => if b = a then some o else H b
theorem ae {H : Hp} {a : Addr} {o : HO} : upd H a o a = some o := by unfold upd; rw [if_pos rfl]
theorem ak {H : Hp} {a b : Addr} {o : HO} (h : b ≠ a) : upd H a o b = H b := by unfold upd; rw [if_neg h]
theorem cR {H : Hp} {a b : Addr} {o u : HO} (h : H a = some o) (h' : H b = some u) (d : o ≠ u) : a ≠ b := by
 intro e; subst e; rw [h] at h'; exact d (Tw h')
theorem ay {H : Hp} {a b : Addr} {o : HO} (h : H a = some o) (h' : H b = none) : a ≠ b := by
 intro e; subst e; rw [h] at h'; cases h'
section
variable (P : Program) (w : World)
def cp (H : Hp) (h : Heap) (a : Addr) : HO -> Prop
 | .lst xs => xs.length <= sizeLine /\ ∃ (au : List Value) (n : Nat), Vals xs au /\ h.get? a = some { cls := .type "list", data := .seq au.toArray n }
 | .tup xs => xs.length <= sizeLine /\ ∃ au : List Value, Vals xs au /\ IsTup h a au.toArray
 | .dK kvs => kvs.length <= sizeLine /\ (a == sysModules) = false /\ ∃ vs, KV kvs vs /\ h.DictOf (qR P w) a vs
 | .dT kvs => kvs.length <= sizeLine /\ (a == sysModules) = false /\ ∃ xs : List (List Key × Addr × Value),
   Paired (fun (p : List Key × V) (q : List Key × Addr × Value) => p.1 = q.1 /\ H q.2.1 = some (.tup (p.1.map kV)) /\ RelV p.2 q.2.2) kvs xs /\
   ∃ o es ep, h.get? a = some o /\ o.ExactDict /\ o.data = .dict es ep /\ es.toList = xs.map (entryOfKey (tupleKind (qR P w))) /\ (xs.map (·.1)).Nodup
 | .set S n => h.SetOf (intKind P w) a S n
 | .ins C dx fs => H dx = some (.own a) /\ fs.length <= 1000 /\ dx ≠ a /\ h.get? a = some (PySem.W.instObj C dx) /\
   ∃ mA, h.Ns1 dx mA /\ (∀ f, k8 (fs.lookup f) (mA f)) /\ PySem.Within mA (fs.map (·.1))
 | .own _ => ∃ o, h.get? a = some o
 | .xd fs => ∃ mA, h.Ns1 a mA /\ ∀ f, k8 (fs.lookup f) (mA f)
 | .Dj lo hi => ∃ t u v, h.get? a = some { cls := .type "range", data := .fields #[.int lo t, .int hi u, .int 1 v] }
 | .yN o u => h.get? a = some o /\ cp H h a u
 | .Dv ps => h.get? a = some { cls := .none, data := .fields ps }
 | .met f x => h.get? a = some (PySem.W.methodObj (.ref f) (.ref x))
 | .ext φ => φ h /\ (∃ o, h.get? a = some o) /\ ∀ h1 h2 : Heap, φ h1 -> (∀ o, h1.get? a = some o -> h2.get? a = some o) -> φ h2
def iA (H : Hp) (h : Heap) : Prop := ∀ a o, H a = some o -> cp P w H h a o
end
section
variable {P : Program} {w : World} {H H' : Hp} {h h' : Heap} {a : Addr} {o : HO}
theorem cp.lt (x : cp P w H h a o) : a < h.objs.size := by
 cases o with
 | lst xs => obtain ⟨_, _, _, _, e⟩ := x; exact SI e
 | tup xs => obtain ⟨_, _, _, p⟩ := x; exact p.lt
 | dK kvs => obtain ⟨_, _, _, _, o, _, _, e, _⟩ := x; exact SI e
 | dT kvs => obtain ⟨_, _, _, _, o, _, _, e, _⟩ := x; exact SI e
 | set S n => obtain ⟨o, _, _, _, e, _⟩ := x; exact SI e
 | ins C dx fs => obtain ⟨_, _, _, e, _⟩ := x; exact SI e
 | own y => obtain ⟨_, e⟩ := x; exact SI e
 | xd fs => obtain ⟨_, ⟨_, _, _, e, _⟩, _⟩ := x; exact SI e
 | Dj lo hi => obtain ⟨_, _, _, e⟩ := x; exact SI e
 | yN ob u => obtain ⟨e, _⟩ := x; exact SI e
 | Dv ps => exact SI (show h.get? a = some _ from x)
 | met f y => exact SI (show h.get? a = some _ from x)
 | ext φ => obtain ⟨_, ⟨_, e⟩, _⟩ := x; exact SI e
theorem Paired.u5 {α β : Type} {F G : α -> β -> Prop} : ∀ {l₁ : List α} {l₂ : List β}, Paired F l₁ l₂ -> (∀ a b, F a b -> G a b) -> Paired G l₁ l₂
 | _, _, .nil, _ => .nil
 | _, _, .cons r t, f => .cons (f _ _ r) (Paired.u5 t f)
theorem Paired.imp' {α β : Type} {F G : α -> β -> Prop} (f : ∀ a b, F a b -> G a b) {l₁ : List α} {l₂ : List β} (r : Paired F l₁ l₂) : Paired G l₁ l₂ := Paired.u5 r f
theorem cp.j6 (x : cp P w H h a o) (k : ∀ b u, (b = a \/ H b = some (.own a)) -> h.get? b = some u -> h'.get? b = some u)
  (ho : ∀ b, H b = some (.own a) -> H' b = some (.own a)) (ht : ∀ b xs, H b = some (.tup xs) -> H' b = some (.tup xs)) : cp P w H' h' a o := by
 induction o with
 | lst xs => obtain ⟨z, au, n, r, e⟩ := x; exact ⟨z, au, n, r, k _ _ (.inl rfl) e⟩
 | tup xs => obtain ⟨z, au, r, ob, e, c⟩ := x; exact ⟨z, au, r, ob, k _ _ (.inl rfl) e, c⟩
 | dK kvs => obtain ⟨z, y, vs, r, ob, es, ep, e, c⟩ := x; exact ⟨z, y, vs, r, ob, es, ep, k _ _ (.inl rfl) e, c⟩
 | dT kvs =>
  obtain ⟨z, y, xs, r, ob, es, ep, e, c⟩ := x
  exact ⟨z, y, xs, Paired.u5 r fun p q z => ⟨z.1, ht _ _ z.2.1, z.2.2⟩, ob, es, ep, k _ _ (.inl rfl) e, c⟩
 | set S n => obtain ⟨ob, es, ep, t, e, c⟩ := x; exact ⟨ob, es, ep, t, k _ _ (.inl rfl) e, c⟩
 | ins C dx fs =>
  obtain ⟨d, z, ne, e, mA, ⟨od, es, ep, e2, c⟩, r⟩ := x
  exact ⟨ho _ d, z, ne, k _ _ (.inl rfl) e, mA, ⟨od, es, ep, k _ _ (.inr d) e2, c⟩, r⟩
 | own y => obtain ⟨ob, e⟩ := x; exact ⟨ob, k _ _ (.inl rfl) e⟩
 | xd fs => obtain ⟨mA, ⟨od, es, ep, e, c⟩, r⟩ := x; exact ⟨mA, ⟨od, es, ep, k _ _ (.inl rfl) e, c⟩, r⟩
 | Dj lo hi => obtain ⟨t, u, v, e⟩ := x; exact ⟨t, u, v, k _ _ (.inl rfl) e⟩
 | yN ob u ih => obtain ⟨e, q⟩ := x; exact ⟨k _ _ (.inl rfl) e, ih q⟩
 | Dv ps =>
  have e : h.get? a = some { cls := .none, data := .fields ps } := x
  show h'.get? a = some { cls := .none, data := .fields ps }
  exact k a _ (.inl rfl) e
 | met f y =>
  have e : h.get? a = some (PySem.W.methodObj (.ref f) (.ref y)) := x
  show h'.get? a = some (PySem.W.methodObj (.ref f) (.ref y))
  exact k a _ (.inl rfl) e
 | ext φ => obtain ⟨p, ⟨o, e⟩, st⟩ := x; exact ⟨st _ _ p fun o q => k _ _ (.inl rfl) q, ⟨o, k _ _ (.inl rfl) e⟩, st⟩
theorem iA.lt (x : iA P w H h) (e : H a = some o) : a < h.objs.size := (x a o e).lt
theorem iA.fresh (x : iA P w H h) (e : h.objs.size <= a) : H a = none := by
 cases q : H a with
 | none => rfl
 | some u => exact absurd (S6 (x.lt q) e) (TM _)
theorem iA.kept (x : iA P w H h) (k : ∀ b u, h.get? b = some u -> h'.get? b = some u) : iA P w H h' := fun a o e =>
 (x a o e).j6 (fun b u _ q => k b u q) (fun _ q => q) fun _ _ q => q
theorem iA.laid (x : iA P w H h) (k : ∀ b u, h.get? b = some u -> h'.get? b = some u) (hp : h.objs.size <= a) (new : cp P w (upd H a o) h' a o) : iA P w (upd H a o) h' := fun b u e => by
 have hn := x.fresh hp
 by_cases hb : b = a
 ·subst hb; rw [ae] at e; cases e; exact new
 ·rw [ak hb] at e
  exact (x b u e).j6 (fun c v _ q => k c v q) (fun c q => by rw [ak (ay q hn)]; exact q) fun c xs q => by rw [ak (ay q hn)]; exact q
end
def Rd (H : Hp) (a : Addr) (u : HO) : Prop := H a = some u \/ ∃ o, H a = some (.yN o u)
theorem Rd.of {H : Hp} {a : Addr} {u : HO} (h : H a = some u) : Rd H a u := .inl h
theorem Rd.ok {P : Program} {w : World} {H : Hp} {h : Heap} {a : Addr} {u : HO} (r : Rd H a u) (x : iA P w H h) : cp P w H h a u := by
 rcases r with r | ⟨o, r⟩
 ·exact x a u r
 ·obtain ⟨_, q⟩ := x a _ r
  exact q
def JP : Option HO -> Prop
 | some (.lst _) => True
 | some (.dK _) => True
 | some (.dT _) => True
 | some (.set _ _) => True
 | some (.ins _ _ _) => True
 | some (.ext _) => True
 | _ => False
section
variable {P : Program} {w : World} {H : Hp} {h h' : Heap} {x e : Addr} {o' : HO}
theorem iA.write (ok : iA P w H h) (mu : JP (H x)) (he : e = x \/ H e = some (.own x)) (k : ∀ b u, b ≠ e -> h.get? b = some u -> h'.get? b = some u) (xC : ∃ u, h'.get? e = some u)
  (new : cp P w (upd H x o') h' x o') : iA P w (upd H x o') h' := fun b u q => by
 have GX : ∀ c y, H c = some (.own y) -> c ≠ x := fun c y r z => by subst z; rw [r] at mu; exact mu
 have LX : ∀ c xs, H c = some (.tup xs) -> c ≠ x := fun c xs r z => by subst z; rw [r] at mu; exact mu
 by_cases hb : b = x
 ·subst hb; rw [ae] at q; cases q; exact new
 ·rw [ak hb] at q
  by_cases EL : b = e
  ·have q' : H b = some (.own x) := by
    rcases he with z | z
    ·exact absurd (EL.trans z) hb
    ·rw [EL]; exact z
   rw [q] at q'; cases q'
   obtain ⟨v, hv⟩ := xC
   exact ⟨v, by rw [EL]; exact hv⟩
  ·refine (ok b u q).j6 (fun c v hc r => k c v ?_ r) (fun c r => by rw [ak (GX c b r)]; exact r) fun c xs r => by rw [ak (LX c xs r)]; exact r
   rcases hc with rfl | hc
   ·exact EL
   ·rintro rfl
    rcases he with z | z
    ·exact GX c b hc z
    ·rw [hc] at z; cases z; exact hb rfl
end
structure Un (fs ex : List Addr) (H H' : Hp) (h h' : Heap) : Prop where
 keep : ∀ b o, h.get? b = some o -> H b = none -> b ∉ fs -> b ∉ ex -> h'.get? b = some o
 slot : ∀ b o, h.get? b = some o -> H b = none -> b ∈ fs -> b ∉ ex -> ∃ sl, h'.get? b = some { o with slots := sl }
 free : ∀ b o, h.get? b = some o -> H b = none -> b ∉ ex -> H' b = none
 there : ∀ b o, h.get? b = some o -> b ∉ ex -> ∃ o', h'.get? b = some o'
 fB : ∀ b xs, H b = some (.tup xs) -> H' b = some (.tup xs)
 iz : ∀ b o u, H b = some (.yN o u) -> H' b = some (.yN o u)
 iG : ∀ b ps, H b = some (.Dv ps) -> ∃ more, H' b = some (.Dv (ps ++ more))
section
variable {fs Kg ex No : List Addr} {H H1 H2 : Hp} {h h1 h2 h' : Heap} {a x e : Addr} {o : HO}
theorem Un.any (u : Un fs ex H H1 h h1) {b : Addr} {ob : Obj} (q : h.get? b = some ob) (n : H b = none) (hx : b ∉ ex) : ∃ sl, h1.get? b = some { ob with slots := sl } := by
 by_cases hb : b ∈ fs
 ·exact u.slot b ob q n hb hx
 ·exact ⟨ob.slots, u.keep b ob q n hb hx⟩
theorem Un.trans (a : Un fs ex H H1 h h1) (b : Un fs ex H1 H2 h1 h2) : Un fs ex H H2 h h2 where
 keep := fun c ob q n hc hx => b.keep c ob (a.keep c ob q n hc hx) (a.free c ob q n hx) hc hx
 slot := fun c ob q n hc hx => by
  obtain ⟨sl, e1⟩ := a.slot c ob q n hc hx
  obtain ⟨CZ, e2⟩ := b.slot c _ e1 (a.free c ob q n hx) hc hx
  exact ⟨CZ, e2⟩
 free := fun c ob q n hx => by
  obtain ⟨o', e1⟩ := a.there c ob q hx
  exact b.free c o' e1 (a.free c ob q n hx) hx
 there := fun c ob q hx => by
  obtain ⟨o', e1⟩ := a.there c ob q hx
  exact b.there c o' e1 hx
 fB := fun c xs q => b.fB c xs (a.fB c xs q)
 iz := fun c ob xs q => b.iz c ob xs (a.iz c ob xs q)
 iG := fun c ps q => by
  obtain ⟨m1, e1⟩ := a.iG c ps q
  obtain ⟨m2, e2⟩ := b.iG c _ e1
  exact ⟨m1 ++ m2, by rw [e2, Array.append_assoc]⟩
theorem Un.kept (k : ∀ b u, h.get? b = some u -> h'.get? b = some u) : Un fs ex H H h h' :=
 ⟨fun b ob q _ _ _ => k b ob q, fun b ob q _ _ _ => ⟨ob.slots, k b ob q⟩, fun _ _ _ n _ => n, fun b ob q _ => ⟨ob, k b ob q⟩, fun _ _ q => q, fun _ _ _ q => q, fun _ ps q => ⟨#[], by rw [q]; simp⟩⟩
theorem Un.refl : Un fs ex H H h h := Un.kept fun _ _ q => q
theorem Un.laid (k : ∀ b u, h.get? b = some u -> h'.get? b = some u) (hp : h.objs.size <= a) (hn : H a = none) : Un fs ex H (upd H a o) h h' where
 keep := fun b u q _ _ _ => k b u q
 slot := fun b u q _ _ _ => ⟨u.slots, k b u q⟩
 free := fun b u q n _ => by rw [ak (S2 (S6 (SI q) hp))]; exact n
 there := fun b u q _ => ⟨u, k b u q⟩
 fB := fun b xs q => by rw [ak (ay q hn)]; exact q
 iz := fun b u xs q => by rw [ak (ay q hn)]; exact q
 iG := fun b ps q => ⟨#[], by rw [ak (ay q hn), q]; simp⟩
theorem Un.write (mu : JP (H x)) (he : e = x \/ H e = some (.own x)) (k : ∀ b u, b ≠ e -> h.get? b = some u -> h'.get? b = some u) (xC : ∃ u, h'.get? e = some u) : Un fs ex H (upd H x o) h h' := by
 have hx : ∀ b, H b = none -> b ≠ x := fun b n z => by subst z; rw [n] at mu; exact mu
 have hb : ∀ b, H b = none -> b ≠ e := fun b n z => by
  subst z
  rcases he with r | r
  ·exact hx b n r
  ·rw [n] at r; cases r
 have hm : ∀ b u, H b = some u -> ¬ JP (some u) -> b ≠ x := fun b u q nm z => by subst z; rw [q] at mu; exact nm mu
 refine ⟨fun b u q n _ _ => k b u (hb b n) q, fun b u q n _ _ => ⟨u.slots, k b u (hb b n) q⟩, fun b u q n _ => by rw [ak (hx b n)]; exact n, fun b u q _ => ?_,
  fun b xs q => by rw [ak (hm b _ q fun z => z)]; exact q, fun b u xs q => by rw [ak (hm b _ q fun z => z)]; exact q, fun b ps q => ⟨#[], by rw [ak (hm b _ q fun z => z), q]; simp⟩⟩
 by_cases EL : b = e
 ·subst EL; exact xC
 ·exact ⟨u, k b u EL q⟩
theorem Un.mono (u : Un fs ex H H1 h h1) (hs : ∀ b ∈ fs, b ∈ Kg) (hx : ∀ b ∈ ex, b ∈ No) : Un Kg No H H1 h h1 :=
 ⟨fun b ob q n hb he => u.keep b ob q n (fun z => hb (hs b z)) fun z => he (hx b z), fun _ _ q n _ he => u.any q n fun z => he (hx _ z), fun b ob q n he => u.free b ob q n fun z => he (hx b z), fun b ob q he => u.there b ob q fun z => he (hx b z), u.fB, u.iz, u.iG⟩
end
def EM (h : Heap) (H : Hp) : List Addr := (List.range h.objs.size).filter fun a => (H a).isSome
def rH (h : Heap) (H : Hp) : Heap := PySem.W.hideAll h (EM h H)
theorem xO (h : Heap) (H : Hp) : (rH h H).objs.size = h.objs.size := PySem.W.hideAll_size _ _
theorem Ay {h : Heap} {H : Hp} {b : Addr} {o : Obj} (e : h.get? b = some o) (n : H b = none) : (rH h H).get? b = some o :=
 PySem.W.hideAll_get _ e fun hm => by
  have q : (H b).isSome = true := (Tb.mp hm).2
  rw [n] at q; simp at q
theorem BJ {h : Heap} {H : Hp} {b : Addr} {o : Obj} (e : (rH h H).get? b = some o) : h.get? b = some o /\ H b = none := by
 have e' : h.get? b = some o := PySem.W.of_hideAll (EM h H) e
 refine ⟨e', ?_⟩
 cases q : H b with
 | none => rfl
 | some x =>
  have hm : b ∈ EM h H := Tb.mpr ⟨List.mem_range.mpr (SI e'), by simp [q]⟩
  have z : (rH h H).get? b = none := PySem.W.hideAll_none (EM h H) hm
  rw [z] at e; cases e
def BI (g h : Heap) (L : Addr) : List (Addr × Obj) := (List.range h.objs.size).filterMap fun a => if a = L \/ (g.get? a).isSome = true then none else (h.get? a).map fun o => (a, o)
def rest (g h : Heap) (L d : Addr) : List (Addr × Obj) := (BI g h L).filter fun p => decide (p.1 ≠ d)
structure Mod (K : Vj) (mg : Str -> Option Value) (base : Heap) : Prop where
 wT : K.In base
 glob : base.Ns mainGlobals mg
 blt : ∃ mb, base.Ns builtinsNs mb /\ ∀ x : Str, x ≠ "__name__" -> mb x = bootBuiltins x
 nolimit : base.NoLimit
structure Cx where
 prog : Program
 w : World
 K : Vj
 mg : Str -> Option Value
 base : Heap
 A : Around
 N : List Str
 s₀ : Shared
 H₀ : Hp
 env : Env
 outer : List Env
 stack : List Env
 ex : List Addr
 fn : Str -> Bool
 calm : Bool
 pn : List (Addr × Obj)
 xe : Value -> Shared -> Prop
def jL (l : List Env) : List Addr := l.filterMap (·.frame)
abbrev Cx.fs (X : Cx) : List Addr := jL X.outer
def JK (sc : Scope) (x : Str) : Prop := sc.names.lookup x = some .local \/ sc.names.lookup x = some .cell \/ sc.names.lookup x = some .free
def Loc (sc : Scope) (x : Str) : Prop := sc.names.lookup x = some .local \/ sc.names.lookup x = some .cell
def Look (env : Env) (h : Heap) (m : Str -> Option Value) (x : Str) (u : Value) : Prop :=
 (env.kindOf x = some .local /\ m x = some u) \/ ((env.kindOf x = some .cell \/ env.kindOf x = some .free) /\ ∃ c, env.cells.lookup x = some c /\ h.IsCell c (some u))
structure Cx.Ok (X : Cx) : Prop where
 mod : Mod X.K X.mg X.base
 kind : X.env.scope.kind = .function
 glob : X.env.globals = mainGlobals
 blt : X.env.builtins = builtinsNs
 above : X.s₀.heap.objs.size <= X.env.locals
 inj : ∀ x y c, X.env.cells.lookup x = some c -> X.env.cells.lookup y = some c -> x = y
 has : ∀ x, (X.env.kindOf x = some .cell \/ X.env.kindOf x = some .free) -> ∃ c, X.env.cells.lookup x = some c
 Go : ∀ x c, X.fn x = true -> X.env.cells.lookup x = some c -> X.s₀.heap.objs.size <= c
 hd : X.calm = true -> X.A.handled = none
 frames : X.A.frames = some X.stack
 Il : X.stack = X.outer \/ (X.stack = X.env :: X.outer /\ X.env.frame = some X.env.locals)
 IA : ∀ b ∈ X.ex, b ≠ X.env.locals /\ ∀ x c, X.env.cells.lookup x = some c -> c ≠ b
 bs : ∀ b o, X.base.get? b = some o -> X.s₀.heap.get? b = some o /\ X.H₀ b = none
 yO : X.base.objs.size <= X.s₀.heap.objs.size
 yH : ∀ b o, X.base.get? b = some o -> b ∉ X.ex
 yG : ∀ b ∈ X.ex, b ∉ X.fs
 ke : X.s₀.heap.FunFrames X.base X.outer
 Db : ∀ b ∈ X.fs, X.H₀ b = none
structure Inv (X : Cx) (pins : List (Addr × Obj)) (σ : List (Option V)) (H : Hp) (s : Shared) : Prop where
 ok : X.Ok
 os : s.os = X.s₀.os
 bare : AllBare s.gens
 base : Un X.fs X.ex X.H₀ H X.s₀.heap s.heap
 loc : ∃ m, s.heap.Ns X.env.locals m /\ ∀ (i : Nat) (x : Str) (v : V), X.N[i]? = some x -> σ[i]? = some (some v) -> JK X.env.scope x -> ∃ u, RelV v u /\ Look X.env s.heap m x u
 cell : ∀ x c, X.env.cells.lookup x = some c -> ∃ v, s.heap.IsCell c v
 free : H X.env.locals = none
 im : ∀ x c, X.env.cells.lookup x = some c -> H c = none
 pin : ∀ p ∈ X.pn ++ pins, s.heap.get? p.1 = some p.2 /\ H p.1 = none /\ p.1 ≠ X.env.locals /\ p.1 ∉ X.fs /\ ∀ v, p.2.data ≠ .cell v
 aP : iA X.prog X.w H s.heap
 len : σ.length = X.N.length
section
variable {X : Cx} {pins : List (Addr × Obj)} {σ : List (Option V)} {H H' : Hp} {s : Shared} {h' : Heap}
theorem Cx.Ok.Kr (ok : X.Ok) {b : Addr} {o : Obj} (e : X.base.get? b = some o) : b ∉ X.fs := fun hb => by
 have := (ok.ke.mem hb).1
 rw [e] at this; cases this
theorem Inv.bs (I : Inv X pins σ H s) : ∀ b o, X.base.get? b = some o -> s.heap.get? b = some o /\ H b = none := fun b o e =>
 ⟨I.base.keep b o (I.ok.bs b o e).1 (I.ok.bs b o e).2 (I.ok.Kr e) (I.ok.yH b o e), I.base.free b o (I.ok.bs b o e).1 (I.ok.bs b o e).2 (I.ok.yH b o e)⟩
theorem Inv.bk (I : Inv X pins σ H s) : ∀ b o, X.base.get? b = some o -> s.heap.get? b = some o := fun b o e => (I.bs b o e).1
theorem Inv.mod (I : Inv X pins σ H s) : Mod X.K X.mg X.base := I.ok.mod
theorem Inv.xc (I : Inv X pins σ H s) : X.K.In s.heap := I.ok.mod.wT.keeps I.bk
theorem Inv.nolimit (I : Inv X pins σ H s) : s.heap.NoLimit := I.ok.mod.nolimit.keeps I.bk
theorem Inv.fr (I : Inv X pins σ H s) : ∃ m, Fr X.base X.env.locals s.heap m :=
 let ⟨m, hn, _⟩ := I.loc
 ⟨m, hn, I.bk, SD I.ok.yO I.ok.above⟩
theorem Inv.lt (I : Inv X pins σ H s) : X.env.locals < s.heap.objs.size := let ⟨_, hn, _⟩ := I.loc; hn.lt
theorem Inv.sz (I : Inv X pins σ H s) : X.s₀.heap.objs.size <= s.heap.objs.size := SD I.ok.above (U0 I.lt)
theorem Inv.HS (I : Inv X pins σ H s) {a : Addr} (h : s.heap.objs.size <= a) : a ∉ X.fs := fun hb => by
 obtain ⟨_, o, ho, _⟩ := I.ok.ke.mem hb
 exact absurd (S6 (SI ho) (SD I.sz h)) (TM _)
theorem Inv.vQ (I : Inv X pins σ H s) : ∀ x c, X.env.cells.lookup x = some c -> c ≠ X.env.locals := fun x c e z => by
 obtain ⟨v, o, ho, hd⟩ := I.cell x c e
 obtain ⟨m, ⟨o', es, ep, j8, uH, _⟩, _⟩ := I.loc
 rw [z, j8] at ho; cases ho; rw [uH] at hd; cases hd
theorem Inv.ke (I : Inv X pins σ H s) : s.heap.FunFrames X.base X.outer := by
 have all : ∀ (l : List Env), (∀ b ∈ jL l, b ∈ X.fs) -> X.s₀.heap.FunFrames X.base l -> s.heap.FunFrames X.base l := by
  intro l
  induction l with
  | nil => intro _ _; trivial
  | cons env r ih =>
   intro hs hl
   obtain ⟨hk, ⟨L, o, hf, hn, ho, hd⟩, hr⟩ := hl
   have hL : L ∈ X.fs := hs L (by unfold jL; rw [List.filterMap_cons, hf]; exact Sv)
   obtain ⟨sl, e⟩ := I.base.slot L o ho (I.ok.Db L hL) hL fun z => I.ok.yG L z hL
   exact ⟨hk, ⟨L, _, hf, hn, e, hd⟩, ih (fun b hb => hs b (by unfold jL; rw [List.filterMap_cons, hf]; exact Su _ hb)) hr⟩
 exact all X.outer (fun _ hb => hb) I.ok.ke
theorem Inv.stack (I : Inv X pins σ H s) : s.heap.FunFrames X.base X.stack := by
 rcases I.ok.Il with e | ⟨e, hf⟩
 ·rw [e]; exact I.ke
 ·rw [e]
  obtain ⟨m, hn, _⟩ := I.loc
  refine .cons (by rw [I.ok.kind]; decide) hf hn ?_ I.ke
  exact UA (SD I.ok.yO I.ok.above)
theorem Inv.jY (I : Inv X pins σ H s) : ∀ b ∈ jL X.stack, b ∈ X.env.locals :: X.fs := fun b hb => by
 rcases I.ok.Il with e | ⟨e, hf⟩
 ·rw [e] at hb; exact Su _ hb
 ·rw [e] at hb
  unfold jL at hb
  rw [List.filterMap_cons, hf] at hb
  exact hb
theorem Inv.nr (I : Inv X pins σ H s) : ∀ b ∈ jL X.stack, H b = none := fun b hb => by
 rcases Sx.mp (I.jY b hb) with e | hb
 ·rw [e]; exact I.free
 ·obtain ⟨_, o, ho, _⟩ := I.ok.ke.mem hb
  exact I.base.free b o ho (I.ok.Db b hb) fun z => I.ok.yG b z hb
theorem Inv.step {g' : Array GenState} {t' : Nat} {d' : Drawn} {ch : List Addr} (I : Inv X pins σ H s)
  (nu : ∀ b ∈ ch, (b ∈ X.ex \/ X.s₀.heap.objs.size <= b) /\ b ≠ X.env.locals /\ (∀ x c, X.env.cells.lookup x = some c -> c ≠ b) /\ ∀ p ∈ X.pn ++ pins, p.1 ≠ b)
  (keep : ∀ b o, b ≠ X.env.locals -> b ∉ X.fs -> b ∉ ch -> s.heap.get? b = some o -> H b = none -> h'.get? b = some o)
  (slot : ∀ b o, b ≠ X.env.locals -> b ∈ X.fs -> b ∉ ch -> s.heap.get? b = some o -> H b = none -> ∃ sl, h'.get? b = some { o with slots := sl }) (free : ∀ b o, b ∉ ch -> s.heap.get? b = some o -> H b = none -> H' b = none)
  (there : ∀ b o, b ∉ ch -> s.heap.get? b = some o -> ∃ o', h'.get? b = some o')
  (fB : ∀ b xs, H b = some (.tup xs) -> H' b = some (.tup xs)) (iz : ∀ b o u, H b = some (.yN o u) -> H' b = some (.yN o u)) (iG : ∀ b ps, H b = some (.Dv ps) -> ∃ more, H' b = some (.Dv (ps ++ more)))
  (ns : ∀ m, s.heap.Ns X.env.locals m -> h'.Ns X.env.locals m) (aP : iA X.prog X.w H' h') (hg : AllBare g') :
  Inv X pins σ H' { s with heap := h', gens := g', drawn := d', toks := t' } := by
 have MT : ∀ b o, X.s₀.heap.get? b = some o -> b ≠ X.env.locals := fun b o e => S2 (S6 (SI e) I.ok.above)
 have IY : ∀ b o, X.s₀.heap.get? b = some o -> b ∉ X.ex -> b ∉ ch := fun b o e hx hb => by
  rcases (nu b hb).1 with z | z
  ·exact hx z
  ·exact absurd (S6 (SI e) z) (TM _)
 have cellK : ∀ x c, X.env.cells.lookup x = some c -> ∀ v, s.heap.IsCell c v -> h'.IsCell c v := fun x c e v ⟨o, ho, hd⟩ => by
  have y7 : c ∉ ch := fun z => (nu c z).2.2.1 x c e rfl
  by_cases hc : c ∈ X.fs
  ·obtain ⟨sl, q⟩ := slot c o (I.vQ x c e) hc y7 ho (I.im x c e)
   exact ⟨_, q, hd⟩
  ·exact ⟨o, keep c o (I.vQ x c e) hc y7 ho (I.im x c e), hd⟩
 refine ⟨I.ok, I.os, hg, ⟨fun b o e n hb hx => ?_, fun b o e n hb hx => ?_, fun b o e n hx => ?_, fun b o e hx => ?_, fun b xs e => fB b xs (I.base.fB b xs e), fun b o xs e => iz b o xs (I.base.iz b o xs e), fun b ps e => ?_⟩, ?_, fun x c e => ?_, ?_, fun x c e => ?_, fun p hp => ?_, aP, I.len⟩
 ·exact keep b o (MT b o e) hb (IY b o e hx) (I.base.keep b o e n hb hx) (I.base.free b o e n hx)
 ·obtain ⟨sl, e1⟩ := I.base.slot b o e n hb hx
  obtain ⟨CZ, e2⟩ := slot b _ (MT b o e) hb (IY b o e hx) e1 (I.base.free b o e n hx)
  exact ⟨CZ, e2⟩
 ·obtain ⟨o', e1⟩ := I.base.there b o e hx
  exact free b o' (IY b o e hx) e1 (I.base.free b o e n hx)
 ·obtain ⟨o', e1⟩ := I.base.there b o e hx
  exact there b o' (IY b o e hx) e1
 ·obtain ⟨m1, e1⟩ := I.base.iG b ps e
  obtain ⟨m2, e2⟩ := iG b _ e1
  exact ⟨m1 ++ m2, by rw [e2, Array.append_assoc]⟩
 ·obtain ⟨m, hn, hl⟩ := I.loc
  refine ⟨m, ns m hn, fun i x v e1 e2 e3 => ?_⟩
  obtain ⟨u, r, l⟩ := hl i x v e1 e2 e3
  refine ⟨u, r, ?_⟩
  rcases l with l | ⟨k, c, e, z⟩
  ·exact .inl l
  ·exact .inr ⟨k, c, e, cellK x c e _ z⟩
 ·obtain ⟨v, z⟩ := I.cell x c e
  exact ⟨v, cellK x c e v z⟩
 ·obtain ⟨m, ⟨o, _, _, ho, _⟩, _⟩ := I.loc
  exact free _ o (fun z => (nu _ z).2.1 rfl) ho I.free
 ·obtain ⟨v, o, ho, hd⟩ := I.cell x c e
  exact free c o (fun z => (nu c z).2.2.1 x c e rfl) ho (I.im x c e)
 ·obtain ⟨e, n, ne, nf, d⟩ := I.pin p hp
  have y7 : p.1 ∉ ch := fun z => (nu p.1 z).2.2.2 p hp rfl
  exact ⟨keep p.1 p.2 ne nf y7 e n, free p.1 p.2 y7 e n, ne, nf, d⟩
theorem Inv.un {t' : Nat} (I : Inv X pins σ H s) (u : Un X.fs [] H H' s.heap h') (aP : iA X.prog X.w H' h') : Inv X pins σ H' { s with heap := h', toks := t' } := by
 obtain ⟨m, ⟨o, es, ep, ho, r⟩, _⟩ := id I.loc
 obtain ⟨sl, hL⟩ := u.any ho I.free (by simp)
 exact I.step (g' := s.gens) (d' := s.drawn) (ch := []) (fun _ z => nomatch z) (fun b o _ hb _ e n => u.keep b o e n hb (by simp)) (fun b o _ hb _ e n => u.slot b o e n hb (by simp)) (fun b o _ e n => u.free b o e n (by simp)) (fun b o _ e => u.there b o e (by simp)) u.fB u.iz u.iG (fun m' hm => by
  obtain ⟨o', x9, yS, j8, r'⟩ := hm
  rw [ho] at j8; cases j8
  exact ⟨_, x9, yS, hL, r'⟩) aP I.bare
theorem Inv.call {g' : Array GenState} {t' : Nat} {d' : Drawn} {ch : List Addr} (I : Inv X pins σ H s) (u : Un (jL X.stack) ch H H' s.heap h') (aP : iA X.prog X.w H' h') (hg : AllBare g')
  (nu : ∀ b ∈ ch, (b ∈ X.ex \/ X.s₀.heap.objs.size <= b) /\ b ≠ X.env.locals /\ (∀ x c, X.env.cells.lookup x = some c -> c ≠ b) /\ ∀ p ∈ X.pn ++ pins, p.1 ≠ b) :
  Inv X pins σ H' { s with heap := h', gens := g', drawn := d', toks := t' } := by
 obtain ⟨m, ⟨o, es, ep, ho, r⟩, _⟩ := id I.loc
 obtain ⟨sl, hL⟩ := u.any ho I.free fun z => (nu _ z).2.1 rfl
 exact I.step (ch := ch) nu (fun b o hL hb hc e n => u.keep b o e n (fun z => (Sx.mp (I.jY b z)).elim hL hb) hc) (fun b o _ _ hc e n => u.any e n hc) (fun b o hc e n => u.free b o e n hc) (fun b o hc e => u.there b o e hc) u.fB u.iz u.iG (fun m' hm => by
  obtain ⟨o', x9, yS, j8, r'⟩ := hm
  rw [ho] at j8; cases j8
  exact ⟨_, x9, yS, hL, r'⟩) aP hg
theorem Inv.turned {t' : Nat} {it : Addr} (I : Inv X pins σ H s) (k : ∀ b o, b ≠ it -> s.heap.get? b = some o -> h'.get? b = some o) (hn : H it = none) (hL : it ≠ X.env.locals)
  (h1 : it ∈ X.ex \/ X.s₀.heap.objs.size <= it) (h2 : ∀ x c, X.env.cells.lookup x = some c -> c ≠ it) (h3 : ∀ p ∈ X.pn ++ pins, p.1 ≠ it) : Inv X pins σ H { s with heap := h', toks := t' } := by
 have HL : ∀ b u, H b = some u -> b ≠ it := fun b u e z => by rw [z, hn] at e; cases e
 refine I.step (g' := s.gens) (d' := s.drawn) (ch := [it]) (fun b hb => ?_) (fun b o _ _ hc e _ => k b o (fun z => hc (by simp [z])) e) (fun b o _ _ hc e _ => ⟨o.slots, k b o (fun z => hc (by simp [z])) e⟩) (fun _ _ _ _ n => n)
  (fun b o hc e => ⟨o, k b o (fun z => hc (by simp [z])) e⟩) (fun _ _ e => e) (fun _ _ _ e => e) (fun b ps e => ⟨#[], by rw [e]; simp⟩) (fun m hm => ?_) (fun b u e => ?_) I.bare
 ·have e : b = it := by simpa using hb
  subst e
  exact ⟨h1, hL, h2, h3⟩
 ·obtain ⟨o, es, ep, ho, r⟩ := hm
  exact ⟨o, es, ep, k _ o (UT hL) ho, r⟩
 ·refine (I.aP b u e).j6 (fun c v hc q => k c v ?_ q) (fun _ q => q) fun _ _ q => q
  rcases hc with z | z
  ·rw [z]; exact HL b u e
  ·exact HL c _ z
theorem Inv.tok (I : Inv X pins σ H s) (t : Nat) : Inv X pins σ H { s with toks := t } := I.un (h' := s.heap) (t' := t) Un.refl I.aP
theorem Inv.kept {t' : Nat} (I : Inv X pins σ H s) (k : ∀ b u, s.heap.get? b = some u -> h'.get? b = some u) : Inv X pins σ H { s with heap := h', toks := t' } := I.un (Un.kept k) (I.aP.kept k)
theorem Inv.laid {a : Addr} {o : HO} {t' : Nat} (I : Inv X pins σ H s) (k : ∀ b u, s.heap.get? b = some u -> h'.get? b = some u) (hp : s.heap.objs.size <= a) (new : cp X.prog X.w (upd H a o) h' a o) :
  Inv X pins σ (upd H a o) { s with heap := h', toks := t' } := I.un (Un.laid k hp (I.aP.fresh hp)) (I.aP.laid k hp new)
theorem Inv.write {x e : Addr} {o : HO} {t' : Nat} (I : Inv X pins σ H s) (mu : JP (H x)) (he : e = x \/ H e = some (.own x)) (k : ∀ b u, b ≠ e -> s.heap.get? b = some u -> h'.get? b = some u) (xC : ∃ u, h'.get? e = some u)
  (new : cp X.prog X.w (upd H x o) h' x o) : Inv X pins σ (upd H x o) { s with heap := h', toks := t' } := I.un (Un.write mu he k xC) (I.aP.write mu he k xC new)
theorem Inv.weak {σ' : List (Option V)} (I : Inv X pins σ H s) (hl : σ'.length = σ.length) (w : ∀ (i : Nat) v, σ'[i]? = some (some v) -> σ[i]? = some (some v)) : Inv X pins σ' H s :=
 ⟨I.ok, I.os, I.bare, I.base, let ⟨m, hn, rm⟩ := I.loc; ⟨m, hn, fun i x v e1 e2 e3 => rm i x v e1 (w i v e2) e3⟩, I.cell, I.free, I.im, I.pin, I.aP, hl.trans I.len⟩
theorem Inv.wt {Ea : List (Addr × Obj)} (I : Inv X pins σ H s) (h : ∀ p ∈ Ea, s.heap.get? p.1 = some p.2 /\ H p.1 = none /\ p.1 ≠ X.env.locals /\ p.1 ∉ X.fs /\ ∀ v, p.2.data ≠ .cell v) : Inv X Ea σ H s :=
 ⟨I.ok, I.os, I.bare, I.base, I.loc, I.cell, I.free, I.im, fun p hp => (S0.mp hp).elim (fun z => I.pin p (T7 _ z)) (h p), I.aP, I.len⟩
theorem sU {N : List Str} (hN : N.Nodup) {i j : Nat} {x : Str} (a : N[i]? = some x) (b : N[j]? = some x) : i = j := by
 obtain ⟨h1, e1⟩ := SR.mp a
 obtain ⟨h2, e2⟩ := SR.mp b
 exact (List.getElem_inj hN).mp (e1.trans e2.symm)
theorem qt {M : Model} {A : Around} {E : Value -> Shared -> Prop} {i : Nat} {x : Str} {v : V} {u : Value} {Q : Unit -> Shared -> Prop} (I : Inv X pins σ H s) (hN : X.N.Nodup) (hi : X.N[i]? = some x) (hx : Loc X.env.scope x) (r : RelV v u)
  (h : ∀ s', Inv X pins (σ.set i (some v)) H s' -> (∃ a, Heap.SameBut a s.heap s'.heap /\ (a = X.env.locals \/ X.env.cells.lookup x = some a)) -> Q () s') (hf : X.fn x = true \/ X.env.scope.names.lookup x = some .local := by first | exact .inl rfl | exact .inr rfl | assumption) : wpAny M A (storeName X.env x u) Q E s := by
 obtain ⟨m, hn, hl⟩ := id I.loc
 have J2 : (X.env.scope.kind == .class || (X.env.scope.kind == .module && X.env.locals != X.env.globals)) = false := by rw [I.ok.kind]; rfl
 have GB : i < σ.length := by rw [I.len]; exact (SR.mp hi).1
 have vQ := I.vQ
 have tracked : ∀ {a : Addr} {h' : Heap}, (∃ o, s.heap.get? a = some o /\ H a = none) -> Heap.SameBut a s.heap h' -> iA X.prog X.w H h' := fun {a h'} ha hs b ob e => by
  obtain ⟨_, _, Dw⟩ := ha
  refine (I.aP b ob e).j6 (fun c w' hc q => (hs.2 c ?_).trans q) (fun _ q => q) fun _ _ q => q
  rintro rfl
  rcases hc with rfl | hc
  ·rw [Dw] at e; cases e
  ·rw [Dw] at hc; cases hc
 rcases hx with hk | hk
 ·refine wpAny_storeName_local hk hn (fun h' Ro hs => ?_) J2
  obtain ⟨oL, _, _, Jg, _⟩ := id hn
  refine h _ ⟨I.ok, I.os, I.bare, ⟨fun b o e n hb hx => ?_, fun b o e n hb hx => ?_, I.base.free, fun b o e hx => ?_, I.base.fB, I.base.iz, I.base.iG⟩, ⟨_, Ro, fun j y v' e1 e2 e3 => ?_⟩, fun y c e => ?_, I.free, I.im, fun p hp => ?_, tracked ⟨oL, Jg, I.free⟩ hs, by simpa using I.len⟩ ⟨_, hs, .inl rfl⟩
  ·exact (hs.2 b (S2 (S6 (SI e) I.ok.above))).trans (I.base.keep b o e n hb hx)
  ·obtain ⟨sl, e1⟩ := I.base.slot b o e n hb hx
   exact ⟨sl, (hs.2 b (S2 (S6 (SI e) I.ok.above))).trans e1⟩
  ·obtain ⟨o', e1⟩ := I.base.there b o e hx
   exact ⟨o', (hs.2 b (S2 (S6 (SI e) I.ok.above))).trans e1⟩
  ·by_cases hj : j = i
   ·subst hj
    rw [hi] at e1; cases e1
    rw [List.getElem?_set_self GB] at e2
    cases e2
    exact ⟨u, r, .inl ⟨hk, by simp⟩⟩
   ·rw [List.getElem?_set_ne (UT hj)] at e2
    obtain ⟨u', r', q⟩ := hl j y v' e1 e2 e3
    refine ⟨u', r', ?_⟩
    rcases q with ⟨k, e⟩ | ⟨k, c, e, z⟩
    ·refine .inl ⟨k, ?_⟩
     have : y ≠ x := fun e => hj (sU hN e1 (e ▸ hi))
     simp [this, e]
    ·exact .inr ⟨k, c, e, z.sameBut hs (vQ y c e)⟩
  ·obtain ⟨w', z⟩ := I.cell y c e
   exact ⟨w', z.sameBut hs (vQ y c e)⟩
  ·obtain ⟨e, n, ne, nf, d⟩ := I.pin p hp
   exact ⟨(hs.2 p.1 ne).trans e, n, ne, nf, d⟩
 ·have J0 : X.fn x = true := by
   rcases hf with z | z
   ·exact z
   ·rw [z] at hk; cases hk
  obtain ⟨c, hc⟩ := I.ok.has x (.inl hk)
  obtain ⟨w', z⟩ := I.cell x c hc
  refine wpAny_storeName_cell I.ok.kind hk hc z (fun h' uI hs => ?_)
  obtain ⟨oc, MW, Ks⟩ := id z
  refine h { s with heap := h' } ⟨I.ok, I.os, I.bare, ⟨fun b o e n hb hx => ?_, fun b o e n hb hx => ?_, I.base.free, fun b o e hx => ?_, I.base.fB, I.base.iz, I.base.iG⟩, ⟨m, hn.sameBut hs (UT (vQ x c hc)), fun j y v' e1 e2 e3 => ?_⟩, fun y c' e => ?_, I.free, I.im, fun p hp => ?_, tracked ⟨oc, MW, I.im x c hc⟩ hs, by simpa using I.len⟩ ⟨c, hs, .inr hc⟩
  ·exact (hs.2 b (S2 (S6 (SI e) (I.ok.Go x c J0 hc)))).trans (I.base.keep b o e n hb hx)
  ·obtain ⟨sl, e1⟩ := I.base.slot b o e n hb hx
   exact ⟨sl, (hs.2 b (S2 (S6 (SI e) (I.ok.Go x c J0 hc)))).trans e1⟩
  ·obtain ⟨o', e1⟩ := I.base.there b o e hx
   exact ⟨o', (hs.2 b (S2 (S6 (SI e) (I.ok.Go x c J0 hc)))).trans e1⟩
  ·by_cases hj : j = i
   ·subst hj
    rw [hi] at e1; cases e1
    rw [List.getElem?_set_self GB] at e2
    cases e2
    exact ⟨u, r, .inr ⟨.inl hk, c, hc, uI⟩⟩
   ·rw [List.getElem?_set_ne (UT hj)] at e2
    obtain ⟨u', r', q⟩ := hl j y v' e1 e2 e3
    refine ⟨u', r', ?_⟩
    rcases q with q | ⟨k, c', e, z'⟩
    ·exact .inl q
    ·refine .inr ⟨k, c', e, z'.sameBut hs ?_⟩
     rintro rfl
     exact hj (sU hN e1 (I.ok.inj _ _ _ e hc ▸ hi))
  ·by_cases MN : c' = c
   ·subst MN; exact ⟨_, uI⟩
   ·obtain ⟨w2, z2⟩ := I.cell y c' e
    exact ⟨w2, z2.sameBut hs MN⟩
  ·obtain ⟨e, n, ne, nf, d⟩ := I.pin p hp
   refine ⟨(hs.2 p.1 ?_).trans e, n, ne, nf, d⟩
   intro q
   rw [q, MW] at e
   have q' : oc = p.2 := Tw e
   exact d w' (by rw [<- q']; exact Ks)
theorem oO {M : Model} {A : Around} {E : Value -> Shared -> Prop} {i : Nat} {x : Str} {v : V} {u : Value} {Q : Unit -> Shared -> Prop} (I : Inv X pins σ H s) (hN : X.N.Nodup) (hi : X.N[i]? = some x) (hx : Loc X.env.scope x) (r : RelV v u)
  (h : ∀ s', Inv X pins (σ.set i (some v)) H s' -> Q () s') (hf : X.fn x = true \/ X.env.scope.names.lookup x = some .local := by first | exact .inl rfl | exact .inr rfl | assumption) : wpAny M A (storeName X.env x u) Q E s :=
 qt I hN hi hx r (fun s' I' _ => h s' I') hf
theorem Inv.Eb {s' : Shared} {ch : List Addr} (I : Inv X pins σ H s) (ho : s'.os = s.os) (u : Un (jL X.stack) ch H H' s.heap s'.heap) (aP : iA X.prog X.w H' s'.heap) (hg : AllBare s'.gens)
  (nu : ∀ b ∈ ch, (b ∈ X.ex \/ X.s₀.heap.objs.size <= b) /\ b ≠ X.env.locals /\ (∀ x c, X.env.cells.lookup x = some c -> c ≠ b) /\ ∀ p ∈ X.pn ++ pins, p.1 ≠ b) : Inv X pins σ H' s' := by
 obtain ⟨h', g', d', t', o'⟩ := s'
 have e : o' = s.os := ho
 subst e
 exact I.call (g' := g') (t' := t') (d' := d') u aP hg nu
end
abbrev XK := Value -> Option Addr -> Hp -> Prop
abbrev St := List (Option V)
abbrev VK := V -> Hp -> Prop
abbrev TE := St -> Hp -> VK -> Prop
abbrev TT := St -> Hp -> (Bool -> Hp -> Prop) -> Prop
abbrev TA := St -> Hp -> (List V -> Hp -> Prop) -> Prop
structure Ends where
 nx : St -> Hp -> Prop
 rt : VK
 bk : St -> Hp -> Prop := fun _ _ => False
 ct : St -> Hp -> Prop := fun _ _ => False
abbrev TS := Ends -> St -> Hp -> Prop
def EP (X : Cx) (pins : List (Addr × Obj)) (σ : St) (Q : VK) (u : Value) (s' : Shared) : Prop := ∃ v H', Inv X pins σ H' s' /\ RelV v u /\ Q v H'
def TP (X : Cx) (pins : List (Addr × Obj)) (σ : St) (Q : Bool -> Hp -> Prop) (b : Bool) (s' : Shared) : Prop := ∃ H', Inv X pins σ H' s' /\ Q b H'
def AP (X : Cx) (pins : List (Addr × Obj)) (σ : St) (Q : List V -> Hp -> Prop) (us : List Value) (s' : Shared) : Prop := ∃ vs H', Inv X pins σ H' s' /\ Vals vs us /\ Q vs H'
def SP (X : Cx) (pins : List (Addr × Obj)) (D : Ends) (f : Flow) (s' : Shared) : Prop :=
 match f with
 | .next => ∃ σ' H', Inv X pins σ' H' s' /\ D.nx σ' H'
 | .brk => ∃ σ' H', Inv X pins σ' H' s' /\ D.bk σ' H'
 | .cont => ∃ σ' H', Inv X pins σ' H' s' /\ D.ct σ' H'
 | .ret u => ∃ v σ' H', Inv X pins σ' H' s' /\ RelV v u /\ D.rt v H'
def PE (X : Cx) (e : Expr) (t : TE) : Prop :=
 ∀ (pins : List (Addr × Obj)) (s : Shared) (σ : St) (H : Hp) (Q : VK), Inv X pins σ H s -> t σ H Q -> wpAny (model X.prog X.w) X.A (eval e X.env) (EP X pins σ Q) X.xe s
def PT (X : Cx) (e : Expr) (t : TT) : Prop :=
 ∀ (pins : List (Addr × Obj)) (s : Shared) (σ : St) (H : Hp) (Q : Bool -> Hp -> Prop), Inv X pins σ H s -> t σ H Q -> wpAny (model X.prog X.w) X.A (isTrue e X.env (eval e X.env)) (TP X pins σ Q) X.xe s
def PW (X : Cx) (e : Expr) (t : TT) : Prop :=
 ∀ (whole : Sem Value) (pins : List (Addr × Obj)) (s : Shared) (σ : St) (H : Hp) (Q : Bool -> Hp -> Prop), Inv X pins σ H s -> t σ H Q -> wpAny (model X.prog X.w) X.A (isTrue e X.env whole) (TP X pins σ Q) X.xe s
theorem PW.pt {X : Cx} {e : Expr} {t : TT} (h : PW X e t) : PT X e t := h _
def PA (X : Cx) (es : List Expr) (t : TA) : Prop :=
 ∀ (pos : Pos) (pins : List (Addr × Obj)) (s : Shared) (σ : St) (H : Hp) (Q : List V -> Hp -> Prop), Inv X pins σ H s -> t σ H Q -> wpAny (model X.prog X.w) X.A (spliced (backTo pos (starEach es X.env))) (AP X pins σ Q) X.xe s
def PS (X : Cx) (st : Stmt) (t : TS) : Prop :=
 ∀ (pins : List (Addr × Obj)) (s : Shared) (σ : St) (H : Hp) (D : Ends), Inv X pins σ H s -> t D σ H -> wpAny (model X.prog X.w) X.A (exec st X.env) (SP X pins D) X.xe s
def uv (X : Cx) (st : List Stmt) (t : TS) : Prop :=
 ∀ (pins : List (Addr × Obj)) (s : Shared) (σ : St) (H : Hp) (D : Ends), Inv X pins σ H s -> t D σ H -> wpAny (model X.prog X.w) X.A (execs st X.env) (SP X pins D) X.xe s
theorem bO {α : Type} {t : Sem α} {Q Q' : α -> Shared -> Prop} {M : Model} {A : Around} {E : Value -> Shared -> Prop} {s : Shared} (h : wpAny M A t Q E s) (hQ : ∀ a s, Q a s -> Q' a s) : wpAny M A t Q' E s := TZ h hQ fun _ _ x => x
section
variable {X : Cx}
theorem bin {a b : Expr} {ta tb : TE} (ha : PE X a ta) (hb : PE X b tb) {pins : List (Addr × Obj)} {s : Shared} {σ : St} {H : Hp} {R : V -> V -> Hp -> Prop} (I : Inv X pins σ H s) (h : ta σ H fun x H1 => tb σ H1 fun y H2 => R x y H2)
  {α : Type} {Q : α -> Shared -> Prop} {f : Value -> Value -> Sem α}
  (hf : ∀ v u s2 x y H2, Inv X pins σ H2 s2 -> RelV x v -> RelV y u -> R x y H2 -> wpAny (model X.prog X.w) X.A (f v u) Q X.xe s2) :
  wpAny (model X.prog X.w) X.A (eval a X.env) (fun v s₁ => wpAny (model X.prog X.w) X.A (eval b X.env) (fun u s₂ => wpAny (model X.prog X.w) X.A (f v u) Q X.xe s₂) X.xe s₁) X.xe s := by
 refine bO (ha pins s σ H _ I h) fun v s1 ⟨x, H1, I1, r1, q1⟩ => ?_
 refine bO (hb pins s1 σ H1 _ I1 q1) fun u s2 ⟨y, H2, I2, r2, q2⟩ => ?_
 exact hf v u s2 x y H2 I2 r1 r2 q2
def Ih (i : Nat) : TE := fun σ H Q => ∃ v, σ[i]? = some (some v) /\ Q v H
def tC (v : V) : TE := fun _ H Q => Q v H
theorem FJ {i : Nat} {x : Str} {pos : Pos} (hN : X.N[i]? = some x) (hv : JK X.env.scope x) (hd : (x == ("__debug__" : Str)) = false := by decide) (ve : (x == ("__classdict__" : Str)) = false := by decide) : PE X (.Name x pos) (Ih i) := by
 intro pins s σ H Q I h
 obtain ⟨v, e, h⟩ := h
 obtain ⟨m, hn, hl⟩ := I.loc
 obtain ⟨u, r, l⟩ := hl i x v hN e hv
 have fin : EP X pins σ Q u s := ⟨v, H, I, r, h⟩
 rcases l with ⟨hk, hm⟩ | ⟨hk, c, hc, qh⟩
 ·exact wpAny_Name (wpAny_loadName_local I.ok.kind hk hn hm fin) hd
 ·rcases hk with hk | hk
  ·exact wpAny_Name (wpAny_loadName_cell I.ok.kind hk hc qh fin) hd
  ·exact wpAny_Name (wpAny_loadName_free I.ok.kind hk hc qh fin ve) hd
theorem ao {i j pos} : PE X (.Constant (.int i) j pos) (tC (.int i)) := fun _ _ _ H _ I h => wpAny_Constant_int ⟨.int i, H, I.tok _, ⟨_, rfl⟩, h⟩
theorem iB {b j pos} : PE X (.Constant (.bool b) j pos) (tC (.bl b)) := fun _ _ _ H _ I h => Constant_bool ⟨.bl b, H, I, rfl, h⟩
theorem nV {j pos} : PE X (.Constant .none j pos) (tC .cc) := fun _ _ _ H _ I h => Constant_none ⟨.cc, H, I, rfl, h⟩
theorem jU {x j pos} : PE X (.Constant (.str x) j pos) (tC (.str x)) := fun _ _ _ H _ I h => Calls.Constant_str ⟨.str x, H, I.tok _, ⟨_, rfl⟩, h⟩
def Gl (X : Cx) (x : Str) : Prop := X.env.kindOf x = some .globalImplicit
theorem kH {E : Value -> Shared -> Prop} {pins : List (Addr × Obj)} {s : Shared} {σ : St} {H : Hp} {x : Str} {u : Value} {pos : Pos} {Q : Value -> Shared -> Prop} (I : Inv X pins σ H s) (hg : Gl X x) (hm : X.mg x = some u) (h : Q u s)
  (hd : (x == ("__debug__" : Str)) = false := by decide) : wpAny (model X.prog X.w) X.A (eval (.Name x pos) X.env) Q E s :=
 Calls.Name_function_global I.ok.kind hg (Calls.loadGlobal_global (by rw [I.ok.glob]; exact I.mod.glob.keeps I.bk) hm h) hd
theorem nR {E : Value -> Shared -> Prop} {pins : List (Addr × Obj)} {s : Shared} {σ : St} {H : Hp} {x : Str} {u : Value} {pos : Pos} {Q : Value -> Shared -> Prop} (I : Inv X pins σ H s) (hg : Gl X x) (hm : X.mg x = none) (hv : bootBuiltins x = some u) (h : Q u s)
  (hn : x ≠ "__name__" := by decide) (hd : (x == ("__debug__" : Str)) = false := by decide) : wpAny (model X.prog X.w) X.A (eval (.Name x pos) X.env) Q E s := by
 obtain ⟨mb, h1, h2⟩ := I.mod.blt
 exact Calls.Name_function_global I.ok.kind hg (Calls.loadGlobal_builtin (by rw [I.ok.glob]; exact I.mod.glob.keeps I.bk) hm (by rw [I.ok.blt]; exact h1.keeps I.bk) ((h2 x hn).trans hv) h) hd
theorem ii {x : Str} {v : V} {u : Value} {pos : Pos} (hg : Gl X x) (hm : X.mg x = some u) (r : RelV v u) (hd : (x == ("__debug__" : Str)) = false := by decide) : PE X (.Name x pos) (tC v) :=
 fun _ _ _ H _ I h => kH I hg hm ⟨v, H, I, r, h⟩ hd
variable {a b : Expr} {ta tb : TE} {pos : Pos}
def PC (X : Cx) (op : CmpOp) (a b : Expr) (t : TE) : Prop :=
 ∀ (pins : List (Addr × Obj)) (s : Shared) (σ : St) (H : Hp) (Q : VK), Inv X pins σ H s -> t σ H Q ->
  wpAny (model X.prog X.w) X.A (eval a X.env) (fun v s₁ => wpAny (model X.prog X.w) X.A (eval b X.env) (fun u s₂ => wpAny (model X.prog X.w) X.A (compareOp op v u) (EP X pins σ Q) X.xe s₂) X.xe s₁) X.xe s
theorem zE (b : Expr) {op : CmpOp} (h : op ≠ .In) (h2 : op ≠ .NotIn) : behindInMarks op b = false := by
 have e1 : (op == CmpOp.In) = false := by cases op <;> first | rfl | exact absurd rfl h
 have e2 : (op == CmpOp.NotIn) = false := by cases op <;> first | rfl | exact absurd rfl h2
 cases b <;> simp [behindInMarks, e1, e2]
def tB (t : TE) : TT := fun σ H Q => t σ H fun x H1 => ∃ c, x = .bl c /\ Q c H1
theorem Lw {op : CmpOp} {t : TE} (h : PC X op a b t) (h1 : behindInMarks op b = false := by first | exact zE _ (by decide) (by decide) | rfl) : PT X (.Compare a [op] [b] pos) (tB t) := by
 intro pins s σ H Q I hw
 refine wpAny_isTrue_Compare1 (bO (h pins s σ H _ I hw) fun v s1 h1 => bO h1 fun u s2 h2 => bO h2 fun c s3 ⟨x, H1, I1, r1, q1⟩ => ?_) h1
 obtain ⟨d, rfl, q⟩ := q1
 cases r1
 exact TD ⟨H1, I1, q⟩
theorem iN {e : Expr} {t : TE} (h : PE X e t) (he : ∀ whole, isTrue e X.env whole = (do let v <- whole; standAt e.pos; holding [v] (truthy v)) := by intro _; rfl) : PT X e (tB t) := by
 intro pins s σ H Q I hw
 refine isTrue_plain (bO (h pins s σ H _ I hw) fun v s1 ⟨x, H1, I1, r1, q1⟩ => ?_) (he _)
 obtain ⟨d, rfl, q⟩ := q1
 cases r1
 exact TD ⟨H1, I1, q⟩
variable {tA JM : TT} {rest : List Expr}
def LZ (t u : TT) : TT := fun σ H Q => t σ H fun c H1 => if c = true then u σ H1 Q else Q false H1
def O3 (t u : TT) : TT := fun σ H Q => t σ H fun c H1 => if c = true then Q true H1 else u σ H1 Q
def Kw (t : TT) : TT := fun σ H Q => t σ H fun c H1 => Q (!c) H1
theorem pw_and1 (ha : PT X a tA) : PW X (.BoolOp .And [a] pos) tA := by
 intro wh pins s σ H Q I h
 refine isTrue_and (bO (ha pins s σ H Q I h) fun c s1 e => ?_)
 cases c with
 | true => exact isTrue_and_nil e
 | false => exact e
theorem pw_or1 (ha : PT X a tA) : PW X (.BoolOp .Or [a] pos) tA := by
 intro wh pins s σ H Q I h
 refine isTrue_or (bO (ha pins s σ H Q I h) fun c s1 e => ?_)
 cases c with
 | false => exact isTrue_or_nil e
 | true => exact e
theorem pw_and (ha : PT X a tA) (hb : PW X (.BoolOp .And (b :: rest) pos) JM) : PW X (.BoolOp .And (a :: b :: rest) pos) (LZ tA JM) := by
 intro wh pins s σ H Q I h
 refine isTrue_and (bO (ha pins s σ H _ I h) fun c s1 ⟨H1, I1, q1⟩ => ?_)
 cases c with
 | true => exact hb wh pins s1 σ H1 Q I1 q1
 | false => exact ⟨H1, I1, q1⟩
theorem pw_or (ha : PT X a tA) (hb : PW X (.BoolOp .Or (b :: rest) pos) JM) : PW X (.BoolOp .Or (a :: b :: rest) pos) (O3 tA JM) := by
 intro wh pins s σ H Q I h
 refine isTrue_or (bO (ha pins s σ H _ I h) fun c s1 ⟨H1, I1, q1⟩ => ?_)
 cases c with
 | true => exact ⟨H1, I1, q1⟩
 | false => exact hb wh pins s1 σ H1 Q I1 q1
theorem i0 (ha : PT X a tA) : PT X (.UnaryOp .Not a pos) (Kw tA) := by
 intro pins s σ H Q I h
 exact isTrue_not (ha pins s σ H (fun c H1 => Q (!c) H1) I h)
def GO (ta tb : TE) : TE := fun σ H Q => ta σ H fun x H1 => ∃ c, x = .bl c /\ if c = true then tb σ H1 Q else Q (.bl false) H1
theorem oB {op} {t : TE} (h : PE X a t) : PE X (.BoolOp op [a] pos) t := fun pins s σ H Q I hw => BoolOp_one (h pins s σ H Q I hw)
theorem i6 (ha : PE X a ta) (hb : PE X (.BoolOp .And (b :: rest) pos) tb) : PE X (.BoolOp .And (a :: b :: rest) pos) (GO ta tb) := by
 intro pins s σ H Q I h
 refine BoolOp_and (bO (ha pins s σ H _ I h) fun v s1 ⟨x, H1, I1, r1, q1⟩ => ?_)
 obtain ⟨c, rfl, q1⟩ := q1
 cases r1
 refine TD ?_
 cases c with
 | true => exact hb pins s1 σ H1 Q I1 q1
 | false => exact ⟨.bl false, H1, I1, rfl, q1⟩
def Rt (t : TT) (ta tb : TE) : TE := fun σ H Q => t σ H fun c H1 => if c = true then ta σ H1 Q else tb σ H1 Q
theorem tF {c : Expr} (hc : PT X c tA) (ha : PE X a ta) (hb : PE X b tb) : PE X (.IfExp c a b pos) (Rt tA ta tb) := by
 intro pins s σ H Q I h
 refine wpAny_IfExp (bO (hc pins s σ H _ I h) fun d s1 ⟨H1, I1, q1⟩ => ?_)
 cases d with
 | true => exact ha pins s1 σ H1 Q I1 q1
 | false => exact hb pins s1 σ H1 Q I1 q1
end
def bz (K : Vj) (H : Hp) (a : Addr) (xs : List V) : Prop :=
 Rd H a (.lst xs) \/
  ∃ (o : Obj) (au : Array Value) (n : Nat), K.lookup a = some o /\ o.cls = .type "list" /\ o.dict = none /\ o.data = .seq au n /\ au.size <= sizeLine /\ Vals xs au.toList
def bR (K : Vj) (H : Hp) (a : Addr) (xs : List V) : Prop :=
 Rd H a (.tup xs) \/
  ∃ (o : Obj) (au : Array Value) (n : Nat), K.lookup a = some o /\ o.cls = .type "tuple" /\ o.data = .seq au n /\ au.size <= sizeLine /\ Vals xs au.toList
def Ka : Value -> Option V
 | .none => some .cc
 | .bool b => some (.bl b)
 | .int i _ => some (.int i)
 | .str x _ => some (.str x)
 | .bytes b _ => some (.wG b)
 | .float b _ => some (.Jk b)
 | .ref a => some (.ref a)
 | .type n => some (.ty n)
 | _ => none
theorem RelV.abs {x : V} {u : Value} (r : RelV x u) : Ka u = some x := by
 cases x with
 | cc => cases r; rfl
 | bl _ => cases r; rfl
 | int _ => obtain ⟨t, rfl⟩ := r; rfl
 | str _ => obtain ⟨t, rfl⟩ := r; rfl
 | wG _ => obtain ⟨t, rfl⟩ := r; rfl
 | Jk _ => obtain ⟨t, rfl⟩ := r; rfl
 | ref _ => cases r; rfl
 | ty _ => cases r; rfl
theorem RelV.inj {x y : V} {u : Value} (r : RelV x u) (q : RelV y u) : x = y := Tw (r.abs.symm.trans q.abs)
theorem Vals.inj : ∀ {xs ys : List V} {us : List Value}, Vals xs us -> Vals ys us -> xs = ys
 | _, _, _, .nil, .nil => rfl
 | _, _, _, .cons r t, .cons r' t' => by rw [r.inj r', Vals.inj t t']
section
variable {X : Cx} {pins : List (Addr × Obj)} {σ : St} {H : Hp} {s : Shared} {a : Addr} {xs ys : List V}
theorem bz.of {K : Vj} (h : H a = some (.lst xs)) : bz K H a xs := .inl (.inl h)
theorem bR.of {K : Vj} (h : H a = some (.tup xs)) : bR K H a xs := .inl (.inl h)
theorem Inv.list (I : Inv X pins σ H s) (h : bz X.K H a xs) : ∃ au : List Value, Vals xs au /\ PlainL s.heap a au.toArray /\ xs.length <= sizeLine := by
 rcases h with h | ⟨o, au, n, hk, hc, hd, hs, hz, r⟩
 ·obtain ⟨z, au, n, r, e⟩ := h.ok I.aP
  exact ⟨au, r, ⟨_, n, e, rfl, rfl, rfl⟩, z⟩
 ·refine ⟨au.toList, r, ⟨o, n, I.xc a o hk, hc, hd, by simpa using hs⟩, ?_⟩
  have e := r.length
  simp only [SA] at e
  omega
theorem Inv.tuple (I : Inv X pins σ H s) (h : bR X.K H a xs) : ∃ au : List Value, Vals xs au /\ IsTup s.heap a au.toArray /\ xs.length <= sizeLine := by
 rcases h with h | ⟨o, au, n, hk, hc, hs, hz, r⟩
 ·obtain ⟨z, au, r, p⟩ := h.ok I.aP
  exact ⟨au, r, p, z⟩
 ·refine ⟨au.toList, r, ⟨o, I.xc a o hk, hc, n, by simpa using hs⟩, ?_⟩
  have e := r.length
  simp only [SA] at e
  omega
theorem Inv.zG (I : Inv X pins σ H s) (h : bz X.K H a xs) (h' : bz X.K H a ys) : xs = ys := by
 obtain ⟨au, r, ⟨o, n, e, _, _, d⟩, _⟩ := I.list h
 obtain ⟨its', r', ⟨o', n', e', _, _, d'⟩, _⟩ := I.list h'
 rw [e] at e'; cases e'
 rw [d] at d'
 injection d' with d1 _
 have : au = its' := by simpa using TR Array.toList d1
 subst this
 exact r.inj r'
theorem Inv.x4 (I : Inv X pins σ H s) (h : bR X.K H a xs) (h' : bR X.K H a ys) : xs = ys := by
 obtain ⟨au, r, ⟨o, e, _, n, d⟩, _⟩ := I.tuple h
 obtain ⟨its', r', ⟨o', e', _, n', d'⟩, _⟩ := I.tuple h'
 rw [e] at e'; cases e'
 rw [d] at d'
 injection d' with d1 _
 have : au = its' := by simpa using TR Array.toList d1
 subst this
 exact r.inj r'
end
abbrev Cx.mO (X : Cx) (E : Value -> Shared -> Prop) : Cx := { X with xe := E }
abbrev Cx.C8 (X : Cx) : Cx := X.mO fun _ _ => False
theorem Cx.Ok.mO {X : Cx} (ok : X.Ok) (E : Value -> Shared -> Prop) : (X.mO E).Ok :=
 ⟨ok.mod, ok.kind, ok.glob, ok.blt, ok.above, ok.inj, ok.has, ok.Go, ok.hd, ok.frames, ok.Il, ok.IA, ok.bs, ok.yO, ok.yH, ok.yG, ok.ke, ok.Db⟩
theorem Cx.Ok.gb {X : Cx} {E : Value -> Shared -> Prop} (ok : (X.mO E).Ok) : X.Ok :=
 ⟨ok.mod, ok.kind, ok.glob, ok.blt, ok.above, ok.inj, ok.has, ok.Go, ok.hd, ok.frames, ok.Il, ok.IA, ok.bs, ok.yO, ok.yH, ok.yG, ok.ke, ok.Db⟩
section
variable {X : Cx} {pins : List (Addr × Obj)} {σ : St} {H : Hp} {s : Shared} {E : Value -> Shared -> Prop}
theorem Inv.mO (I : Inv X pins σ H s) (E : Value -> Shared -> Prop) : Inv (X.mO E) pins σ H s := ⟨I.ok.mO E, I.os, I.bare, I.base, I.loc, I.cell, I.free, I.im, I.pin, I.aP, I.len⟩
theorem Inv.gb (I : Inv (X.mO E) pins σ H s) : Inv X pins σ H s := ⟨I.ok.gb, I.os, I.bare, I.base, I.loc, I.cell, I.free, I.im, I.pin, I.aP, I.len⟩
theorem SP.gb {D : Ends} {f : Flow} {s' : Shared} (h : SP (X.mO E) pins D f s') : SP X pins D f s' := by
 cases f with
 | next => obtain ⟨σ', H', I, q⟩ := h; exact ⟨σ', H', I.gb, q⟩
 | brk => obtain ⟨σ', H', I, q⟩ := h; exact ⟨σ', H', I.gb, q⟩
 | cont => obtain ⟨σ', H', I, q⟩ := h; exact ⟨σ', H', I.gb, q⟩
 | ret u => obtain ⟨v, σ', H', I, r, q⟩ := h; exact ⟨v, σ', H', I.gb, r, q⟩
theorem PE.C8 {e : Expr} {t : TE} (h : PE X.C8 e t) : PE X e t := fun pins s σ H Q I hw =>
 TZ (h pins s σ H Q (I.mO _) hw) (fun _ _ ⟨v, H', I', r, q⟩ => ⟨v, H', I'.gb, r, q⟩) fun _ _ z => False.elim z
theorem PT.C8 {e : Expr} {t : TT} (h : PT X.C8 e t) : PT X e t := fun pins s σ H Q I hw =>
 TZ (h pins s σ H Q (I.mO _) hw) (fun _ _ ⟨H', I', q⟩ => ⟨H', I'.gb, q⟩) fun _ _ z => False.elim z
theorem uv.C8 {st : List Stmt} {t : TS} (h : uv X.C8 st t) : uv X st t := fun pins s σ H D I hw =>
 TZ (h pins s σ H D (I.mO _) hw) (fun _ _ q => q.gb) fun _ _ z => False.elim z
end
section
variable {X : Cx} {st : Stmt} {rest : List Stmt} {t u : TS} {e : Expr} {te : TE} {pos : Pos}
def HZ : TS := fun D σ H => D.nx σ H
def KN (t u : TS) : TS := fun D σ H => t { D with nx := u D } σ H
theorem aO : uv X [] HZ := fun _ _ σ H _ I h => wpAny_execs_nil ⟨σ, H, I, h⟩
theorem ag (h1 : PS X st t) (h2 : uv X rest u) : uv X (st :: rest) (KN t u) := by
 intro pins s σ H D I h
 refine wpAny_execs_cons (bO (h1 pins s σ H { D with nx := u D } I h) fun f s1 q => ?_)
 cases f with
 | next =>
  obtain ⟨σ', H', I', q⟩ := q
  exact h2 pins s1 σ' H' D I' q
 | ret v => exact q
 | brk => exact q
 | cont => exact q
theorem ah (h1 : PS X st t) : uv X [st] t := by
 intro pins s σ H D I h
 refine wpAny_execs_cons (bO (h1 pins s σ H D I h) fun f s1 q => ?_)
 cases f with
 | next => exact wpAny_execs_nil q
 | ret v => exact q
 | brk => exact q
 | cont => exact q
theorem Inv.quiet {pins : List (Addr × Obj)} {σ : St} {H : Hp} {s : Shared} (I : Inv X pins σ H s) : interactive X.env = false := by simp [interactive, I.ok.kind]
def HH (te : TE) : TS := fun D σ H => te σ H fun _ H1 => D.nx σ H1
theorem c7 (he : PE X e te) (hs : swapsWith e none pos.line X.env = pure false := by rfl) : PS X (.Expr e pos) (HH te) := by
 intro pins s σ H D I h
 exact wpAny_Expr_any (bO (he pins s σ H _ I h) fun v s1 ⟨x, H1, I1, r1, q1⟩ => ⟨σ, H1, I1, q1⟩) I.quiet hs
def KP (te : TE) : TS := fun D σ H => te σ H D.rt
theorem aB (he : PE X e te) : PS X (.Return (some e) pos) (KP te) := by
 intro pins s σ H D I h
 exact wpAny_Return_some (bO (he pins s σ H _ I h) fun v s1 ⟨x, H1, I1, r1, q1⟩ => ⟨x, σ, H1, I1, r1, q1⟩)
def LQ (c : TT) (t u : TS) : TS := fun D σ H => c σ H fun b H1 => if b = true then t D σ H1 else u D σ H1
theorem bV {c : Expr} {a b : List Stmt} {tc : TT} (hc : PT X c tc) (ha : uv X a t) (hb : uv X b u) : PS X (.If c a b pos) (LQ tc t u) := by
 intro pins s σ H D I h
 refine wpAny_If (bO (hc pins s σ H _ I h) fun d s1 ⟨H1, I1, q1⟩ => ?_)
 cases d with
 | true => exact ha pins s1 σ H1 D I1 q1
 | false => exact hb pins s1 σ H1 D I1 q1
def Fm : TS := fun _ _ _ => False
theorem gK : PS X st Fm := fun _ _ _ _ _ _ h => h.elim
end
abbrev TG := V -> St -> Hp -> (St -> Hp -> Prop) -> Prop
abbrev Eg := List V -> St -> Hp -> (St -> Hp -> Prop) -> Prop
def PG (X : Cx) (target : Expr) (t : TG) : Prop :=
 ∀ (pins : List (Addr × Obj)) (s : Shared) (σ : St) (H : Hp) (v : V) (u : Value) (Q : St -> Hp -> Prop), Inv X pins σ H s -> RelV v u -> t v σ H Q ->
  wpAny (model X.prog X.w) X.A (assign target X.env u) (fun _ s' => ∃ σ' H', Inv X pins σ' H' s' /\ Q σ' H') X.xe s
def HW (X : Cx) (ts : List Expr) (t : Eg) : Prop :=
 ∀ (pins : List (Addr × Obj)) (s : Shared) (σ : St) (H : Hp) (vs : List V) (us : List Value) (Q : St -> Hp -> Prop), Inv X pins σ H s -> Vals vs us -> t vs σ H Q ->
  wpAny (model X.prog X.w) X.A (assignInOrder ((assignEach ts X.env).map (·.2)) us) (fun _ s' => ∃ σ' H', Inv X pins σ' H' s' /\ Q σ' H') X.xe s
abbrev FL := V -> V -> V -> Hp -> (Hp -> Prop) -> Prop
def EU (X : Cx) (t : FL) : Prop :=
 ∀ (pins : List (Addr × Obj)) (s : Shared) (σ : St) (H : Hp) (o i v : V) (ov iv u : Value) (Q : Hp -> Prop), Inv X pins σ H s -> RelV o ov -> RelV i iv -> RelV v u -> t o i v H Q ->
  wpAny (model X.prog X.w) X.A (setItem ov iv u) (fun _ s' => ∃ H', Inv X pins σ H' s' /\ Q H') X.xe s
abbrev Jq := V -> V -> Hp -> VK -> Prop
def Mo (X : Cx) (op : Operator) (t : Jq) : Prop :=
 ∀ (pins : List (Addr × Obj)) (s : Shared) (σ : St) (H : Hp) (x y : V) (v u : Value) (Q : VK), Inv X pins σ H s -> RelV x v -> RelV y u -> t x y H Q ->
  wpAny (model X.prog X.w) X.A (inplaceOp op v u) (EP X pins σ Q) X.xe s
section
variable {X : Cx} {pos : Pos}
def t5 (i : Nat) : TG := fun v σ H Q => Q (σ.set i (some v)) H
theorem BU {i : Nat} {x : Str} (hN : X.N.Nodup) (hi : X.N[i]? = some x) (hx : Loc X.env.scope x) (hf : X.fn x = true \/ X.env.scope.names.lookup x = some .local := by first | exact .inl rfl | exact .inr rfl | assumption) : PG X (.Name x pos) (t5 i) := by
 intro pins s σ H v u Q I r h
 exact wpAny_assign_Name (oO I hN hi hx r (fun s' I' => ⟨_, H, I', h⟩) hf)
def LL : Eg := fun vs σ H Q => vs = [] /\ Q σ H
def Hw (t : TG) (u : Eg) : Eg := fun vs σ H Q => ∃ v r, vs = v :: r /\ t v σ H fun σ' H' => u r σ' H' Q
theorem fO : HW X [] LL := by
 intro pins s σ H vs us Q I r h
 obtain ⟨e, h⟩ := h
 subst e
 cases r
 exact assignInOrder_nil ⟨σ, H, I, h⟩
theorem aV {e : Expr} {es : List Expr} {t : TG} {u : Eg} (h1 : PG X e t) (h2 : HW X es u)
  (hs : (assignEach (e :: es) X.env).map (·.2) = assign e X.env :: (assignEach es X.env).map (·.2) := by rfl) : HW X (e :: es) (Hw t u) := by
 intro pins s σ H vs us Q I r h
 obtain ⟨v, vr, e1, h⟩ := h
 subst e1
 cases r with
 | cons r rr =>
  rw [hs]
  refine assignInOrder_cons (bO (h1 pins s σ H _ _ _ I r h) fun _ s1 ⟨σ1, H1, I1, q1⟩ => ?_)
  exact h2 pins s1 σ1 H1 _ _ Q I1 rr q1
def Ha (K : Vj) (n : Nat) (t : Eg) : TG := fun v σ H Q => ∃ a xs, v = .ref a /\ bR K H a xs /\ xs.length = n /\ t xs σ H Q
theorem lK {es : List Expr} {k : Nat} {t : Eg} {n : Nat} (hc : X.calm = true) (h : HW X es t)
  (hn : (assignEach es X.env).length = n := by rfl) (io : (assignEach es X.env).findIdx? (·.1) = none := by rfl) : PG X (.Tuple es k pos) (Ha X.K n t) := by
 intro pins s σ H v u Q I r hw
 obtain ⟨a, xs, e1, hq, hl, hw⟩ := hw
 subst e1
 cases r
 obtain ⟨au, rv, ht, hz⟩ := I.tuple hq
 refine assign_Tuple_tuple (I.ok.hd hc) ht (by simp [hn, <- hl, rv.length]) io fun h' hx => ?_
 have I1 : Inv X pins σ H { s with heap := h' } := I.kept (t' := s.toks) fun b o e => hx b o (S2 (SI e)) e
 exact h pins _ σ H xs _ Q I1 (by simpa using rv) hw
def LC (to ti : TE) (t : FL) : TG := fun v σ H Q => to σ H fun o H1 => ti σ H1 fun i H2 => t o i v H2 fun H3 => Q σ H3
theorem uO {o i : Expr} {to ti : TE} {t : FL} (ho : PE X o to) (hi : PE X i ti) (hs : EU X t)
  (ha : ∀ v, assign (.Subscript o i pos) X.env v = (do
   let ov <- holding [v] (eval o X.env)
   let iv <- holding [v, ov] (eval i X.env)
   standAt pos
   holding [v, ov, iv] (setItem ov iv v)
   release [v, ov, iv] []) := by intro _; rfl) : PG X (.Subscript o i pos) (LC to ti t) := by
 intro pins s σ H v u Q I r h
 rw [ha]
 refine Sn (TV (bO (ho pins s σ H _ I h) fun ov s1 ⟨x, H1, I1, r1, q1⟩ => ?_))
 refine Sn (TV (bO (hi pins s1 σ H1 _ I1 q1) fun iv s2 ⟨y, H2, I2, r2, q2⟩ => ?_))
 refine Sn (wpAny_standAt (Sn (TV (bO (hs pins s2 σ H2 x y v ov iv u _ I2 r1 r2 r q2) fun _ s3 ⟨H3, I3, q3⟩ => ?_))))
 exact wpAny_release ⟨σ, H3, I3, q3⟩
def Ci (te : TE) (g : TG) : TS := fun D σ H => te σ H fun x H1 => g x σ H1 D.nx
theorem uU {tg e : Expr} {te : TE} {g : TG} (he : PE X e te) (hg : PG X tg g) (hs : swapsWithSole [tg] e pos.line X.env = pure false := by rfl) (hw : swappedStores [tg] e X.env = pure none := by rfl)
  (h1 : (assignEach [tg] X.env).map (·.2) = [assign tg X.env] := by rfl) : PS X (.Assign [tg] e pos) (Ci te g) := by
 intro pins s σ H D I h
 refine wpAny_Assign_stores (bO (he pins s σ H _ I h) fun v s1 ⟨x, H1, I1, r1, q1⟩ => ?_) hs hw
 rw [h1]
 exact bO (hg pins s1 σ H1 x v _ I1 r1 q1) fun _ s2 q => q
theorem Fb {i : Nat} {x : Str} {e : Expr} {te : TE} {pos' : Pos} (hN : X.N.Nodup) (hi : X.N[i]? = some x) (hx : Loc X.env.scope x) (he : PE X e te) (hs : swapsWith e (some (.Name x pos')) pos.line X.env = pure false := by rfl) (hf : X.fn x = true \/ X.env.scope.names.lookup x = some .local := by first | exact .inl rfl | exact .inr rfl | assumption) :
  PS X (.Assign [.Name x pos'] e pos) (Ci te (t5 i)) := by
 intro pins s σ H D I h
 refine wpAny_Assign_Name (bO (he pins s σ H _ I h) fun v s1 ⟨y, H1, I1, r1, q1⟩ => ?_) hs
 exact oO I1 hN hi hx r1 (fun s2 I2 => ⟨_, H1, I2, q1⟩) hf
def LW (i : Nat) (te : TE) (ti : Jq) : TS := fun D σ H => ∃ x, σ[i]? = some (some x) /\ te σ H fun y H1 => ti x y H1 fun z H2 => D.nx (σ.set i (some z)) H2
theorem Am {i : Nat} {x : Str} {e : Expr} {te : TE} {op : Operator} {ti : Jq} {pos' : Pos} (hN : X.N.Nodup) (hi : X.N[i]? = some x) (hx : Loc X.env.scope x) (he : PE X e te) (ho : Mo X op ti) (hf : X.fn x = true \/ X.env.scope.names.lookup x = some .local := by first | exact .inl rfl | exact .inr rfl | assumption) :
  PS X (.AugAssign (.Name x pos') op e pos) (LW i te ti) := by
 intro pins s σ H D I h
 obtain ⟨v, e1, h⟩ := h
 obtain ⟨m, hn, hl⟩ := I.loc
 have Es : JK X.env.scope x := by rcases hx with k | k; exact .inl k; exact .inr (.inl k)
 obtain ⟨u, r, l⟩ := hl i x v hi e1 Es
 refine wpAny_AugAssign_Name ?_
 have go : wpAny (model X.prog X.w) X.A (eval e X.env) (fun w s₂ => wpAny (model X.prog X.w) X.A (inplaceOp op u w) (fun r s₃ => wpAny (model X.prog X.w) X.A (storeName X.env x r) (fun _ => SP X pins D .next) X.xe s₃) X.xe s₂) X.xe s := by
  refine bO (he pins s σ H _ I h) fun w s1 ⟨y, H1, I1, r1, q1⟩ => ?_
  refine bO (ho pins s1 σ H1 v y u w _ I1 r r1 q1) fun z s2 ⟨zv, H2, I2, r2, q2⟩ => ?_
  exact oO I2 hN hi hx r2 (fun s3 I3 => ⟨_, H2, I3, q2⟩) hf
 rcases l with ⟨hk, hm⟩ | ⟨hk, c, hc, qh⟩
 ·exact wpAny_loadName_local I.ok.kind hk hn hm go
 ·rcases hk with hk | hk
  ·exact wpAny_loadName_cell I.ok.kind hk hc qh go
  ·rcases hx with k | k
   ·have : X.env.scope.names.lookup x = some .free := hk
    rw [k] at this; cases this
   ·have : X.env.scope.names.lookup x = some .free := hk
    rw [k] at this; cases this
def QC (f : Int -> Int -> Int) : Jq := fun x y H Q => ∃ i j, x = .int i /\ y = .int j /\ Q (.int (f i j)) H
theorem yZ : Mo X .Add (QC fun i j => i + j) := by
 intro pins s σ H x y v u Q I r1 r2 h
 obtain ⟨i, j, e1, e2, q⟩ := h
 subst e1; subst e2
 obtain ⟨t, rfl⟩ := r1
 obtain ⟨t', rfl⟩ := r2
 exact iadd_int ⟨.int _, H, I.tok _, ⟨_, rfl⟩, q⟩
end
section
variable {X : Cx} {pos : Pos}
def EG (c : TT) (tb : TS) : TS := fun D σ H => ∃ W : Nat -> St -> Hp -> Prop, (∃ m, W m σ H) /\ ∀ m σ H, W m σ H ->
 c σ H fun b H1 => if b = true then ∃ N : St -> Hp -> Prop, (∀ σ' H', N σ' H' -> ∃ m', m' < m /\ W m' σ' H') /\ tb { D with nx := N, ct := N, bk := D.nx } σ H1 else D.nx σ H1
theorem oC {c : Expr} {body : List Stmt} {tc : TT} {tb : TS} (hp : PassesOwn (model X.prog X.w) X.A X.env X.xe) (hc : PT X c tc) (hb : uv X body tb) : PS X (.While c body [] pos) (EG tc tb) := by
 intro pins s σ H D I h
 obtain ⟨W, ⟨m0, w0⟩, turn⟩ := h
 refine wpAny_While (codeAny_whileLoop (fun n s' => ∃ σ' H', Inv X pins σ' H' s' /\ W n σ' H') ?_ m0 ⟨σ, H, I, w0⟩)
 rintro n s1 ⟨σ1, H1, I1, w1⟩
 refine UP hp (bO (hc pins s1 σ1 H1 _ I1 (turn n σ1 H1 w1)) fun b s2 ⟨H2, I2, q2⟩ => ?_)
 cases b with
 | true =>
  obtain ⟨N, hN, q2⟩ := q2
  rw [if_pos rfl]
  refine UP hp (bO (hb pins s2 σ1 H2 _ I2 q2) fun f s3 q3 => ?_)
  cases f with
  | next =>
   obtain ⟨σ3, H3, I3, n3⟩ := q3
   obtain ⟨m', hm, w3⟩ := hN σ3 H3 n3
   exact ⟨m', hm, σ3, H3, I3, w3⟩
  | cont =>
   obtain ⟨σ3, H3, I3, n3⟩ := q3
   obtain ⟨m', hm, w3⟩ := hN σ3 H3 n3
   exact ⟨m', hm, σ3, H3, I3, w3⟩
  | brk => exact q3
  | ret v => exact q3
 | false =>
  rw [if_neg Sy]
  exact wpAny_execs_nil ⟨σ1, H2, I2, q2⟩
end
structure It where
 go : Nat -> Hp -> Prop
 DL : Nat -> Hp -> V -> Hp -> Prop
 stop : Nat -> Hp -> Prop
def qN (X : Cx) (pins : List (Addr × Obj)) (H : Hp) (b : Addr) : Prop :=
 H b = none /\ b ≠ X.env.locals /\ b ∉ X.fs /\ (b ∈ X.ex \/ X.s₀.heap.objs.size <= b) /\ (∀ x c, X.env.cells.lookup x = some c -> c ≠ b) /\ ∀ p ∈ X.pn ++ pins, p.1 ≠ b
theorem Inv.xk {X : Cx} {pins : List (Addr × Obj)} {σ : St} {H H' : Hp} {s : Shared} {b : Addr} (I : Inv X pins σ H s) (hb : s.heap.objs.size <= b) (hn : H' b = none) : qN X pins H' b := by
 refine ⟨hn, UZ (S6 I.lt hb), I.HS hb, .inr (SD I.sz hb), fun x c e z => ?_, fun p hp z => ?_⟩
 ·obtain ⟨v, q⟩ := I.cell x c e
  exact absurd (S6 q.lt (by rw [z]; exact hb)) (TM _)
 ·exact absurd (S6 (SI (I.pin p hp).1) (by rw [z]; exact hb)) (TM _)
structure Turn (P : Program) (w : World) (K : Vj) (tg : Expr) (J : It) (fp : List Addr) (it : Addr) (tn : Nat -> Heap -> Prop) : Prop where
 mem : it ∈ fp
 obj : ∀ i h, tn i h -> ∀ b ∈ fp, ∃ o, h.get? b = some o /\ ∀ v, o.data ≠ .cell v
 keep : ∀ i h h', tn i h -> (∀ b ∈ fp, ∀ o, h.get? b = some o -> h'.get? b = some o) -> tn i h'
 item : ∀ (X : Cx), X.prog = P -> X.w = w -> X.K = K -> X.calm = true -> ∀ (i : Nat) (pins : List (Addr × Obj)) (s : Shared) (σ : St) (H : Hp) (E : Value -> Shared -> Prop), Inv X pins σ H s -> (∀ b ∈ fp, qN X pins H b) -> tn i s.heap -> J.go i H ->
  wpAny (model P w) X.A (pyNext (.ref it)) (fun r s1 => ∃ u, r = some u /\
   wpAny (model P w) X.A (letOwnedTupleGo tg (.ref it) u) (fun _ s2 => ∃ x H', Inv X pins σ H' s2 /\ RelV x u /\ J.DL i H x H' /\ tn (i + 1) s2.heap /\ ∀ b ∈ fp, H' b = none) E s1) E s
 done : ∀ (X : Cx), X.prog = P -> X.w = w -> X.K = K -> X.calm = true -> ∀ (i : Nat) (pins : List (Addr × Obj)) (s : Shared) (σ : St) (H : Hp) (E : Value -> Shared -> Prop), Inv X pins σ H s -> (∀ b ∈ fp, qN X pins H b) -> tn i s.heap -> J.stop i H ->
  wpAny (model P w) X.A (pyNext (.ref it)) (fun r s1 => r = none /\ Inv X pins σ H s1) E s
 self : ∀ (A : Around) (i : Nat) (s : Shared) (Q : Value -> Shared -> Prop) (E : Value -> Shared -> Prop), tn i s.heap -> Q (.ref it) s -> wpAny (model P w) A (pyIter (.ref it)) Q E s
abbrev TI := St -> Hp -> (It -> Hp -> Prop) -> Prop
def MJ (X : Cx) (pins : List (Addr × Obj)) (σ : St) (tg : Expr) (R : It -> Hp -> Prop) (J8 : Value) (s2 : Shared) : Prop :=
 ∃ (it : Addr) (fp : List Addr) (tn : Nat -> Heap -> Prop) (J : It) (H' : Hp), J8 = .ref it /\ Inv X pins σ H' s2 /\ Turn X.prog X.w X.K tg J fp it tn /\ tn 0 s2.heap /\ (∀ b ∈ fp, qN X pins H' b) /\ R J H'
def PI (X : Cx) (tg iter : Expr) (wi : TI) : Prop :=
 ∀ (pins : List (Addr × Obj)) (s : Shared) (σ : St) (H : Hp) (R : It -> Hp -> Prop), Inv X pins σ H s -> wi σ H R ->
  wpAny (model X.prog X.w) X.A (eval iter X.env) (fun v s1 => wpAny (model X.prog X.w) X.A (pyIter v) (MJ X pins σ tg R) X.xe s1) X.xe s
theorem xi {M : Model} {A : Around} {E : Value -> Shared -> Prop} {s : Shared} {tg : Expr} {it : Addr} {u : Value} {o : Obj} {n : String} {vs : Array Value} {Q : Unit -> Shared -> Prop} (ho : s.heap.get? it = some o) (hc : o.cls = .type n) (hd : o.data = .fields vs)
  (hn : ["enumerate", "zip", "dict_itemiterator", "dict_reverseitemiterator", "odict_iterator", "itertools.zip_longest", "itertools.pairwise"].contains n = false) (hQ : Q () s) : wpAny M A (letOwnedTupleGo tg (.ref it) u) Q E s := by
 unfold letOwnedTupleGo
 cases tg <;> first
  | exact So hQ
  | (cases u <;> first
    | exact So hQ
    | (
      refine Sn (wpAny_load ho ?_)
      rw [hc, hd]
      show wpAny M A (if (["enumerate", "zip", "dict_itemiterator", "dict_reverseitemiterator", "odict_iterator", "itertools.zip_longest", "itertools.pairwise"].contains n && vs[0]? == some (rawInt _)) = true then _ else _) Q E s
      rw [if_neg (by intro h; rw [hn, Tf] at h; cases h)]
      exact So hQ))
def Gm (K : Vj) (a : Addr) : It :=
 ⟨fun i H => ∃ xs x, bz K H a xs /\ xs[i]? = some x, fun i H x H' => H' = H /\ ∀ xs, bz K H a xs -> xs[i]? = some x, fun i H => ∃ xs, bz K H a xs /\ xs.length <= i⟩
def Gd (K : Vj) (a : Addr) : It :=
 ⟨fun i H => ∃ xs x, bR K H a xs /\ xs[i]? = some x, fun i H x H' => H' = H /\ ∀ xs, bR K H a xs -> xs[i]? = some x, fun i H => ∃ xs, bR K H a xs /\ xs.length <= i⟩
def EC (lo : Int) (n : Nat) : It := ⟨fun i _ => i < n, fun i H x H' => H' = H /\ x = .int (lo + i), fun i _ => n <= i⟩
theorem yy {P : Program} {w : World} {K : Vj} {tg : Expr} (a it : Addr) : Turn P w K tg (Gm K a) [it] it (fun i h => h.IsListIter it a i) where
 mem := by simp
 obj := fun i h st b hb => by
  have e : b = it := by simpa using hb
  subst e
  obtain ⟨o, e, c, d⟩ := st
  exact ⟨o, e, fun v z => by rw [d] at z; cases z⟩
 keep := fun i h h' st k => st.at fun o e => k it (by simp) o e
 item := by
  intro X hP hw hK hc i pins s σ H E I hf st hg
  subst hP hw hK
  obtain ⟨xs, x, hq, hx⟩ := hg
  obtain ⟨au, rv, p, hz⟩ := I.list hq
  obtain ⟨u, hu, ru⟩ := rv.get hx
  obtain ⟨f0, f1, f2, f3, f4, f5⟩ := hf it (by simp)
  refine wpAny_pyNext_list_item st p.isList (x := u) (by simpa using hu) fun h' ax sb => ?_
  have I1 : Inv X pins σ H { s with heap := h' } := I.turned (t' := s.toks) (fun b o hb e => (sb.2 b hb).trans e) f0 f1 f3 f4 f5
  obtain ⟨o, e, c, d⟩ := id ax
  exact ⟨u, rfl, xi (s := { s with heap := h' }) e c d (by decide) ⟨x, H, I1, ru, ⟨rfl, fun ys hy => by rw [I.zG hy hq]; exact hx⟩, ax, fun b hb => (hf b hb).1⟩⟩
 done := by
  intro X hP hw hK hc i pins s σ H E I hf st hg
  subst hP hw hK
  obtain ⟨xs, hq, hx⟩ := hg
  obtain ⟨au, rv, p, hz⟩ := I.list hq
  obtain ⟨f0, f1, f2, f3, f4, f5⟩ := hf it (by simp)
  have hl := rv.length
  exact wpAny_pyNext_list_end (I.ok.hd hc) st p.isList (by simp; omega) fun h' eb => ⟨rfl, I.turned (t' := s.toks) (fun b o hb e => eb b o hb e) f0 f1 f3 f4 f5⟩
 self := fun _ _ _ _ _ st h => wpAny_pyIter_listiter st h
theorem uZ {P : Program} {w : World} {K : Vj} {tg : Expr} (a it : Addr) : Turn P w K tg (Gd K a) [it] it (fun i h => h.IsTupleIter it a i) where
 mem := by simp
 obj := fun i h st b hb => by
  have e : b = it := by simpa using hb
  subst e
  obtain ⟨o, e, c, d⟩ := st
  exact ⟨o, e, fun v z => by rw [d] at z; cases z⟩
 keep := fun i h h' st k => st.at fun o e => k it (by simp) o e
 item := by
  intro X hP hw hK hc i pins s σ H E I hf st hg
  subst hP hw hK
  obtain ⟨xs, x, hq, hx⟩ := hg
  obtain ⟨au, rv, p, hz⟩ := I.tuple hq
  obtain ⟨u, hu, ru⟩ := rv.get hx
  obtain ⟨f0, f1, f2, f3, f4, f5⟩ := hf it (by simp)
  refine wpAny_pyNext_tuple_item st (show s.heap.IsTuple a au.toArray from p) (x := u) (by simpa using hu) fun h' ax sb => ?_
  have I1 : Inv X pins σ H { s with heap := h' } := I.turned (t' := s.toks) (fun b o hb e => (sb.2 b hb).trans e) f0 f1 f3 f4 f5
  obtain ⟨o, e, c, d⟩ := id ax
  exact ⟨u, rfl, xi (s := { s with heap := h' }) e c d (by decide) ⟨x, H, I1, ru, ⟨rfl, fun ys hy => by rw [I.x4 hy hq]; exact hx⟩, ax, fun b hb => (hf b hb).1⟩⟩
 done := by
  intro X hP hw hK hc i pins s σ H E I hf st hg
  subst hP hw hK
  obtain ⟨xs, hq, hx⟩ := hg
  obtain ⟨au, rv, p, hz⟩ := I.tuple hq
  obtain ⟨f0, f1, f2, f3, f4, f5⟩ := hf it (by simp)
  have hl := rv.length
  exact wpAny_pyNext_tuple_end (I.ok.hd hc) st (show s.heap.IsTuple a au.toArray from p) (by simp; omega) fun h' eb => ⟨rfl, I.turned (t' := s.toks) (fun b o hb e => eb b o hb e) f0 f1 f3 f4 f5⟩
 self := fun _ _ _ _ _ st h => wpAny_pyIter_tupleiter st h
theorem vT {P : Program} {w : World} {K : Vj} {tg : Expr} (it : Addr) (lo : Int) (n : Nat) : Turn P w K tg (EC lo n) [it] it (fun i h => IsRangeIter h it (lo + (i : Nat) * 1) ((n : Int) - (i : Nat)) 1) where
 mem := by simp
 obj := fun i h st b hb => by
  have e : b = it := by simpa using hb
  subst e
  exact ⟨_, st, fun v z => by
   have z' : Data.fields _ = Data.cell v := z
   cases z'⟩
 keep := fun i h h' st k => k it (by simp) _ st
 item := by
  intro X hP hw hK hc i pins s σ H E I hf st hg
  subst hP hw hK
  obtain ⟨f0, f1, f2, f3, f4, f5⟩ := hf it (by simp)
  have W := Walks.range (prog := X.prog) (w := X.w) (I.ok.hd hc) it lo 1 n
  refine W.item i s _ _ hg st fun v h' tk hv ax kk => ?_
  obtain ⟨t, rfl⟩ := hv
  have I1 : Inv X pins σ H { s with heap := h', toks := tk } := I.turned (fun b o hb e => kk b o (by simpa using hb) e) f0 f1 f3 f4 f5
  refine ⟨_, rfl, xi (s := { s with heap := h', toks := tk }) (n := "range_iterator") ax rfl rfl (by decide) ⟨.int (lo + i), H, I1, ⟨t, ?_⟩, ⟨rfl, rfl⟩, ax, fun b hb => (hf b hb).1⟩⟩
  rw [Int.mul_one]
 done := by
  intro X hP hw hK hc i pins s σ H E I hf st hg
  subst hP hw hK
  obtain ⟨f0, f1, f2, f3, f4, f5⟩ := hf it (by simp)
  exact wpAny_pyNext_range_end (I.ok.hd hc) st (by have : n <= i := hg; omega) fun h' eb => ⟨rfl, I.turned (t' := s.toks) (fun b o hb e => eb b o hb e) f0 f1 f3 f4 f5⟩
 self := fun _ _ _ _ _ st h => wpAny_pyIter_rangeiter st h
section
variable {X : Cx} {tg : Expr}
def HM (K : Vj) (tl : TE) : TI := fun σ H R => tl σ H fun x H1 => ∃ a, x = .ref a /\ (∃ xs, bz K H1 a xs) /\ R (Gm K a) H1
def Kc (K : Vj) (tl : TE) : TI := fun σ H R => tl σ H fun x H1 => ∃ a, x = .ref a /\ (∃ xs, bR K H1 a xs) /\ R (Gd K a) H1
theorem cj {l : Expr} {tl : TE} (hl : PE X l tl) : PI X tg l (HM X.K tl) := by
 intro pins s σ H R I h
 refine bO (hl pins s σ H _ I h) fun v s1 ⟨x, H1, I1, r1, q1⟩ => ?_
 obtain ⟨a, e, ⟨xs, hq⟩, q⟩ := q1
 subst e
 cases r1
 obtain ⟨au, rv, p, hz⟩ := I1.list hq
 refine wpAny_pyIter_list p.isList ?_
 refine ⟨s1.heap.objs.size, [s1.heap.objs.size], _, _, H1, rfl, I1.kept (t' := s1.toks) fun b o e => Sq _ e, yy a _, ⟨_, SC _ rfl, rfl, rfl⟩, fun b hb => ?_, q⟩
 have e : b = s1.heap.objs.size := by simpa using hb
 subst e
 exact I1.xk (Ss _) (I1.aP.fresh (Ss _))
theorem jI {l : Expr} {tl : TE} (hl : PE X l tl) : PI X tg l (Kc X.K tl) := by
 intro pins s σ H R I h
 refine bO (hl pins s σ H _ I h) fun v s1 ⟨x, H1, I1, r1, q1⟩ => ?_
 obtain ⟨a, e, ⟨xs, hq⟩, q⟩ := q1
 subst e
 cases r1
 obtain ⟨au, rv, p, hz⟩ := I1.tuple hq
 refine wpAny_pyIter_tuple (show s1.heap.IsTuple a au.toArray from p) ?_
 refine ⟨s1.heap.objs.size, [s1.heap.objs.size], _, _, H1, rfl, I1.kept (t' := s1.toks) fun b o e => Sq _ e, uZ a _, ⟨_, SC _ rfl, rfl, rfl⟩, fun b hb => ?_, q⟩
 have e : b = s1.heap.objs.size := by simpa using hb
 subst e
 exact I1.xk (Ss _) (I1.aP.fresh (Ss _))
theorem zd {pins : List (Addr × Obj)} {σ : St} {H : Hp} {s : Shared} {R : It -> Hp -> Prop} {E : Value -> Shared -> Prop} {lo hi : Int} {t u v : Tok} {tk : Nat} (I : Inv X pins σ H s) (h1 : -(2 ^ 62) <= lo) (h2 : lo < 2 ^ 62) (h3 : -(2 ^ 62) <= hi) (h4 : hi < 2 ^ 62)
  (q : R (EC lo (hi - lo).toNat) H) : wpAny (model X.prog X.w) X.A (pyIter (.ref s.heap.objs.size)) (MJ X pins σ tg R) E { s with heap := s.heap.push { cls := .type "range", data := .fields #[.int lo t, .int hi u, .int 1 v] }, toks := tk } := by
 refine wpAny_pyIter_range (IsRange.new ..) (small_one h1 h2 h3 h4) ?_
 have I1 : Inv X pins σ H { s with heap := s.heap.push { cls := .type "range", data := .fields #[.int lo t, .int hi u, .int 1 v] }, toks := tk } := I.kept fun b o e => Sq _ e
 refine ⟨(s.heap.push { cls := .type "range", data := .fields #[.int lo t, .int hi u, .int 1 v] }).objs.size, [(s.heap.push { cls := .type "range", data := .fields #[.int lo t, .int hi u, .int 1 v] }).objs.size], _, _, H, rfl,
  I1.kept (t' := tk) fun b o e => Sq _ e, vT _ lo (hi - lo).toNat, ?_, fun b hb => ?_, q⟩
 ·have e1 : lo + ((0 : Nat) : Int) * 1 = lo := by simp
  have e2 : (((hi - lo).toNat : Nat) : Int) - ((0 : Nat) : Int) = Builtin.Range.rangeSize lo hi 1 := by rw [rangeSize_one]; split <;> omega
  show IsRangeIter _ _ (lo + ((0 : Nat) : Int) * 1) ((((hi - lo).toNat : Nat) : Int) - ((0 : Nat) : Int)) 1
  rw [e1, e2]
  exact SC _ rfl
 ·have e : b = (s.heap.push { cls := .type "range", data := .fields #[.int lo t, .int hi u, .int 1 v] }).objs.size := by simpa using hb
  subst e
  exact I1.xk (Ss _) (I1.aP.fresh (Ss _))
def Hy (ta : TA) : TI := fun σ H R => ta σ H fun vs H1 => ∃ j : Int, vs = [.int j] /\ -(2 ^ 62) <= j /\ j < 2 ^ 62 /\ R (EC 0 j.toNat) H1
theorem i9 {a : Expr} {ta : TA} {p pos : Pos} (hg : Gl X "range") (hm : X.mg "range" = none) (ha : PA X [a] ta) (hs : starEach [a] X.env = [(false, eval a X.env)] := by rfl) : PI X tg (.Call (.Name "range" p) [a] [] pos) (Hy ta) := by
 intro pins s σ H R I h
 refine Call_ (nR I hg hm boot_range (PyProof.Rows.callWith_type1 (bO (ha pos pins s σ H _ I h) fun us s1 ⟨vs, H1, I1, r1, q1⟩ => ?_) hs rfl))
 obtain ⟨j, e, q1, q2, q⟩ := q1
 subst e
 cases r1 with
 | cons r rr =>
  cases rr
  obtain ⟨t, rfl⟩ := r
  exact call_range_1 (zd I1 (by omega) (by omega) q1 q2 (by simpa using q))
def Kx (wi : TI) (g : TG) (tb : TS) : TS := fun D σ H => wi σ H fun J H1 => ∃ W : Nat -> Nat -> St -> Hp -> Prop, (∃ m, W 0 m σ H1) /\ ∀ i m σ H, W i m σ H ->
 (J.stop i H /\ D.nx σ H) \/ (J.go i H /\ ∃ N : St -> Hp -> Prop, (∀ σ' H', N σ' H' -> ∃ m', m' < m /\ W (i + 1) m' σ' H') /\ ∀ x H', J.DL i H x H' -> g x σ H' fun σ2 H2 => tb { D with nx := N, ct := N, bk := D.nx } σ2 H2)
def nI (fp : List Addr) (h : Heap) : List (Addr × Obj) := fp.filterMap fun b => (h.get? b).map fun o => (b, o)
theorem ik {fp : List Addr} {h : Heap} {b : Addr} {o : Obj} (hb : b ∈ fp) (e : h.get? b = some o) : (b, o) ∈ nI fp h := List.mem_filterMap.mpr ⟨b, hb, by rw [e]; rfl⟩
theorem xP {fp : List Addr} {h : Heap} {p : Addr × Obj} (hp : p ∈ nI fp h) : p.1 ∈ fp /\ h.get? p.1 = some p.2 := by
 obtain ⟨b, hb, e⟩ := List.mem_filterMap.mp hp
 cases q : h.get? b with
 | none => rw [q] at e; cases e
 | some o =>
  rw [q] at e
  have e' : (b, o) = p := Tw e
  subst e'
  exact ⟨hb, q⟩
theorem Inv.pinned {pins : List (Addr × Obj)} {σ : St} {H : Hp} {s : Shared} {fp : List Addr} (I : Inv X pins σ H s) (hf : ∀ b ∈ fp, qN X pins H b) (ho : ∀ b ∈ fp, ∃ o, s.heap.get? b = some o /\ ∀ v, o.data ≠ .cell v) : Inv X (pins ++ nI fp s.heap) σ H s :=
 I.wt fun p hp => (S0.mp hp).elim (fun z => I.pin p (S8 _ z)) fun z => by
  obtain ⟨hb, e⟩ := xP z
  obtain ⟨f0, f1, f2, _⟩ := hf p.1 hb
  obtain ⟨o, e', d⟩ := ho p.1 hb
  rw [e] at e'; cases e'
  exact ⟨e, f0, f1, f2, d⟩
theorem Inv.kx {pins pl : List (Addr × Obj)} {σ : St} {H : Hp} {s : Shared} (I : Inv X (pins ++ pl) σ H s) : Inv X pins σ H s := I.wt fun p hp => I.pin p (S8 _ (T7 _ hp))
theorem dZ {iter : Expr} {body : List Stmt} {wi : TI} {g : TG} {tb : TS} {pos : Pos} (hp : PassesOwn (model X.prog X.w) X.A X.env X.xe) (hc : X.calm = true) (hi : PI X tg iter wi) (hg : PG X tg g) (hb : uv X body tb)
  (hs : ∀ x, foldedSetIterable iter X.env x = pure x := by intro _; rfl) : PS X (.For tg iter body [] pos) (Kx wi g tb) := by
 intro pins s σ H D I h
 refine wpAny_For (bO (hi pins s σ H _ I h) fun v s1 h1 => bO h1 fun J8 s2 h2 => ?_) hs
 obtain ⟨it, fp, tn, J, H2, e, I2, T, Ec, f2, W, ⟨m0, w0⟩, turn⟩ := h2
 subst e
 have Gc : ∀ {H' : Hp}, (∀ b ∈ fp, H' b = none) -> ∀ b ∈ fp, qN X pins H' b := fun hn b hb => ⟨hn b hb, (f2 b hb).2⟩
 refine codeAny_forLoop_any (fun n s' => ∃ i σ' H', Inv X pins σ' H' s' /\ tn i s'.heap /\ (∀ b ∈ fp, H' b = none) /\ W i n σ' H') ?_ m0 ⟨0, σ, H2, I2, Ec, fun b hb => (f2 b hb).1, w0⟩
 rintro n s3 ⟨i, σ3, H3, I3, DQ, MR, w3⟩
 rcases turn i n σ3 H3 w3 with ⟨stop, qn⟩ | ⟨go, N, hN, step⟩
 ·refine UP hp (bO (T.done X rfl rfl rfl hc i pins s3 σ3 H3 X.xe I3 (Gc MR) DQ stop) fun r s4 ⟨hr, I4⟩ => ?_)
  subst hr
  exact wpAny_execs_nil ⟨σ3, H3, I4, qn⟩
 ·refine UP hp (bO (T.item X rfl rfl rfl hc i pins s3 σ3 H3 X.xe I3 (Gc MR) DQ go) fun r s4 ⟨u, hr, h4⟩ => ?_)
  subst hr
  refine UP hp (bO h4 fun _ s5 ⟨x, H5, I5, r5, y5, GN, Qn⟩ => ?_)
  have NL := I5.pinned (Gc Qn) (T.obj _ _ GN)
  refine UP hp (bO (hg _ s5 σ3 H5 x u _ NL r5 (step x H5 y5)) fun _ s6 ⟨σ6, H6, I6, q6⟩ => ?_)
  refine UP hp (bO (hb _ s6 σ6 H6 _ I6 q6) fun f s7 q7 => ?_)
  have again : ∀ {σ7 : St} {H7 : Hp}, Inv X (pins ++ nI fp s5.heap) σ7 H7 s7 -> N σ7 H7 -> ∃ m, m < n /\ ∃ i σ' H', Inv X pins σ' H' s7 /\ tn i s7.heap /\ (∀ b ∈ fp, H' b = none) /\ W i m σ' H' := fun {σ7 H7} I7 n7 => by
   obtain ⟨m', hm, w7⟩ := hN σ7 H7 n7
   refine ⟨m', hm, i + 1, σ7, H7, I7.kx, T.keep _ _ _ GN fun b hb o e => (I7.pin (b, o) (S8 _ (S8 _ (ik hb e)))).1, fun b hb => ?_, w7⟩
   obtain ⟨o, e, d⟩ := T.obj _ _ GN b hb
   exact (I7.pin (b, o) (S8 _ (S8 _ (ik hb e)))).2.1
  cases f with
  | next => obtain ⟨σ7, H7, I7, n7⟩ := q7; exact again I7 n7
  | cont => obtain ⟨σ7, H7, I7, n7⟩ := q7; exact again I7 n7
  | brk => obtain ⟨σ7, H7, I7, q7⟩ := q7; exact ⟨σ7, H7, I7.kx, q7⟩
  | ret v => obtain ⟨x7, σ7, H7, I7, r7, q7⟩ := q7; exact ⟨x7, σ7, H7, I7.kx, r7, q7⟩
end
theorem eH {K : Vj} {a : Addr} {xs : List V} {g : TG} {tb : TS} {D : Ends} {σ : St} {H : Hp} (Pv : Nat -> St -> Hp -> Prop) (h0 : Pv 0 σ H) (hl : ∀ i σ H, i <= xs.length -> Pv i σ H -> bz K H a xs)
  (hs : ∀ i x σ H, xs[i]? = some x -> Pv i σ H -> g x σ H fun σ2 H2 => tb { D with nx := Pv (i + 1), ct := Pv (i + 1), bk := D.nx } σ2 H2) (hd : ∀ σ H, Pv xs.length σ H -> D.nx σ H) :
  ∃ W : Nat -> Nat -> St -> Hp -> Prop, (∃ m, W 0 m σ H) /\ ∀ i m σ H, W i m σ H ->
   ((Gm K a).stop i H /\ D.nx σ H) \/ ((Gm K a).go i H /\ ∃ N : St -> Hp -> Prop, (∀ σ' H', N σ' H' -> ∃ m', m' < m /\ W (i + 1) m' σ' H') /\ ∀ x H', (Gm K a).DL i H x H' -> g x σ H' fun σ2 H2 => tb { D with nx := N, ct := N, bk := D.nx } σ2 H2) := by
 refine ⟨fun i m σ H => m = xs.length - i /\ i <= xs.length /\ Pv i σ H, ⟨xs.length, by simp, S4 _, h0⟩, ?_⟩
 rintro i m σ H ⟨rfl, hi, p⟩
 have q := hl i σ H hi p
 by_cases fG : i < xs.length
 ·refine .inr ⟨⟨xs, xs[i], q, by simp [fG]⟩, Pv (i + 1), fun σ' H' p' => ⟨xs.length - (i + 1), by omega, rfl, fG, p'⟩, fun x H' y => ?_⟩
  obtain ⟨e, y⟩ := y
  subst e
  exact hs i x σ _ (y xs q) p
 ·have e : i = xs.length := by omega
  subst e
  exact .inl ⟨⟨xs, q, Ss _⟩, hd σ H p⟩
theorem xf {K : Vj} {a : Addr} {xs : List V} {g : TG} {tb : TS} {D : Ends} {σ : St} {H : Hp} (Pv : Nat -> St -> Hp -> Prop) (h0 : Pv 0 σ H) (hl : ∀ i σ H, i <= xs.length -> Pv i σ H -> bR K H a xs)
  (hs : ∀ i x σ H, xs[i]? = some x -> Pv i σ H -> g x σ H fun σ2 H2 => tb { D with nx := Pv (i + 1), ct := Pv (i + 1), bk := D.nx } σ2 H2) (hd : ∀ σ H, Pv xs.length σ H -> D.nx σ H) :
  ∃ W : Nat -> Nat -> St -> Hp -> Prop, (∃ m, W 0 m σ H) /\ ∀ i m σ H, W i m σ H ->
   ((Gd K a).stop i H /\ D.nx σ H) \/ ((Gd K a).go i H /\ ∃ N : St -> Hp -> Prop, (∀ σ' H', N σ' H' -> ∃ m', m' < m /\ W (i + 1) m' σ' H') /\ ∀ x H', (Gd K a).DL i H x H' -> g x σ H' fun σ2 H2 => tb { D with nx := N, ct := N, bk := D.nx } σ2 H2) := by
 refine ⟨fun i m σ H => m = xs.length - i /\ i <= xs.length /\ Pv i σ H, ⟨xs.length, by simp, S4 _, h0⟩, ?_⟩
 rintro i m σ H ⟨rfl, hi, p⟩
 have q := hl i σ H hi p
 by_cases fG : i < xs.length
 ·refine .inr ⟨⟨xs, xs[i], q, by simp [fG]⟩, Pv (i + 1), fun σ' H' p' => ⟨xs.length - (i + 1), by omega, rfl, fG, p'⟩, fun x H' y => ?_⟩
  obtain ⟨e, y⟩ := y
  subst e
  exact hs i x σ _ (y xs q) p
 ·have e : i = xs.length := by omega
  subst e
  exact .inl ⟨⟨xs, q, Ss _⟩, hd σ H p⟩
theorem yx {lo : Int} {n : Nat} {g : TG} {tb : TS} {D : Ends} {σ : St} {H : Hp} (Pv : Nat -> St -> Hp -> Prop) (h0 : Pv 0 σ H)
  (hs : ∀ i σ H, i < n -> Pv i σ H -> g (.int (lo + i)) σ H fun σ2 H2 => tb { D with nx := Pv (i + 1), ct := Pv (i + 1), bk := D.nx } σ2 H2) (hd : ∀ σ H, Pv n σ H -> D.nx σ H) :
  ∃ W : Nat -> Nat -> St -> Hp -> Prop, (∃ m, W 0 m σ H) /\ ∀ i m σ H, W i m σ H ->
   ((EC lo n).stop i H /\ D.nx σ H) \/ ((EC lo n).go i H /\ ∃ N : St -> Hp -> Prop, (∀ σ' H', N σ' H' -> ∃ m', m' < m /\ W (i + 1) m' σ' H') /\ ∀ x H', (EC lo n).DL i H x H' -> g x σ H' fun σ2 H2 => tb { D with nx := N, ct := N, bk := D.nx } σ2 H2) := by
 refine ⟨fun i m σ H => m = n - i /\ i <= n /\ Pv i σ H, ⟨n, by simp, S4 _, h0⟩, ?_⟩
 rintro i m σ H ⟨rfl, hi, p⟩
 by_cases fG : i < n
 ·refine .inr ⟨fG, Pv (i + 1), fun σ' H' p' => ⟨n - (i + 1), by omega, rfl, fG, p'⟩, fun x H' y => ?_⟩
  obtain ⟨e, y⟩ := y
  subst e y
  exact hs i σ _ fG p
 ·have e : i = n := by omega
  subst e
  exact .inl ⟨Ss _, hd σ H p⟩
abbrev R2 := V -> V -> Hp -> VK -> Prop
def gi (X : Cx) (f : Value -> Value -> Sem Value) (r : R2) : Prop :=
 ∀ (pins : List (Addr × Obj)) (s : Shared) (σ : St) (H : Hp) (x y : V) (v u : Value) (Q : VK), Inv X pins σ H s -> RelV x v -> RelV y u -> r x y H Q ->
  wpAny (model X.prog X.w) X.A (f v u) (EP X pins σ Q) X.xe s
def K9 (X : Cx) (f : Value -> Sem Value) (r : V -> Hp -> VK -> Prop) : Prop :=
 ∀ (pins : List (Addr × Obj)) (s : Shared) (σ : St) (H : Hp) (x : V) (v : Value) (Q : VK), Inv X pins σ H s -> RelV x v -> r x H Q ->
  wpAny (model X.prog X.w) X.A (f v) (EP X pins σ Q) X.xe s
def dh (X : Cx) (f : Value) (r : List V -> Hp -> VK -> Prop) : Prop :=
 ∀ (pins : List (Addr × Obj)) (s : Shared) (σ : St) (H : Hp) (xs : List V) (us : List Value) (Q : VK), Inv X pins σ H s -> Vals xs us -> r xs H Q ->
  wpAny (model X.prog X.w) X.A (call f us) (EP X pins σ Q) X.xe s
def Kb (X : Cx) (r : V -> Hp -> (Bool -> Hp -> Prop) -> Prop) : Prop :=
 ∀ (pins : List (Addr × Obj)) (s : Shared) (σ : St) (H : Hp) (x : V) (v : Value) (Q : Bool -> Hp -> Prop), Inv X pins σ H s -> RelV x v -> r x H Q ->
  wpAny (model X.prog X.w) X.A (truthy v) (TP X pins σ Q) X.xe s
def Js (r : R2) (ta tb : TE) : TE := fun σ H Q => ta σ H fun x H1 => tb σ H1 fun y H2 => r x y H2 Q
def Rl (r : V -> Hp -> VK -> Prop) (ta : TE) : TE := fun σ H Q => ta σ H fun x H1 => r x H1 Q
def rI (C : Int -> Int -> Prop) (g : Int -> Int -> V) : R2 := fun x y H Q => ∃ i j, x = .int i /\ y = .int j /\ C i j /\ Q (g i j) H
def FH (g : Int -> Int -> V) : R2 := fun x y H Q => ∃ i j, x = .int i /\ y = .int j /\ Q (g i j) H
def rU (g : Int -> V) : V -> Hp -> VK -> Prop := fun x H Q => ∃ i, x = .int i /\ Q (g i) H
section
variable {X : Cx} {a b c : Expr} {ta tb tc : TE} {pos : Pos}
theorem EX (ha : PE X a ta) (hb : PE X b tb) {pins : List (Addr × Obj)} {s : Shared} {σ : St} {H : Hp} {R : V -> V -> Hp -> Prop} (I : Inv X pins σ H s)
  (h : ta σ H fun x H1 => tb σ H1 fun y H2 => R x y H2) {Q : Value -> Shared -> Prop} {f : Value -> Value -> Sem Value}
  (hf : ∀ v u s2 x y H2, Inv X pins σ H2 s2 -> RelV x v -> RelV y u -> R x y H2 -> wpAny (model X.prog X.w) X.A (f v u) Q X.xe s2) :
  wpAny (model X.prog X.w) X.A (eval a X.env) (fun v s₁ => wpAny (model X.prog X.w) X.A (eval b X.env) (fun u s₂ => wpAny (model X.prog X.w) X.A (f v u) Q X.xe s₂) X.xe s₁) X.xe s := by
 refine bO (ha pins s σ H _ I h) fun v s1 ⟨x, H1, I1, r1, q1⟩ => ?_
 refine bO (hb pins s1 σ H1 _ I1 q1) fun u s2 ⟨y, H2, I2, r2, q2⟩ => ?_
 exact hf v u s2 x y H2 I2 r1 r2 q2
theorem bb {op : Operator} {r : R2} (ho : gi X (binaryOp op) r) (ha : PE X a ta) (hb : PE X b tb) : PE X (.BinOp a op b pos) (Js r ta tb) := by
 intro pins s σ H Q I h
 exact wpAny_BinOp (EX ha hb I h fun v u s2 x y H2 I2 rx ry q => ho pins s2 σ H2 x y v u Q I2 rx ry q)
theorem Ij {op : UnaryOp} {r : V -> Hp -> VK -> Prop} (ho : K9 X (unaryOp op) r) (ha : PE X a ta) : PE X (.UnaryOp op a pos) (Rl r ta) := by
 intro pins s σ H Q I h
 exact UnaryOp_ (bO (ha pins s σ H _ I h) fun v s1 ⟨x, H1, I1, r1, q1⟩ => ho pins s1 σ H1 x v Q I1 r1 q1)
theorem IW {f : Value -> Value -> Sem Value} {C : Int -> Int -> Prop} {g : Int -> Int -> Int}
  (rule : ∀ (i j : Int) (t u : Tok) (s : Shared) (Q : Value -> Shared -> Prop) (E : Value -> Shared -> Prop), C i j -> Q (.int (g i j) s.toks) { s with toks := s.toks + 1 } -> wpAny (model X.prog X.w) X.A (f (.int i t) (.int j u)) Q E s) :
  gi X f (rI C fun i j => .int (g i j)) := by
 intro pins s σ H x y v u Q I rx ry h
 obtain ⟨i, j, rfl, rfl, hc, q⟩ := h
 obtain ⟨t, rfl⟩ := rx
 obtain ⟨t', rfl⟩ := ry
 exact rule i j t t' s _ _ hc ⟨.int (g i j), H, I.tok _, ⟨_, rfl⟩, q⟩
theorem G8 {f : Value -> Value -> Sem Value} {g : Int -> Int -> Int}
  (rule : ∀ (i j : Int) (t u : Tok) (s : Shared) (Q : Value -> Shared -> Prop) (E : Value -> Shared -> Prop), Q (.int (g i j) s.toks) { s with toks := s.toks + 1 } -> wpAny (model X.prog X.w) X.A (f (.int i t) (.int j u)) Q E s) :
  gi X f (FH fun i j => .int (g i j)) := by
 intro pins s σ H x y v u Q I rx ry h
 obtain ⟨i, j, rfl, rfl, q⟩ := h
 obtain ⟨t, rfl⟩ := rx
 obtain ⟨t', rfl⟩ := ry
 exact rule i j t t' s _ _ ⟨.int (g i j), H, I.tok _, ⟨_, rfl⟩, q⟩
theorem Ex {f : Value -> Value -> Sem Value} {g : Int -> Int -> Bool}
  (rule : ∀ (i j : Int) (t u : Tok) (s : Shared) (Q : Value -> Shared -> Prop) (E : Value -> Shared -> Prop), Q (.bool (g i j)) s -> wpAny (model X.prog X.w) X.A (f (.int i t) (.int j u)) Q E s) :
  gi X f (FH fun i j => .bl (g i j)) := by
 intro pins s σ H x y v u Q I rx ry h
 obtain ⟨i, j, rfl, rfl, q⟩ := h
 obtain ⟨t, rfl⟩ := rx
 obtain ⟨t', rfl⟩ := ry
 exact rule i j t t' s _ _ ⟨.bl (g i j), H, I, rfl, q⟩
def Ld (i j : Int) : Prop := 0 < j /\ j < 1073741824
def Ku (i j : Int) : Prop := 0 <= j /\ j <= 1000000 /\ i.natAbs < 2 ^ 64
def ED (i j : Int) : Prop := (-(2 ^ 64) < i /\ i < 2 ^ 64) \/ (-(2 ^ 64) < j /\ j < 2 ^ 64)
theorem ED.ok {i j : Int} (h : ED i j) : IntMulOk i j := by
 rcases h with ⟨h1, h2⟩ | ⟨h1, h2⟩
 ·exact .of_left (intBits_le_64 h1 h2)
 ·exact .of_right (intBits_le_64 h1 h2)
theorem fX : gi X (binaryOp .Add) (FH fun i j => .int (i + j)) := G8 fun _ _ _ _ _ _ _ q => add_int q
theorem yX : gi X (binaryOp .Sub) (FH fun i j => .int (i - j)) := G8 fun _ _ _ _ _ _ _ q => sub_int q
theorem Fw : gi X (binaryOp .Mult) (rI ED fun i j => .int (i * j)) := IW fun _ _ _ _ _ _ _ hc q => mul_int q hc.ok
theorem lA : gi X (binaryOp .FloorDiv) (rI Ld fun i j => .int (i / j)) := IW fun i j _ _ _ _ _ hc q => by
 have h1 : (0 : Int) < j := hc.1
 have h2 : j < 1073741824 := hc.2
 exact floordiv_int (by omega) (by rw [Int.fdiv_eq_ediv_of_nonneg i (by omega)]; exact q) (.inl (PyProof.noPylong_small (by omega)))
theorem dQ : gi X (binaryOp .Mod) (rI (fun _ j => 0 < j) fun i j => .int (i % j)) := IW fun i j _ _ _ _ _ hc q => by
 have h1 : (0 : Int) < j := hc
 exact mod_int' (by omega) (by rw [Int.fmod_eq_emod_of_nonneg i (by omega)]; exact q)
theorem zS : gi X (binaryOp .Pow) (rI Ku fun i j => .int (i ^ j.toNat)) := IW fun _ _ _ _ _ _ _ hc q => pow_int_small hc.1 hc.2.1 hc.2.2 q
theorem O0 {f : Value -> Sem Value} {g : Int -> Int}
  (rule : ∀ (i : Int) (t : Tok) (s : Shared) (Q : Value -> Shared -> Prop) (E : Value -> Shared -> Prop), Q (.int (g i) s.toks) { s with toks := s.toks + 1 } -> wpAny (model X.prog X.w) X.A (f (.int i t)) Q E s) :
  K9 X f (rU fun i => .int (g i)) := by
 intro pins s σ H x v Q I rx h
 obtain ⟨i, rfl, q⟩ := h
 obtain ⟨t, rfl⟩ := rx
 exact rule i t s _ _ ⟨.int (g i), H, I.tok _, ⟨_, rfl⟩, q⟩
theorem EI : K9 X (unaryOp .USub) (rU fun i => .int (-i)) := O0 fun _ _ _ _ _ q => neg_int q
end
def He : V -> V -> Bool
 | .cc, .cc => true | .cc, .int _ => true | .int _, .cc => true | .cc, .bl _ => true | .bl _, .cc => true | .cc, .str _ => true | .str _, .cc => true
 | .int _, .int _ => true | .bl _, .bl _ => true | .str _, .str _ => true | .wG _, .wG _ => true
 | .int _, .str _ => true | .str _, .int _ => true | .bl _, .str _ => true | .str _, .bl _ => true
 | _, _ => false
def NW : R2 := fun x y H Q => He x y = true /\ Q (.bl (decide (x = y))) H
def Q8 : R2 := fun x y H Q => He x y = true /\ Q (.bl (!decide (x = y))) H
theorem wr {i j : Int} : decide (V.int i = V.int j) = (i == j) := by
 rw [UQ]
 simp
theorem zR {i j : Bool} : decide (V.bl i = V.bl j) = (i == j) := by
 rw [UQ]
 simp
theorem v8 {i j : Str} : decide (V.str i = V.str j) = (i == j) := by
 rw [UQ]
 simp
theorem wm {i j : Array UInt8} : decide (V.wG i = V.wG j) = (i.toList == j.toList) := by
 rw [UQ]
 cases i
 cases j
 simp
section
variable {X : Cx} {a b c : Expr} {ta tb tc : TE} {pos : Pos}
theorem aU {pins : List (Addr × Obj)} {σ : St} {H : Hp} {s : Shared} {Q : VK} {k k' : Bool} (I : Inv X pins σ H s) (q : Q (.bl k) H) (e : k = k') : EP X pins σ Q (.bool k') s := by
 subst e
 exact ⟨.bl k, H, I, rfl, q⟩
theorem oH : gi X (compareOp .Eq) NW := by
 intro pins s σ H x y v u Q I rx ry h
 obtain ⟨hs, q⟩ := h
 cases x with
 | cc =>
  cases rx
  cases y with
  | cc => cases ry; exact PySem.EqNone.eq_none_none (aU I q (by simp))
  | bl j => cases ry; exact PySem.EqNone.eq_none_bool (aU I q (by simp))
  | int j => obtain ⟨t', rfl⟩ := ry; exact PySem.EqNone.eq_none_int (aU I q (by simp))
  | str j => obtain ⟨t', rfl⟩ := ry; exact PySem.EqNone.eq_none_str (aU I q (by simp))
  | _ => exact absurd (show false = true from hs) Sy
 | bl i =>
  cases rx
  cases y with
  | cc => cases ry; exact PySem.EqNone.eq_bool_none (aU I q (by simp))
  | bl j => cases ry; exact eq_bool (aU I q zR)
  | str j => obtain ⟨t', rfl⟩ := ry; exact PySem.EqMixed.eq_bool_str (aU I q (by simp))
  | _ => exact absurd (show false = true from hs) Sy
 | int i =>
  obtain ⟨t, rfl⟩ := rx
  cases y with
  | cc => cases ry; exact PySem.EqNone.eq_int_none (aU I q (by simp))
  | int j => obtain ⟨t', rfl⟩ := ry; exact eq_int (aU I q wr)
  | str j => obtain ⟨t', rfl⟩ := ry; exact PySem.EqMixed.eq_int_str (aU I q (by simp))
  | _ => exact absurd (show false = true from hs) Sy
 | str i =>
  obtain ⟨t, rfl⟩ := rx
  cases y with
  | cc => cases ry; exact PySem.EqNone.eq_str_none (aU I q (by simp))
  | bl j => cases ry; exact PySem.EqMixed.eq_str_bool (aU I q (by simp))
  | int j => obtain ⟨t', rfl⟩ := ry; exact PySem.EqMixed.eq_str_int (aU I q (by simp))
  | str j => obtain ⟨t', rfl⟩ := ry; exact eq_str (aU I q v8)
  | _ => exact absurd (show false = true from hs) Sy
 | wG i =>
  obtain ⟨t, rfl⟩ := rx
  cases y with
  | wG j => obtain ⟨t', rfl⟩ := ry; exact PySem.W.eq_bytes (aU I q wm)
  | _ => exact absurd (show false = true from hs) Sy
 | _ => cases y <;> exact absurd (show false = true from hs) Sy
theorem mE : gi X (compareOp .NotEq) Q8 := by
 intro pins s σ H x y v u Q I rx ry h
 obtain ⟨hs, q⟩ := h
 cases x with
 | cc =>
  cases rx
  cases y with
  | cc => cases ry; exact PySem.EqNone.ne_none_none (aU I q (by simp))
  | bl j => cases ry; exact PySem.EqNone.ne_none_bool (aU I q (by simp))
  | int j => obtain ⟨t', rfl⟩ := ry; exact PySem.EqNone.ne_none_int (aU I q (by simp))
  | str j => obtain ⟨t', rfl⟩ := ry; exact PySem.EqNone.ne_none_str (aU I q (by simp))
  | _ => exact absurd (show false = true from hs) Sy
 | bl i =>
  cases rx
  cases y with
  | cc => cases ry; exact PySem.EqNone.ne_bool_none (aU I q (by simp))
  | bl j => cases ry; exact ne_bool (aU I q (TR not zR))
  | str j => obtain ⟨t', rfl⟩ := ry; exact PySem.EqMixed.ne_bool_str (aU I q (by simp))
  | _ => exact absurd (show false = true from hs) Sy
 | int i =>
  obtain ⟨t, rfl⟩ := rx
  cases y with
  | cc => cases ry; exact PySem.EqNone.ne_int_none (aU I q (by simp))
  | int j => obtain ⟨t', rfl⟩ := ry; exact ne_int (aU I q (TR not wr))
  | str j => obtain ⟨t', rfl⟩ := ry; exact PySem.EqMixed.ne_int_str (aU I q (by simp))
  | _ => exact absurd (show false = true from hs) Sy
 | str i =>
  obtain ⟨t, rfl⟩ := rx
  cases y with
  | cc => cases ry; exact PySem.EqNone.ne_str_none (aU I q (by simp))
  | bl j => cases ry; exact PySem.EqMixed.ne_str_bool (aU I q (by simp))
  | int j => obtain ⟨t', rfl⟩ := ry; exact PySem.EqMixed.ne_str_int (aU I q (by simp))
  | str j => obtain ⟨t', rfl⟩ := ry; exact ne_str (aU I q (TR not v8))
  | _ => exact absurd (show false = true from hs) Sy
 | wG i =>
  obtain ⟨t, rfl⟩ := rx
  cases y with
  | wG j => obtain ⟨t', rfl⟩ := ry; exact PySem.W.ne_bytes (aU I q (TR not wm))
  | _ => exact absurd (show false = true from hs) Sy
 | _ => cases y <;> exact absurd (show false = true from hs) Sy
theorem sW : gi X (compareOp .Lt) (FH fun i j => .bl (decide (i < j))) := Ex fun _ _ _ _ _ _ _ q => lt_int q
theorem kJ : gi X (compareOp .LtE) (FH fun i j => .bl (decide (i <= j))) := Ex fun _ _ _ _ _ _ _ q => le_int q
theorem wg : gi X (compareOp .Gt) (FH fun i j => .bl (decide (j < i))) := Ex fun _ _ _ _ _ _ _ q => gt_int q
theorem FT : gi X (compareOp .Is) (fun x y H Q => y = .cc /\ Q (.bl (decide (x = .cc))) H) := by
 intro pins s σ H x y v u Q I rx ry h
 obtain ⟨rfl, q⟩ := h
 cases ry
 refine is_none_gen (aU I q ?_)
 cases x <;> first
  | (cases rx; rfl)
  | (obtain ⟨t, rfl⟩ := rx; rfl)
theorem vZ : gi X (compareOp .IsNot) (fun x y H Q => y = .cc /\ Q (.bl (!decide (x = .cc))) H) := by
 intro pins s σ H x y v u Q I rx ry h
 obtain ⟨rfl, q⟩ := h
 cases ry
 refine isnot_none_gen (aU I q ?_)
 cases x <;> first
  | (cases rx; rfl)
  | (obtain ⟨t, rfl⟩ := rx; rfl)
theorem gi.or {f : Value -> Value -> Sem Value} {r r' : R2} (h : gi X f r) (h' : gi X f r') : gi X f (fun x y H Q => r x y H Q \/ r' x y H Q) := by
 intro pins s σ H x y v u Q I rx ry q
 rcases q with q | q
 ·exact h pins s σ H x y v u Q I rx ry q
 ·exact h' pins s σ H x y v u Q I rx ry q
theorem aY (b : Expr) {op : CmpOp} (h : op ≠ .In := by decide) (h2 : op ≠ .NotIn := by decide) : behindInMarks op b = false := by
 have e1 : (op == CmpOp.In) = false := by cases op <;> first | rfl | exact absurd rfl h
 have e2 : (op == CmpOp.NotIn) = false := by cases op <;> first | rfl | exact absurd rfl h2
 cases b <;> simp [behindInMarks, e1, e2]
theorem fT {op : CmpOp} {r : R2} (ho : gi X (compareOp op) r) (ha : PE X a ta) (hb : PE X b tb) (hm : behindInMarks op b = false) : PE X (.Compare a [op] [b] pos) (Js r ta tb) := by
 intro pins s σ H Q I h
 exact wpAny_Compare1 (EX ha hb I h fun v u s2 x y H2 I2 rx ry q => ho pins s2 σ H2 x y v u Q I2 rx ry q) hm
def D8 (t : TE) : TT := fun σ H Q => t σ H fun x H' => ∃ k, x = .bl k /\ Q k H'
theorem aE {op : CmpOp} {r : R2} (ho : gi X (compareOp op) r) (ha : PE X a ta) (hb : PE X b tb) (hm : behindInMarks op b = false) : PT X (.Compare a [op] [b] pos) (D8 (Js r ta tb)) := by
 intro pins s σ H Q I h
 refine wpAny_isTrue_Compare1 (bO (ha pins s σ H _ I h) fun v s1 ⟨x, H1, I1, r1, q1⟩ => bO (hb pins s1 σ H1 _ I1 q1) fun u s2 ⟨y, H2, I2, r2, q2⟩ =>
  bO (ho pins s2 σ H2 x y v u _ I2 r1 r2 q2) fun c s3 ⟨z, H3, I3, r3, k, e, q3⟩ => ?_) hm
 subst e
 cases r3
 exact TD ⟨H3, I3, q3⟩
def Af (r r' : R2) (ta tb tc : TE) : TE := fun σ H Q => ta σ H fun x H1 => tb σ H1 fun y H2 => r x y H2 fun z H3 => ∃ k, z = .bl k /\
 (if k = true then tc σ H3 fun w' H4 => r' y w' H4 Q else Q (.bl false) H3)
theorem sL {op EA : CmpOp} {r r' : R2} (ho : gi X (compareOp op) r) (j8 : gi X (compareOp EA) r') (ha : PE X a ta) (hb : PE X b tb) (hc : PE X c tc)
  (hm : lastMarks [op, EA] [b, c] = false := by with_unfolding_all rfl) : PE X (.Compare a [op, EA] [b, c] pos) (Af r r' ta tb tc) := by
 intro pins s σ H Q I h
 refine Compare_chain (bO (ha pins s σ H _ I h) fun v s1 ⟨x, H1, I1, r1, q1⟩ => chain_link (bO (hb pins s1 σ H1 _ I1 q1) fun u s2 ⟨y, H2, I2, r2, q2⟩ =>
  bO (ho pins s2 σ H2 x y v u _ I2 r1 r2 q2) fun d s3 ⟨z, H3, I3, r3, k, e, q3⟩ => ?_)) hm
 subst e
 cases r3
 refine TD ?_
 cases k with
 | false => exact ite_ff ⟨.bl false, H3, I3, rfl, q3⟩
 | true => exact ite_tt (chain_last (bO (hc pins s3 σ H3 _ I3 q3) fun w' s4 ⟨z', H4, I4, r4, q4⟩ => j8 pins s4 σ H4 y z' u w' Q I4 r2 r4 q4))
theorem oW {op EA : CmpOp} {r r' : R2} (ho : gi X (compareOp op) r) (j8 : gi X (compareOp EA) r') (ha : PE X a ta) (hb : PE X b tb) (hc : PE X c tc)
  (hm : lastMarks [op, EA] [b, c] = false := by with_unfolding_all rfl) : PT X (.Compare a [op, EA] [b, c] pos) (D8 (Af r r' ta tb tc)) := by
 intro pins s σ H Q I h
 refine isTrue_chain (bO (ha pins s σ H _ I h) fun v s1 ⟨x, H1, I1, r1, q1⟩ => test_link (bO (hb pins s1 σ H1 _ I1 q1) fun u s2 ⟨y, H2, I2, r2, q2⟩ =>
  bO (ho pins s2 σ H2 x y v u _ I2 r1 r2 q2) fun d s3 ⟨z, H3, I3, r3, k, e, q3⟩ => ?_)) hm
 subst e
 cases r3
 refine TD ?_
 cases k with
 | false =>
  obtain ⟨k', e', q'⟩ := q3
  cases e'
  exact ite_ff ⟨H3, I3, q'⟩
 | true =>
  refine ite_tt (test_last (bO (hc pins s3 σ H3 _ I3 q3) fun w' s4 ⟨z', H4, I4, r4, q4⟩ => bO (j8 pins s4 σ H4 y z' u w' _ I4 r2 r4 q4) fun d' s5 ⟨z2, H5, I5, r5, k2, e2, q5⟩ => ?_))
  subst e2
  cases r5
  exact TD ⟨H5, I5, q5⟩
def Hi (K : Vj) (x : V) (H : Hp) (k : Bool) : Prop :=
 match x with
 | .cc => k = false
 | .bl b => k = b
 | .int i => k = (i != 0)
 | .str y => y.length <= sizeLine /\ k = ((y.length : Int) != 0)
 | .wG y => y.size <= sizeLine /\ k = ((y.size : Int) != 0)
 | .ref p => (∃ xs, bz K H p xs /\ k = !xs.isEmpty) \/ (∃ xs, bR K H p xs /\ k = !xs.isEmpty) \/ ∃ kvs, H p = some (.dK kvs) /\ k = !kvs.isEmpty
 | _ => False
theorem vM {κ : Type} {kvs : List (κ × V)} {vs : List (κ × Value)} (r : KV kvs vs) : (!vs.isEmpty) = !kvs.isEmpty := by
 cases r <;> rfl
theorem o7 {xs : List V} {au : List Value} (r : Vals xs au) : (!au.toArray.isEmpty) = !xs.isEmpty := by
 cases r <;> simp
theorem rJ : (sizeLine : Nat) < 2 ^ 63 := by rw [Uu]; decide
theorem Gb : Kb X (fun x H Q => ∃ k, Hi X.K x H k /\ Q k H) := by
 intro pins s σ H x v Q I rx h
 obtain ⟨k, e, q⟩ := h
 have hl := rJ
 have hs : sizeLine = 16777216 := Uu
 cases x with
 | cc =>
  cases rx
  have e' : k = false := e
  subst e'
  exact truthy_none ⟨H, I, q⟩
 | bl b =>
  cases rx
  have e' : k = b := e
  subst e'
  exact TD ⟨H, I, q⟩
 | int i =>
  obtain ⟨t, rfl⟩ := rx
  have e' : k = (i != 0) := e
  subst e'
  exact PySem.P.truthy_int ⟨H, I, q⟩
 | str y =>
  obtain ⟨t, rfl⟩ := rx
  obtain ⟨hy, e'⟩ : y.length <= sizeLine /\ k = ((y.length : Int) != 0) := e
  subst e'
  exact PySem.P.truthy_str (by omega) ⟨H, I.tok _, q⟩
 | wG y =>
  obtain ⟨t, rfl⟩ := rx
  obtain ⟨hy, e'⟩ : y.size <= sizeLine /\ k = ((y.size : Int) != 0) := e
  subst e'
  exact PySem.W.truthy_bytes (by omega) ⟨H, I.tok _, q⟩
 | ref p =>
  cases rx
  have e' : (∃ xs, bz X.K H p xs /\ k = !xs.isEmpty) \/ (∃ xs, bR X.K H p xs /\ k = !xs.isEmpty) \/ ∃ kvs, H p = some (.dK kvs) /\ k = !kvs.isEmpty := e
  rcases e' with ⟨xs, hx, e'⟩ | ⟨xs, hx, e'⟩ | ⟨kvs, hx, e'⟩
  ·subst e'
   obtain ⟨au, r, pl, hz⟩ := I.list hx
   have hlen := r.length
   exact wpAny_truthy_list pl.isList (by simp only [SG]; omega) ⟨H, I.tok _, by rw [o7 r]; exact q⟩
  ·subst e'
   obtain ⟨au, r, pl, hz⟩ := I.tuple hx
   have hlen := r.length
   exact truthy_tuple pl (by simp only [SG]; omega) ⟨H, I.tok _, by rw [o7 r]; exact q⟩
  ·subst e'
   obtain ⟨hz, hS, vs, r, m⟩ : kvs.length <= sizeLine /\ (p == sysModules) = false /\ ∃ vs, KV kvs vs /\ s.heap.DictOf (qR X.prog X.w) p vs := I.aP p _ hx
   have hlen : kvs.length = vs.length := TW r
   exact wpAny_truthy_dict hS m (by omega) ⟨H, I.tok _, by rw [vM r]; exact q⟩
 | _ => exact (show False from e).elim
theorem Ao (ha : PE X a ta) (he : ∀ whole, isTrue a X.env whole = (do let v <- whole; standAt a.pos; holding [v] (truthy v))) :
  PT X a (fun σ H Q => ta σ H fun x H' => ∃ k, Hi X.K x H' k /\ Q k H') := by
 intro pins s σ H Q I h
 exact isTrue_plain (bO (ha pins s σ H _ I h) fun v s1 ⟨x, H1, I1, r1, q1⟩ => Gb pins s1 σ H1 x v Q I1 r1 q1) (he _)
theorem vals1 {x : V} {us : List Value} (r : Vals [x] us) : ∃ u, us = [u] /\ RelV x u := by
 cases r with
 | cons r1 r2 => cases r2; exact ⟨_, rfl, r1⟩
theorem vals2 {x y : V} {us : List Value} (r : Vals [x, y] us) : ∃ u w', us = [u, w'] /\ RelV x u /\ RelV y w' := by
 cases r with
 | cons r1 r2 =>
  cases r2 with
  | cons r3 r4 => cases r4; exact ⟨_, _, rfl, r1, r3⟩
end
structure vv (h : Heap) (x dx C : Addr) (mA : Str -> Option Value) : Prop where
 obj : h.get? x = some (PySem.W.instObj C dx)
 ns : h.Ns1 dx mA
 ne : dx ≠ x
theorem xB {h : Heap} {dx : Addr} {mA : Str -> Option Value} (n : h.Ns1 dx mA) : ∃ od, h.get? dx = some od /\ ∀ name, PySem.W.lookIn name od = some (mA name) := by
 obtain ⟨o, es, ep, ho, hd, hk, _, hm⟩ := n
 refine ⟨o, ho, fun name => ?_⟩
 have e := hm name
 unfold nsFind findBy at e
 rw [<- Array.find?_toList] at e
 unfold PySem.W.lookIn
 rw [hd]
 dsimp only
 split
 ·rename_i y q
  rw [q] at e
  exact TR some e
 ·rename_i q
  rw [q] at e
  have a : es.toList.any (·.refKey) = false := by
   rw [List.any_eq_false]
   intro y hy
   obtain ⟨z, t, LM⟩ := hk y (Array.mem_toList_iff.mp hy)
   simp [DictEntry.refKey, LM]
  have a' : ¬ es.toList.any (·.refKey) = true := by rw [a]; exact Sy
  rw [if_neg a']
  exact TR some e
theorem vv.look {h : Heap} {x dx C : Addr} {mA : Str -> Option Value} (I : vv h x dx C mA) : ∃ od, PySem.W.InstAt h x (PySem.W.instObj C dx) C (some od) /\ ∀ name, PySem.W.lookIn name od = some (mA name) :=
 let ⟨od, ho, hl⟩ := xB I.ns
 ⟨od, ⟨I.obj, rfl, rfl, ho⟩, hl⟩
section
variable {prog : Program} {w : World} {A : Around} {E : Value -> Shared -> Prop} {s : Shared} {K : Vj} {x dx C f : Addr} {mA : Str -> Option Value} {name : Str} {v : Value}
theorem get_map {expr : Bool} {Q : Value -> Shared -> Prop} (X : K.In s.heap) (I : vv s.heap x dx C mA) (hg : PySem.W.plainGet K C name = true) (hh : PySem.W.hasDictIn K C = true)
  (ha : PySem.W.findIn K (.ref C) name = some none) (hv : mA name = some v) (Eu : PySem.W.handedIn v = true) (h : Q v { s with toks := s.toks + 1 }) :
  wpAny (model prog w) A (getAttr (.ref x) name expr) Q E s := by
 obtain ⟨od, J, hl⟩ := I.look
 exact PySem.W.get_value X J (PySem.W.plainGet_of hg).1 (PySem.W.findObj_own hh ha rfl (by rw [hl, hv])) Eu h
theorem AU {pl : Sem Bool} {Q : Value × List Value -> Shared -> Prop} (X : K.In s.heap) (I : vv s.heap x dx C mA) (hg : PySem.W.plainGet K C name = true)
  (hf : PySem.W.findIn K (.ref C) name = some (some (.ref f))) (ht : PySem.W.isFn K (.ref f) = true) (hv : mA name = none) (h : Q (.ref f, [.ref x]) s) :
  wpAny (model prog w) A (getMethod (.ref x) name pl) Q E s := by
 obtain ⟨od, J, hl⟩ := I.look
 exact PySem.W.method_fn X J (PySem.W.plainGet_of hg).1 (PySem.W.plainGet_of hg).2 hf (UC.mp ht) (by show (PySem.W.lookIn name od).map (·.isSome) = some false; rw [hl, hv]; rfl) h
theorem Cg {ns : List Str} {Q : Unit -> Shared -> Prop} (X : K.In s.heap) (I : vv s.heap x dx C mA)
  (hs : PySem.W.findIn K (.ref C) "__setattr__" = some (some (.builtin "object.__setattr__"))) (hp : PySem.W.plainOver K C = true) (ht : PySem.W.takerIn K C name = some none) (hh : PySem.W.hasDictIn K C = true)
  (hw : PySem.Within mA ns) (hsz : ns.length <= sizeLine)
  (h : ∀ h', vv h' x dx C (fun y => if y = name then some v else mA y) -> Heap.SameBut dx s.heap h' -> Q () { s with heap := h', toks := s.toks + 2 }) :
  wpAny (model prog w) A (setAttr (.ref x) name v) Q E s := by
 obtain ⟨od, J, hl⟩ := I.look
 refine PySem.W.set_plain X J hs (PySem.W.osa_open (s := { s with toks := s.toks + 1 }) (r := none) X J hp ht fun b => ?_)
 obtain ⟨cd, hc, uH⟩ := PySem.W.any_some hh
 have hx : s.heap.get? x = some ⟨.ref C, some dx, .plain, #[]⟩ := I.obj
 refine Sn (So (Sn (Sn (wpAny_loadPart hx (Sn (PySem.W.Looks.here (s := { s with toks := s.toks + 1 }) (PySem.W.looks_clsIn X hc) ?_))))))
 rw [uH]
 refine So (a := some dx) (Sn (So (Sn ?_)))
 refine wpAny_nsSet1 (s := { s with toks := s.toks + 1 }) I.ns fun h' Je G9 => ?_
 obtain ⟨oD, R5, R6, OG, QP, Pt⟩ := Je.count (PySem.Within.cons name v hw)
 refine Sn (wpAny_lookBehind OG (by rw [QP]; exact pastItsLine_dict (SD Pt (by rw [To]; omega))) ?_)
 exact So (h _ ⟨(G9.2 _ (UT I.ne)).trans I.obj, Je, I.ne⟩ G9)
theorem Ae {R : Result -> Shared -> Prop} {vs : List Value} {kw : List (Str × Value)} (X : K.In s.heap) (hm : PySem.W.makesIn K C = true)
  (hi : PySem.W.findIn K (.ref C) "__init__" = some (some (.ref f))) (hf : PySem.W.typeIn K (.ref f) = some (.type "function"))
  (h : codeAny (model prog w) (A.under (.builtin "type.__call__" ⟨.ref C :: vs, kw⟩)) (.call (.ref f) ⟨.ref (s.heap.objs.size + 1) :: vs, kw⟩) (PySem.W.InitBack (s.heap.objs.size + 1) R)
   { s with heap := (s.heap.push PySem.W.emptyDict).push (PySem.W.instObj C s.heap.objs.size) }) :
  codeAny (model prog w) A (.call (.ref C) ⟨vs, kw⟩) R s := by
 obtain ⟨hh, g, d, t, os⟩ := s
 exact PySem.W.make_core (PySem.W.makes_of X hm) (PySem.W.looks_findIn X hi) (fun self => PySem.W.bind_fn X self hf) (.inl rfl) h
end
def de (f : Str) (v : V) : List (Str × V) -> List (Str × V)
 | [] => [(f, v)]
 | (g, x) :: r => if g = f then (g, v) :: r else (g, x) :: de f v r
theorem bi (f g : Str) (v : V) : ∀ fs : List (Str × V), (de f v fs).lookup g = if g = f then some v else fs.lookup g
 | [] => by
  show List.lookup g [(f, v)] = _
  by_cases h : g = f
  ·have hb : (g == f) = true := UC.mpr h
   simp only [List.lookup, hb, if_pos h]
  ·have hb : (g == f) = false := TN.mpr h
   simp only [List.lookup, hb, if_neg h]
 | (k, x) :: r => by
  have ih := bi f g v r
  rw [show de f v ((k, x) :: r) = (if k = f then (k, v) :: r else (k, x) :: de f v r) from rfl]
  by_cases hk : k = f
  ·rw [if_pos hk]
   by_cases h : g = k
   ·have hb : (g == k) = true := UC.mpr h
    simp only [List.lookup, hb, if_pos (h.trans hk)]
   ·have hb : (g == k) = false := TN.mpr h
    simp only [List.lookup, hb, if_neg (fun e : g = f => h (e.trans hk.symm))]
  ·rw [if_neg hk]
   by_cases h : g = k
   ·have hb : (g == k) = true := UC.mpr h
    simp only [List.lookup, hb, if_neg (fun e : g = f => hk (h.symm.trans e))]
   ·have hb : (g == k) = false := TN.mpr h
    simp only [List.lookup, hb]
    exact ih
theorem lW (f : Str) (v : V) : ∀ fs : List (Str × V), f ∈ (de f v fs).map (·.1) /\ ∀ g, g ∈ fs.map (·.1) -> g ∈ (de f v fs).map (·.1)
 | [] => ⟨by simp [de], fun g h => by simp at h⟩
 | (k, x) :: r => by
  obtain ⟨i1, i2⟩ := lW f v r
  rw [show de f v ((k, x) :: r) = (if k = f then (k, v) :: r else (k, x) :: de f v r) from rfl]
  by_cases hk : k = f
  ·rw [if_pos hk]
   subst hk
   exact ⟨by simp, fun g h => by simpa using h⟩
  ·rw [if_neg hk]
   refine ⟨?_, fun g h => ?_⟩
   ·rw [SN]
    exact Su _ i1
   ·rw [SN] at h ⊢
    rcases Sx.mp h with e | e
    ·exact Sx.mpr (.inl e)
    ·exact Su _ (i2 g e)
theorem mr (f : Str) (v : V) : ∀ fs : List (Str × V), (de f v fs).length <= fs.length + 1
 | [] => by simp [de]
 | (k, x) :: r => by
  have ih := mr f v r
  rw [show de f v ((k, x) :: r) = (if k = f then (k, v) :: r else (k, x) :: de f v r) from rfl]
  by_cases hk : k = f
  ·rw [if_pos hk, To, To]; omega
  ·rw [if_neg hk, To, To]; omega
theorem k8.some_of {v : V} {o : Option Value} (r : k8 (some v) o) : ∃ u, o = some u /\ RelV v u := by
 cases o with
 | none => exact (show False from r).elim
 | some u => exact ⟨u, rfl, r⟩
theorem k8.none_of {o : Option Value} (r : k8 none o) : o = none := by
 cases o with
 | none => rfl
 | some u => exact (show False from r).elim
theorem x8 {v : V} {u : Value} (r : RelV v u) : PySem.W.handedIn u = true := by
 cases v with
 | cc => cases (show u = Value.none from r); rfl
 | bl b => cases (show u = Value.bool b from r); rfl
 | int i => obtain ⟨t, e⟩ := (show ∃ t, u = Value.int i t from r); cases e; rfl
 | str x => obtain ⟨t, e⟩ := (show ∃ t, u = Value.str x t from r); cases e; rfl
 | wG b => obtain ⟨t, e⟩ := (show ∃ t, u = Value.bytes b t from r); cases e; rfl
 | Jk b => obtain ⟨t, e⟩ := (show ∃ t, u = Value.float b t from r); cases e; rfl
 | ref a => cases (show u = Value.ref a from r); rfl
 | ty n => cases (show u = Value.type n from r); rfl
section
variable {P : Program} {w : World} {H H' : Hp} {h h' : Heap} {a C dx : Addr} {fs Kg : List (Str × V)}
theorem rB (aP : iA P w H h) (e : H a = some (.ins C dx fs)) : ∃ mA, vv h a dx C mA /\ (∀ f, k8 (fs.lookup f) (mA f)) /\ PySem.Within mA (fs.map (·.1)) /\ fs.length <= 1000 /\ H dx = some (.own a) := by
 obtain ⟨d, z, ne, ob, mA, n, r, q⟩ := (show cp P w H h a (.ins C dx fs) from aP a _ e)
 exact ⟨mA, ⟨ob, n, ne⟩, r, q, z, d⟩
end
structure Aj (K : Vj) (C : Addr) : Prop where
 pg : PySem.W.plainGet K C Str.empty = true
 hd : PySem.W.hasDictIn K C = true
 po : PySem.W.plainOver K C = true
 sa : PySem.W.findIn K (.ref C) "__setattr__" = some (some (.builtin "object.__setattr__"))
theorem Aj.get {K : Vj} {C : Addr} (c : Aj K C) (f : Str) : PySem.W.plainGet K C f = true := c.pg
def fZ (K : Vj) (C : Addr) (f : Str) : Prop := PySem.W.findIn K (.ref C) f = some none
theorem fZ.IN {K : Vj} {C : Addr} {f : Str} (n : fZ K C f) : PySem.W.takerIn K C f = some none := by
 unfold PySem.W.takerIn
 rw [show PySem.W.findIn K (.ref C) f = some none from n]
 rfl
structure Meth (K : Vj) (C : Addr) (m : Str) (f : Addr) : Prop where
 at_ : PySem.W.findIn K (.ref C) m = some (some (.ref f))
 fn : PySem.W.isFn K (.ref f) = true
 kp : PySem.W.keepIn K (.ref f) = true
section
variable {X : Cx} {pins : List (Addr × Obj)} {σ : St} {H : Hp} {s : Shared} {a C dx : Addr} {fs : List (Str × V)} {f : Str} {v : V} {A : Around} {E : Value -> Shared -> Prop}
theorem vU {b : Bool} {Q : Value -> Shared -> Prop} (I : Inv X pins σ H s) (e : H a = some (.ins C dx fs)) (c : Aj X.K C) (n : fZ X.K C f) (l : fs.lookup f = some v)
  (h : ∀ u s', Inv X pins σ H s' -> RelV v u -> Q u s') : wpAny (model X.prog X.w) A (getAttr (.ref a) f b) Q E s := by
 obtain ⟨mA, O, r, _, _, _⟩ := rB I.aP e
 obtain ⟨u, hu, ru⟩ := k8.some_of (v := v) (o := mA f) (by rw [<- l]; exact r f)
 exact get_map I.xc O (c.get f) c.hd n hu (x8 ru) (h u _ (I.tok _) ru)
theorem j5 {m : Str} {g : Addr} {pl : Sem Bool} {Q : Value × List Value -> Shared -> Prop} (I : Inv X pins σ H s) (e : H a = some (.ins C dx fs)) (c : Aj X.K C) (k : Meth X.K C m g) (l : fs.lookup m = none)
  (h : Q (.ref g, [.ref a]) s) : wpAny (model X.prog X.w) A (getMethod (.ref a) m pl) Q E s := by
 obtain ⟨mA, O, r, _, _, _⟩ := rB I.aP e
 have hn : mA m = none := k8.none_of (by rw [<- l]; exact r m)
 exact AU I.xc O (c.get m) k.at_ k.fn hn h
theorem uT {y : V} {u : Value} {Q : Unit -> Shared -> Prop} (I : Inv X pins σ H s) (e : H a = some (.ins C dx fs)) (c : Aj X.K C) (n : fZ X.K C f) (hl : fs.length < 1000) (ry : RelV y u)
  (h : ∀ s', Inv X pins σ (upd H a (.ins C dx (de f y fs))) s' -> Q () s') : wpAny (model X.prog X.w) A (setAttr (.ref a) f u) Q E s := by
 obtain ⟨mA, O, r, wi, _, ho⟩ := rB I.aP e
 have hz : (fs.map (·.1)).length <= sizeLine := by rw [Sr, Uu]; omega
 refine Cg I.xc O c.sa c.po n.IN c.hd wi hz fun h' O' sb => h _ ?_
 have hd : ∃ o, h'.get? dx = some o := let ⟨o, _, _, e', _⟩ := O'.ns; ⟨o, e'⟩
 refine I.write (x := a) (e := dx) (by rw [e]; exact UK) (.inr ho) (fun b q hb z => (sb.2 b hb).trans z) hd ?_
 refine ⟨by rw [ak O.ne]; exact ho, ?_, O.ne, O'.obj, _, O'.ns, fun g => ?_, fun g hg => ?_⟩
 ·have := mr f y fs; omega
 ·show k8 ((de f y fs).lookup g) (if g = f then some u else mA g)
  rw [bi]
  by_cases q : g = f
  ·rw [if_pos q, if_pos q]; exact ry
  ·rw [if_neg q, if_neg q]; exact r g
 ·by_cases q : g = f
  ·rw [q]; exact (lW f y fs).1
  ·refine (lW f y fs).2 g (wi g fun z => hg ?_)
   show (if g = f then some u else mA g) = none
   rw [if_neg q]; exact z
theorem Inv.made (I : Inv X pins σ H s) : Inv X pins σ (upd (upd H s.heap.objs.size (.own (s.heap.objs.size + 1))) (s.heap.objs.size + 1) (.ins C s.heap.objs.size []))
  { s with heap := (s.heap.push PySem.W.emptyDict).push (PySem.W.instObj C s.heap.objs.size) } := by
 have e1 : (s.heap.push PySem.W.emptyDict).get? s.heap.objs.size = some PySem.W.emptyDict := SC s.heap rfl
 have e2 : ((s.heap.push PySem.W.emptyDict).push (PySem.W.instObj C s.heap.objs.size)).get? (s.heap.objs.size + 1) = some (PySem.W.instObj C s.heap.objs.size) := by
  have := SC (s.heap.push PySem.W.emptyDict) (o := PySem.W.instObj C s.heap.objs.size) rfl
  rwa [UG] at this
 have e3 : (s.heap.push PySem.W.emptyDict).Ns s.heap.objs.size (fun _ => none) := ⟨PySem.W.emptyDict, #[], _, e1, rfl, (fun e he => absurd he (by simp)), fun _ => rfl⟩
 have I1 := I.laid (a := s.heap.objs.size) (o := .own (s.heap.objs.size + 1)) (h' := s.heap.push PySem.W.emptyDict) (t' := s.toks) (fun b u q => Sq _ q) (Ss _) ⟨_, e1⟩
 refine I1.laid (a := s.heap.objs.size + 1) (o := .ins C s.heap.objs.size []) (t' := s.toks) (fun b u q => Sq _ q) (Nat.le_of_eq (UG _ _)) ?_
 have ne : s.heap.objs.size ≠ s.heap.objs.size + 1 := S2 (Nat.lt_succ_self _)
 refine ⟨by rw [ak ne, ae], S4 _, ne, e2, fun _ => none, (Heap.Ns1.of_empty e3).at fun o q => Sq _ q, fun _ => UK, fun y hy => absurd rfl hy⟩
theorem CO {prog : Program} {w : World} {env : Env} {e : Expr} {f : Str} {pos : Pos} {s : Shared} {Q : Value -> Shared -> Prop} (hb : attributeBase e f env (eval e env) = eval e env)
  (h : wpAny (model prog w) A (eval e env) (fun o s₁ => wpAny (model prog w) A (getAttr o f true) Q E s₁) E s) : wpAny (model prog w) A (eval (.Attribute e f pos) env) Q E s :=
 Attribute_any_ h (by rw [arm_eval_Attribute, hb])
end
def LI (K : Vj) (ta : TE) (f : Str) : TE := fun σ H Q => ta σ H fun x H1 => ∃ a C dx fs v, x = .ref a /\ H1 a = some (.ins C dx fs) /\ Aj K C /\ fZ K C f /\ fs.lookup f = some v /\ Q v H1
def JZ (K : Vj) (ta tv : TE) (f : Str) : TS := fun D σ H => tv σ H fun y H1 => ta σ H1 fun x H2 => ∃ a C dx fs, x = .ref a /\ H2 a = some (.ins C dx fs) /\ Aj K C /\ fZ K C f /\ fs.length < 1000 /\
 D.nx σ (upd H2 a (.ins C dx (de f y fs)))
section
variable {X : Cx} {o e value : Expr} {f : Str} {pos pos' B9 : Pos} {ta tv : TE}
theorem qZ (he : PE X e ta) (hb : attributeBase e f X.env (eval e X.env) = eval e X.env) : PE X (.Attribute e f pos) (LI X.K ta f) := by
 intro pins s σ H Q I h
 refine CO hb (bO (he pins s σ H _ I h) fun u s1 ⟨x, H1, I1, rx, a, C, dx, fs, v, ex, ea, c, n, l, q⟩ => ?_)
 subst ex
 obtain rfl : u = Value.ref a := rx
 exact vU I1 ea c n l fun u' s2 I2 ru => ⟨v, H1, I2, ru, q⟩
theorem vP (ha : PE X o ta) (hv : PE X value tv) (hs : swapsWith value (some (.Attribute o f pos')) pos.line X.env = pure false) : PS X (.Assign [.Attribute o f pos'] value pos) (JZ X.K ta tv f) := by
 intro pins s σ H D I h
 refine plainObj_wpAny_Assign_Attribute (bO (hv pins s σ H _ I h) fun u s1 ⟨y, H1, I1, ry, q⟩ => bO (ha pins s1 σ H1 _ I1 q) fun ov s2 ⟨x, H2, I2, rx, a, C, dx, fs, ex, ea, c, n, l, q2⟩ => ?_) hs
 subst ex
 obtain rfl : ov = Value.ref a := rx
 exact uT I2 ea c n l ry fun s3 I3 => ⟨σ, _, I3, q2⟩
theorem Ed {pl : Sem Bool} {m : Str} {apos : Pos} {args : List Expr} {pins : List (Addr × Obj)} {s : Shared} {σ : St} {H : Hp} {Q : Value -> Shared -> Prop} {te : TE} (he : PE X e te) (I : Inv X pins σ H s)
  (h : te σ H fun x H1 => ∃ a C dx fs g, x = .ref a /\ H1 a = some (.ins C dx fs) /\ Aj X.K C /\ Meth X.K C m g /\ fs.lookup m = none /\
   ∀ s1, Inv X pins σ H1 s1 -> wpAny (model X.prog X.w) X.A (callWith pos (.ref g) [.ref a] (backTo pos (starEach args X.env)) (backToKw pos (keywordEach [] X.env))) Q X.xe s1)
  (ht : eval (.Call (.Attribute e m apos) args [] pos) X.env = (do
   let ov <- eval e X.env
   standAt apos.atName
   let (f, first) <- holding [ov] (getMethod ov m pl)
   callWith pos f first (backTo pos (starEach args X.env)) (backToKw pos (keywordEach [] X.env)))) :
  wpAny (model X.prog X.w) X.A (eval (.Call (.Attribute e m apos) args [] pos) X.env) Q X.xe s := by
 refine PySem.W.methodCall_KW (pl := pl) (bO (he pins s σ H _ I h) fun u s1 ⟨x, H1, I1, rx, a, C, dx, fs, g, ex, ea, c, k, l, q⟩ => ?_) ht
 subst ex
 obtain rfl : u = Value.ref a := rx
 exact j5 I1 ea c k l (q s1 I1)
end
structure dj (k : Nat) (A : Around) : Prop where
 hd : A.handled = none
 dp : A.depth + 3 * k + 5 < recursionLimit
 un : A.units + 16 * k + 200 < cLine
theorem dj.mono {j k : Nat} {A : Around} (r : dj k A) (h : j <= k) : dj j A := ⟨r.hd, by have := r.dp; omega, by have := r.un; omega⟩
theorem dj.deeper {k : Nat} {A : Around} (r : dj (k + 1) A) (env : Env) : dj k (A.deeper env) :=
 ⟨r.hd, by have := r.dp; show A.depth + 1 + 3 * k + 5 < _; omega, by have := r.un; show A.units + 3 + 16 * k + 200 < _; omega⟩
theorem dj.in1 {k : Nat} {A : Around} (r : dj (k + 1) A) : dj k A.in1 :=
 ⟨r.hd, by have := r.dp; show A.depth + 3 * k + 5 < _; omega, by have := r.un; show A.units + 1 + 16 * k + 200 < _; omega⟩
theorem vE {A : Around} {C : Addr} {us : List Value} {kw : List (Str × Value)} : (A.under (.builtin "type.__call__" ⟨.ref C :: us, kw⟩)).depth = A.depth + 1 := by
 first | rfl | simp [Around.under, Code.weight, Code.isCreation, Code.isGuard, Code.isCaller, Code.frames, Code.isFrame, guardIds]
theorem vy {A : Around} {C : Addr} {us : List Value} {kw : List (Str × Value)} : (A.under (.builtin "type.__call__" ⟨.ref C :: us, kw⟩)).units = A.units + 1 := by
 first | rfl | simp [Around.under, Code.cUnits, Code.frames, Code.isFrame]
theorem dj.make {k : Nat} {A : Around} (r : dj (k + 1) A) (C : Addr) (us : List Value) (kw : List (Str × Value)) : dj k (A.under (.builtin "type.__call__" ⟨.ref C :: us, kw⟩)) :=
 ⟨r.hd, by have := r.dp; rw [vE]; omega, by have := r.un; rw [vy]; omega⟩
theorem dj.depth {k : Nat} {A : Around} (r : dj k A) : A.depth < recursionLimit := by have := r.dp; omega
theorem dj.units {k : Nat} {A : Around} (r : dj k A) : A.units + 64 < cLine := by have := r.un; omega
def Hz : TA := fun _ H Q => Q [] H
def HA (ta : TE) (tr : TA) : TA := fun σ H Q => ta σ H fun x H1 => tr σ H1 fun xs H2 => Q (x :: xs) H2
section
variable {X : Cx} {e : Expr} {es : List Expr} {te : TE} {t : TA} {pos : Pos}
theorem af : PA X [] Hz := fun _ _ _ _ H Q I h => Calls.spliced_nil ⟨[], H, I, .nil, h⟩
theorem aa (ha : PE X e te) (hr : PA X es t) (hs : starEach (e :: es) X.env = (false, eval e X.env) :: starEach es X.env := by rfl) : PA X (e :: es) (HA te t) := by
 intro pos pins s σ H Q I h
 rw [hs]
 show wpAny _ _ (spliced ((false, eval e X.env) :: backTo pos (starEach es X.env))) _ _ s
 refine Calls.spliced_cons (bO (ha pins s σ H _ I h) fun u s1 ⟨x, H1, I1, r1, q1⟩ => ?_)
 exact bO (hr pos pins s1 σ H1 _ I1 q1) fun us s2 ⟨xs, H2, I2, r2, q2⟩ => ⟨x :: xs, H2, I2, .cons r1 r2, q2⟩
def JY (t : TA) : TE := fun σ H Q => t σ H fun xs H1 => xs.length <= sizeLine /\ ∀ p, H1 p = none -> Q (.ref p) (upd H1 p (.tup xs))
def J7 (t : TA) : TE := fun σ H Q => t σ H fun xs H1 => xs.length <= sizeLine /\ ∀ p, H1 p = none -> Q (.ref p) (upd H1 p (.lst xs))
theorem cD {x1} (h : PA X es t) : PE X (.Tuple es x1 pos) (JY t) := by
 intro pins s σ H Q I hq
 refine wpAny_Tuple_spliced (bO (h pos pins s σ H _ I hq) fun us s1 ⟨xs, H1, I1, r, z, q⟩ => ⟨by rw [<- r.length]; exact z, ?_⟩)
 have hf : H1 s1.heap.objs.size = none := I1.aP.fresh (Ss _)
 refine ⟨.ref s1.heap.objs.size, upd H1 s1.heap.objs.size (.tup xs), I1.laid (t' := s1.toks) (fun b u e => Sq _ e) (Ss _) ?_, rfl, q _ hf⟩
 exact ⟨z, us, r, ⟨_, SC _ rfl, rfl, _, rfl⟩⟩
theorem iH (h : PA X es t) : PE X (.List es pos) (J7 t) := by
 intro pins s σ H Q I hq
 refine wpAny_List_spliced (bO (h pos pins s σ H _ I hq) fun us s1 ⟨xs, H1, I1, r, z, q⟩ => ⟨by rw [<- r.length]; exact z, ?_⟩)
 have hf : H1 s1.heap.objs.size = none := I1.aP.fresh (Ss _)
 refine ⟨.ref s1.heap.objs.size, upd H1 s1.heap.objs.size (.lst xs), I1.laid (t' := s1.toks) (fun b u e => Sq _ e) (Ss _) ?_, rfl, q _ hf⟩
 exact ⟨z, us, 0, r, SC _ rfl⟩
end
abbrev Sp := List V -> Hp -> VK -> XK -> Prop
abbrev uN := List Env -> Hp -> Shared -> XK -> Value -> Shared -> Prop
structure oh (P : Program) (w : World) (K : Vj) (mg : Str -> Option Value) (base : Heap) (A : Around) (outer : List Env) (s : Shared) (H : Hp) : Prop where
 frames : A.frames = some outer
 mod : Mod K mg base
 bs : ∀ b o, base.get? b = some o -> s.heap.get? b = some o /\ H b = none
 yO : base.objs.size <= s.heap.objs.size
 ke : s.heap.FunFrames base outer
 Db : ∀ b ∈ jL outer, H b = none
 aP : iA P w H s.heap
 bare : AllBare s.gens
def CE (outer : List Env) (P : Program) (w : World) (H : Hp) (s : Shared) (Q : VK) (u : Value) (s' : Shared) : Prop :=
 ∃ v H', s'.os = s.os /\ AllBare s'.gens /\ Un (jL outer) [] H H' s.heap s'.heap /\ iA P w H' s'.heap /\ RelV v u /\ Q v H'
def CR (CX : uN) (outer : List Env) (P : Program) (w : World) (H : Hp) (s : Shared) (Q : VK) (E : XK) (r : Result) (s' : Shared) : Prop :=
 match r with
 | .ok (.ret u) => CE outer P w H s Q u s'
 | .ok _ => False
 | .error e => CX outer H s E e s'
structure aq (P : Program) (w : World) (K : Vj) (mg : Str -> Option Value) (base : Heap) (CX : uN) (k : Nat) (f : Addr) (fd : FuncData) (ps : List Str) (sp : Sp) : Prop where
 len : ∀ vs H Q E, sp vs H Q E -> vs.length = ps.length
 run : ∀ (A : Around) (outer : List Env) (s : Shared) (H : Hp) (args : Args) (us : List Value) (vs : List V) (Q : VK) (E : XK), dj k A -> oh P w K mg base A outer s H -> BindsTo s fd args (ps.zip us) -> Vals vs us -> sp vs H Q E ->
  codeAny (model P w) A (.call (.ref f) args) (CR CX outer P w H s Q E) s
theorem aq.mono {P : Program} {w : World} {K : Vj} {mg : Str -> Option Value} {base : Heap} {CX : uN} {j k : Nat} {f : Addr} {fd : FuncData} {ps : List Str} {sp : Sp} (F : aq P w K mg base CX j f fd ps sp) (h : j <= k) :
  aq P w K mg base CX k f fd ps sp := ⟨F.len, fun A outer s H args us vs Q E hr => F.run A outer s H args us vs Q E (hr.mono h)⟩
theorem aq.imp {P : Program} {w : World} {K : Vj} {mg : Str -> Option Value} {base : Heap} {CX : uN} {k : Nat} {f : Addr} {fd : FuncData} {ps : List Str} {sp Mb : Sp} (F : aq P w K mg base CX k f fd ps sp)
  (h : ∀ vs H Q E, Mb vs H Q E -> sp vs H Q E) : aq P w K mg base CX k f fd ps Mb :=
 ⟨fun vs H Q E q => F.len vs H Q E (h _ _ _ _ q), fun A outer s H args us vs Q E hr he hb hv hs => F.run A outer s H args us vs Q E hr he hb hv (h _ _ _ _ hs)⟩
theorem oh.make {P : Program} {w : World} {K : Vj} {mg : Str -> Option Value} {base : Heap} {A : Around} {outer : List Env} {s : Shared} {H : Hp} (e : oh P w K mg base A outer s H) (C : Addr) (us : List Value) (kw : List (Str × Value)) :
  oh P w K mg base (A.under (.builtin "type.__call__" ⟨.ref C :: us, kw⟩)) outer s H := ⟨by first | exact e.frames | (simpa [Around.under, Code.envs, Code.isFrame, pushEnvs] using e.frames), e.mod, e.bs, e.yO, e.ke, e.Db, e.aP, e.bare⟩
theorem oh.in1 {P : Program} {w : World} {K : Vj} {mg : Str -> Option Value} {base : Heap} {A : Around} {outer : List Env} {s : Shared} {H : Hp} (e : oh P w K mg base A outer s H) :
  oh P w K mg base A.in1 outer s H := ⟨e.frames, e.mod, e.bs, e.yO, e.ke, e.Db, e.aP, e.bare⟩
section
variable {X : Cx} {pins : List (Addr × Obj)} {σ : St} {H : Hp} {s s' : Shared}
theorem Inv.EJ (I : Inv X pins σ H s) : oh X.prog X.w X.K X.mg X.base X.A X.stack s H :=
 ⟨I.ok.frames, I.ok.mod, I.bs, SD I.ok.yO I.sz, I.stack, I.nr, I.aP, I.bare⟩
theorem Inv.after {Q : VK} {u : Value} (I : Inv X pins σ H s) (h : CE X.stack X.prog X.w H s Q u s') : EP X pins σ Q u s' := by
 obtain ⟨v, H', os, bare, un, aP, r, q⟩ := h
 obtain ⟨hh, g, d, t, L7⟩ := s'
 obtain rfl : L7 = s.os := os
 exact ⟨v, H', I.call (h' := hh) (g' := g) (d' := d) (t' := t) (ch := []) un aP bare (fun b z => absurd z (by simp)), r, q⟩
end
def DM (sp : Sp) (js : List V) (E : XK) (t : TA) : TE := fun σ H Q => t σ H fun vs H1 => sp (vs ++ js) H1 Q E
def DR (C : Addr) (m : Str) (sp : Sp) (js : List V) (E : XK) (ta : TE) (t : TA) : TE := fun σ H Q => ta σ H fun x H1 => ∃ a dx fs, x = .ref a /\ H1 a = some (.ins C dx fs) /\ fs.lookup m = none /\
 t σ H1 fun vs H2 => sp (x :: (vs ++ js)) H2 Q E
def HJ (C : Addr) (sp : Sp) (js : List V) (E : XK) (t : TA) : TE := fun σ H Q => t σ H fun vs H1 => ∀ x dx, H1 x = none -> H1 dx = none -> dx ≠ x ->
 sp (.ref x :: (vs ++ js)) (upd (upd H1 dx (.own x)) x (.ins C dx [])) (fun v H2 => v = .cc /\ Q (.ref x) H2) E
def Binds (K : Vj) (fd : FuncData) (ps : List Str) (ds : List Value) : Prop :=
 ∀ (s : Shared) (us : List Value), K.In s.heap -> (us ++ ds).length = ps.length -> BindsTo s fd ⟨us, []⟩ (ps.zip (us ++ ds))
theorem Binds.all {K : Vj} {fd : FuncData} {ps : List Str} (h : ∀ us : List Value, us.length = ps.length -> bindArgs fd ⟨us, []⟩ = pure (ps.zip us)) : Binds K fd ps [] := fun s us _ hl => by
 rw [Vd] at hl ⊢
 exact .of_eq (h us hl)
def Passes (CX : uN) (X : Cx) (E : XK) : Prop := ∀ (pins : List (Addr × Obj)) (σ : St) (H : Hp) (s : Shared) (e : Value) (s' : Shared), Inv X pins σ H s -> CX X.stack H s E e s' -> X.xe e s'
section
variable {X : Cx} {CX : uN} {k : Nat} {f C : Addr} {fd : FuncData} {ps : List Str} {sp : Sp} {js : List V} {ds : List Value} {E : XK} {x m : Str} {p pos apos : Pos} {e o : Expr} {es : List Expr} {ta : TE} {t : TA}
theorem vX {pins : List (Addr × Obj)} {σ : St} {H : Hp} {s : Shared} {Q : VK} {us : List Value} {vs : List V} (F : aq X.prog X.w X.K X.mg X.base CX k f fd ps sp) (hr : dj k X.A) (hb : Binds X.K fd ps ds) (hd : Vals js ds) (hx : Passes CX X E)
  (I : Inv X pins σ H s) (r : Vals vs us) (h : sp (vs ++ js) H Q E) : wpAny (model X.prog X.w) X.A (call (.ref f) us) (EP X pins σ Q) X.xe s := by
 have r2 : Vals (vs ++ js) (us ++ ds) := r.append hd
 have hl : (us ++ ds).length = ps.length := by rw [<- r2.length]; exact F.len _ _ _ _ h
 refine wpAny_call (codeAny_mono (F.run X.A X.stack s H ⟨us, []⟩ (us ++ ds) (vs ++ js) Q E hr I.EJ (hb s us I.xc hl) r2 h) fun r s' hq => ?_)
 cases r with
 | error e => exact hx pins σ H s e s' I hq
 | ok fl =>
  cases fl with
  | ret u => exact I.after hq
  | next => exact False.elim hq
  | brk => exact False.elim hq
  | cont => exact False.elim hq
theorem B1 (F : aq X.prog X.w X.K X.mg X.base CX k f fd ps sp) (hr : dj k X.A) (hg : Gl X x) (hm : X.mg x = some (.ref f)) (hk : PySem.W.keepIn X.K (.ref f) = true) (hb : Binds X.K fd ps ds) (hd : Vals js ds) (hx : Passes CX X E)
  (ha : PA X (e :: es) t) (nY : (x == ("__debug__" : Str)) = false := by decide) (he : starEach (e :: es) X.env = (false, eval e X.env) :: starEach es X.env := by rfl) (yM : (backTo pos (starEach es X.env)).any (·.1) = false := by rfl) :
  PE X (.Call (.Name x p) (e :: es) [] pos) (DM sp js E t) := by
 intro pins s σ H Q I h
 refine Vg (kH I hg hm ?_ nY)
 refine PySem.W.callWith_K (h₀ := X.base) I.ok.mod.wT hk (bO (ha pos pins s σ H _ I h) fun us s1 ⟨vs, H1, I1, r, q⟩ => ⟨I1.xc, ?_⟩) he yM
 exact vX F hr hb hd hx I1 r q
theorem we {pl : Sem Bool} (he : PE X o ta) (c : Aj X.K C) (hm : Meth X.K C m f) (F : aq X.prog X.w X.K X.mg X.base CX k f fd ps sp) (hr : dj k X.A) (hb : Binds X.K fd ps ds) (hd : Vals js ds) (hx : Passes CX X E) (ha : PA X (e :: es) t)
  (io : starEach (e :: es) X.env = (false, eval e X.env) :: starEach es X.env := by rfl) (yM : (backTo pos (starEach es X.env)).any (·.1) = false := by rfl)
  (ht : eval (.Call (.Attribute o m apos) (e :: es) [] pos) X.env = (do
   let ov <- eval o X.env
   standAt apos.atName
   let (f, first) <- holding [ov] (getMethod ov m pl)
   callWith pos f first (backTo pos (starEach (e :: es) X.env)) (backToKw pos (keywordEach [] X.env))) := by rfl) :
  PE X (.Call (.Attribute o m apos) (e :: es) [] pos) (DR C m sp js E ta t) := by
 intro pins s σ H Q I h
 refine PySem.W.methodCall_KW (pl := pl) (bO (he pins s σ H _ I h) fun u s1 ⟨x, H1, I1, rx, a, dx, fs, ex, ea, l, q⟩ => ?_) ht
 subst ex
 obtain rfl : u = Value.ref a := rx
 refine j5 I1 ea c hm l ?_
 refine PySem.W.callWith_K (first := [.ref a]) (h₀ := X.base) I.ok.mod.wT hm.kp (bO (ha pos pins s1 σ H1 _ I1 q) fun us s2 ⟨vs, H2, I2, r, q2⟩ => ⟨I2.xc, ?_⟩) io yM
 exact vX (us := .ref a :: us) (vs := .ref a :: vs) F hr hb hd hx I2 (.cons rfl r) q2
theorem cn {pl : Sem Bool} (he : PE X o ta) (c : Aj X.K C) (hm : Meth X.K C m f) (F : aq X.prog X.w X.K X.mg X.base CX k f fd ps sp) (hr : dj k X.A) (hb : Binds X.K fd ps ds) (hd : Vals js ds) (hx : Passes CX X E)
  (ht : eval (.Call (.Attribute o m apos) [] [] pos) X.env = (do
   let ov <- eval o X.env
   standAt apos.atName
   let (f, first) <- holding [ov] (getMethod ov m pl)
   callWith pos f first (backTo pos (starEach [] X.env)) (backToKw pos (keywordEach [] X.env))) := by rfl) :
  PE X (.Call (.Attribute o m apos) [] [] pos) (DR C m sp js E ta Hz) := by
 intro pins s σ H Q I h
 refine PySem.W.methodCall_KW (pl := pl) (bO (he pins s σ H _ I h) fun u s1 ⟨x, H1, I1, rx, a, dx, fs, ex, ea, l, q⟩ => ?_) ht
 subst ex
 obtain rfl : u = Value.ref a := rx
 refine j5 I1 ea c hm l ?_
 exact PySem.W.callWith_K0 (first := [.ref a]) I1.xc hm.kp (vX (us := [.ref a]) (vs := [.ref a]) F hr hb hd hx I1 (.cons rfl .nil) q)
structure Mk (K : Vj) (C f : Addr) : Prop where
 makes : PySem.W.makesIn K C = true
 init : PySem.W.findIn K (.ref C) "__init__" = some (some (.ref f))
 fn : PySem.W.isFn K (.ref f) = true
 kp : PySem.W.keepIn K (.ref C) = true
theorem Bf {pins : List (Addr × Obj)} {σ : St} {H : Hp} {s : Shared} {Q : VK} {us : List Value} {vs : List V} (M : Mk X.K C f) (F : aq X.prog X.w X.K X.mg X.base CX k f fd ps sp) (hr : dj (k + 1) X.A) (hb : Binds X.K fd ps ds) (hd : Vals js ds)
  (hx : Passes CX X E) (I : Inv X pins σ H s) (r : Vals vs us)
  (h : ∀ x dx, H x = none -> H dx = none -> dx ≠ x -> sp (.ref x :: (vs ++ js)) (upd (upd H dx (.own x)) x (.ins C dx [])) (fun v H2 => v = .cc /\ Q (.ref x) H2) E) :
  wpAny (model X.prog X.w) X.A (call (.ref C) us) (EP X pins σ Q) X.xe s := by
 have hq := h (s.heap.objs.size + 1) s.heap.objs.size (I.aP.fresh (Uy _)) (I.aP.fresh (Ss _)) (S2 (Nat.lt_succ_self _))
 have I2 := Inv.made (C := C) I
 have r2 : Vals (V.ref (s.heap.objs.size + 1) :: (vs ++ js)) (Value.ref (s.heap.objs.size + 1) :: (us ++ ds)) := .cons rfl (r.append hd)
 have hl : (Value.ref (s.heap.objs.size + 1) :: us ++ ds).length = ps.length := by
  have e := r2.length
  rw [F.len _ _ _ _ hq] at e
  exact e.symm
 refine wpAny_call (Ae (f := f) I.xc M.makes M.init (UC.mp M.fn) (codeAny_mono (F.run _ X.stack _ _ ⟨Value.ref (s.heap.objs.size + 1) :: us, []⟩ (Value.ref (s.heap.objs.size + 1) :: (us ++ ds)) _ _ E (hr.make C us [])
  (I2.EJ.make C us []) (hb _ (Value.ref (s.heap.objs.size + 1) :: us) I2.xc hl) r2 hq) fun r s' uG => ?_))
 cases r with
 | error e => exact hx pins σ _ _ e s' I2 uG
 | ok fl =>
  cases fl with
  | ret u =>
   obtain ⟨v, H', I3, rv, ev, q3⟩ := I2.after uG
   subst ev
   exact ⟨rv, ⟨V.ref (s.heap.objs.size + 1), H', I3, rfl, q3⟩⟩
  | next => exact False.elim uG
  | brk => exact False.elim uG
  | cont => exact False.elim uG
theorem BP (M : Mk X.K C f) (F : aq X.prog X.w X.K X.mg X.base CX k f fd ps sp) (hr : dj (k + 1) X.A) (hg : Gl X x) (hm : X.mg x = some (.ref C)) (hb : Binds X.K fd ps ds) (hd : Vals js ds) (hx : Passes CX X E)
  (ha : PA X (e :: es) t) (nY : (x == ("__debug__" : Str)) = false := by decide) (he : starEach (e :: es) X.env = (false, eval e X.env) :: starEach es X.env := by rfl) (yM : (backTo pos (starEach es X.env)).any (·.1) = false := by rfl) :
  PE X (.Call (.Name x p) (e :: es) [] pos) (HJ C sp js E t) := by
 intro pins s σ H Q I h
 refine Vg (kH I hg hm ?_ nY)
 refine PySem.W.callWith_K (h₀ := X.base) I.ok.mod.wT M.kp (bO (ha pos pins s σ H _ I h) fun us s1 ⟨vs, H1, I1, r, q⟩ => ⟨I1.xc, ?_⟩) he yM
 exact Bf M F hr hb hd hx I1 r q
end
structure av (N P : List Str) (sc : Scope) : Prop where
 kind : sc.kind = .function
 co : sc.isCoroutine = false
 gen : sc.isGenerator = false
 nd : N.Nodup
 pre : N.take P.length = P
 par : ∀ x ∈ P, sc.names.lookup x = some .local \/ sc.names.lookup x = some .cell
 EQ : ∀ y ∈ sc.names, y.2 ≠ .free
theorem pQ {kindOf : Str -> Option NameKind} {x : Str} : ∀ {binds : List (Str × Value)} {m : Str -> Option Value}, (∀ v, (x, v) ∉ binds) -> bindL kindOf binds m x = m x
 | [], _, _ => rfl
 | (n, v) :: r, m, h => by
  unfold bindL
  rw [pQ fun w hw => h w (Su _ hw)]
  split
  ·have : x ≠ n := by rintro rfl; exact h v Sv
   simp [this]
  ·rfl
theorem qA {kindOf : Str -> Option NameKind} {x : Str} : ∀ {binds : List (Str × Value)} {m : Str -> Option Value}, (∀ v, (x, v) ∉ binds) -> bindC kindOf binds m x = m x
 | [], _, _ => rfl
 | (n, v) :: r, m, h => by
  unfold bindC
  rw [qA fun w hw => h w (Su _ hw)]
  split
  ·rfl
  ·have : x ≠ n := by rintro rfl; exact h v Sv
   simp [this]
theorem p7 {kindOf : Str -> Option NameKind} {x : Str} {v : Value} : ∀ {P : List Str} {vs : List Value} {i : Nat} {m : Str -> Option Value}, P.Nodup -> P[i]? = some x -> vs[i]? = some v -> kindOf x = some .local ->
  bindL kindOf (P.zip vs) m x = some v
 | [], _, _, _, _, h, _, _ => by simp at h
 | _ :: _, [], _, _, _, _, h, _ => by simp at h
 | p :: P, w :: vs, 0, m, nd, h1, h2, hk => by
  simp at h1 h2; subst h1; subst h2
  show bindL kindOf ((p, w) :: P.zip vs) m p = _
  unfold bindL
  rw [pQ fun v hv => (TL.mp nd).1 (List.of_mem_zip hv).1, if_pos hk]
  simp
 | p :: P, w :: vs, i + 1, m, nd, h1, h2, hk => by
  show bindL kindOf ((p, w) :: P.zip vs) m x = _
  unfold bindL
  exact p7 (i := i) (TL.mp nd).2 (by simpa using h1) (by simpa using h2) hk
theorem p9 {kindOf : Str -> Option NameKind} {x : Str} {v : Value} : ∀ {P : List Str} {vs : List Value} {i : Nat} {m : Str -> Option Value}, P.Nodup -> P[i]? = some x -> vs[i]? = some v -> kindOf x ≠ some .local ->
  bindC kindOf (P.zip vs) m x = some v
 | [], _, _, _, _, h, _, _ => by simp at h
 | _ :: _, [], _, _, _, _, h, _ => by simp at h
 | p :: P, w :: vs, 0, m, nd, h1, h2, hk => by
  simp at h1 h2; subst h1; subst h2
  show bindC kindOf ((p, w) :: P.zip vs) m p = _
  unfold bindC
  rw [qA fun v hv => (TL.mp nd).1 (List.of_mem_zip hv).1, if_neg hk]
  simp
 | p :: P, w :: vs, i + 1, m, nd, h1, h2, hk => by
  show bindC kindOf ((p, w) :: P.zip vs) m x = _
  unfold bindC
  exact p9 (i := i) (TL.mp nd).2 (by simpa using h1) (by simpa using h2) hk
def start (N : List Str) (vs : List V) : St := vs.map some ++ List.replicate (N.length - vs.length) none
def si (CX : uN) (P : Program) (w : World) (K : Vj) (mg : Str -> Option Value) (base : Heap) (N : List Str) (qual : Str) (scope : Scope) (f : Addr) (cd : Value) (A : Around) (outer : List Env) (s : Shared) (H : Hp) (E : XK) : Cx where
 prog := P
 w := w
 K := K
 mg := mg
 base := base
 A := A.deeper (envOfC qual scope s.heap.objs.size f cd)
 N := N
 s₀ := s
 H₀ := H
 env := envOfC qual scope s.heap.objs.size f cd
 outer := outer
 stack := envOfC qual scope s.heap.objs.size f cd :: outer
 ex := []
 calm := true
 fn := fun _ => true
 pn := []
 xe := fun e s' => wpAny (model P w) (A.deeper (envOfC qual scope s.heap.objs.size f cd)) (leaving (envOfC qual scope s.heap.objs.size f cd) e) (fun _ rW => CX outer H s E e rW) (fun e' rW => CX outer H s E e' rW) s'
theorem uh {sc : Scope} {n : Nat} {x : Str} (h : sc.names.lookup x = some .cell) : ∃ c, (cellsFrom n sc.names []).lookup x = some c := by
 have q := PySem.W.cellsFrom_some sc.names n [] (.inl h)
 exact Uj.mp q
theorem yl {CX : uN} {P : Program} {w : World} {K : Vj} {mg : Str -> Option Value} {base : Heap} {N ps : List Str} {qual : Str} {scope : Scope} {f : Addr} {cd : Value} {A : Around} {outer : List Env} {s s1 : Shared} {H : Hp} {E : XK} {us : List Value} {vs : List V}
  (S : av N ps scope) (hd : A.handled = none) (e0 : oh P w K mg base A outer s H) (hl : vs.length = ps.length) (r : Vals vs us)
  (x : InCallC s s.heap.objs.size (bindL (envOfC qual scope s.heap.objs.size f cd).kindOf (ps.zip us) fun _ => none) (cellsFrom (s.heap.objs.size + 1) scope.names []) (bindC (envOfC qual scope s.heap.objs.size f cd).kindOf (ps.zip us) fun _ => none) s1) :
  Inv (si CX P w K mg base N qual scope f cd A outer s H E) [] (start N vs) H s1 := by
 have yM : ps.length <= N.length := by have := TR List.length S.pre; rw [SS] at this; omega
 obtain ⟨h1, tk, rfl, hk⟩ := x.done
 have IG : ∀ b : Addr, b ∉ (si CX P w K mg base N qual scope f cd A outer s H E).ex := fun b z => absurd (show b ∈ ([] : List Addr) from z) (by simp)
 refine ⟨⟨e0.mod, S.kind, rfl, rfl, Ss _, fun y z c h1 h2 => ?_, fun y hy => ?_, fun y c _ h => ?_, fun _ => hd, Around.frames_deeper e0.frames, .inr ⟨rfl, rfl⟩, fun b z => absurd z (IG b), e0.bs, e0.yO, fun b _ _ => IG b, fun b z => absurd z (IG b), e0.ke, e0.Db⟩,
  rfl, e0.bare, Un.kept hk, ⟨_, x.toInCall.ns, fun i y v h1 h2 h3 => ?_⟩, fun y c h => ⟨_, x.cell y c h⟩, e0.aP.fresh (Ss _), fun y c h => ?_, fun p hp => absurd (show p ∈ ([] : List (Addr × Obj)) from hp) (by simp), e0.aP.kept hk, ?_⟩
 ·exact name_of_addr x.apart (Uf h1) (Uf h2)
 ·have hy : scope.names.lookup y = some .cell \/ scope.names.lookup y = some .free := hy
  rcases hy with hy | hy
  ·exact uh hy
  ·exact absurd rfl (S.EQ _ (Uf hy))
 ·exact U0 (x.above y c (Uf h))
 ·have hi : i < vs.length := by
   unfold start at h2
   by_cases hi : i < vs.length
   ·exact hi
   ·rw [Tn (by simpa using hi)] at h2
    rw [List.getElem?_replicate] at h2
    split at h2 <;> cases h2
  have ha : vs[i]? = some v := by
   unfold start at h2
   rw [TY (by simpa using hi), SH] at h2
   cases e : vs[i]? with
   | none => rw [e] at h2; cases h2
   | some a => rw [e] at h2; cases h2; rfl
  obtain ⟨u, hu, rv⟩ := r.get ha
  have hp : ps[i]? = some y := by
   rw [<- S.pre, List.getElem?_take_of_lt (by omega)]; exact h1
  have MP : ps.Nodup := by rw [<- S.pre]; exact S.nd.sublist (Ud _ _)
  refine ⟨u, rv, ?_⟩
  rcases S.par y (S5 hp) with k | k
  ·exact .inl ⟨k, p7 MP hp hu k⟩
  ·obtain ⟨c, e⟩ := uh (n := s.heap.objs.size + 1) k
   refine .inr ⟨.inl k, c, e, ?_⟩
   have q := x.cell y c e
   rw [p9 MP hp hu (by show scope.names.lookup y ≠ _; rw [k]; decide)] at q
   exact q
 ·exact e0.aP.fresh (U0 (x.above y c (Uf h)))
 ·unfold start
  show _ = N.length
  rw [SX, Sr, List.length_replicate]
  omega
theorem DE {CX : uN} {P : Program} {w : World} {K : Vj} {mg : Str -> Option Value} {base : Heap} {k : Nat} {f : Addr} {name qual : Str} {params : Arguments} {body : List Stmt} {scope : Scope} {dV kV doc pm cm ct oc : Value} {an od : Option Addr}
  {BL : Array (Option Value)} {N ps : List Str} {sp : Sp} (lk : K.lookup f = some ⟨oc, od, .func (PySem.W.fnOf name qual params body scope dV kV doc pm an cm ct), BL⟩) (ve : PySem.W.codeIn K cm qual = true) (S : av N ps scope)
  (len : ∀ vs H Q E, sp vs H Q E -> vs.length = ps.length)
  (sR : ∀ (A : Around) (outer : List Env) (s : Shared) (H : Hp) (vs : List V) (Q : VK) (E : XK), dj k (A.deeper (envOfC qual scope s.heap.objs.size f cm)) -> sp vs H Q E ->
   ∃ t, uv (si CX P w K mg base N qual scope f cm A outer s H E) body t /\ t { nx := fun _ H' => Q .cc H', rt := Q } (start N vs) H) :
  aq P w K mg base CX (k + 1) f (PySem.W.fnOf name qual params body scope dV kV doc pm an cm ct) ps sp := by
 refine ⟨len, fun A outer s H args us vs Q E hr e0 hb r yL => ?_⟩
 have hl := len _ _ _ _ yL
 have KX : K.In s.heap := e0.mod.wT.keeps fun b o e => (e0.bs b o e).1
 have lim : s.heap.NoLimit := e0.mod.nolimit.keeps fun b o e => (e0.bs b o e).1
 have ID : ∀ y ∈ ps.zip us, scope.names.lookup y.1 = some .local \/ (scope.names.lookup y.1 = some .cell /\ ((cellsFrom (s.heap.objs.size + 1) scope.names []).lookup y.1).isSome = true) := fun ⟨n, v⟩ hy => by
  rcases S.par n (List.of_mem_zip hy).1 with q | q
  ·exact .inl q
  ·exact .inr ⟨q, PySem.W.cellsFrom_some _ _ _ (.inl q)⟩
 refine codeAny_call_function hr.depth (KX _ _ lk) rfl S.co S.gen rfl (PySem.W.codeRec_of KX ve) (hb _ _ _ _ ?_)
 refine wpAny_newFunctionEnv_cells S.kind ID fun env he s1 x => ?_
 subst he
 refine ⟨lim.keeps x.toInCall.keep, codeAny_func ?_⟩
 obtain ⟨t, ht, hq⟩ := sR A outer s H vs Q E (hr.deeper _) yL
 have I : Inv (si CX P w K mg base N qual scope f cm A outer s H E) [] (start N vs) H s1 := yl S hr.hd e0 hl r x
 refine TZ (ht [] s1 (start N vs) H _ I hq) (fun fl s' hs => ?_) fun e s' hs => hs
 have fin : ∀ {σ' : St} {H' : Hp} {v : V} {u : Value}, Inv (si CX P w K mg base N qual scope f cm A outer s H E) [] σ' H' s' -> RelV v u -> Q v H' -> CE outer P w H s Q u s' :=
  fun {σ' H' v u} J rv q => ⟨v, H', J.os, J.bare, J.base, J.aP, rv, q⟩
 cases fl with
 | ret u =>
  obtain ⟨v, σ', H', J, rv, q⟩ := hs
  exact fin J rv q
 | next =>
  obtain ⟨σ', H', J, q⟩ := hs
  exact fin (v := V.cc) (u := Value.none) J rfl q
 | brk =>
  obtain ⟨_, _, _, q⟩ := hs
  exact False.elim q
 | cont =>
  obtain ⟨_, _, _, q⟩ := hs
  exact False.elim q
section
variable {X : Cx} {x : Str} {p pos : Pos} {e : Expr} {es : List Expr} {t : TA} {id T : String} {r : List V -> Hp -> VK -> Prop}
def Lm (r : List V -> Hp -> VK -> Prop) (t : TA) : TE := fun σ H Q => t σ H fun vs H1 => r vs H1 Q
theorem a8 (hc : dh X (.builtin id) r) (hg : Gl X x) (hm : X.mg x = none) (hv : bootBuiltins x = some (.builtin id)) (ha : PA X (e :: es) t) (hn : x ≠ "__name__" := by decide) (nY : (x == ("__debug__" : Str)) = false := by decide)
  (he : starEach (e :: es) X.env = (false, eval e X.env) :: starEach es X.env := by rfl) (yM : (backTo pos (starEach es X.env)).any (·.1) = false := by rfl) : PE X (.Call (.Name x p) (e :: es) [] pos) (Lm r t) := by
 intro pins s σ H Q I h
 refine Vg (nR I hg hm hv ?_ hn nY)
 exact PyProof.Rows.callWith_builtin1 (bO (ha pos pins s σ H _ I h) fun us s1 ⟨vs, H1, I1, r1, q1⟩ => hc pins s1 σ H1 vs us Q I1 r1 q1) he yM
theorem b7 (hc : dh X (.type T) r) (hg : Gl X x) (hm : X.mg x = none) (hv : bootBuiltins x = some (.type T)) (ha : PA X (e :: es) t) (hn : x ≠ "__name__" := by decide) (nY : (x == ("__debug__" : Str)) = false := by decide)
  (he : starEach (e :: es) X.env = (false, eval e X.env) :: starEach es X.env := by rfl) (yM : (backTo pos (starEach es X.env)).any (·.1) = false := by rfl) : PE X (.Call (.Name x p) (e :: es) [] pos) (Lm r t) := by
 intro pins s σ H Q I h
 refine Vg (nR I hg hm hv ?_ hn nY)
 exact PyProof.Rows.callWith_type1 (bO (ha pos pins s σ H _ I h) fun us s1 ⟨vs, H1, I1, r1, q1⟩ => hc pins s1 σ H1 vs us Q I1 r1 q1) he yM
end
end L2
namespace HT
open PySem PyProof.Rows
def lexLt : List Int -> List Int -> Bool
 | [], [] => false
 | [], _ :: _ => true
 | _ :: _, [] => false
 | x :: xs, y :: ys => if x = y then lexLt xs ys else decide (x < y)
theorem fk (x y : Int) (xs ys : List Int) : lexLt (x :: xs) (y :: ys) = if x = y then lexLt xs ys else decide (x < y) := rfl
section
variable {prog : Program} {w : World} {A : Around} {E : Value -> Shared -> Prop} {s : Shared}
theorem Cq {t b : Addr} {vs ws : List Value} {Q : Value -> Shared -> Prop} (ht : IsTup s.heap t vs.toArray) (hb : IsTup s.heap b ws.toArray) (hv : vs ≠ [])
  (h1 : ws = [] -> Q (.ref t) s) (h2 : ws ≠ [] -> Q (.ref s.heap.objs.size) { s with heap := s.heap.push { cls := .type "tuple", data := .seq (vs ++ ws).toArray } })
  (hsz : vs.length + ws.length <= sizeLine) : wpAny (model prog w) A (binaryOp .Add (.ref t) (.ref b)) Q E s := by
 obtain ⟨⟨cls, dd, data, sl⟩, ho, hc, n, hd⟩ := id ht
 obtain ⟨⟨Pf, Nw, data2, JE⟩, tq, Bu, n2, hd2⟩ := id hb
 simp only at hc hd Bu hd2
 subst hc hd Bu hd2
 have e : vs.toArray ++ ws.toArray = (vs ++ ws).toArray := by simp
 by_cases hw : ws = []
 ·exact concat_meets ⟨_, ho, rfl⟩ ⟨_, tq, rfl⟩ noFill_tuple_add seq_tuple_add PySem.F.slot_tuple_add PySem.F.entry_tuple_add (PySem.F.args_tuple_add_2 _ _)
   (tuple_addW1 t b vs.toArray ws.toArray n n2 dd Nw sl JE (by simpa using hv) (by simp [hw])) ⟨ho, tq, h1 hw⟩
 ·refine concat_meets ⟨_, ho, rfl⟩ ⟨_, tq, rfl⟩ noFill_tuple_add seq_tuple_add PySem.F.slot_tuple_add PySem.F.entry_tuple_add (PySem.F.args_tuple_add_2 _ _)
   (tuple_addW2 t b vs.toArray ws.toArray n n2 dd Nw sl JE (by simpa using hv) (by simpa using hw) (by rw [SG, SG]; exact hsz)) ⟨ho, tq, ?_⟩
  rw [e]
  exact h2 hw
def c8 (n d : Nat) : Option Int -> Nat
 | none => d
 | some v => if v < 0 then (v + (n : Int)).toNat else min v.toNat n
theorem BY (n d k : Nat) : c8 n d (some (k : Int)) = min k n := by
 show (if (k : Int) < 0 then ((k : Int) + (n : Int)).toNat else min (k : Int).toNat n) = min k n
 rw [if_neg (by omega), TF]
theorem FO (n d : Nat) (hd : d <= n) (o : Option Int) : c8 n d o <= n := by
 cases o with
 | none => exact hd
 | some v =>
  show (if v < 0 then (v + (n : Int)).toNat else min v.toNat n) <= n
  by_cases hv : v < 0
  ·rw [if_pos hv]; omega
  ·rw [if_neg hv]; exact Nat.min_le_right _ _
theorem wB (v : Int) (n d : Nat) : (if v < 0 then max (v + (n : Int)) 0 else min v (n : Int)) = ((c8 n d (some v) : Nat) : Int) := by
 show (if v < 0 then max (v + (n : Int)) 0 else min v (n : Int)) = (((if v < 0 then (v + (n : Int)).toNat else min v.toNat n) : Nat) : Int)
 by_cases hv : v < 0
 ·simp only [if_pos hv]; omega
 ·simp only [if_neg hv]; omega
theorem u3 (lo hi : Option Int) (n : Nat) : Builtin.Slice.sliceAdjust lo hi 1 (n : Int) = (((c8 n 0 lo : Nat) : Int), ((c8 n n hi : Nat) : Int)) := by
 have h1 : ¬ ((1 : Int) < 0) := by omega
 unfold Builtin.Slice.sliceAdjust
 simp only [h1, Tr]
 refine Prod.ext ?_ ?_
 ·cases lo with
  | none => rfl
  | some v => exact wB v n 0
 ·cases hi with
  | none => rfl
  | some v => exact wB v n n
theorem vH (i j : Nat) : Builtin.Slice.slicePlaces (i : Int) (j : Int) 1 = j - i := by
 unfold Builtin.Slice.slicePlaces
 have h1 : (1 : Int) > 0 := by omega
 simp only [h1, T9, Int.ediv_one]
 split <;> omega
theorem oI {v : Value} {o : Option Int} {Q : Option Int -> Shared -> Prop} (p : IsPart v o) (h : Q o s) : wpAny (model prog w) A (Builtin.Slice.slicePartIndex v) Q E s := by
 cases p with
 | none => exact slicePart_none h
 | int i t => exact slicePart_int h
theorem gw {sl : Addr} {vl vu : Value} {lo hi : Option Int} {n : Nat} {Q : Int × Int × Nat -> Shared -> Prop} (hs : s.heap.IsSliceOf sl vl vu .none) (pl : IsPart vl lo) (pu : IsPart vu hi)
  (h : Q (((c8 n 0 lo : Nat) : Int), 1, c8 n n hi - c8 n 0 lo) s) : wpAny (model prog w) A (Builtin.Slice.sliceApplied (.ref sl) (pure (n : Int))) Q E s := by
 obtain ⟨os, zr, IU, Iz⟩ := id hs
 unfold Builtin.Slice.sliceApplied Builtin.Slice.sliceFields
 refine Sn (Sn (TH zr Iz (x := vl) rfl (Sn (TH zr Iz (x := vu) rfl (Sn (TH zr Iz (x := .none) rfl (So ?_)))))))
 refine Sn (slicePart_none ?_)
 show wpAny _ _ (if ((1 : Int) == 0) = true then _ else _) _ _ s
 rw [if_neg (by decide)]
 refine Sn (oI pl (Sn (oI pu (Sn (So ?_)))))
 show wpAny _ _ (match Builtin.Slice.sliceAdjust lo hi 1 (n : Int) with | (lo, hi) => pure (lo, (1 : Int), Builtin.Slice.slicePlaces lo hi 1)) _ _ s
 rw [u3 lo hi n]
 show wpAny _ _ (pure (((c8 n 0 lo : Nat) : Int), (1 : Int), Builtin.Slice.slicePlaces ((c8 n 0 lo : Nat) : Int) ((c8 n n hi : Nat) : Int) 1)) _ _ s
 rw [vH]
 exact So h
theorem AA (xs : Array Value) (i k : Nat) : ((List.range k).filterMap fun (m : Nat) => xs[((i : Int) + (m : Int) * 1).toNat]?).toArray = ((xs.toList.drop i).take k).toArray := by
 have e : (fun (m : Nat) => xs[((i : Int) + (m : Int) * 1).toNat]?) = fun m => xs[i + m]? := by
  funext m
  have : ((i : Int) + (m : Int) * 1).toNat = i + m := by omega
  rw [this]
 rw [e]
 have := pick_run xs i k
 rw [List.filterMap_map] at this
 have e2 : ((fun x => xs[x]?) ∘ fun x => i + x) = fun m => xs[i + m]? := rfl
 rw [e2] at this
 rw [this]
theorem lj {t sl : Addr} {items : Array Value} {vl vu : Value} {lo hi : Option Int} {Q : Value -> Shared -> Prop} (ht : IsTup s.heap t items) (hs : s.heap.IsSliceOf sl vl vu .none) (pl : IsPart vl lo) (pu : IsPart vu hi)
  (hw : ¬ (c8 items.size 0 lo = 0 /\ c8 items.size items.size hi = items.size))
  (h : Q (.ref s.heap.objs.size) { s with heap := s.heap.push { cls := .type "tuple", data := .seq ((items.toList.drop (c8 items.size 0 lo)).take (c8 items.size items.size hi - c8 items.size 0 lo)).toArray } })
  (hsz : items.size <= sizeLine) : wpAny (model prog w) A (getItem (.ref t) (.ref sl)) Q E s := by
 have wb : sizeOk (.seq ((items.toList.drop (c8 items.size 0 lo)).take (c8 items.size items.size hi - c8 items.size 0 lo)).toArray) := by
  show ((items.toList.drop (c8 items.size 0 lo)).take (c8 items.size items.size hi - c8 items.size 0 lo)).toArray.size <= sizeLine
  rw [SG, SS, U3, SA]
  omega
 have hj : c8 items.size items.size hi <= items.size := FO _ _ (Ss _) hi
 obtain ⟨os, zr, IU, Iz⟩ := id hs
 have Rw : s.TypeIs (.ref sl) "slice" := ⟨os, zr, IU⟩
 unfold getItem
 try with_reducible refine TV ?_
 first | refine Sn (So ?_) | skip
 refine Sn (wpAny_sequenceKey ht.typeIs (by decide) ?_)
 refine Sn (Tv (name := Str.ofString "__getitem__") ht.typeIs TQ
  (Tc TQ ht.typeIs entry_tuple_getitem ?_ (args_tuple_getitem _ _)))
 show wpAny _ _ (Builtin.Tuple.tupleItemsOf (.ref t) >>= _) _ _ s
 refine Sn (tupleItemsOf_ ht ?_)
 refine Sn (wpAny_typeOf Rw ?_)
 rw [if_pos (by decide)]
 refine Sn (gw hs pl pu ?_)
 have Lg : ¬ ((((c8 items.size 0 lo : Nat) : Int) == 0 && (1 : Int) == 1 && (c8 items.size items.size hi - c8 items.size 0 lo) == items.size) = true) := by
  intro q
  rw [Td, Td] at q
  have q1 : ((c8 items.size 0 lo : Nat) : Int) = 0 := eq_of_beq q.1.1
  have q2 : c8 items.size items.size hi - c8 items.size 0 lo = items.size := eq_of_beq q.2
  exact hw ⟨by omega, by omega⟩
 show wpAny _ _ (if (((c8 items.size 0 lo : Nat) : Int) == 0 && (1 : Int) == 1 && (c8 items.size items.size hi - c8 items.size 0 lo) == items.size) = true then _ else _) _ _ s
 rw [if_neg Lg, AA]
 first
  | exact Sn (m := Builtin.Tuple.tupleExact _) (Ti (So ⟨_, rfl, So h⟩) wb)
  | exact Sn (m := Builtin.Tuple.tupleExact _) (Ti (Sn (So (So ⟨_, rfl, So h⟩))) wb)
  | exact Sn (Sn (m := Builtin.Tuple.tupleExact _) (Ti (So (So ⟨_, rfl, So h⟩)) wb))
  | exact Sn (Sn (m := Builtin.Tuple.tupleExact _) (Ti (So ⟨_, rfl, So h⟩) wb))
end
end HT
namespace L2
open PySem PySem.Spec PyProof.Rows
abbrev TO := St -> Hp -> (Option Int -> Hp -> Prop) -> Prop
def PO (X : Cx) (e : Option Expr) (t : TO) : Prop :=
 ∀ (pins : List (Addr × Obj)) (s : Shared) (σ : St) (H : Hp) (Q : Option Int -> Hp -> Prop), Inv X pins σ H s -> t σ H Q ->
  wpAny (model X.prog X.w) X.A (evalPart e X.env) (fun u s' => ∃ o H', Inv X pins σ H' s' /\ IsPart u o /\ Q o H') X.xe s
def Dh : TO := fun _ H Q => Q none H
def Iq (t : TE) : TO := fun σ H Q => t σ H fun x H1 => ∃ i, x = .int i /\ Q (some i) H1
theorem intsAre_of {ns : List Int} : ∀ {us : List Value}, Vals (ns.map V.int) us -> IntsAre us ns := by
 induction ns with
 | nil => intro us r; rw [List.map_nil] at r; cases r; exact .nil
 | cons n ns ih =>
  intro us r
  rw [SN] at r
  cases r with
  | cons r1 r2 =>
   obtain ⟨t, e⟩ := r1
   subst e
   exact .cons n t (ih r2)
section
variable {X : Cx} {e : Expr} {te : TE} {lo hi : Option Expr} {tl th : TO} {pos p2 : Pos}
theorem CD : PO X none Dh := by
 intro pins s σ H Q I h
 rw [evalPart_none]
 exact So ⟨none, H, I, .none, h⟩
theorem Dc (h : PE X e te) : PO X (some e) (Iq te) := by
 intro pins s σ H Q I hw
 rw [evalPart_some]
 refine bO (h pins s σ H _ I hw) fun u s1 ⟨x, H1, I1, r1, q1⟩ => ?_
 obtain ⟨i, rfl, q⟩ := q1
 obtain ⟨t, rfl⟩ := r1
 exact ⟨some i, H1, I1, .int i t, q⟩
def Bw (X : Cx) (r : V -> Option Int -> Option Int -> Hp -> VK -> Prop) : Prop :=
 ∀ (pins : List (Addr × Obj)) (s : Shared) (σ : St) (H : Hp) (x : V) (v vl vu : Value) (lo hi : Option Int) (sl : Addr) (Q : VK), Inv X pins σ H s -> RelV x v -> s.heap.IsSliceOf sl vl vu .none -> IsPart vl lo -> IsPart vu hi -> r x lo hi H Q ->
  ∃ T id, typeLookup (.type T) "__getitem__" = pure (some (.builtin id)) /\ s.TypeIs v T /\ wpAny (model X.prog X.w) X.A (getItem v (.ref sl)) (EP X pins σ Q) X.xe s
theorem Bw.or {r r' : V -> Option Int -> Option Int -> Hp -> VK -> Prop} (h : Bw X r) (h' : Bw X r') : Bw X (fun x lo hi H Q => r x lo hi H Q \/ r' x lo hi H Q) := by
 intro pins s σ H x v vl vu lo hi sl Q I rx hs pl pu q
 rcases q with q | q
 ·exact h pins s σ H x v vl vu lo hi sl Q I rx hs pl pu q
 ·exact h' pins s σ H x v vl vu lo hi sl Q I rx hs pl pu q
def NJ (r : V -> Option Int -> Option Int -> Hp -> VK -> Prop) (te : TE) (tl th : TO) : TE := fun σ H Q => te σ H fun x H1 => tl σ H1 fun l H2 => th σ H2 fun u H3 => r x l u H3 Q
theorem zM {r : V -> Option Int -> Option Int -> Hp -> VK -> Prop} (hr : Bw X r) (he : PE X e te) (hl : PO X lo tl) (hu : PO X hi th) : PE X (.Subscript e (.Slice lo hi none p2) pos) (NJ r te tl th) := by
 intro pins s σ H Q I h
 refine Subscript_ (bO (he pins s σ H _ I h) fun v s1 ⟨x, H1, I1, r1, q1⟩ => ?_)
 refine wpAny_Slice (bO (hl pins s1 σ H1 _ I1 q1) fun vl s2 ⟨l, H2, I2, pl, q2⟩ => bO (hu pins s2 σ H2 _ I2 q2) fun vu s3 ⟨u, H3, I3, pu, q3⟩ => ?_)
 rw [evalPart_none]
 refine So ?_
 have I4 : Inv X pins σ H3 { s3 with heap := s3.heap.push { cls := .type "slice", data := .fields #[vl, vu, .none] } } := I3.kept (t' := s3.toks) fun b ob q => Sq _ q
 obtain ⟨T, id, hT, ht, hg⟩ := hr pins { s3 with heap := s3.heap.push { cls := .type "slice", data := .fields #[vl, vu, .none] } } σ H3 x v vl vu l u s3.heap.objs.size Q I4 r1 (Heap.IsSliceOf.new ..) pl pu q3
 show wpAny (model X.prog X.w) X.A (subscriptTail e (.Slice lo hi none p2) v (.ref s3.heap.objs.size)) (EP X pins σ Q) X.xe { s3 with heap := s3.heap.push { cls := .type "slice", data := .fields #[vl, vu, .none] } }
 exact tail_any (ops := [.ref s3.heap.objs.size, v]) ht hT hg (by with_unfolding_all rfl)
def ud (xs : List V) (lo hi : Option Int) : List V := (xs.drop (HT.c8 xs.length 0 lo)).take (HT.c8 xs.length xs.length hi - HT.c8 xs.length 0 lo)
theorem mB (xs : List V) (lo hi : Option Int) : (ud xs lo hi).length <= xs.length := by
 unfold ud
 rw [SS, U3]
 omega
def Iv (K : Vj) : V -> Option Int -> Option Int -> Hp -> VK -> Prop := fun x lo hi H Q => ∃ a xs, x = .ref a /\ bR K H a xs /\
 ¬ (HT.c8 xs.length 0 lo = 0 /\ HT.c8 xs.length xs.length hi = xs.length) /\ ∀ p, H p = none -> Q (.ref p) (upd H p (.tup (ud xs lo hi)))
theorem Fa : Bw X (Iv X.K) := by
 intro pins s σ H x v vl vu lo hi sl Q I rx hs pl pu h
 obtain ⟨a, xs, rfl, hx, hw, q⟩ := h
 cases rx
 obtain ⟨au, r, ht, hz⟩ := I.tuple hx
 have hlen : au.toArray.size = xs.length := by rw [SG]; exact r.length.symm
 refine ⟨"tuple", _, TQ.lookup, ht.typeIs, ?_⟩
 refine HT.lj ht hs pl pu (by rw [hlen]; exact hw) ?_ (by rw [hlen]; exact hz)
 rw [hlen]
 refine ⟨.ref s.heap.objs.size, _, I.laid (t' := s.toks) (o := .tup (ud xs lo hi)) (fun b ob q => Sq _ q) (Ss _) ?_, rfl, q _ (I.aP.fresh (Ss _))⟩
 exact ⟨SD (mB xs lo hi) hz, _, (r.drop (HT.c8 xs.length 0 lo)).take (HT.c8 xs.length xs.length hi - HT.c8 xs.length 0 lo), IsTup.new _ _⟩
theorem Vals.m7 {xs : List V} {us : List Value} (r : Vals xs us) : us = [] ↔ xs = [] := by
 cases r with
 | nil => simp
 | cons _ _ => simp
end
def Gj (n : Nat) (i : Int) : Option Nat := if 0 <= i then (if i < n then some i.toNat else none) else if -(n : Int) <= i then some (i + n).toNat else none
def AJ {α : Type} (xs : List α) (i : Int) : Option α := (Gj xs.length i).bind fun j => xs[j]?
theorem BE {n : Nat} {i : Int} {j : Nat} (h : Gj n i = some j) : seqIndex? i n = some j /\ j < n /\ -(n : Int) <= i /\ i < n := by
 unfold Gj at h
 by_cases h0 : 0 <= i
 ·rw [if_pos h0] at h
  by_cases h1 : i < n
  ·rw [if_pos h1] at h
   have e : i.toNat = j := Tw h
   exact ⟨by rw [seqIndex_of h0 h1, e], by omega, by omega, h1⟩
  ·rw [if_neg h1] at h; cases h
 ·rw [if_neg h0] at h
  by_cases h1 : -(n : Int) <= i
  ·rw [if_pos h1] at h
   have e : (i + n).toNat = j := Tw h
   exact ⟨by rw [seqIndex_neg (by omega) h1, e], by omega, h1, by omega⟩
  ·rw [if_neg h1] at h; cases h
theorem wn {α : Type} {xs : List α} {i : Int} {v : α} (h : AJ xs i = some v) : ∃ j, seqIndex? i xs.length = some j /\ xs[j]? = some v /\ j < xs.length /\ -(xs.length : Int) <= i /\ i < xs.length := by
 unfold AJ at h
 cases e : Gj xs.length i with
 | none => rw [e] at h; cases h
 | some j =>
  rw [e] at h
  obtain ⟨h1, h2, h3, h4⟩ := BE e
  exact ⟨j, h1, h, h2, h3, h4⟩
theorem gR {α : Type} {xs : List α} {j : Nat} {v : α} (h : xs[j]? = some v) : AJ xs (j : Int) = some v := by
 have hj : j < xs.length := (SR.mp h).1
 have e : Gj xs.length (j : Int) = some j := by
  unfold Gj
  rw [if_pos (by omega), if_pos (by omega)]; simp
 unfold AJ; rw [e]; exact h
def BB (b : Expr) : Prop := ∀ o i, subscripted b false o i = operate [o, i] (getItem o i)
def zt (X : Cx) (r : R2) : Prop :=
 ∀ (value slice : Expr) (pins : List (Addr × Obj)) (s : Shared) (σ : St) (H : Hp) (x y : V) (v u : Value) (Q : VK), Inv X pins σ H s -> RelV x v -> RelV y u -> r x y H Q ->
  subscripted slice false v u = operate [v, u] (getItem v u) -> wpAny (model X.prog X.w) X.A (subscriptTail value slice v u) (EP X pins σ Q) X.xe s
def Ez (X : Cx) (id : String) (r : V -> List V -> Hp -> VK -> Prop) : Prop :=
 ∀ (pins : List (Addr × Obj)) (s : Shared) (σ : St) (H : Hp) (x : V) (xs : List V) (v : Value) (us : List Value) (Q : VK), Inv X pins σ H s -> RelV x v -> Vals xs us -> r x xs H Q ->
  wpAny (model X.prog X.w) X.A (call (.builtin id) (v :: us)) (EP X pins σ Q) X.xe s
section
variable {X : Cx} {a b : Expr} {ta tb : TE} {pos : Pos}
theorem zt.or {r r' : R2} (h : zt X r) (h' : zt X r') : zt X (fun x y H Q => r x y H Q \/ r' x y H Q) := by
 intro value slice pins s σ H x y v u Q I rx ry q hs
 rcases q with q | q
 ·exact h value slice pins s σ H x y v u Q I rx ry q hs
 ·exact h' value slice pins s σ H x y v u Q I rx ry q hs
theorem Ez.or {id : String} {r r' : V -> List V -> Hp -> VK -> Prop} (h : Ez X id r) (h' : Ez X id r') : Ez X id (fun x xs H Q => r x xs H Q \/ r' x xs H Q) := by
 intro pins s σ H x xs v us Q I rx rs q
 rcases q with q | q
 ·exact h pins s σ H x xs v us Q I rx rs q
 ·exact h' pins s σ H x xs v us Q I rx rs q
theorem aW {r : R2} (hr : zt X r) (ha : PE X a ta) (hb : PE X b tb) (hs : BB b) : PE X (.Subscript a b pos) (Js r ta tb) := by
 intro pins s σ H Q I h
 exact Subscript_ (EX ha hb I h fun v u s2 x y H2 I2 rx ry q => hr a b pins s2 σ H2 x y v u Q I2 rx ry q (hs _ _))
def G0 (K : Vj) : R2 := fun x y H Q => ∃ p xs i v, x = .ref p /\ y = .int i /\ bz K H p xs /\ AJ xs i = some v /\ Q v H
def GY (K : Vj) : R2 := fun x y H Q => ∃ p xs i v, x = .ref p /\ y = .int i /\ bR K H p xs /\ AJ xs i = some v /\ Q v H
theorem jp : zt X (G0 X.K) := by
 intro value slice pins s σ H x y v u Q I rx ry h hs
 obtain ⟨p, xs, i, z, rfl, rfl, hq, he, q⟩ := h
 cases rx
 obtain ⟨t, rfl⟩ := ry
 obtain ⟨au, r, pl, hz⟩ := I.list hq
 obtain ⟨j, h1, h2, h3, h4, h5⟩ := wn he
 obtain ⟨w, ew, HR⟩ := r.get h2
 have hl := r.length
 have hn := rJ
 have fin : EP X pins σ Q w s := ⟨z, H, I, HR, q⟩
 by_cases h0 : 0 <= i
 ·have hj : i.toNat = j := by
   rw [seqIndex_of h0 h5] at h1
   exact Tw h1
  exact item_listR pl.isList h0 (by omega) (by rw [hj]; simpa using ew) fin hs
 ·have hj : (i + (au.toArray.size : Int)).toNat = j := by
   rw [seqIndex_neg (by omega) h4] at h1
   rw [SG, <- hl]
   exact Tw h1
  exact subscriptTail_builtinR (x := w) pl.isList.typeIs slot_list_getitem.lookup
   (wpAny_getItem_list_neg (Q := fun r s' => r = w /\ EP X pins σ Q r s') pl.isList (by omega) (by rw [SG] <;> omega) (by omega) (by rw [hj]; simpa using ew) ⟨rfl, fin⟩) hs
theorem bC : zt X (GY X.K) := by
 intro value slice pins s σ H x y v u Q I rx ry h hs
 obtain ⟨p, xs, i, z, rfl, rfl, hq, he, q⟩ := h
 cases rx
 obtain ⟨t, rfl⟩ := ry
 obtain ⟨au, r, pl, hz⟩ := I.tuple hq
 obtain ⟨j, h1, h2, h3, h4, h5⟩ := wn he
 obtain ⟨w, ew, HR⟩ := r.get h2
 have hl := r.length
 have hn := rJ
 have fin : EP X pins σ Q w s := ⟨z, H, I, HR, q⟩
 exact subscriptTail_builtinR (x := w) pl.typeIs slot_tuple_getitem.lookup
  (getItem_tuple (j := j) (Q := fun r s' => r = w /\ EP X pins σ Q r s') pl (by omega) (by omega) (by rw [SG, <- hl]; exact h1) (by simpa using ew) ⟨rfl, fin⟩) hs
theorem Inv.lst {pins : List (Addr × Obj)} {σ : St} {H : Hp} {s : Shared} {p : Addr} {xs : List V} (I : Inv X pins σ H s) (h : H p = some (.lst xs)) :
  ∃ (au : List Value) (n : Nat), Vals xs au /\ s.heap.get? p = some { cls := .type "list", data := .seq au.toArray n } /\ xs.length <= sizeLine := by
 obtain ⟨z, au, n, r, e⟩ := I.aP p _ h
 exact ⟨au, n, r, e, z⟩
theorem rL (lo hi : Option Int) (n : Nat) : (sliceBounds lo hi none n).1 = ((HT.c8 n 0 lo : Nat) : Int) /\ (sliceBounds lo hi none n).2.1 = ((HT.c8 n n hi : Nat) : Int) /\ (sliceBounds lo hi none n).2.2 = 1 := by
 refine ⟨?_, ?_, rfl⟩
 ·cases lo with
  | none => simp [sliceBounds, HT.c8]
  | some i =>
   simp only [sliceBounds, HT.c8, Option.getD_none, show (1 : Int) > 0 by decide, T9]
   by_cases h : i < 0
   ·simp only [h, T9] <;> omega
   ·simp only [h, Tr] <;> omega
 ·cases hi with
  | none => simp [sliceBounds, HT.c8]
  | some i =>
   simp only [sliceBounds, HT.c8, Option.getD_none, show (1 : Int) > 0 by decide, T9]
   by_cases h : i < 0
   ·simp only [h, T9] <;> omega
   ·simp only [h, Tr] <;> omega
theorem pf (au : List Value) (lo hi : Option Int) : slicePick au.toArray lo hi none = ((au.drop (HT.c8 au.length 0 lo)).take (HT.c8 au.length au.length hi - HT.c8 au.length 0 lo)).toArray := by
 obtain ⟨h1, h2, h3⟩ := rL lo hi au.toArray.size
 unfold slicePick
 rw [h1, h2, h3]
 simp only [sliceRange_one, pick_run, SG] <;> rfl
def L5 (K : Vj) : V -> Option Int -> Option Int -> Hp -> VK -> Prop := fun x lo hi H Q => ∃ a xs, x = .ref a /\ bz K H a xs /\ ∀ p, H p = none -> Q (.ref p) (upd H p (.lst (ud xs lo hi)))
theorem Jo : Bw X (L5 X.K) := by
 intro pins s σ H x v vl vu lo hi sl Q I rx hs pl pu h
 obtain ⟨a, xs, rfl, hx, q⟩ := h
 cases rx
 obtain ⟨au, r, ht, hz⟩ := I.list hx
 have hlen := r.length
 refine ⟨"list", _, slot_list_getitem.lookup, ht.isList.typeIs, ?_⟩
 refine wpAny_getItem_list_slice ht.isList hs pl pu .none (by simp) ?_ (by rw [SG] <;> omega)
 rw [pf, <- hlen]
 refine ⟨.ref s.heap.objs.size, _, I.laid (t' := s.toks) (o := .lst (ud xs lo hi)) (fun b ob q => Sq _ q) (Ss _) ?_, rfl, q _ (I.aP.fresh (Ss _))⟩
 exact ⟨SD (mB xs lo hi) hz, _, 0, (r.drop (HT.c8 xs.length 0 lo)).take (HT.c8 xs.length xs.length hi - HT.c8 xs.length 0 lo), SC _ rfl⟩
def ll : V -> Bool
 | .cc => true
 | .bl _ => true
 | .int _ => true
 | .str _ => true
 | _ => false
def D4 : V -> V -> Bool
 | .cc, .cc => true
 | .bl a, .bl b => a == b
 | .bl a, .int b => (if a then 1 else 0) == b
 | .int a, .bl b => a == (if b then 1 else 0)
 | .int a, .int b => a == b
 | .str a, .str b => a == b
 | _, _ => false
theorem Fu {A : Around} {s : Shared} {y x : V} {u v : Value} (ry : RelV y u) (rx : RelV x v) (fy : ll y = true) (fx : ll x = true) : SeqAt.EqAt A s u v (D4 y x) := by
 cases y with
 | cc =>
  cases ry
  cases x with
  | cc => cases rx; exact SeqAt.EqAt.same _
  | bl b => cases rx; exact SeqAt.EqAt.none_bool b
  | int b => obtain ⟨t, rfl⟩ := rx; exact SeqAt.EqAt.none_int b t
  | str b => obtain ⟨t, rfl⟩ := rx; exact SeqAt.EqAt.none_str b t
  | _ => exact absurd (show false = true from fx) Sy
 | bl a =>
  cases ry
  cases x with
  | cc => cases rx; exact SeqAt.EqAt.bool_none a
  | bl b => cases rx; exact SeqAt.EqAt.bool_bool a b
  | int b => obtain ⟨t, rfl⟩ := rx; exact SeqAt.EqAt.bool_int a b t
  | str b => obtain ⟨t, rfl⟩ := rx; exact SeqAt.EqAt.bool_str a b t
  | _ => exact absurd (show false = true from fx) Sy
 | int a =>
  obtain ⟨t', rfl⟩ := ry
  cases x with
  | cc => cases rx; exact SeqAt.EqAt.int_none a t'
  | bl b => cases rx; exact SeqAt.EqAt.int_bool a t' b
  | int b => obtain ⟨t, rfl⟩ := rx; exact SeqAt.EqAt.int_int a t' b t
  | str b => obtain ⟨t, rfl⟩ := rx; exact SeqAt.EqAt.int_str a t' b t
  | _ => exact absurd (show false = true from fx) Sy
 | str a =>
  obtain ⟨t', rfl⟩ := ry
  cases x with
  | cc => cases rx; exact SeqAt.EqAt.str_none a t'
  | bl b => cases rx; exact SeqAt.EqAt.str_bool a t' b
  | int b => obtain ⟨t, rfl⟩ := rx; exact SeqAt.EqAt.str_int a t' b t
  | str b => obtain ⟨t, rfl⟩ := rx; exact SeqAt.EqAt.str_str a t' b t
  | _ => exact absurd (show false = true from fx) Sy
 | _ => exact absurd (show false = true from fy) Sy
def uV (x : V) (u : Value) : Bool := match u with
 | .none => D4 .cc x
 | .bool b => D4 (.bl b) x
 | .int i _ => D4 (.int i) x
 | .str z _ => D4 (.str z) x
 | _ => false
theorem y9 {x y : V} {u : Value} (r : RelV y u) (f : ll y = true) : uV x u = D4 y x := by
 cases y with
 | cc => cases r; rfl
 | bl b => cases r; rfl
 | int i => obtain ⟨t, rfl⟩ := r; rfl
 | str z => obtain ⟨t, rfl⟩ := r; rfl
 | _ => exact absurd (show false = true from f) Sy
theorem kI {x : V} : ∀ {xs : List V} {us : List Value}, Vals xs us -> xs.all ll = true -> us.any (uV x) = xs.any fun y => D4 y x
 | _, _, .nil, _ => rfl
 | y :: xs, u :: us, .cons r t, f => by
  rw [List.all_cons, Td] at f
  rw [List.any_cons, List.any_cons, y9 r f.1, kI t f.2]
theorem iQ {A : Around} {s : Shared} {x : V} {v : Value} (rx : RelV x v) (fx : ll x = true) : ∀ {xs : List V} {us : List Value}, Vals xs us -> xs.all ll = true -> ∀ u ∈ us, SeqAt.EqAt A s u v (uV x u)
 | _, _, .nil, _ => fun u hu => by cases hu
 | y :: xs, u :: us, .cons r t, f => fun u' hu => by
  rw [List.all_cons, Td] at f
  rcases Sx.mp hu with rfl | hu
  ·rw [y9 r f.1]; exact Fu r rx f.1 fx
  ·exact iQ rx fx t f.2 u' hu
def AQ (x : V) (xs : List V) : Bool := xs.any fun y => D4 y x
def Ln (K : Vj) (neg : Bool) : R2 := fun x y H Q => ∃ p xs, y = .ref p /\ (bz K H p xs \/ bR K H p xs) /\ ll x = true /\ xs.all ll = true /\ Q (.bl (if neg then !AQ x xs else AQ x xs)) H
theorem l8 : gi X (compareOp .In) (Ln X.K false) := by
 intro pins s σ H x y v u Q I rx ry h
 obtain ⟨p, xs, rfl, hq, fx, fs, q⟩ := h
 cases ry
 rcases hq with hq | hq
 ·obtain ⟨au, r, pl, hz⟩ := I.list hq
  refine SeqAt.in_listAt (uV x) pl.isList (fun w hw => iQ rx fx r fs w (by simpa using hw)) ⟨.bl _, H, I, rfl, ?_⟩
  rw [show au.toArray.any (uV x) = au.any (uV x) by simp, kI r fs]
  exact q
 ·obtain ⟨au, r, pl, hz⟩ := I.tuple hq
  refine SeqAt.in_tupleAt (uV x) pl (fun w hw => iQ rx fx r fs w (by simpa using hw)) ⟨.bl _, H, I, rfl, ?_⟩
  rw [show au.toArray.any (uV x) = au.any (uV x) by simp, kI r fs]
  exact q
theorem ki : gi X (compareOp .NotIn) (Ln X.K true) := by
 intro pins s σ H x y v u Q I rx ry h
 obtain ⟨p, xs, rfl, hq, fx, fs, q⟩ := h
 cases ry
 rcases hq with hq | hq
 ·obtain ⟨au, r, pl, hz⟩ := I.list hq
  refine SeqAt.notIn_listAt (uV x) pl.isList (fun w hw => iQ rx fx r fs w (by simpa using hw)) ⟨.bl _, H, I, rfl, ?_⟩
  rw [show au.toArray.any (uV x) = au.any (uV x) by simp, kI r fs]
  exact q
 ·obtain ⟨au, r, pl, hz⟩ := I.tuple hq
  refine SeqAt.notIn_tupleAt (uV x) pl (fun w hw => iQ rx fx r fs w (by simpa using hw)) ⟨.bl _, H, I, rfl, ?_⟩
  rw [show au.toArray.any (uV x) = au.any (uV x) by simp, kI r fs]
  exact q
theorem a6 : dh X (.builtin "len") (fun xs H Q => ∃ p ys, xs = [.ref p] /\ (bz X.K H p ys \/ bR X.K H p ys) /\ Q (.int ys.length) H) := by
 intro pins s σ H xs us Q I r h
 obtain ⟨p, ys, rfl, hq, q⟩ := h
 obtain ⟨u, rfl, rx⟩ := vals1 r
 cases rx
 have hn := rJ
 rcases hq with hq | hq
 ·obtain ⟨au, r', pl, hz⟩ := I.list hq
  have hlen := r'.length
  exact Calls.call_len_list pl.isList (by simp only [SG] <;> omega) ⟨.int ys.length, H, I.tok _, ⟨s.toks + 1, by rw [SG, hlen]⟩, q⟩
 ·obtain ⟨au, r', pl, hz⟩ := I.tuple hq
  have hlen := r'.length
  exact len_tuple pl (by simp only [SG] <;> omega) ⟨.int ys.length, H, I.tok _, ⟨s.toks + 1, by rw [SG, hlen]⟩, q⟩
theorem dh.or {f : Value} {r r' : List V -> Hp -> VK -> Prop} (h : dh X f r) (h' : dh X f r') : dh X f (fun xs H Q => r xs H Q \/ r' xs H Q) := by
 intro pins s σ H xs us Q I rs q
 rcases q with q | q
 ·exact h pins s σ H xs us Q I rs q
 ·exact h' pins s σ H xs us Q I rs q
theorem ij : dh X (.type "list") (fun xs H Q => ∃ p ys, xs = [.ref p] /\ (bz X.K H p ys \/ bR X.K H p ys) /\ ∀ l, H l = none -> Q (.ref l) (upd H l (.lst ys))) := by
 intro pins s σ H xs us Q I r h
 obtain ⟨p, ys, rfl, hq, q⟩ := h
 obtain ⟨u, rfl, rx⟩ := vals1 r
 cases rx
 have fin : ∀ (au : List Value), Vals ys au -> ys.length <= sizeLine -> ∀ (h' : Heap) (c' : Nat), (∀ b o', s.heap.get? b = some o' -> h'.get? b = some o') ->
   h'.get? s.heap.objs.size = some { cls := .type "list", dict := none, data := .seq au.toArray c', slots := #[] } -> EP X pins σ Q (.ref s.heap.objs.size) { s with heap := h' } := fun au r' hz h' c' kp e =>
  ⟨.ref s.heap.objs.size, _, I.laid (t' := s.toks) kp (Ss _) (show cp X.prog X.w _ h' _ (.lst ys) from ⟨hz, au, c', r', e⟩), rfl, q _ (I.aP.fresh (Ss _))⟩
 rcases hq with hq | hq
 ·obtain ⟨au, r', pl, hz⟩ := I.list hq
  have hlen := r'.length
  obtain ⟨o, ho, hc, n, hd⟩ := pl.isList
  exact call_list_seq p (.inl rfl) ho hc hd (fun h' c' kp e => fin au r' hz h' c' kp e) (by simp only [SG] <;> omega)
 ·obtain ⟨au, r', pl, hz⟩ := I.tuple hq
  have hlen := r'.length
  obtain ⟨o, ho, hc, n, hd⟩ := pl
  exact call_list_seq p (.inr rfl) ho hc hd (fun h' c' kp e => fin au r' hz h' c' kp e) (by simp only [SG] <;> omega)
theorem cY : dh X (.type "tuple") (fun xs H Q => ∃ p ys, xs = [.ref p] /\ ((bz X.K H p ys /\ ∀ l, H l = none -> Q (.ref l) (upd H l (.tup ys))) \/ (bR X.K H p ys /\ Q (.ref p) H))) := by
 intro pins s σ H xs us Q I r h
 obtain ⟨p, ys, rfl, h⟩ := h
 obtain ⟨u, rfl, rx⟩ := vals1 r
 cases rx
 rcases h with ⟨hq, q⟩ | ⟨hq, q⟩
 ·obtain ⟨au, r', pl, hz⟩ := I.list hq
  have hlen := r'.length
  refine call_tuple_list pl.isList (fun h' kp => ?_) (by simp only [SG] <;> omega)
  have I1 : Inv X pins σ H { s with heap := h' } := I.kept (t' := s.toks) kp
  have I2 : Inv X pins σ (upd H h'.objs.size (.tup ys)) { s with heap := h'.push { cls := .type "tuple", data := .seq au.toArray } } :=
   I1.laid (t' := s.toks) (fun b o e => Sq _ e) (Ss _) (show cp X.prog X.w _ _ _ (.tup ys) from ⟨hz, au, r', IsTup.new _ _⟩)
  exact ⟨.ref h'.objs.size, _, I2, rfl, q _ (I1.aP.fresh (Ss _))⟩
 ·obtain ⟨au, r', pl, hz⟩ := I.tuple hq
  exact call_tuple_same pl ⟨.ref p, H, I, rfl, q⟩
def MZ (K : Vj) (T : String) (x : V) (H : Hp) : Prop := match x with
 | .str _ => T = "str"
 | .int _ => T = "int"
 | .ref p => (T = "list" /\ ∃ xs, bz K H p xs) \/ (T = "tuple" /\ ∃ o, K.lookup p = some o /\ o.cls = .type "tuple" /\ o.dict = none) \/
   (T = "dict" /\ ((∃ kvs, H p = some (.dK kvs)) \/ ∃ kvs, H p = some (.dT kvs))) \/ (T = "set" /\ ∃ S n, H p = some (.set S n))
 | _ => False
theorem El {pins : List (Addr × Obj)} {σ : St} {H : Hp} {s : Shared} {T : String} {x : V} {v : Value} (I : Inv X pins σ H s) (r : RelV x v) (ty : MZ X.K T x H) :
  s.TypeIs v T /\ ∀ a, v = .ref a -> ∃ ob, s.heap.get? a = some ob /\ ob.dict = none := by
 cases x with
 | str z =>
  obtain ⟨t, rfl⟩ := r
  cases (show T = "str" from ty)
  exact ⟨typeIs_str s z t, fun _ e => nomatch e⟩
 | int i =>
  obtain ⟨t, rfl⟩ := r
  cases (show T = "int" from ty)
  exact ⟨typeIs_int s i t, fun _ e => nomatch e⟩
 | ref p =>
  cases r
  rcases ty with ⟨rfl, xs, hq⟩ | ⟨rfl, o, hk, hc, hd⟩ | ⟨rfl, hk⟩ | ⟨rfl, S, n, hk⟩
  ·obtain ⟨au, _, pl, _⟩ := I.list hq
   refine ⟨pl.isList.typeIs, fun a e => ?_⟩
   cases e
   obtain ⟨o, n, e, c, hd, _⟩ := pl
   exact ⟨o, e, hd⟩
  ·refine ⟨⟨o, I.xc p o hk, hc⟩, fun a e => ?_⟩
   cases e
   exact ⟨o, I.xc _ o hk, hd⟩
  ·have z : ∃ o, s.heap.get? p = some o /\ o.ExactDict := by
    rcases hk with ⟨kvs, hk⟩ | ⟨kvs, hk⟩
    ·obtain ⟨_, _, _, _, o, _, _, e, ex, _⟩ := I.aP p _ hk
     exact ⟨o, e, ex⟩
    ·obtain ⟨_, _, _, _, o, _, _, e, ex, _⟩ := I.aP p _ hk
     exact ⟨o, e, ex⟩
   obtain ⟨o, e, ex⟩ := z
   refine ⟨⟨o, e, ex.1⟩, fun a e2 => ?_⟩
   cases e2
   exact ⟨o, e, ex.2.1⟩
  ·obtain ⟨o, _, _, _, e, ex, _⟩ := I.aP p _ hk
   refine ⟨⟨o, e, ex.1⟩, fun a e2 => ?_⟩
   cases e2
   exact ⟨o, e, ex.2.1⟩
 | _ => exact False.elim ty
def Qq (K : Vj) (T : String) (r : V -> List V -> Hp -> VK -> Prop) (to : TE) (t : TA) : TE := fun σ H Q => to σ H fun x H1 => MZ K T x H1 /\ t σ H1 fun xs H2 => r x xs H2 Q
variable {o e : Expr} {es : List Expr} {to : TE} {t : TA} {name : Str} {apos cV : Pos} {T id : String} {r : V -> List V -> Hp -> VK -> Prop}
theorem tE (pa : PlainAttrs T) (slot : Slot T name id) (PU : typeOf (.builtin id) = pure (.type "method_descriptor")) (hm : Ez X id r) (ho : PE X o to) (ha : PA X (e :: es) t)
  (kT : attributeBase o name X.env (eval o X.env) = eval o X.env := by rfl)
  (Bd : ((backTo cV (starEach (e :: es) X.env)).all (fun x => !x.1) && (backToKw cV (keywordEach [] X.env)).all (fun x => x.1.isSome)
   && decide ((e :: es).length + ([] : List Keyword).length + (if ([] : List Keyword).isEmpty then 0 else 1) < 30)) = true := by rfl)
  (kN : (apos.endLine == cV.line) = true := by rfl) (hs : starEach (e :: es) X.env = (false, eval e X.env) :: starEach es X.env := by rfl) (jR : (backTo cV (starEach es X.env)).any (·.1) = false := by rfl) :
  PE X (.Call (.Attribute o name apos) (e :: es) [] cV) (Qq X.K T r to t) := by
 intro pins s σ H Q I h
 refine wpAny_Call_method_late kT Bd kN rfl (bO (ho pins s σ H _ I h) fun v s1 ⟨x, H1, I1, r1, ty, q1⟩ => ?_)
 obtain ⟨h1, h2⟩ := El I1 r1 ty
 refine ⟨T, id, pa, slot, PU, h1, h2, ?_⟩
 have hA := ha cV pins s1 σ H1 _ I1 q1
 rw [hs] at hA ⊢
 refine Calls.callWith_builtin (by show (false || (backTo cV (starEach es X.env)).any (·.1)) = false; rw [jR] <;> rfl) (Calls.evalArgs_plain ?_)
 exact bO hA fun us s2 ⟨vs, H2, I2, r2, q2⟩ => hm pins s2 σ H2 x vs v us Q I2 r1 r2 q2
/- xs.append(e), list.index on a GV tuple .. are Ez facts of 06m -/
end
def Mq (X : Cx) (id : String) (r : V -> List V -> Hp -> VK -> Prop) : Prop :=
 ∀ (pins : List (Addr × Obj)) (s : Shared) (σ : St) (H : Hp) (x : V) (xs : List V) (v : Value) (us : List Value) (Q : VK), Inv X pins σ H s -> RelV x v -> Vals xs us -> r x xs H Q ->
  wpAny (model X.prog X.w) X.A (call (.builtin id) (v :: us)) (EP X pins σ Q) X.xe s
theorem Vals.one : ∀ {x : V} {us : List Value}, Vals [x] us -> ∃ u, us = [u] /\ RelV x u
 | _, _, .cons r .nil => ⟨_, rfl, r⟩
theorem Vals.zero : ∀ {us : List Value}, Vals [] us -> us = []
 | _, .nil => rfl
theorem Vals.reverse {xs : List V} {us : List Value} (h : Vals xs us) : Vals xs.reverse us.reverse := by
 induction h with
 | nil => exact .nil
 | cons r t ih => rw [List.reverse_cons, List.reverse_cons]; exact Vals.append ih (.cons r .nil)
section
variable {X : Cx} {pins : List (Addr × Obj)} {σ : St} {H : Hp} {s : Shared} {l b : Addr} {xs ys zs : List V}
theorem Inv.G4 {au its' : List Value} {n : Nat} {f : Array Value -> Array Value} {t' : Nat} (I : Inv X pins σ H s) (hH : H l = some (.lst xs))
  (e : s.heap.get? l = some { cls := .type "list", data := .seq au.toArray n }) (hf : f au.toArray = its'.toArray) (hv : Vals ys its') (hz : ys.length <= sizeLine) :
  Inv X pins σ (upd H l (.lst ys)) { s with heap := s.heap.update l (Obj.mapSeq f), toks := t' } := by
 have q := PySem.IsL.update e f
 rw [hf] at q
 refine I.write (x := l) (e := l) (by rw [hH]; exact trivial) (.inl rfl) (fun b' u hb hu => (Heap.get?_update_other s.heap (Obj.mapSeq f) (UT hb)).trans hu) ⟨_, q⟩ ?_
 exact ⟨hz, its', _, hv, q⟩
theorem Inv.Kv {au : List Value} {t' : Nat} (I : Inv X pins σ H s) (hv : Vals ys au) (hz : ys.length <= sizeLine) :
  Inv X pins σ (upd H s.heap.objs.size (.lst ys)) { s with heap := s.heap.push { cls := .type "list", data := .seq au.toArray }, toks := t' } :=
 I.laid (fun _ _ q => Sq _ q) (Ss _) ⟨hz, au, 0, hv, SC _ rfl⟩
theorem Inv.fresh (I : Inv X pins σ H s) : H s.heap.objs.size = none := I.aP.fresh (Ss _)
theorem Inv.Bj (I : Inv X pins σ H s) (hH : H l = some (.lst xs)) : xs.length <= sizeLine /\ ∃ (au : List Value) (n : Nat), Vals xs au /\ xs.length = au.length /\ s.heap.get? l = some { cls := .type "list", data := .seq au.toArray n } := by
 obtain ⟨z, au, n, r, e⟩ := I.aP l _ hH
 exact ⟨z, au, n, r, r.length, e⟩
theorem zW {n : Nat} (h : n <= sizeLine) : Builtin.List.listTooLong n = false := by
 unfold Builtin.List.listTooLong
 exact SW (by omega)
end
section
variable {X : Cx}
def Du : V -> List V -> Hp -> VK -> Prop := fun x vs H Q => ∃ l xs y, x = .ref l /\ vs = [y] /\ H l = some (.lst xs) /\ xs.length < sizeLine /\ Q .cc (upd H l (.lst (xs ++ [y])))
theorem gH : Mq X "list.append" Du := by
 intro pins s σ H x vs v us Q I rx rv h
 obtain ⟨l, xs, y, rfl, rfl, hH, hz, q⟩ := h
 cases rx
 obtain ⟨u, rfl, ru⟩ := rv.one
 obtain ⟨z, au, n, r, hl, e⟩ := I.Bj hH
 refine call_meets F.slot_list_append ⟨_, e, rfl⟩ F.entry_list_append (F.args_list_append_2 _ _) (PySem.list_append l au.toArray n u (by rw [SG]; omega)) ⟨e, ?_⟩
 refine ⟨.cc, _, I.G4 (its' := au ++ [u]) hH e (by simp) (r.append (.cons ru .nil)) ?_, rfl, q⟩
 rw [SX, List.length_singleton]
 omega
def Co : V -> List V -> Hp -> VK -> Prop := fun x vs H Q => ∃ l b xs zs, x = .ref l /\ vs = [.ref b] /\ H l = some (.lst xs) /\ H b = some (.lst zs) /\ xs.length + zs.length <= sizeLine /\ Q .cc (upd H l (.lst (xs ++ zs)))
theorem xI : Mq X "list.extend" Co := by
 intro pins s σ H x vs v us Q I rx rv h
 obtain ⟨l, b, xs, zs, rfl, rfl, hH, hB, hz, q⟩ := h
 cases rx
 obtain ⟨u, rfl, ru⟩ := rv.one
 cases ru
 obtain ⟨z, au, n, r, hl, e⟩ := I.Bj hH
 obtain ⟨z2, jw, n2, r2, rV, e2⟩ := I.Bj hB
 have hsz : au.toArray.size + jw.toArray.size <= sizeLine := by rw [SG, SG]; omega
 have G5 : ¬ (!au.toArray.isEmpty && Builtin.List.listTooLong (au.toArray.size + jw.toArray.size)) = true := by
  rw [zW hsz, Uc]
  exact Sy
 refine call_meets F.slot_list_extend ⟨_, e, rfl⟩ F.entry_list_extend (F.args_list_extend_2 _ _)
  (AutoSeq1.list_extend_list_list_0 l au.toArray n b jw.toArray n2 G5 (by rw [SG]; omega) (by omega)) ⟨e, e2, ?_⟩
 refine ⟨.cc, _, I.G4 (its' := au ++ jw) hH e (by simp) (r.append r2) ?_, rfl, q⟩
 rw [SX]
 omega
def Lj : R2 := fun x y H Q => ∃ l b xs zs, x = .ref l /\ y = .ref b /\ H l = some (.lst xs) /\ H b = some (.lst zs) /\ xs.length + zs.length <= sizeLine /\ ∀ p, H p = none -> Q (.ref p) (upd H p (.lst (xs ++ zs)))
theorem Ff : gi X (binaryOp .Add) Lj := by
 intro pins s σ H x y v u Q I rx ry h
 obtain ⟨l, b, xs, zs, rfl, rfl, hH, hB, hz, q⟩ := h
 cases rx
 cases ry
 obtain ⟨z, au, n, r, hl, e⟩ := I.Bj hH
 obtain ⟨z2, jw, n2, r2, rV, e2⟩ := I.Bj hB
 refine PySem.P.add_list e e2 ?_ (by rw [SG, SG]; omega)
 have ea : au.toArray ++ jw.toArray = (au ++ jw).toArray := by simp
 rw [ea]
 exact ⟨.ref _, _, I.Kv (t' := s.toks) (r.append r2) (by rw [SX]; omega), rfl, q _ I.fresh⟩
end
end L2
namespace ML
open PySem PySem.W PySem.Calls PyProof.Rows
theorem mU {P : Params} {h : Heap} : ∀ (ns : List Int) (vs : List Value), WellAll P h vs (ns.map WData.int) -> IntsAre vs ns := by
 intro ns
 induction ns with
 | nil =>
  intro vs w
  rw [List.map_nil] at w
  cases w
  exact .nil
 | cons n ns ih =>
  intro vs w
  rw [SN] at w
  cases w with
  | cons a b =>
   cases a
   exact .cons _ _ (ih _ b)
theorem xo {l : OpenLaw} {n : Nat} (hn : l.most = some n) {P : Params} {h : Heap} {args : List WData} {vals : List Value}
  (jx : l.row.toRowW.claim.pre args = true) (J9 : WellAll P h vals args) :
  ∃ a vs ns, vals = [Value.ref a] /\ args = [WData.list (ns.map WData.int)] /\ h.get? a = some { cls := .type "list", data := .seq vs.toArray } /\ IntsAre vs ns /\ ns.length <= n := by
 have Rq : WShape.hasAll [] args [.list .int] = true := (pre_splitW jx).1
 have hc : l.pre.holds [] { args := args } = true := (pre_splitW jx).2
 obtain ⟨d, r, rfl, h1, h2⟩ := hasAllW_cons Rq
 obtain rfl := hasAllW_nil h2
 obtain ⟨xs, rfl, h3⟩ := hasW_list h1
 obtain ⟨ns, rfl⟩ := items_int h3
 have hlen : ns.length <= n := by
  unfold OpenLaw.pre at hc
  have h4 : (WTm.not (.lt (.lit (.int (n : Int))) (.len (.arg 0)))).holds [] { args := [.list (ns.map .int)] } = true := by
   have h4 := (holds_andW hc).1
   rw [hn] at h4
   exact h4
  have h5 := condW_of h4 (w_not (w_lt w_lit (w_len_list (w_arg rfl))))
  rw [Sr] at h5
  refine Nat.le_of_not_lt fun q => ?_
  have q' : (n : Int) < ((ns.length : Nat) : Int) := by omega
  first
   | (rw [SE q'] at h5; exact absurd h5 (by decide))
   | (simp at h5; omega)
 cases J9 with
 | cons w1 w2 =>
  cases w2
  cases w1 with
  | list ho xR => exact ⟨_, _, ns, rfl, rfl, ho, mU ns _ xR, hlen⟩
theorem xY (l : OpenLaw) (args : List WData) : l.row.toRowW.claim.post args (.bool true) args = true :=
 postW_of (r := l.row.toRowW) (X := (true == true))
  (show WShape.has [] (.bool true) .bool = true by first | rfl | decide | simp [WShape.has, WShape.arms, WShape.armsAll])
  (show (WTm.eq .res (.lit (.bool true))).value [] { args := args, res := some (.bool true), after := args } = some (.bool (true == true)) from w_eq_bool (w_res rfl) w_lit) rfl
theorem tH {l : OpenLaw} {n : Nat} {q : Program} {loose : List Str} {XP : (Str -> Option Value) -> Heap -> Prop} {YP : World -> Heap -> Prop} {d : DefRec}
  (hn : l.most = some n) (GS : d.params.defaults = [])
  (call : ∀ (w : World) (s₀ s₁ : Shared) (mg mb : Str -> Option Value) (fa : Addr) (o : Obj) (pm cd doc : Value) (a : Addr) (vs : List Value) (ns : List Int),
   Ground q loose [] XP w s₀ mg mb s₁.heap -> YP w s₁.heap ->
   s₁.heap.get? fa = some o -> o.data = .func (docDef d.name d.params d.body d.scope pm cd doc) -> s₁.heap.CodeRec cd d.name -> mg d.name = some (.ref fa) ->
   s₁.heap.get? a = some { cls := .type "list", data := .seq vs.toArray } -> IntsAre vs ns -> ns.length <= n -> s₁.gens = #[] ->
   codeAny (model l.prog w) callerA (.call (.ref fa) ⟨[.ref a], []⟩) (fun r s' => r = .ok (.ret (.bool true)) /\ OldK s₁.heap s'.heap /\ s'.os = s₁.os /\ AllBare s'.gens) s₁) :
  WalkO q loose XP YP l.row.toRowW d [] (fun f vs => PySem.call f vs) := by
 intro w s₀ s₁ mg mb G Y fa o pm cd doc dV kV ho hd ve hD Gx hg args vals as jx HE R8 J9 RK
 obtain rfl : dV = .none := Dflts.none hD GS
 obtain rfl : kV = .none := Dflts.noKw hD
 obtain ⟨a, vs, ns, rfl, rfl, FU, hints, hlen⟩ := xo hn jx J9
 refine enter_call (codeAny_mono (call w s₀ s₁ mg mb fa o pm cd doc a vs ns G Y ho (fd_plain hd) ve Gx FU hints hlen hg) fun r s' hq => ?_)
 obtain ⟨rfl, h2, h3, h4⟩ := hq
 exact ⟨.inl ⟨.bool true, .bool true, [], rfl, fun _ => rfl, .bool true, xY l _, fun _ => ⟨List.Pairwise.nil, fun _ hm => (nomatch hm)⟩⟩, h2, h3, h4⟩
end ML
namespace L2
open PySem PySem.Spec PyProof.Rows
theorem lO : ∀ {vs : List Value} {ns : List Int}, IntsAre vs ns -> Vals (ns.map V.int) vs
 | _, _, .nil => .nil
 | _, _, .cons n t h => .cons ⟨t, rfl⟩ (lO h)
def FA (H : Hp) : Prop := ∀ b, H b = none \/ ∃ o xs, H b = some (.yN o (.lst xs))
theorem AF {P : Program} {w : World} {K : Vj} {mg mb : Str -> Option Value} {CX : uN} {k : Nat} {fa a : Addr} {fd : FuncData} {x : Str} {sp : Sp} {s₁ : Shared} {vs : List Value} {ns : List Int}
  (KX : K.In s₁.heap) (MX : s₁.heap.Ns mainGlobals mg) (hb : s₁.heap.Ns builtinsNs mb) (OS : ∀ x : Str, x ≠ "__name__" -> mb x = bootBuiltins x) (LU : s₁.heap.NoLimit) (hg : s₁.gens = #[])
  (ha : s₁.heap.get? a = some { cls := .type "list", data := .seq vs.toArray }) (hi : IntsAre vs ns) (hl : ns.length <= sizeLine) (hr : dj k callerA)
  (F : ∀ base : Heap, K.In base -> base.Ns mainGlobals mg -> aq P w K mg base CX k fa fd [x] sp) (HF : ∀ (s : Shared) (u : Value), BindsTo s fd ⟨[u], []⟩ [(x, u)])
  (yL : ∀ H : Hp, FA H -> bz K H a (ns.map V.int) -> sp [.ref a] H (fun v _ => v = .bl true) fun _ _ _ => False)
  (J4 : ∀ H e s', CX [] H s₁ (fun _ _ _ => False) e s' -> False) :
  codeAny (model P w) callerA (.call (.ref fa) ⟨[.ref a], []⟩) (fun r s' => r = .ok (.ret (.bool true)) /\ OldK s₁.heap s'.heap /\ s'.os = s₁.os /\ AllBare s'.gens) s₁ := by
 have rv := lO hi
 have Li := hi.length
 have core : ∀ H : Hp, FA H -> bz K H a (ns.map V.int) -> iA P w H s₁.heap -> (∀ b, H b ≠ none -> b = a) -> (H a ≠ none -> K.lookup a = none) ->
   codeAny (model P w) callerA (.call (.ref fa) ⟨[.ref a], []⟩) (fun r s' => r = .ok (.ret (.bool true)) /\ OldK s₁.heap s'.heap /\ s'.os = s₁.os /\ AllBare s'.gens) s₁ := by
  intro H hO hS aP hA hK
  have w8 : ∀ {b : Addr} {o : Obj}, s₁.heap.get? b = some o -> H b = none -> (rH s₁.heap H).get? b = some o := fun e n => Ay e n
  have IG : ∀ {b : Addr} {o : Obj} {es : Array DictEntry} {ep : Nat}, s₁.heap.get? b = some o -> o.data = .dict es ep -> H b = none := fun {b o es ep} e d => by
   cases q : H b with
   | none => rfl
   | some u =>
    have e' : b = a := hA b (by rw [q]; simp)
    subst e'
    rw [ha] at e; cases e
    have d' : Data.seq vs.toArray _ = Data.dict es ep := d
    cases d'
  have Jj : ∀ {b : Addr} {m : Str -> Option Value}, s₁.heap.Ns b m -> (rH s₁.heap H).Ns b m := fun {b m} ⟨o, es, ep, e, d, r⟩ => ⟨o, es, ep, w8 e (IG e d), d, r⟩
  have MS : K.In (rH s₁.heap H) := fun b o e => w8 (KX b o e) (by
   cases q : H b with
   | none => rfl
   | some u =>
    have e' : b = a := hA b (by rw [q]; simp)
    subst e'
    rw [hK (by rw [q]; simp)] at e; cases e)
  have hM : Mod K mg (rH s₁.heap H) := ⟨MS, Jj MX, ⟨mb, Jj hb, OS⟩, let ⟨mc, h1, h2⟩ := LU; ⟨mc, Jj h1, h2⟩⟩
  have e0 : oh P w K mg (rH s₁.heap H) callerA [] s₁ H := ⟨rfl, hM, fun b o e => BJ e, Nat.le_of_eq (xO _ _), trivial, fun b hb => absurd (show b ∈ ([] : List Addr) from hb) (by simp), aP, .of_eq hg⟩
  refine codeAny_mono ((F _ MS (Jj MX)).run callerA [] s₁ H ⟨[.ref a], []⟩ [.ref a] [.ref a] _ _ hr e0 (HF s₁ (.ref a)) (.cons rfl .nil) (yL H hO hS)) fun r s' h => ?_
  cases r with
  | error e => exact (J4 H e s' h).elim
  | ok fl =>
   cases fl with
   | next => exact False.elim h
   | brk => exact False.elim h
   | cont => exact False.elim h
   | ret u =>
    obtain ⟨v, H', os, bare, un, LR, r', q⟩ := h
    have q' : v = .bl true := q
    subst q'
    obtain rfl : u = Value.bool true := r'
    refine ⟨rfl, OldK.of_keep fun b o e => ?_, os, bare⟩
    cases q : H b with
    | none => exact un.keep b o e q (by intro z; exact absurd (show b ∈ ([] : List Addr) from z) (by simp)) (by simp)
    | some u =>
     rcases hO b with z | ⟨ob, xs, z⟩
     ·rw [q] at z; cases z
     ·have z2 := un.iz b ob _ z
      obtain ⟨e1, _⟩ := aP b _ z
      obtain ⟨e2, _⟩ := LR b _ z2
      rw [e] at e1; cases e1
      exact e2
 cases hk : K.lookup a with
 | some o =>
  have e := KX a o hk
  rw [ha] at e
  cases e
  refine core (fun _ => none) (fun _ => .inl rfl) (.inr ⟨_, vs.toArray, _, hk, rfl, rfl, rfl, by rw [SG, Li]; exact hl, by simpa using rv⟩) (fun b u z => by have z' : (none : Option HO) = some u := z; cases z') (fun b z => absurd rfl z) fun z => absurd rfl z
 | none =>
  refine core (fun b => if b = a then some (.yN { cls := .type "list", data := .seq vs.toArray } (.lst (ns.map V.int))) else none) (fun b => ?_) (.inl (.inr ⟨{ cls := .type "list", data := .seq vs.toArray }, if_pos rfl⟩)) (fun b u z => ?_) (fun b z => ?_) fun _ => hk
  ·by_cases hb : b = a
   ·exact .inr ⟨_, _, if_pos hb⟩
   ·exact .inl (if_neg hb)
  ·by_cases hb : b = a
   ·have z' := (if_pos hb).symm.trans z
    cases z'
    subst hb
    exact ⟨ha, by rw [Sr]; exact hl, vs, _, rv, ha⟩
   ·have z' := (if_neg hb).symm.trans z
    cases z'
  ·by_cases hb : b = a
   ·exact hb
   ·exact absurd (if_neg hb) z
theorem B0 {l : PySem.W.OpenLaw} {n k : Nat} {q : Program} {loose : List Str} {XP : (Str -> Option Value) -> Heap -> Prop} {YP : World -> Heap -> Prop} {d : DefRec} {K : Params -> Vj} {CX : World -> uN} {sp : World -> Sp} {x : Str}
  (hn : l.most = some n) (Je : n <= sizeLine) (GS : d.params.defaults = []) (hr : dj k callerA)
  (hY : ∀ (w : World) (h : Heap), YP w h -> (K w.params).In h)
  (F : ∀ (w : World) (mg : Str -> Option Value) (fa : Addr) (h : Heap), (K w.params).In h -> h.Ns mainGlobals mg -> mg d.name = some (.ref fa) ->
   ∃ fd : FuncData, (∀ (s : Shared) (u : Value), BindsTo s fd ⟨[u], []⟩ [(x, u)]) /\
    ∀ base : Heap, (K w.params).In base -> base.Ns mainGlobals mg -> aq l.prog w (K w.params) mg base (CX w) k fa fd [x] (sp w))
  (yL : ∀ (w : World) (H : Hp) (a : Addr) (ns : List Int), ns.length <= n -> FA H -> bz (K w.params) H a (ns.map V.int) -> sp w [.ref a] H (fun v _ => v = .bl true) fun _ _ _ => False)
  (J4 : ∀ (w : World) (H : Hp) (s : Shared) (e : Value) (s' : Shared), CX w [] H s (fun _ _ _ => False) e s' -> False) :
  PySem.W.WalkO q loose XP YP l.row.toRowW d [] (fun f vs => PySem.call f vs) := by
 refine ML.tH hn GS fun w s₀ s₁ mg mb fa o pm cd doc a vs ns G Y ho hd ve Gx FU hints hlen hg => ?_
 have KX := hY w _ Y
 obtain ⟨fd, hb, hF⟩ := F w mg fa _ KX G.T.g Gx
 exact AF KX G.T.g G.T.b G.T.builtins G.T.nolimit hg FU hints (SD hlen Je) hr hF hb (fun H hO hS => yL w H a ns hlen hO hS) fun H e s' => J4 w H s₁ e s'
end L2
/- Sl Q4 JT (shape; RH, My.* are Nq):
  My.RZ: a structure of Ng addresses Rs Pj M6 names (classes, Gh); My.Txt K t: a structure (Prop) of Ng equations over K;
  My.K7 : {K} {implicit addresses ..} (e1 : nsIn K mainGlobals "law" = some (some (.ref f))) (e2 : K.lookup f = some ⟨oc, od, .func (fnOf "law" "law" params body scope dV kV doc pm an cm ct), sl⟩) (e3 : codeIn K cm "law" = true) .. : ∃ t, My.Txt K t
(Ng tactic k_is has no namespace: write k_is) -/
namespace L2
open PySem PySem.Spec PyProof.Rows
def inClass (s : Stmt) (j : Nat) : Stmt := match s with
 | .ClassDef _ _ _ body _ _ _ _ _ _ _ => body.getD j (.Pass ⟨0, 0, 0, 0⟩)
 | _ => .Pass ⟨0, 0, 0, 0⟩
def eC (s : Stmt) : Arguments := match s with
 | .FunctionDef _ a _ _ _ _ _ _ _ _ => a
 | _ => { posonlyargs := [], args := [], vararg := none, kwonlyargs := [], kw_defaults := [], kwarg := none, defaults := [] }
def ci (s : Stmt) : List Stmt := match s with
 | .FunctionDef _ _ b _ _ _ _ _ _ _ => b
 | _ => []
def aj (s : Stmt) : Scope := match s with
 | .FunctionDef _ _ _ _ _ _ sc _ _ _ => sc
 | _ => { kind := .function, names := [], isGenerator := false, isCoroutine := false }
abbrev bA : uN := fun _ _ _ _ _ _ => False
abbrev E0 : XK := fun _ _ _ => False
theorem aC {X : Cx} : Passes bA X E0 := fun _ _ _ _ _ _ _ h => h.elim
structure BG (K : Vj) (x qual : Str) (st : Stmt) (f : Addr) (fd : FuncData) : Prop where
 ex : ∃ (oc : Value) (od : Option Addr) (kV doc pm : Value) (an : Option Addr) (cm ct : Value) (BL : Array (Option Value)),
  fd = PySem.W.fnOf x qual (eC st) (ci st) (aj st) .none kV doc pm an cm ct /\ K.lookup f = some ⟨oc, od, .func fd, BL⟩ /\ PySem.W.codeIn K cm qual = true
 kp : PySem.W.keepIn K (.ref f) = true
section
variable {P : Program} {w : World} {K : Vj} {mg : Str -> Option Value} {base : Heap}
theorem BG.ok {x qual : Str} {st : Stmt} {f : Addr} {fd : FuncData} {N ps : List Str} {k : Nat} {sp : Sp} (F : BG K x qual st f fd) (S : av N ps (aj st)) (len : ∀ vs H Q E, sp vs H Q E -> vs.length = ps.length)
  (sR : ∀ (cm : Value) (A : Around) (outer : List Env) (s : Shared) (H : Hp) (vs : List V) (Q : VK) (E : XK), dj k (A.deeper (envOfC qual (aj st) s.heap.objs.size f cm)) -> sp vs H Q E ->
   ∃ t, uv (si bA P w K mg base N qual (aj st) f cm A outer s H E).C8 (ci st) t /\ t { nx := fun _ H' => Q .cc H', rt := Q } (start N vs) H) : aq P w K mg base bA (k + 1) f fd ps sp := by
 obtain ⟨oc, od, kV, doc, pm, an, cm, ct, BL, rfl, lk, ve⟩ := F.ex
 refine DE lk ve S len fun A outer s H vs Q E hr yL => ?_
 obtain ⟨t, h, q⟩ := sR cm A outer s H vs Q E hr yL
 exact ⟨t, h.C8, q⟩
theorem BG.binds {x qual : Str} {st : Stmt} {f : Addr} {fd : FuncData} {ps : List Str} (F : BG K x qual st f fd)
  (h : ∀ (kV doc pm : Value) (an : Option Addr) (cm ct : Value) (us : List Value), us.length = ps.length -> bindArgs (PySem.W.fnOf x qual (eC st) (ci st) (aj st) .none kV doc pm an cm ct) ⟨us, []⟩ = pure (ps.zip us)) : Binds K fd ps [] := by
 obtain ⟨oc, od, kV, doc, pm, an, cm, ct, BL, rfl, lk, ve⟩ := F.ex
 exact .all (h kV doc pm an cm ct)
theorem lN {x qual : Str} {st : Stmt} {f : Addr} {oc : Value} {od an : Option Addr} {BL : Array (Option Value)} {kV doc pm cm ct : Value} (l : K.lookup f = some ⟨oc, od, .func (PySem.W.fnOf x qual (eC st) (ci st) (aj st) .none kV doc pm an cm ct), BL⟩)
  (c : PySem.W.codeIn K cm qual = true) (k : PySem.W.keepIn K (.ref f) = true) : BG K x qual st f (PySem.W.fnOf x qual (eC st) (ci st) (aj st) .none kV doc pm an cm ct) := ⟨⟨oc, od, kV, doc, pm, an, cm, ct, BL, rfl, l, c⟩, k⟩
end
section
variable {X : Cx}
theorem pv (i : Nat) {x : Str} {pos : Pos} (hN : X.N[i]? = some x := by rfl) (hv : JK X.env.scope x := by first | exact Or.inl rfl | exact Or.inr (Or.inl rfl) | exact Or.inr (Or.inr rfl)) (hd : (x == ("__debug__" : Str)) = false := by decide)
  (ve : (x == ("__classdict__" : Str)) = false := by decide) : PE X (.Name x pos) (Ih i) := FJ hN hv hd ve
end
theorem fV {A B : Prop} (h : B) : if false = true then A else B := by
 rw [if_neg Sy]
 exact h
theorem yb {A B : Prop} (h : A) : if true = true then A else B := by
 rw [if_pos rfl]
 exact h
theorem Ds {c A B : Prop} [Decidable c] (h1 : c -> A) (h2 : ¬ c -> B) : if c then A else B := by
 by_cases h : c
 ·rw [if_pos h]
  exact h1 h
 ·rw [if_neg h]
  exact h2 h
theorem wq {c A B : Prop} [Decidable c] (hc : c) (h : B) : if (!decide c) = true then A else B := by
 rw [SE hc]
 exact fV h
def am (H H' : Hp) : Prop := ∀ b o, H b = some o -> H' b = some o
theorem am.refl (H : Hp) : am H H := fun _ _ h => h
theorem am.trans {H H1 H2 : Hp} (a : am H H1) (b : am H1 H2) : am H H2 := fun c o h => b c o (a c o h)
theorem am.free {H H' : Hp} (e : am H H') {l : Addr} (h : H' l = Option.none) : H l = Option.none := by
 cases q : H l with
 | none => rfl
 | some o =>
  rw [e l o q] at h
  cases h
theorem am.seq {K : Vj} {H H' : Hp} {a : Addr} {xs : List V} (e : am H H') (h : bz K H a xs) : bz K H' a xs := by
 rcases h with (h | ⟨o, h⟩) | h
 ·exact .inl (.inl (e _ _ h))
 ·exact .inl (.inr ⟨o, e _ _ h⟩)
 ·exact .inr h
end L2
set_option maxHeartbeats 4000000
namespace SO
open PySem PyProof.Rows
def yD : Bool -> Keyed -> Array Keyed -> Nat -> Nat -> Nat -> StateT SortSt Sem (Option Nat) := sortPriv% PySem.Builtin.gallop
def look (lf : Bool) (ky : Keyed) (ar : Array Keyed) (bs i : Nat) : StateT SortSt Sem (Option Bool) := do
 let x <- elem' ar (bs + i)
 if lf then lt' x ky else return (<- lt' ky x).map (!·)
theorem E9 (lf : Bool) (ky : Keyed) (ar : Array Keyed) (bs n h : Nat) : yD lf ky ar bs n h = (do
  let mut l := 0
  let mut o := 1
  let mut p := 0
  let mut q := 0
  let some rt <- look lf ky ar bs h | return none
  if rt then
   let mx := n - h
   for _ in [0:n] do
    if o >= mx then break
    let some mm <- look lf ky ar bs (h + o) | return none
    if !mm then break
    l := o
    o := 2 * o + 1
   p := h + l + 1
   q := h + min o mx
  else
   let mx := h + 1
   for _ in [0:n] do
    if o >= mx then break
    let some ff <- look lf ky ar bs (h - o) | return none
    if ff then break
    l := o
    o := 2 * o + 1
   p := h + 1 - min o mx
   q := h - l
  for _ in [0:n] do
   if p >= q then break
   let m := p + (q - p) / 2
   let some mm <- look lf ky ar bs m | return none
   if mm then p := m + 1 else q := m
  return some q) := rfl
section
variable {prog : Program} {w : World} {A : Around} {E : Value -> Shared -> Prop} {s : Shared} {rk : Keyed -> Nat} {S : Keyed -> Prop} {kd : SortKind}
def mH (prog : Program) (w : World) (A : Around) (E : Value -> Shared -> Prop) (s : Shared) (rk : Keyed -> Nat) (S : Keyed -> Prop) (kd : SortKind) : Prop :=
 ∀ (x y : Keyed) (st : SortSt) (Q : Option Bool -> SortSt -> Prop), S x -> S y -> kindOf st = kd -> Q (some (decide (rk x < rk y))) st -> wpS (model prog w) A E s (lt' x y) Q st
def B (rk : Keyed -> Nat) (lf : Bool) (ky : Keyed) (ar : Array Keyed) (bs i : Nat) : Bool := match ar[bs + i]? with
 | some x => if lf then decide (rk x < rk ky) else !decide (rk ky < rk x)
 | none => false
theorem kC {lf : Bool} {ky : Keyed} {ar : Array Keyed} {bs i : Nat} {st : SortSt} {Q : Option Bool -> SortSt -> Prop} (hc : mH prog w A E s rk S kd) (hi : (bs + i) < (ar.size)) (hS : ∀ x ∈ ar.toList, S x) (hk : S ky) (kk : kindOf st = kd)
  (h : Q (some (B rk lf ky ar bs i)) st) : wpS (model prog w) A E s (look lf ky ar bs i) Q st := by
 unfold look
 have e : ar[bs + i]? = some (ar[bs + i]'hi) := getElem?_pos ar (bs + i) hi
 have hm : S (ar[bs + i]'hi) := hS _ (by simp)
 unfold B at h
 rw [e] at h
 rw [elem'_eq, e]
 refine SB (SJ ?_)
 cases lf with
 | true => exact hc _ _ st _ hm hk kk h
 | false =>
  refine SB (hc _ _ st _ hk hm kk ?_)
  exact SJ h
def bin (lf : Bool) (ky : Keyed) (ar : Array Keyed) (bs n p₀ q₀ : Nat) : StateT SortSt Sem (Option Nat) := do
 let mut p := p₀
 let mut q := q₀
 for _ in [0:n] do
  if p >= q then break
  let m := p + (q - p) / 2
  let some mm <- look lf ky ar bs m | return none
  if mm then p := m + 1 else q := m
 return some q
theorem wI {lf : Bool} {ky : Keyed} {ar : Array Keyed} {bs n p q : Nat} {st : SortSt} {Q : Option Nat -> SortSt -> Prop} (hc : mH prog w A E s rk S kd) (hn : bs + n <= ar.size) (hS : ∀ x ∈ ar.toList, S x) (hk : S ky) (kk : kindOf st = kd)
  (mono : ∀ i j, i <= j -> j < n -> B rk lf ky ar bs j = true -> B rk lf ky ar bs i = true) (Ja : p <= q) (KZ : q <= n) (hp : ∀ i, i < p -> B rk lf ky ar bs i = true) (uG : ∀ i, q <= i -> i < n -> B rk lf ky ar bs i = false)
  (hq : ∀ q, q <= n -> (∀ i, i < q -> B rk lf ky ar bs i = true) -> (∀ i, q <= i -> i < n -> B rk lf ky ar bs i = false) -> Q (some q) st) : wpS (model prog w) A E s (bin lf ky ar bs n p q) Q st := by
 unfold bin
 have wv : ∀ i j, i <= j -> j < n -> B rk lf ky ar bs i = false -> B rk lf ky ar bs j = false := fun i j yT hj hb => by
  cases e : B rk lf ky ar bs j with
  | false => rfl
  | true => rw [mono i j yT hj e] at hb; cases hb
 refine SB (Ua (TJ (I := fun x c ax => ax = st /\ ∃ p q, c = (none, p, q) /\ p <= q /\ q <= n /\ q - p <= n - x /\ (∀ i, i < p -> B rk lf ky ar bs i = true) /\ (∀ i, q <= i -> i < n -> B rk lf ky ar bs i = false))
  (Q := fun c ax => ax = st /\ ∃ q, c = (none, q, q) /\ q <= n /\ (∀ i, i < q -> B rk lf ky ar bs i = true) /\ (∀ i, q <= i -> i < n -> B rk lf ky ar bs i = false)) ?step ?fin ⟨rfl, p, q, rfl, Ja, KZ, by omega, hp, uG⟩) ?post)
 case fin =>
  rintro c ax ⟨rfl, p, q, rfl, h1, h2, h3, h4, h5⟩
  have : p = q := by omega
  subst this
  exact ⟨rfl, p, rfl, h2, h4, h5⟩
 case post =>
  rintro c ax ⟨rfl, q, rfl, h2, h4, h5⟩
  exact SJ (hq q h2 h4 h5)
 case step =>
  rintro x c ax _ hx ⟨rfl, p, q, rfl, h1, h2, h3, h4, h5⟩
  dsimp only
  by_cases qL : p >= q
  ·rw [if_pos qL]
   have : p = q := by omega
   subst this
   exact SJ ⟨rfl, p, rfl, h2, h4, h5⟩
  ·rw [if_neg qL]
   refine SB (kC hc (by omega) hS hk kk ?_)
   dsimp only
   cases e : B rk lf ky ar bs (p + (q - p) / 2) with
   | true =>
    rw [if_pos rfl]
    refine SJ ⟨rfl, _, q, rfl, by omega, h2, by omega, fun i hi => ?_, h5⟩
    exact mono i _ (by omega) (by omega) e
   | false =>
    rw [if_neg Sy]
    refine SJ ⟨rfl, p, _, rfl, by omega, by omega, by omega, h4, fun i hi pc => ?_⟩
    exact wv _ i hi pc e
theorem Ca {lf : Bool} {ky : Keyed} {ar : Array Keyed} {bs n h : Nat} {st : SortSt} {Q : Option Nat -> SortSt -> Prop} (hc : mH prog w A E s rk S kd) (hn : bs + n <= ar.size) (hh : h < n) (hS : ∀ x ∈ ar.toList, S x) (hk : S ky) (kk : kindOf st = kd)
  (mono : ∀ i j, i <= j -> j < n -> B rk lf ky ar bs j = true -> B rk lf ky ar bs i = true)
  (hq : ∀ q, q <= n -> (∀ i, i < q -> B rk lf ky ar bs i = true) -> (∀ i, q <= i -> i < n -> B rk lf ky ar bs i = false) -> Q (some q) st) : wpS (model prog w) A E s (yD lf ky ar bs n h) Q st := by
 rw [E9]
 have wv : ∀ i j, i <= j -> j < n -> B rk lf ky ar bs i = false -> B rk lf ky ar bs j = false := fun i j yT hj hb => by
  cases e : B rk lf ky ar bs j with
  | false => rfl
  | true => rw [mono i j yT hj e] at hb; cases hb
 refine SB (kC hc (by omega) hS hk kk ?_)
 dsimp only
 cases eB : B rk lf ky ar bs h with
 | true =>
  rw [if_pos rfl]
  refine SB (Ua (TJ (I := fun x c ax => ax = st /\ ∃ l o, c = (none, l, o) /\ l < o /\ x + 1 <= o /\ h + l < n /\ B rk lf ky ar bs (h + l) = true)
   (Q := fun c ax => ax = st /\ ∃ l o, c = (none, l, o) /\ l < o /\ h + l < n /\ B rk lf ky ar bs (h + l) = true /\ (o >= n - h \/ B rk lf ky ar bs (h + o) = false)) ?step ?fin ⟨rfl, 0, 1, rfl, by omega, by omega, by omega, eB⟩) ?post)
  case fin =>
   rintro c ax ⟨rfl, l, o, rfl, h1, h2, h3, h4⟩
   exact ⟨rfl, l, o, rfl, h1, h3, h4, .inl (by omega)⟩
  case post =>
   rintro c ax ⟨rfl, l, o, rfl, h1, h3, h4, h5⟩
   show wpS _ _ _ _ (bin lf ky ar bs n (h + l + 1) (h + min o (n - h))) Q _
   refine wI hc hn hS hk kk mono (by omega) (by omega) (fun i hi => mono i (h + l) (by omega) h3 h4) (fun i hi pc => ?_) hq
   rcases h5 with z | z
   ·omega
   ·by_cases hz : o >= n - h
    ·omega
    ·exact wv (h + o) i (by omega) pc z
  case step =>
   rintro x c ax _ hx ⟨rfl, l, o, rfl, h1, h2, h3, h4⟩
   dsimp only
   by_cases qL : o >= n - h
   ·rw [if_pos qL]
    exact SJ ⟨rfl, l, o, rfl, h1, h3, h4, .inl qL⟩
   ·rw [if_neg qL]
    refine SB (kC hc (by omega) hS hk kk ?_)
    dsimp only
    cases e : B rk lf ky ar bs (h + o) with
    | true =>
     rw [if_neg (by simp)]
     exact SJ ⟨rfl, o, 2 * o + 1, rfl, by omega, by omega, by omega, e⟩
    | false =>
     rw [if_pos (by simp)]
     exact SJ ⟨rfl, l, o, rfl, h1, h3, h4, .inr e⟩
 | false =>
  rw [if_neg Sy]
  refine SB (Ua (TJ (I := fun x c ax => ax = st /\ ∃ l o, c = (none, l, o) /\ l < o /\ x + 1 <= o /\ l <= h /\ B rk lf ky ar bs (h - l) = false)
   (Q := fun c ax => ax = st /\ ∃ l o, c = (none, l, o) /\ l < o /\ l <= h /\ B rk lf ky ar bs (h - l) = false /\ (o >= h + 1 \/ B rk lf ky ar bs (h - o) = true)) ?step ?fin ⟨rfl, 0, 1, rfl, by omega, by omega, by omega, eB⟩) ?post)
  case fin =>
   rintro c ax ⟨rfl, l, o, rfl, h1, h2, h3, h4⟩
   exact ⟨rfl, l, o, rfl, h1, h3, h4, .inl (by omega)⟩
  case post =>
   rintro c ax ⟨rfl, l, o, rfl, h1, h3, h4, h5⟩
   show wpS _ _ _ _ (bin lf ky ar bs n (h + 1 - min o (h + 1)) (h - l)) Q _
   refine wI hc hn hS hk kk mono (by omega) (by omega) (fun i hi => ?_) (fun i hi pc => wv (h - l) i hi pc h4) hq
   rcases h5 with z | z
   ·omega
   ·by_cases hz : o >= h + 1
    ·omega
    ·exact mono i (h - o) (by omega) (by omega) z
  case step =>
   rintro x c ax _ hx ⟨rfl, l, o, rfl, h1, h2, h3, h4⟩
   dsimp only
   by_cases qL : o >= h + 1
   ·rw [if_pos qL]
    exact SJ ⟨rfl, l, o, rfl, h1, h3, h4, .inl qL⟩
   ·rw [if_neg qL]
    refine SB (kC hc (by omega) hS hk kk ?_)
    dsimp only
    cases e : B rk lf ky ar bs (h - o) with
    | true =>
     rw [if_pos rfl]
     exact SJ ⟨rfl, l, o, rfl, h1, h3, h4, .inr e⟩
    | false =>
     rw [if_neg Sy]
     exact SJ ⟨rfl, o, 2 * o + 1, rfl, by omega, by omega, by omega, e⟩
end
abbrev SM := StateT SortSt Sem
abbrev qB (st : SortSt) (g : Nat) : SortSt := SortSt.mk' (kindOf st) (arrOf st) (pendingOf st) g (failedOf st)
def rp (g : Nat) : SM Unit := modify fun s => qB s g
def JR : Array Keyed -> Array Keyed -> SM (Array Keyed) := sortPriv% PySem.Builtin.mergeLo
def ig (a b out : Array Keyed) (i j : Nat) : Array Keyed := out ++ a.extract i a.size ++ b.extract j b.size
def fin2 (a b out : Array Keyed) (i j : Nat) : Array Keyed := out ++ b.extract j b.size ++ a.extract i a.size
abbrev L1 := Option (Array Keyed) × Array Keyed × Nat × Nat × Nat × Nat
abbrev L2 := Option (Array Keyed) × Array Keyed × Nat × Nat × Nat × Nat × Nat
abbrev L3 := Option (Array Keyed) × Array Keyed × Nat × Nat × Nat
def lo1 (a b : Array Keyed) (g : Nat) (out : Array Keyed) (i j ca cb : Nat) : SM (ForInStep L1) := do
 let x <- elem' b j
 let y <- elem' a i
 match <- lt' x y with
 | some bw =>
  if bw = true then do
   let z <- elem' b j
   if (j + 1 == b.size) = true then pure (.done (some (ig a b (out.push z) i (j + 1)), out.push z, i, j + 1, 0, cb + 1))
   else if cb + 1 >= g then pure (.done (none, out.push z, i, j + 1, 0, cb + 1))
   else pure (.yield (none, out.push z, i, j + 1, 0, cb + 1))
  else do
   let z <- elem' a i
   if (i + 1 + 1 == a.size) = true then pure (.done (some (fin2 a b (out.push z) (i + 1) j), out.push z, i + 1, j, ca + 1, 0))
   else if ca + 1 >= g then pure (.done (none, out.push z, i + 1, j, ca + 1, 0))
   else pure (.yield (none, out.push z, i + 1, j, ca + 1, 0))
 | _ => pure (.done (some (ig a b out i j), out, i, j, ca, cb))
def JN (a b : Array Keyed) (out : Array Keyed) (i j g ca cb : Nat) : SM (ForInStep L2) := do
 let x <- elem' a i
 if (i + 1 + 1 == a.size) = true then pure (.done (some (fin2 a b (out.push x) (i + 1) j), out.push x, i + 1, j, g, ca, cb))
 else if (decide (ca < 7) && decide (cb < 7)) = true then pure (.done (none, out.push x, i + 1, j, g, ca, cb))
 else pure (.yield (none, out.push x, i + 1, j, g, ca, cb))
def K4 (a b : Array Keyed) (out : Array Keyed) (i j g ca cb : Nat) : SM (ForInStep L2) := do
 let x <- elem' a i
 match <- yD true x b j (b.size - j) 0 with
 | some k =>
  if k > 0 then
   if (j + k == b.size) = true then pure (.done (some (ig a b (out ++ b.extract j (j + k)) i (j + k)), out ++ b.extract j (j + k), i, j + k, g, ca, k))
   else JN a b (out ++ b.extract j (j + k)) i (j + k) g ca k
  else JN a b out i j g ca k
 | _ => pure (.done (some (ig a b out i j), out, i, j, g, ca, cb))
def JO (a b : Array Keyed) (out : Array Keyed) (i j g ca cb : Nat) : SM (ForInStep L2) := do
 let x <- elem' b j
 if (j + 1 == b.size) = true then pure (.done (some (ig a b (out.push x) i (j + 1)), out.push x, i, j + 1, g, ca, cb))
 else K4 a b (out.push x) i (j + 1) g ca cb
def Jp (a b : Array Keyed) (out : Array Keyed) (i j g ca cb : Nat) : SM (ForInStep L2) := do
 rp g
 let x <- elem' b j
 match <- yD false x a i (a.size - i) 0 with
 | some k =>
  if k > 0 then
   if (i + k + 1 == a.size) = true then pure (.done (some (fin2 a b (out ++ a.extract i (i + k)) (i + k) j), out ++ a.extract i (i + k), i + k, j, g, k, cb))
   else if (i + k == a.size) = true then pure (.done (some (ig a b (out ++ a.extract i (i + k)) (i + k) j), out ++ a.extract i (i + k), i + k, j, g, k, cb))
   else JO a b (out ++ a.extract i (i + k)) (i + k) j g k cb
  else JO a b out i j g k cb
 | _ => pure (.done (some (ig a b out i j), out, i, j, g, ca, cb))
def Kq (a b : Array Keyed) (out : Array Keyed) (i j g ca cb : Nat) : SM (ForInStep L2) := if g > 1 then Jp a b out i j (g - 1) ca cb else Jp a b out i j g ca cb
def JS (a b : Array Keyed) (out : Array Keyed) (i j g : Nat) : SM (ForInStep L3) := do
 let c <- forIn [0:a.size + b.size] ((none, out, i, j, 0, 0) : L1) fun _ c => lo1 a b g c.2.1 c.2.2.1 c.2.2.2.1 c.2.2.2.2.1 c.2.2.2.2.2
 match c.1 with
 | some r => pure (.done (some r, c.2.1, c.2.2.1, c.2.2.2.1, g))
 | none => do
  rule "list.sort.gallop"
  let d <- forIn [0:a.size + b.size] ((none, c.2.1, c.2.2.1, c.2.2.2.1, g + 1, c.2.2.2.2.1, c.2.2.2.2.2) : L2) fun _ d => Kq a b d.2.1 d.2.2.1 d.2.2.2.1 d.2.2.2.2.1 d.2.2.2.2.2.1 d.2.2.2.2.2.2
  match d.1 with
  | some r => pure (.done (some r, d.2.1, d.2.2.1, d.2.2.2.1, d.2.2.2.2.1))
  | none => do
   rp (d.2.2.2.2.1 + 1)
   pure (.yield (none, d.2.1, d.2.2.1, d.2.2.2.1, d.2.2.2.2.1 + 1))
theorem EB (a b : Array Keyed) : JR a b = (do
  rule "list.sort.merge-lo"
  let tt := a.size + b.size
  let mut out : Array Keyed := #[<- elem' b 0]
  let mut i := 0
  let mut j := 1
  if j == b.size then return ig a b out i j
  if i + 1 == a.size then return fin2 a b out i j
  let mut g := gallopOf (<- get)
  for _ in [0:tt] do
   let mut ca := 0
   let mut cb := 0
   for _ in [0:tt] do
    let some bw <- lt' (<- elem' b j) (<- elem' a i) | return ig a b out i j
    if bw then
     out := out.push (<- elem' b j); j := j + 1; cb := cb + 1; ca := 0
     if j == b.size then return ig a b out i j
     if cb >= g then break
    else
     out := out.push (<- elem' a i); i := i + 1; ca := ca + 1; cb := 0
     if i + 1 == a.size then return fin2 a b out i j
     if ca >= g then break
   rule "list.sort.gallop"
   g := g + 1
   for _ in [0:tt] do
    if g > 1 then g := g - 1
    rp g
    let some k <- yD false (<- elem' b j) a i (a.size - i) 0 | return ig a b out i j
    ca := k
    if k > 0 then
     out := out ++ a.extract i (i + k); i := i + k
     if i + 1 == a.size then return fin2 a b out i j
     if i == a.size then return ig a b out i j
    out := out.push (<- elem' b j); j := j + 1
    if j == b.size then return ig a b out i j
    let some k <- yD true (<- elem' a i) b j (b.size - j) 0 | return ig a b out i j
    cb := k
    if k > 0 then
     out := out ++ b.extract j (j + k); j := j + k
     if j == b.size then return ig a b out i j
    out := out.push (<- elem' a i); i := i + 1
    if i + 1 == a.size then return fin2 a b out i j
    if ca < 7 && cb < 7 then break
   g := g + 1
   rp g
  unsupported "internal:list.sort.merge-bound") := rfl
theorem BQ (a b : Array Keyed) : JR a b = (do
  rule "list.sort.merge-lo"
  let z <- elem' b 0
  if (1 == b.size) = true then pure (ig a b #[z] 0 1)
  else if (0 + 1 == a.size) = true then pure (fin2 a b #[z] 0 1)
  else do
   let st <- get
   let c <- forIn [0:a.size + b.size] ((none, #[z], 0, 1, gallopOf st) : L3) fun _ c => JS a b c.2.1 c.2.2.1 c.2.2.2.1 c.2.2.2.2
   match c.1 with
   | some r => pure r
   | none => unsupported "internal:list.sort.merge-bound") := by
 rw [EB]
 refine Tp fun _ => Tp fun z => ?_
 refine ite_congr rfl (fun _ => rfl) (fun _ => ?_)
 refine ite_congr rfl (fun _ => rfl) (fun _ => ?_)
 refine Tp fun st => ?_
 show (forIn _ _ _ >>= _) = (forIn _ _ _ >>= _)
 refine congr (TR _ ?_) ?_
 ·refine TR _ ?_
  funext x c
  rcases c with ⟨r, out, i, j, g⟩
  unfold JS
  show (forIn _ _ _ >>= _) = (forIn _ _ _ >>= _)
  refine Tp fun d => ?_
  rcases d with ⟨_ | r, out, i, j, ca, cb⟩
  ·refine Tp fun _ => ?_
   show (forIn _ _ _ >>= _) = (forIn _ _ _ >>= _)
   refine Tp fun e => ?_
   rcases e with ⟨_ | r, out, i, j, g, ca, cb⟩
   ·rfl
   ·rfl
  ·rfl
 ·funext c
  rcases c with ⟨_ | r, out, i, j, g⟩
  ·rfl
  ·rfl
abbrev eJ (rk : Keyed -> Nat) (l : List Keyed) : Prop := l.Pairwise fun x y => rk x <= rk y
structure MI (rk : Keyed -> Nat) (a b out : Array Keyed) (i j : Nat) : Prop where
 hi : i <= a.size
 hj : j <= b.size
 sz : out.size = i + j
 p : (out.toList ++ (a.toList.drop i ++ b.toList.drop j)).Perm (a.toList ++ b.toList)
 s : eJ rk out.toList
 ua : ∀ x ∈ out.toList, ∀ y ∈ a.toList.drop i, rk x <= rk y
 ub : ∀ x ∈ out.toList, ∀ y ∈ b.toList.drop j, rk x <= rk y
def Res (rk : Keyed -> Nat) (a b r : Array Keyed) : Prop := r.toList.Perm (a.toList ++ b.toList) /\ eJ rk r.toList
section
variable {rk : Keyed -> Nat} {a b out : Array Keyed} {i j k : Nat}
theorem rD {l : List Keyed} {i : Nat} (h : i < l.length) : l.drop i = l[i] :: l.drop (i + 1) := U4 h
theorem bB (a : Array Keyed) (i j : Nat) : (a.extract i j).toList = (a.toList.drop i).take (j - i) := by
 rw [Array.toList_extract, List.extract_eq_drop_take]
theorem MI.sA (h : MI rk a b out i j) (sa : eJ rk a.toList) (hk : i + k <= a.size) (hy : ∀ x ∈ (a.toList.drop i).take k, ∀ y ∈ b.toList.drop j, rk x <= rk y) : MI rk a b (out ++ a.extract i (i + k)) (i + k) j := by
 have e : (out ++ a.extract i (i + k)).toList = out.toList ++ (a.toList.drop i).take k := by rw [Tk, bB, Vh]
 have ed : (a.toList.drop i).take k ++ a.toList.drop (i + k) = a.toList.drop i := by rw [<- Ub, Uv]
 have ss : eJ rk ((a.toList.drop i).take k ++ a.toList.drop (i + k)) := by rw [ed]; exact sa.sublist (Up _ _)
 have zD := SQ.mp ss
 refine ⟨hk, h.hj, by rw [Ue, UN, h.sz]; omega, ?_, ?_, ?_, ?_⟩
 ·rw [e, SK, <- SK ((a.toList.drop i).take k), ed]
  exact h.p
 ·rw [e]
  exact SQ.mpr ⟨h.s, zD.1, fun x hx y hy => h.ua x hx y (T6 hy)⟩
 ·intro x hx y hy
  rw [e] at hx
  rcases S0.mp hx with z | z
  ·exact h.ua x z y (by rw [<- ed]; exact S8 _ hy)
  ·exact zD.2.2 x z y hy
 ·intro x hx y fm
  rw [e] at hx
  rcases S0.mp hx with z | z
  ·exact h.ub x z y fm
  ·exact hy x z y fm
theorem MI.sZ (h : MI rk a b out i j) (sb : eJ rk b.toList) (hk : j + k <= b.size) (hy : ∀ x ∈ (b.toList.drop j).take k, ∀ y ∈ a.toList.drop i, rk x <= rk y) : MI rk a b (out ++ b.extract j (j + k)) i (j + k) := by
 have e : (out ++ b.extract j (j + k)).toList = out.toList ++ (b.toList.drop j).take k := by rw [Tk, bB, Vh]
 have ed : (b.toList.drop j).take k ++ b.toList.drop (j + k) = b.toList.drop j := by rw [<- Ub, Uv]
 have ss : eJ rk ((b.toList.drop j).take k ++ b.toList.drop (j + k)) := by rw [ed]; exact sb.sublist (Up _ _)
 have zD := SQ.mp ss
 refine ⟨h.hi, hk, by rw [Ue, UN, h.sz]; omega, ?_, ?_, ?_, ?_⟩
 ·rw [e, SK]
  refine List.Perm.trans (Uw _ ?_) h.p
  have e2 : a.toList.drop i ++ b.toList.drop j = a.toList.drop i ++ ((b.toList.drop j).take k ++ b.toList.drop (j + k)) := by rw [ed]
  rw [e2, <- SK, <- SK]
  exact UO _ UR
 ·rw [e]
  exact SQ.mpr ⟨h.s, zD.1, fun x hx y hy => h.ub x hx y (T6 hy)⟩
 ·intro x hx y fm
  rw [e] at hx
  rcases S0.mp hx with z | z
  ·exact h.ua x z y fm
  ·exact hy x z y fm
 ·intro x hx y hy
  rw [e] at hx
  rcases S0.mp hx with z | z
  ·exact h.ub x z y (by rw [<- ed]; exact S8 _ hy)
  ·exact zD.2.2 x z y hy
theorem tM {a out : Array Keyed} {i : Nat} (h : i < a.size) : out.push a[i] = out ++ a.extract i (i + 1) := by
 apply Array.toList_inj.mp
 rw [Array.toList_push, Tk, bB, Vh, rD (l := a.toList) (by simpa using h)]
 simp
theorem take1 {l : List Keyed} {i : Nat} (h : i < l.length) : (l.drop i).take 1 = [l[i]] := by rw [rD h]; rfl
theorem MI.pU (h : MI rk a b out i j) (sa : eJ rk a.toList) (hi : i < a.size) (hy : ∀ y ∈ b.toList.drop j, rk a[i] <= rk y) : MI rk a b (out.push a[i]) (i + 1) j := by
 rw [tM hi]
 refine h.sA sa hi fun x hx y fm => ?_
 rw [take1 (by simpa using hi)] at hx
 rw [S7.mp hx]
 simpa using hy y fm
theorem MI.qy (h : MI rk a b out i j) (sb : eJ rk b.toList) (hj : j < b.size) (hy : ∀ y ∈ a.toList.drop i, rk b[j] <= rk y) : MI rk a b (out.push b[j]) i (j + 1) := by
 rw [tM hj]
 refine h.sZ sb hj fun x hx y fm => ?_
 rw [take1 (by simpa using hj)] at hx
 rw [S7.mp hx]
 simpa using hy y fm
theorem qp (a b out : Array Keyed) (i j : Nat) : (ig a b out i j).toList = out.toList ++ (a.toList.drop i ++ b.toList.drop j) := by
 unfold ig
 rw [Tk, Tk, bB, bB, SK, SF (by simp), SF (by simp)]
theorem qf (a b out : Array Keyed) (i j : Nat) : (fin2 a b out i j).toList = out.toList ++ (b.toList.drop j ++ a.toList.drop i) := by
 unfold fin2
 rw [Tk, Tk, bB, bB, SK, SF (by simp), SF (by simp)]
theorem MI.za (h : MI rk a b out i j) (sa : eJ rk a.toList) (sb : eJ rk b.toList) (e : i = a.size \/ j = b.size) : Res rk a b (ig a b out i j) := by
 refine ⟨by rw [qp]; exact h.p, ?_⟩
 rw [qp]
 refine SQ.mpr ⟨h.s, SQ.mpr ⟨sa.sublist (Up _ _), sb.sublist (Up _ _), ?_⟩, fun x hx y hy => ?_⟩
 ·intro x hx y hy
  rcases e with e | e
  ·rw [e, List.drop_of_length_le (by simp)] at hx; cases hx
  ·rw [e, List.drop_of_length_le (by simp)] at hy; cases hy
 ·rcases S0.mp hy with z | z
  ·exact h.ua x hx y z
  ·exact h.ub x hx y z
theorem MI.CH (h : MI rk a b out i j) (sa : eJ rk a.toList) (sb : eJ rk b.toList) (e : i + 1 = a.size) (last : ∀ y ∈ b.toList, ∀ x, a.toList[a.size - 1]? = some x -> rk y <= rk x) : Res rk a b (fin2 a b out i j) := by
 refine ⟨by rw [qf]; exact (Uw _ UR).trans h.p, ?_⟩
 rw [qf]
 refine SQ.mpr ⟨h.s, SQ.mpr ⟨sb.sublist (Up _ _), sa.sublist (Up _ _), ?_⟩, fun x hx y hy => ?_⟩
 ·intro y hy x hx
  have hl : i < a.toList.length := by simp; omega
  rw [rD hl, List.drop_of_length_le (by simp; omega)] at hx
  have ex : x = a.toList[i] := by simpa using hx
  refine last y (List.mem_of_mem_drop hy) x ?_
  rw [show a.size - 1 = i by omega, ex]
  exact Sw hl
 ·rcases S0.mp hy with z | z
  ·exact h.ub x hx y z
  ·exact h.ua x hx y z
theorem g6 {l : List Keyed} (h : eJ rk l) {i j : Nat} (yT : i <= j) (hj : j < l.length) : rk (l[i]'(by omega)) <= rk l[j] := by
 by_cases e : i = j
 ·subst e; exact Ss _
 ·exact List.pairwise_iff_getElem.mp h i j (by omega) hj (by omega)
theorem kR {l : List Keyed} (h : eJ rk l) {i : Nat} (hi : i < l.length) : ∀ y ∈ l.drop i, rk l[i] <= rk y := fun y hy => by
 obtain ⟨m, hm, rfl⟩ := TU.mp hy
 rw [Uz]
 exact g6 h (by omega) _
end
def Pb (rk : Keyed -> Nat) (lf : Bool) (ky x : Keyed) : Prop := if lf = true then rk x < rk ky else rk x <= rk ky
section
variable {prog : Program} {w : World} {A : Around} {E : Value -> Shared -> Prop} {s : Shared} {rk : Keyed -> Nat} {S : Keyed -> Prop} {kd : SortKind}
theorem wc {lf : Bool} {ky : Keyed} {ar : Array Keyed} {bs i : Nat} (h : bs + i < ar.size) : B rk lf ky ar bs i = true ↔ Pb rk lf ky (ar.toList[bs + i]'(by simpa using h)) := by
 unfold B Pb
 rw [getElem?_pos ar (bs + i) h]
 cases lf with
 | true => simp
 | false => simp
theorem jb {lf : Bool} {ky : Keyed} {ar : Array Keyed} {bs n h : Nat} {st : SortSt} {Q : Option Nat -> SortSt -> Prop} (hc : mH prog w A E s rk S kd) (hn : bs + n <= ar.size) (hh : h < n) (hS : ∀ x ∈ ar.toList, S x) (hk : S ky) (kk : kindOf st = kd)
  (sr : eJ rk ((ar.toList.drop bs).take n))
  (hq : ∀ q, q <= n -> (∀ x ∈ (ar.toList.drop bs).take q, Pb rk lf ky x) -> (∀ x ∈ ((ar.toList.drop bs).take n).drop q, ¬ Pb rk lf ky x) -> Q (some q) st) : wpS (model prog w) A E s (yD lf ky ar bs n h) Q st := by
 have len : ((ar.toList.drop bs).take n).length = n := by rw [SS, U3, SA]; omega
 have seg : ∀ i (hi : i < n), ((ar.toList.drop bs).take n)[i]'(by omega) = ar.toList[bs + i]'(by rw [SA]; omega) := fun i hi => by
  rw [UU, Uz]
 have mono : ∀ i j, i <= j -> j < n -> B rk lf ky ar bs j = true -> B rk lf ky ar bs i = true := fun i j yT hj hb => by
  have h1 := (wc (rk := rk) (lf := lf) (ky := ky) (by omega : bs + j < ar.size)).mp hb
  refine (wc (by omega)).mpr ?_
  have h2 := g6 sr yT (by omega)
  rw [seg i (by omega), seg j hj] at h2
  unfold Pb at h1 ⊢
  cases lf with
  | true => simp only [T9] at h1 ⊢; omega
  | false => simp only [SU, Tr] at h1 ⊢; omega
 refine Ca hc hn hh hS hk kk mono fun q KZ h1 h2 => hq q KZ (fun x hx => ?_) (fun x hx => ?_)
 ·obtain ⟨m, hm, rfl⟩ := TU.mp hx
  have D6 : m < q := by rw [SS] at hm; omega
  rw [UU, Uz]
  exact (wc (by omega)).mp (h1 m D6)
 ·obtain ⟨m, hm, rfl⟩ := TU.mp hx
  have D6 : q + m < n := by rw [U3, len] at hm; omega
  rw [Uz, seg _ D6]
  intro z
  have := h2 (q + m) (by omega) D6
  rw [(wc (by omega)).mpr z] at this
  cases this
def Gq (st ax : SortSt) : Prop := ∃ g, ax = qB st g
theorem Gq.refl (st : SortSt) : Gq st st := ⟨gallopOf st, rfl⟩
theorem Gq.set {st ax : SortSt} (h : Gq st ax) (g : Nat) : Gq st (qB ax g) := by obtain ⟨_, rfl⟩ := h; exact ⟨g, rfl⟩
theorem Gq.kind {st ax : SortSt} (h : Gq st ax) : kindOf ax = kindOf st := by obtain ⟨_, rfl⟩ := h; rfl
theorem lF {g : Nat} {st : SortSt} {Q : Unit -> SortSt -> Prop} (h : Q () (qB st g)) : wpS (model prog w) A E s (rp g) Q st := UV h
theorem aR {ar : Array Keyed} {i : Nat} {st : SortSt} {Q : Keyed -> SortSt -> Prop} (hi : i < ar.size) (h : Q ar[i] st) : wpS (model prog w) A E s (elem' ar i) Q st := by
 rw [elem'_eq, getElem?_pos ar i hi]
 exact SJ h
structure pe (rk : Keyed -> Nat) (S : Keyed -> Prop) (a b : Array Keyed) : Prop where
 sa : eJ rk a.toList
 sb : eJ rk b.toList
 Sa : ∀ x ∈ a.toList, S x
 Sb : ∀ x ∈ b.toList, S x
 last : ∀ y ∈ b.toList, ∀ x, a.toList[a.size - 1]? = some x -> rk y <= rk x
 first : ∀ y ∈ a.toList, ∀ x, b.toList[0]? = some x -> rk x <= rk y
theorem pe.wD {a b : Array Keyed} (T : pe rk S a b) {i : Nat} (h : i < a.size) : S a[i] := T.Sa _ (by simp)
theorem pe.wJ {a b : Array Keyed} (T : pe rk S a b) {i : Nat} (h : i < b.size) : S b[i] := T.Sb _ (by simp)
variable {a b : Array Keyed} {aH : SortSt}
def E1 (rk : Keyed -> Nat) (a b : Array Keyed) (aH : SortSt) (n : Nat) (r : ForInStep L1) (ax : SortSt) : Prop := Gq aH ax /\ match r with
 | .done c => (∃ z, c.1 = some z /\ Res rk a b z) \/ (c.1 = none /\ MI rk a b c.2.1 c.2.2.1 c.2.2.2.1 /\ c.2.2.1 + 1 < a.size /\ c.2.2.2.1 < b.size /\ n < c.2.1.size)
 | .yield c => c.1 = none /\ MI rk a b c.2.1 c.2.2.1 c.2.2.2.1 /\ c.2.2.1 + 1 < a.size /\ c.2.2.2.1 < b.size /\ n < c.2.1.size
def E2 (rk : Keyed -> Nat) (a b : Array Keyed) (aH : SortSt) (n : Nat) (r : ForInStep L2) (ax : SortSt) : Prop := Gq aH ax /\ match r with
 | .done c => (∃ z, c.1 = some z /\ Res rk a b z) \/ (c.1 = none /\ MI rk a b c.2.1 c.2.2.1 c.2.2.2.1 /\ c.2.2.1 + 1 < a.size /\ c.2.2.2.1 < b.size /\ n < c.2.1.size)
 | .yield c => c.1 = none /\ MI rk a b c.2.1 c.2.2.1 c.2.2.2.1 /\ c.2.2.1 + 1 < a.size /\ c.2.2.2.1 < b.size /\ n < c.2.1.size
theorem De {g : Nat} {out : Array Keyed} {i j ca cb n : Nat} {st : SortSt} (hc : mH prog w A E s rk S kd) (T : pe rk S a b) (gq : Gq aH st) (kk : kindOf aH = kd) (M : MI rk a b out i j) (hi : i + 1 < a.size) (hj : j < b.size) (hn : n <= out.size) :
  wpS (model prog w) A E s (lo1 a b g out i j ca cb) (E1 rk a b aH n) st := by
 unfold lo1
 have pc : i < a.size := by omega
 refine SB (aR hj (SB (aR pc (SB (hc _ _ st _ (T.wJ hj) (T.wD pc) (gq.kind.trans kk) ?_)))))
 dsimp only
 by_cases hb : rk b[j] < rk a[i]
 ·rw [SE hb, if_pos rfl]
  refine SB (aR hj ?_)
  have M' := M.qy T.sb hj fun y hy => by
   have := kR T.sa (i := i) (by simpa using pc) y hy
   simp at this
   omega
  by_cases e : (j + 1 == b.size) = true
  ·rw [if_pos e]
   exact SJ ⟨gq, .inl ⟨_, rfl, M'.za T.sa T.sb (.inr (by simpa using e))⟩⟩
  ·rw [if_neg e]
   have e' : j + 1 ≠ b.size := by simpa using e
   have rest : MI rk a b (out.push b[j]) i (j + 1) /\ i + 1 < a.size /\ j + 1 < b.size /\ n < (out.push b[j]).size := ⟨M', hi, by omega, by rw [Us]; omega⟩
   split
   ·exact SJ ⟨gq, .inr ⟨rfl, rest⟩⟩
   ·exact SJ ⟨gq, rfl, rest⟩
 ·rw [SW hb, if_neg Sy]
  refine SB (aR pc ?_)
  have M' := M.pU T.sa pc fun y hy => by
   have := kR T.sb (i := j) (by simpa using hj) y hy
   simp at this
   omega
  by_cases e : (i + 1 + 1 == a.size) = true
  ·rw [if_pos e]
   exact SJ ⟨gq, .inl ⟨_, rfl, M'.CH T.sa T.sb (by simpa using e) T.last⟩⟩
  ·rw [if_neg e]
   have e' : i + 1 + 1 ≠ a.size := by simpa using e
   have rest : MI rk a b (out.push a[i]) (i + 1) j /\ i + 1 + 1 < a.size /\ j < b.size /\ n < (out.push a[i]).size := ⟨M', by omega, hj, by rw [Us]; omega⟩
   split
   ·exact SJ ⟨gq, .inr ⟨rfl, rest⟩⟩
   ·exact SJ ⟨gq, rfl, rest⟩
theorem wO {out : Array Keyed} {i j g ca cb n : Nat} {st : SortSt} (T : pe rk S a b) (gq : Gq aH st) (M : MI rk a b out i j) (hi : i + 1 < a.size) (hj : j < b.size) (hn : n <= out.size) (ok : ∀ y ∈ b.toList.drop j, rk (a[i]'(by omega)) <= rk y) :
  wpS (model prog w) A E s (JN a b out i j g ca cb) (E2 rk a b aH n) st := by
 unfold JN
 have pc : i < a.size := by omega
 refine SB (aR pc ?_)
 have M' := M.pU T.sa pc ok
 by_cases e : (i + 1 + 1 == a.size) = true
 ·rw [if_pos e]
  exact SJ ⟨gq, .inl ⟨_, rfl, M'.CH T.sa T.sb (by simpa using e) T.last⟩⟩
 ·rw [if_neg e]
  have e' : i + 1 + 1 ≠ a.size := by simpa using e
  have rest : MI rk a b (out.push a[i]) (i + 1) j /\ i + 1 + 1 < a.size /\ j < b.size /\ n < (out.push a[i]).size := ⟨M', by omega, hj, by rw [Us]; omega⟩
  split
  ·exact SJ ⟨gq, .inr ⟨rfl, rest⟩⟩
  ·exact SJ ⟨gq, rfl, rest⟩
theorem nC (l : List Keyed) (i n : Nat) (h : n = l.length - i) : (l.drop i).take n = l.drop i := SF (by rw [U3]; omega)
theorem Dk {out : Array Keyed} {i j g ca cb n : Nat} {st : SortSt} (hc : mH prog w A E s rk S kd) (T : pe rk S a b) (gq : Gq aH st) (kk : kindOf aH = kd) (M : MI rk a b out i j) (hi : i + 1 < a.size) (hj : j < b.size) (hn : n <= out.size) :
  wpS (model prog w) A E s (K4 a b out i j g ca cb) (E2 rk a b aH n) st := by
 unfold K4
 have pc : i < a.size := by omega
 have wd : (b.toList.drop j).take (b.size - j) = b.toList.drop j := nC _ _ _ (by simp)
 refine SB (aR pc (SB (jb hc (by omega) (by omega) T.Sb (T.wD pc) (gq.kind.trans kk) (by rw [wd]; exact T.sb.sublist (Up _ _)) fun k hk h1 h2 => ?_)))
 rw [wd, Ub] at h2
 have jq : ∀ y ∈ b.toList.drop (j + k), rk a[i] <= rk y := fun y hy => by
  have := h2 y hy
  unfold Pb at this
  simp only [T9] at this
  omega
 have cB : ∀ x ∈ (b.toList.drop j).take k, ∀ y ∈ a.toList.drop i, rk x <= rk y := fun x hx y hy => by
  have := h1 x hx
  unfold Pb at this
  simp only [T9] at this
  have := kR T.sa (i := i) (by simpa using pc) y hy
  simp at this
  omega
 dsimp only
 by_cases AE : k > 0
 ·rw [if_pos AE]
  have M' := M.sZ T.sb (k := k) (by omega) cB
  by_cases e : (j + k == b.size) = true
  ·rw [if_pos e]
   exact SJ ⟨gq, .inl ⟨_, rfl, M'.za T.sa T.sb (.inr (by simpa using e))⟩⟩
  ·rw [if_neg e]
   have e' : j + k ≠ b.size := by simpa using e
   exact wO T gq M' hi (by omega) (by rw [Ue]; omega) jq
 ·rw [if_neg AE]
  have : k = 0 := by omega
  subst this
  exact wO T gq M hi hj hn jq
theorem xh {out : Array Keyed} {i j g ca cb n : Nat} {st : SortSt} (hc : mH prog w A E s rk S kd) (T : pe rk S a b) (gq : Gq aH st) (kk : kindOf aH = kd) (M : MI rk a b out i j) (hi : i + 1 < a.size) (hj : j < b.size) (hn : n <= out.size) (ok : ∀ y ∈ a.toList.drop i, rk b[j] <= rk y) :
  wpS (model prog w) A E s (JO a b out i j g ca cb) (E2 rk a b aH n) st := by
 unfold JO
 refine SB (aR hj ?_)
 have M' := M.qy T.sb hj ok
 by_cases e : (j + 1 == b.size) = true
 ·rw [if_pos e]
  exact SJ ⟨gq, .inl ⟨_, rfl, M'.za T.sa T.sb (.inr (by simpa using e))⟩⟩
 ·rw [if_neg e]
  have e' : j + 1 ≠ b.size := by simpa using e
  exact Dk hc T gq kk M' hi (by omega) (by rw [Us]; omega)
theorem v9 {out : Array Keyed} {i j g ca cb n : Nat} {st : SortSt} (hc : mH prog w A E s rk S kd) (T : pe rk S a b) (gq : Gq aH st) (kk : kindOf aH = kd) (M : MI rk a b out i j) (hi : i + 1 < a.size) (hj : j < b.size) (hn : n <= out.size) :
  wpS (model prog w) A E s (Jp a b out i j g ca cb) (E2 rk a b aH n) st := by
 unfold Jp
 have wd : (a.toList.drop i).take (a.size - i) = a.toList.drop i := nC _ _ _ (by simp)
 refine SB (lF (SB (aR hj (SB (jb hc (by omega) (by omega) T.Sa (T.wJ hj) ((gq.set g).kind.trans kk) (by rw [wd]; exact T.sa.sublist (Up _ _)) fun k hk h1 h2 => ?_)))))
 have DN := gq.set g
 rw [wd, Ub] at h2
 have jq : ∀ y ∈ a.toList.drop (i + k), rk b[j] <= rk y := fun y hy => by
  have := h2 y hy
  unfold Pb at this
  simp only [SU, Tr] at this
  omega
 have cB : ∀ x ∈ (a.toList.drop i).take k, ∀ y ∈ b.toList.drop j, rk x <= rk y := fun x hx y hy => by
  have := h1 x hx
  unfold Pb at this
  simp only [SU, Tr] at this
  have := kR T.sb (i := j) (by simpa using hj) y hy
  simp at this
  omega
 dsimp only
 by_cases AE : k > 0
 ·rw [if_pos AE]
  have M' := M.sA T.sa (k := k) (by omega) cB
  by_cases e : (i + k + 1 == a.size) = true
  ·rw [if_pos e]
   exact SJ ⟨DN, .inl ⟨_, rfl, M'.CH T.sa T.sb (by simpa using e) T.last⟩⟩
  ·rw [if_neg e]
   have e' : i + k + 1 ≠ a.size := by simpa using e
   by_cases f : (i + k == a.size) = true
   ·rw [if_pos f]
    exact SJ ⟨DN, .inl ⟨_, rfl, M'.za T.sa T.sb (.inl (by simpa using f))⟩⟩
   ·rw [if_neg f]
    have f' : i + k ≠ a.size := by simpa using f
    exact xh hc T DN kk M' (by omega) hj (by rw [Ue]; omega) jq
 ·rw [if_neg AE]
  have : k = 0 := by omega
  subst this
  exact xh hc T DN kk M hi hj hn jq
theorem Dq {out : Array Keyed} {i j g ca cb n : Nat} {st : SortSt} (hc : mH prog w A E s rk S kd) (T : pe rk S a b) (gq : Gq aH st) (kk : kindOf aH = kd) (M : MI rk a b out i j) (hi : i + 1 < a.size) (hj : j < b.size) (hn : n <= out.size) :
  wpS (model prog w) A E s (Kq a b out i j g ca cb) (E2 rk a b aH n) st := by
 unfold Kq
 split
 ·exact v9 hc T gq kk M hi hj hn
 ·exact v9 hc T gq kk M hi hj hn
end
section
variable {prog : Program} {w : World} {A : Around} {E : Value -> Shared -> Prop} {s : Shared} {rk : Keyed -> Nat} {S : Keyed -> Prop} {kd : SortKind} {a b : Array Keyed} {aH : SortSt}
def On (rk : Keyed -> Nat) (a b : Array Keyed) (n : Nat) (out : Array Keyed) (i j : Nat) : Prop := MI rk a b out i j /\ i + 1 < a.size /\ j < b.size /\ n < out.size
theorem BW {out : Array Keyed} {i j g n : Nat} {st : SortSt} (hc : mH prog w A E s rk S kd) (T : pe rk S a b) (gq : Gq aH st) (kk : kindOf aH = kd) (M : MI rk a b out i j) (hi : i + 1 < a.size) (hj : j < b.size) (hn : n <= out.size) :
  wpS (model prog w) A E s (JS a b out i j g) (fun r ax => Gq aH ax /\ match r with | .done c => ∃ z, c.1 = some z /\ Res rk a b z | .yield c => c.1 = none /\ On rk a b n c.2.1 c.2.2.1 c.2.2.2.1) st := by
 unfold JS
 refine SB (Ua (TJ (I := fun x (c : L1) ax => Gq aH ax /\ c.1 = none /\ MI rk a b c.2.1 c.2.2.1 c.2.2.2.1 /\ c.2.2.1 + 1 < a.size /\ c.2.2.2.1 < b.size /\ n + min x 1 <= c.2.1.size)
  (Q := fun (c : L1) ax => Gq aH ax /\ ((∃ z, c.1 = some z /\ Res rk a b z) \/ (c.1 = none /\ On rk a b n c.2.1 c.2.2.1 c.2.2.2.1))) ?step ?fin ⟨gq, rfl, M, hi, hj, by simpa using hn⟩) ?post)
 case fin =>
  rintro c ax ⟨h1, h2, h3, h4, h5, h6⟩
  exact ⟨h1, .inr ⟨h2, h3, h4, h5, by omega⟩⟩
 case step =>
  rintro x c ax _ hx ⟨h1, h2, h3, h4, h5, h6⟩
  refine Ua (De hc T h1 kk h3 h4 h5 (Ss _)) fun r bh hr => ?_
  obtain ⟨g1, g2⟩ := hr
  cases r with
  | done d =>
   rcases g2 with z | ⟨z1, z2, z3, z4, z5⟩
   ·exact ⟨g1, .inl z⟩
   ·exact ⟨g1, .inr ⟨z1, z2, z3, z4, by omega⟩⟩
  | yield d =>
   obtain ⟨z1, z2, z3, z4, z5⟩ := g2
   exact ⟨g1, z1, z2, z3, z4, by omega⟩
 case post =>
  rintro ⟨c1, out, i, j, ca, cb⟩ ax ⟨g1, h⟩
  rcases h with ⟨z, hz, hr⟩ | ⟨hz, h1, h2, h3, h4⟩
  ·have mL : c1 = some z := hz
   subst mL
   exact SJ ⟨g1, z, rfl, hr⟩
  ·have mL : c1 = none := hz
   subst mL
   dsimp only
   refine SB (wpS_lift (Ug ⟨rfl, ?_⟩))
   refine SB (Ua (TJ (I := fun x (c : L2) ax => Gq aH ax /\ c.1 = none /\ On rk a b n c.2.1 c.2.2.1 c.2.2.2.1)
    (Q := fun (c : L2) ax => Gq aH ax /\ ((∃ z, c.1 = some z /\ Res rk a b z) \/ (c.1 = none /\ On rk a b n c.2.1 c.2.2.1 c.2.2.2.1))) ?zg (fun c ax h => ⟨h.1, .inr h.2⟩) ⟨g1, rfl, h1, h2, h3, h4⟩) ?Bc)
   case zg =>
    rintro x c bh _ hx ⟨h1, h2, h3, h4, h5, h6⟩
    refine Ua (Dq hc T h1 kk h3 h4 h5 (Ss _)) fun r DQ hr => ?_
    obtain ⟨g1, g2⟩ := hr
    cases r with
    | done d =>
     rcases g2 with z | ⟨z1, z2, z3, z4, z5⟩
     ·exact ⟨g1, .inl z⟩
     ·exact ⟨g1, .inr ⟨z1, z2, z3, z4, by omega⟩⟩
    | yield d =>
     obtain ⟨z1, z2, z3, z4, z5⟩ := g2
     exact ⟨g1, z1, z2, z3, z4, by omega⟩
   case Bc =>
    rintro ⟨c1, out, i, j, g, ca, cb⟩ bh ⟨g1, h⟩
    rcases h with ⟨z, hz, hr⟩ | ⟨hz, h1⟩
    ·have mL : c1 = some z := hz
     subst mL
     exact SJ ⟨g1, z, rfl, hr⟩
    ·have mL : c1 = none := hz
     subst mL
     exact SB (lF (SJ ⟨g1.set _, rfl, h1⟩))
theorem MI.zero (rk : Keyed -> Nat) (a b : Array Keyed) : MI rk a b #[] 0 0 := ⟨S4 _, S4 _, rfl, by simp, .nil, fun x hx => by simp at hx, fun x hx => by simp at hx⟩
theorem BA {st : SortSt} {Q : Array Keyed -> SortSt -> Prop} (hc : mH prog w A E s rk S kd) (T : pe rk S a b) (ha : 1 <= a.size) (hb : 1 <= b.size) (kk : kindOf st = kd) (h : ∀ r ax, Gq st ax -> Res rk a b r -> Q r ax) :
  wpS (model prog w) A E s (JR a b) Q st := by
 rw [BQ]
 refine SB (wpS_lift (Ug ⟨rfl, ?_⟩))
 refine SB (aR hb ?_)
 have e0 : b.toList[0]? = some b[0] := by rw [Sw (show 0 < b.toList.length by rw [SA]; omega)]; simp
 have M : MI rk a b #[b[0]] 0 1 := (MI.zero rk a b).qy T.sb hb fun y hy => T.first y (List.mem_of_mem_drop hy) _ e0
 by_cases e : (1 == b.size) = true
 ·rw [if_pos e]
  exact SJ (h _ _ (Gq.refl st) (M.za T.sa T.sb (.inr (by simpa using e))))
 rw [if_neg e]
 have e' : 1 ≠ b.size := by simpa using e
 by_cases f : (0 + 1 == a.size) = true
 ·rw [if_pos f]
  exact SJ (h _ _ (Gq.refl st) (M.CH T.sa T.sb (by simpa using f) T.last))
 rw [if_neg f]
 have f' : 0 + 1 ≠ a.size := by simpa using f
 refine SB (wpS_get ?_)
 refine SB (Ua (TJ (I := fun x (c : L3) ax => Gq st ax /\ c.1 = none /\ On rk a b x c.2.1 c.2.2.1 c.2.2.2.1)
  (Q := fun (c : L3) ax => Gq st ax /\ ∃ z, c.1 = some z /\ Res rk a b z) ?step ?fin ⟨Gq.refl st, rfl, M, (by show 0 + 1 < a.size; omega), (by show 1 < b.size; omega), by show 0 < 1; decide⟩) ?post)
 case fin =>
  rintro c ax ⟨h1, h2, h3, h4, h5, h6⟩
  have := h3.sz
  omega
 case step =>
  rintro x c ax _ hx ⟨h1, h2, h3, h4, h5, h6⟩
  refine Ua (BW hc T h1 kk h3 h4 h5 (Ss _)) fun r bh hr => ?_
  obtain ⟨g1, g2⟩ := hr
  cases r with
  | done d => exact ⟨g1, g2⟩
  | yield d =>
   obtain ⟨z1, z2, z3, z4, z5⟩ := g2
   exact ⟨g1, z1, z2, z3, z4, by omega⟩
 case post =>
  rintro ⟨c1, out, i, j, g⟩ ax ⟨g1, z, hz, hr⟩
  have mL : c1 = some z := hz
  subst mL
  exact SJ (h z ax g1 hr)
end
def IT : Array Keyed -> Array Keyed -> SM (Array Keyed) := sortPriv% PySem.Builtin.mergeHi
def hW (a b out : Array Keyed) (i j : Nat) : Array Keyed := a.extract 0 i ++ b.extract 0 j ++ out.reverse
def n9 (a b out : Array Keyed) (i j : Nat) : Array Keyed := b.extract 0 j ++ a.extract 0 i ++ out.reverse
abbrev H1 := Option (Array Keyed) × Nat × Nat × Array Keyed × Nat × Nat
abbrev H2 := Option (Array Keyed) × Nat × Nat × Array Keyed × Nat × Nat × Nat
abbrev H3 := Option (Array Keyed) × Nat × Nat × Array Keyed × Nat
theorem Fi (a b : Array Keyed) : IT a b = (do
  rule "list.sort.merge-hi"
  let tt := a.size + b.size
  let mut i := a.size - 1
  let mut j := b.size
  let mut out : Array Keyed := #[<- elem' a i]
  if i == 0 then return hW a b out i j
  if j == 1 then return n9 a b out i j
  let mut g := gallopOf (<- get)
  for _ in [0:tt] do
   let mut ca := 0
   let mut cb := 0
   for _ in [0:tt] do
    let some aw <- lt' (<- elem' b (j - 1)) (<- elem' a (i - 1)) | return hW a b out i j
    if aw then
     i := i - 1; out := out.push (<- elem' a i); ca := ca + 1; cb := 0
     if i == 0 then return hW a b out i j
     if ca >= g then break
    else
     j := j - 1; out := out.push (<- elem' b j); cb := cb + 1; ca := 0
     if j == 1 then return n9 a b out i j
     if cb >= g then break
   rule "list.sort.gallop"
   g := g + 1
   for _ in [0:tt] do
    if g > 1 then g := g - 1
    rp g
    let some qd <- yD false (<- elem' b (j - 1)) a 0 i (i - 1) | return hW a b out i j
    let k := i - qd
    ca := k
    if k > 0 then
     out := out ++ (a.extract qd i).reverse; i := qd
     if i == 0 then return hW a b out i j
    j := j - 1; out := out.push (<- elem' b j)
    if j == 1 then return n9 a b out i j
    let some at2 <- yD true (<- elem' a (i - 1)) b 0 j (j - 1) | return hW a b out i j
    let k := j - at2
    cb := k
    if k > 0 then
     out := out ++ (b.extract at2 j).reverse; j := at2
     if j == 1 then return n9 a b out i j
     if j == 0 then return hW a b out i j
    i := i - 1; out := out.push (<- elem' a i)
    if i == 0 then return hW a b out i j
    if ca < 7 && cb < 7 then break
   g := g + 1
   rp g
  unsupported "internal:list.sort.merge-bound") := rfl
def KD (a b : Array Keyed) (g i j : Nat) (out : Array Keyed) (ca cb : Nat) : SM (ForInStep H1) := do
 let x <- elem' b (j - 1)
 let y <- elem' a (i - 1)
 match <- lt' x y with
 | some aw =>
  if aw = true then do
   let z <- elem' a (i - 1)
   if (i - 1 == 0) = true then pure (.done (some (hW a b (out.push z) (i - 1) j), i - 1, j, out.push z, ca + 1, 0))
   else if ca + 1 >= g then pure (.done (none, i - 1, j, out.push z, ca + 1, 0))
   else pure (.yield (none, i - 1, j, out.push z, ca + 1, 0))
  else do
   let z <- elem' b (j - 1)
   if (j - 1 == 1) = true then pure (.done (some (n9 a b (out.push z) i (j - 1)), i, j - 1, out.push z, 0, cb + 1))
   else if cb + 1 >= g then pure (.done (none, i, j - 1, out.push z, 0, cb + 1))
   else pure (.yield (none, i, j - 1, out.push z, 0, cb + 1))
 | _ => pure (.done (some (hW a b out i j), i, j, out, ca, cb))
def Jz (a b : Array Keyed) (i j : Nat) (out : Array Keyed) (g ca cb : Nat) : SM (ForInStep H2) := do
 let x <- elem' a (i - 1)
 if (i - 1 == 0) = true then pure (.done (some (hW a b (out.push x) (i - 1) j), i - 1, j, out.push x, g, ca, cb))
 else if (decide (ca < 7) && decide (cb < 7)) = true then pure (.done (none, i - 1, j, out.push x, g, ca, cb))
 else pure (.yield (none, i - 1, j, out.push x, g, ca, cb))
def K3 (a b : Array Keyed) (i j : Nat) (out : Array Keyed) (g ca cb : Nat) : SM (ForInStep H2) := do
 let x <- elem' a (i - 1)
 match <- yD true x b 0 j (j - 1) with
 | some t =>
  if j - t > 0 then
   if (t == 1) = true then pure (.done (some (n9 a b (out ++ (b.extract t j).reverse) i t), i, t, out ++ (b.extract t j).reverse, g, ca, j - t))
   else if (t == 0) = true then pure (.done (some (hW a b (out ++ (b.extract t j).reverse) i t), i, t, out ++ (b.extract t j).reverse, g, ca, j - t))
   else Jz a b i t (out ++ (b.extract t j).reverse) g ca (j - t)
  else Jz a b i j out g ca (j - t)
 | _ => pure (.done (some (hW a b out i j), i, j, out, g, ca, cb))
def JC (a b : Array Keyed) (i j : Nat) (out : Array Keyed) (g ca cb : Nat) : SM (ForInStep H2) := do
 let x <- elem' b (j - 1)
 if (j - 1 == 1) = true then pure (.done (some (n9 a b (out.push x) i (j - 1)), i, j - 1, out.push x, g, ca, cb))
 else K3 a b i (j - 1) (out.push x) g ca cb
def IZ (a b : Array Keyed) (i j : Nat) (out : Array Keyed) (g ca cb : Nat) : SM (ForInStep H2) := do
 rp g
 let x <- elem' b (j - 1)
 match <- yD false x a 0 i (i - 1) with
 | some t =>
  if i - t > 0 then
   if (t == 0) = true then pure (.done (some (hW a b (out ++ (a.extract t i).reverse) t j), t, j, out ++ (a.extract t i).reverse, g, i - t, cb))
   else JC a b t j (out ++ (a.extract t i).reverse) g (i - t) cb
  else JC a b i j out g (i - t) cb
 | _ => pure (.done (some (hW a b out i j), i, j, out, g, ca, cb))
def EW (a b : Array Keyed) (i j : Nat) (out : Array Keyed) (g ca cb : Nat) : SM (ForInStep H2) := if g > 1 then IZ a b i j out (g - 1) ca cb else IZ a b i j out g ca cb
def Jx (a b : Array Keyed) (i j : Nat) (out : Array Keyed) (g : Nat) : SM (ForInStep H3) := do
 let c <- forIn [0:a.size + b.size] ((none, i, j, out, 0, 0) : H1) fun _ c => KD a b g c.2.1 c.2.2.1 c.2.2.2.1 c.2.2.2.2.1 c.2.2.2.2.2
 match c.1 with
 | some r => pure (.done (some r, c.2.1, c.2.2.1, c.2.2.2.1, g))
 | none => do
  rule "list.sort.gallop"
  let d <- forIn [0:a.size + b.size] ((none, c.2.1, c.2.2.1, c.2.2.2.1, g + 1, c.2.2.2.2.1, c.2.2.2.2.2) : H2) fun _ d => EW a b d.2.1 d.2.2.1 d.2.2.2.1 d.2.2.2.2.1 d.2.2.2.2.2.1 d.2.2.2.2.2.2
  match d.1 with
  | some r => pure (.done (some r, d.2.1, d.2.2.1, d.2.2.2.1, d.2.2.2.2.1))
  | none => do
   rp (d.2.2.2.2.1 + 1)
   pure (.yield (none, d.2.1, d.2.2.1, d.2.2.2.1, d.2.2.2.2.1 + 1))
theorem BM (a b : Array Keyed) : IT a b = (do
  rule "list.sort.merge-hi"
  let z <- elem' a (a.size - 1)
  if (a.size - 1 == 0) = true then pure (hW a b #[z] (a.size - 1) b.size)
  else if (b.size == 1) = true then pure (n9 a b #[z] (a.size - 1) b.size)
  else do
   let st <- get
   let c <- forIn [0:a.size + b.size] ((none, a.size - 1, b.size, #[z], gallopOf st) : H3) fun _ c => Jx a b c.2.1 c.2.2.1 c.2.2.2.1 c.2.2.2.2
   match c.1 with
   | some r => pure r
   | none => unsupported "internal:list.sort.merge-bound") := by
 rw [Fi]
 refine Tp fun _ => Tp fun z => ?_
 refine ite_congr rfl (fun _ => rfl) (fun _ => ?_)
 refine ite_congr rfl (fun _ => rfl) (fun _ => ?_)
 refine Tp fun st => ?_
 show (forIn _ _ _ >>= _) = (forIn _ _ _ >>= _)
 refine congr (TR _ ?_) ?_
 ·refine TR _ ?_
  funext x c
  rcases c with ⟨r, i, j, out, g⟩
  unfold Jx
  show (forIn _ _ _ >>= _) = (forIn _ _ _ >>= _)
  refine Tp fun d => ?_
  rcases d with ⟨_ | r, i, j, out, ca, cb⟩
  ·refine Tp fun _ => ?_
   show (forIn _ _ _ >>= _) = (forIn _ _ _ >>= _)
   refine Tp fun e => ?_
   rcases e with ⟨_ | r, i, j, out, g, ca, cb⟩
   ·rfl
   ·rfl
  ·rfl
 ·funext c
  rcases c with ⟨_ | r, i, j, out, g⟩
  ·rfl
  ·rfl
structure MH (rk : Keyed -> Nat) (a b out : Array Keyed) (i j : Nat) : Prop where
 hi : i <= a.size
 hj : j <= b.size
 sz : out.size + i + j = a.size + b.size
 p : (a.toList.take i ++ (b.toList.take j ++ out.toList.reverse)).Perm (a.toList ++ b.toList)
 s : eJ rk out.toList.reverse
 ua : ∀ x ∈ a.toList.take i, ∀ y ∈ out.toList, rk x <= rk y
 ub : ∀ x ∈ b.toList.take j, ∀ y ∈ out.toList, rk x <= rk y
section
variable {rk : Keyed -> Nat} {a b out : Array Keyed} {i j k t : Nat}
theorem oX (l : List Keyed) {t i : Nat} (h : t <= i) : l.take i = l.take t ++ (l.drop t).take (i - t) := by
 have e : i = t + (i - t) := by omega
 conv => lhs; rw [e, List.take_add]
theorem MH.sA (h : MH rk a b out i j) (sa : eJ rk a.toList) (ht : t <= i) (hy : ∀ x ∈ b.toList.take j, ∀ y ∈ (a.toList.drop t).take (i - t), rk x <= rk y) : MH rk a b (out ++ (a.extract t i).reverse) t j := by
 have e : (out ++ (a.extract t i).reverse).toList = out.toList ++ ((a.toList.drop t).take (i - t)).reverse := by rw [Tk, UX, bB]
 have er : (out ++ (a.extract t i).reverse).toList.reverse = (a.toList.drop t).take (i - t) ++ out.toList.reverse := by rw [e, List.reverse_append, List.reverse_reverse]
 have ed := oX a.toList ht
 have ss : eJ rk (a.toList.take t ++ (a.toList.drop t).take (i - t)) := by rw [<- ed]; exact sa.sublist (Ud _ _)
 have zD := SQ.mp ss
 have sz := h.sz
 have hi := h.hi
 refine ⟨by omega, h.hj, by rw [Ue, Array.size_reverse, UN]; omega, ?_, ?_, ?_, ?_⟩
 ·rw [er]
  refine List.Perm.trans ?_ h.p
  rw [ed, SK]
  refine Uw _ ?_
  rw [<- SK, <- SK]
  exact UO _ UR
 ·rw [er]
  refine SQ.mpr ⟨zD.2.1, h.s, fun x hx y fm => h.ua x ?_ y (by simpa using fm)⟩
  rw [ed]
  exact S8 _ hx
 ·intro x hx y fm
  rw [e] at fm
  rcases S0.mp fm with z | z
  ·exact h.ua x (by rw [ed]; exact T7 _ hx) y z
  ·exact zD.2.2 x hx y (by simpa using z)
 ·intro x hx y fm
  rw [e] at fm
  rcases S0.mp fm with z | z
  ·exact h.ub x hx y z
  ·exact hy x hx y (by simpa using z)
theorem MH.sZ (h : MH rk a b out i j) (sb : eJ rk b.toList) (ht : t <= j) (hy : ∀ x ∈ a.toList.take i, ∀ y ∈ (b.toList.drop t).take (j - t), rk x <= rk y) : MH rk a b (out ++ (b.extract t j).reverse) i t := by
 have e : (out ++ (b.extract t j).reverse).toList = out.toList ++ ((b.toList.drop t).take (j - t)).reverse := by rw [Tk, UX, bB]
 have er : (out ++ (b.extract t j).reverse).toList.reverse = (b.toList.drop t).take (j - t) ++ out.toList.reverse := by rw [e, List.reverse_append, List.reverse_reverse]
 have ed := oX b.toList ht
 have ss : eJ rk (b.toList.take t ++ (b.toList.drop t).take (j - t)) := by rw [<- ed]; exact sb.sublist (Ud _ _)
 have zD := SQ.mp ss
 have sz := h.sz
 have hj := h.hj
 refine ⟨h.hi, by omega, by rw [Ue, Array.size_reverse, UN]; omega, ?_, ?_, ?_, ?_⟩
 ·rw [er, <- SK (b.toList.take t), <- ed]
  exact h.p
 ·rw [er]
  refine SQ.mpr ⟨zD.2.1, h.s, fun x hx y fm => h.ub x ?_ y (by simpa using fm)⟩
  rw [ed]
  exact S8 _ hx
 ·intro x hx y fm
  rw [e] at fm
  rcases S0.mp fm with z | z
  ·exact h.ua x hx y z
  ·exact hy x hx y (by simpa using z)
 ·intro x hx y fm
  rw [e] at fm
  rcases S0.mp fm with z | z
  ·exact h.ub x (by rw [ed]; exact T7 _ hx) y z
  ·exact zD.2.2 x hx y (by simpa using z)
theorem tm {a out : Array Keyed} {i : Nat} (h0 : 0 < i) (h : i <= a.size) : out.push (a[i - 1]'(by omega)) = out ++ (a.extract (i - 1) i).reverse := by
 apply Array.toList_inj.mp
 rw [Array.toList_push, Tk, UX, bB, show i - (i - 1) = 1 by omega, take1 (l := a.toList) (by rw [SA]; omega)]
 simp
theorem MH.pU (h : MH rk a b out i j) (sa : eJ rk a.toList) (h0 : 0 < i) (hy : ∀ x ∈ b.toList.take j, rk x <= rk (a[i - 1]'(by have := h.hi; omega))) : MH rk a b (out.push (a[i - 1]'(by have := h.hi; omega))) (i - 1) j := by
 have hi := h.hi
 rw [tm h0 hi]
 refine h.sA sa (by omega) fun x hx y fm => ?_
 rw [show i - (i - 1) = 1 by omega, take1 (l := a.toList) (by rw [SA]; omega)] at fm
 rw [S7.mp fm]
 simpa using hy x hx
theorem MH.qy (h : MH rk a b out i j) (sb : eJ rk b.toList) (h0 : 0 < j) (hy : ∀ x ∈ a.toList.take i, rk x <= rk (b[j - 1]'(by have := h.hj; omega))) : MH rk a b (out.push (b[j - 1]'(by have := h.hj; omega))) i (j - 1) := by
 have hj := h.hj
 rw [tm h0 hj]
 refine h.sZ sb (by omega) fun x hx y fm => ?_
 rw [show j - (j - 1) = 1 by omega, take1 (l := b.toList) (by rw [SA]; omega)] at fm
 rw [S7.mp fm]
 simpa using hy x hx
theorem qo (a b out : Array Keyed) (i j : Nat) : (hW a b out i j).toList = a.toList.take i ++ (b.toList.take j ++ out.toList.reverse) := by
 unfold hW
 rw [Tk, Tk, bB, bB, UX, SK]
 simp
theorem pV (a b out : Array Keyed) (i j : Nat) : (n9 a b out i j).toList = b.toList.take j ++ (a.toList.take i ++ out.toList.reverse) := by
 unfold n9
 rw [Tk, Tk, bB, bB, UX, SK]
 simp
theorem MH.AR (h : MH rk a b out i j) (sa : eJ rk a.toList) (sb : eJ rk b.toList) (e : i = 0 \/ j = 0) : Res rk a b (hW a b out i j) := by
 refine ⟨by rw [qo]; exact h.p, ?_⟩
 rw [qo]
 refine SQ.mpr ⟨sa.sublist (Ud _ _), SQ.mpr ⟨sb.sublist (Ud _ _), h.s, fun x hx y hy => h.ub x hx y (by simpa using hy)⟩, fun x hx y hy => ?_⟩
 rcases S0.mp hy with z | z
 ·rcases e with e | e
  ·rw [e] at hx; simp at hx
  ·rw [e] at z; simp at z
 ·exact h.ua x hx y (by simpa using z)
theorem MH.Dl (h : MH rk a b out i j) (sa : eJ rk a.toList) (sb : eJ rk b.toList) (e : j = 1) (first : ∀ y ∈ a.toList, ∀ x, b.toList[0]? = some x -> rk x <= rk y) : Res rk a b (n9 a b out i j) := by
 have hj := h.hj
 refine ⟨?_, ?_⟩
 ·rw [pV]
  refine List.Perm.trans ?_ h.p
  rw [<- SK, <- SK]
  exact UO _ UR
 ·rw [pV]
  refine SQ.mpr ⟨sb.sublist (Ud _ _), SQ.mpr ⟨sa.sublist (Ud _ _), h.s, fun x hx y hy => h.ua x hx y (by simpa using hy)⟩, fun x hx y hy => ?_⟩
  have LY : b.toList[0]? = some x := by
   rw [e] at hx
   cases hb : b.toList with
   | nil => rw [hb] at hx; simp at hx
   | cons z r => rw [hb] at hx; simp at hx; rw [hx]; rfl
  rcases S0.mp hy with z | z
  ·exact first y (T6 z) x LY
  ·exact h.ub x hx y (by simpa using z)
theorem kh {l : List Keyed} (h : eJ rk l) {i : Nat} (h0 : 0 < i) (hi : i <= l.length) : ∀ y ∈ l.take i, rk y <= rk (l[i - 1]'(by omega)) := fun y hy => by
 obtain ⟨m, hm, rfl⟩ := TU.mp hy
 have D6 : m < i := by rw [SS] at hm; omega
 rw [UU]
 exact g6 h (by omega) _
end
section
variable {prog : Program} {w : World} {A : Around} {E : Value -> Shared -> Prop} {s : Shared} {rk : Keyed -> Nat} {S : Keyed -> Prop} {kd : SortKind} {a b : Array Keyed} {aH : SortSt}
def yV (rk : Keyed -> Nat) (a b : Array Keyed) (n i j : Nat) (out : Array Keyed) : Prop := MH rk a b out i j /\ 0 < i /\ 1 < j /\ n < out.size
def F1 (rk : Keyed -> Nat) (a b : Array Keyed) (aH : SortSt) (n : Nat) (r : ForInStep H1) (ax : SortSt) : Prop := Gq aH ax /\ match r with
 | .done c => (∃ z, c.1 = some z /\ Res rk a b z) \/ (c.1 = none /\ yV rk a b n c.2.1 c.2.2.1 c.2.2.2.1)
 | .yield c => c.1 = none /\ yV rk a b n c.2.1 c.2.2.1 c.2.2.2.1
def F2 (rk : Keyed -> Nat) (a b : Array Keyed) (aH : SortSt) (n : Nat) (r : ForInStep H2) (ax : SortSt) : Prop := Gq aH ax /\ match r with
 | .done c => (∃ z, c.1 = some z /\ Res rk a b z) \/ (c.1 = none /\ yV rk a b n c.2.1 c.2.2.1 c.2.2.2.1)
 | .yield c => c.1 = none /\ yV rk a b n c.2.1 c.2.2.1 c.2.2.2.1
theorem C1 {out : Array Keyed} {g i j ca cb n : Nat} {st : SortSt} (hc : mH prog w A E s rk S kd) (T : pe rk S a b) (gq : Gq aH st) (kk : kindOf aH = kd) (M : MH rk a b out i j) (h0 : 0 < i) (h1 : 1 < j) (hn : n <= out.size) :
  wpS (model prog w) A E s (KD a b g i j out ca cb) (F1 rk a b aH n) st := by
 unfold KD
 have hi := M.hi
 have hj := M.hj
 have qi : i - 1 < a.size := by omega
 have qj : j - 1 < b.size := by omega
 refine SB (aR qj (SB (aR qi (SB (hc _ _ st _ (T.wJ qj) (T.wD qi) (gq.kind.trans kk) ?_)))))
 dsimp only
 by_cases hb : rk b[j - 1] < rk a[i - 1]
 ·rw [SE hb, if_pos rfl]
  refine SB (aR qi ?_)
  have M' := M.pU T.sa h0 fun x hx => by
   have := kh T.sb (i := j) (by omega) (by simpa using hj) x hx
   simp at this
   omega
  by_cases e : (i - 1 == 0) = true
  ·rw [if_pos e]
   exact SJ ⟨gq, .inl ⟨_, rfl, M'.AR T.sa T.sb (.inl (by simpa using e))⟩⟩
  ·rw [if_neg e]
   have e' : i - 1 ≠ 0 := by simpa using e
   have rest : yV rk a b n (i - 1) j (out.push a[i - 1]) := ⟨M', by omega, h1, by rw [Us]; omega⟩
   split
   ·exact SJ ⟨gq, .inr ⟨rfl, rest⟩⟩
   ·exact SJ ⟨gq, rfl, rest⟩
 ·rw [SW hb, if_neg Sy]
  refine SB (aR qj ?_)
  have M' := M.qy T.sb (by omega) fun x hx => by
   have := kh T.sa (i := i) h0 (by simpa using hi) x hx
   simp at this
   omega
  by_cases e : (j - 1 == 1) = true
  ·rw [if_pos e]
   exact SJ ⟨gq, .inl ⟨_, rfl, M'.Dl T.sa T.sb (by simpa using e) T.first⟩⟩
  ·rw [if_neg e]
   have e' : j - 1 ≠ 1 := by simpa using e
   have rest : yV rk a b n i (j - 1) (out.push b[j - 1]) := ⟨M', h0, by omega, by rw [Us]; omega⟩
   split
   ·exact SJ ⟨gq, .inr ⟨rfl, rest⟩⟩
   ·exact SJ ⟨gq, rfl, rest⟩
theorem wF {out : Array Keyed} {i j g ca cb n : Nat} {st : SortSt} (T : pe rk S a b) (gq : Gq aH st) (M : MH rk a b out i j) (h0 : 0 < i) (h1 : 1 < j) (hn : n <= out.size) (ok : ∀ x ∈ b.toList.take j, rk x <= rk (a[i - 1]'(by have := M.hi; omega))) :
  wpS (model prog w) A E s (Jz a b i j out g ca cb) (F2 rk a b aH n) st := by
 unfold Jz
 have hi := M.hi
 have qi : i - 1 < a.size := by omega
 refine SB (aR qi ?_)
 have M' := M.pU T.sa h0 ok
 by_cases e : (i - 1 == 0) = true
 ·rw [if_pos e]
  exact SJ ⟨gq, .inl ⟨_, rfl, M'.AR T.sa T.sb (.inl (by simpa using e))⟩⟩
 ·rw [if_neg e]
  have e' : i - 1 ≠ 0 := by simpa using e
  have rest : yV rk a b n (i - 1) j (out.push a[i - 1]) := ⟨M', by omega, h1, by rw [Us]; omega⟩
  split
  ·exact SJ ⟨gq, .inr ⟨rfl, rest⟩⟩
  ·exact SJ ⟨gq, rfl, rest⟩
theorem tV (l : List Keyed) (t i : Nat) : ((l.drop 0).take i).drop t = (l.drop t).take (i - t) := by rw [List.drop_zero, List.drop_take]
theorem C9 {out : Array Keyed} {i j g ca cb n : Nat} {st : SortSt} (hc : mH prog w A E s rk S kd) (T : pe rk S a b) (gq : Gq aH st) (kk : kindOf aH = kd) (M : MH rk a b out i j) (h0 : 0 < i) (h1 : 1 < j) (hn : n <= out.size) :
  wpS (model prog w) A E s (K3 a b i j out g ca cb) (F2 rk a b aH n) st := by
 unfold K3
 have hi := M.hi
 have hj := M.hj
 have qi : i - 1 < a.size := by omega
 refine SB (aR qi (SB (jb hc (by omega) (by omega) T.Sb (T.wD qi) (gq.kind.trans kk) (by rw [List.drop_zero]; exact T.sb.sublist (Ud _ _)) fun t ht g1 g2 => ?_)))
 rw [tV] at g2
 rw [List.drop_zero] at g1
 have CS : ∀ x ∈ b.toList.take t, rk x <= rk a[i - 1] := fun x hx => by
  have := g1 x hx
  unfold Pb at this
  simp only [T9] at this
  omega
 have IF : ∀ x ∈ a.toList.take i, ∀ y ∈ (b.toList.drop t).take (j - t), rk x <= rk y := fun x hx y hy => by
  have := g2 y hy
  unfold Pb at this
  simp only [T9] at this
  have := kh T.sa (i := i) h0 (by simpa using hi) x hx
  simp at this
  omega
 dsimp only
 by_cases AE : j - t > 0
 ·rw [if_pos AE]
  have M' := M.sZ T.sb ht IF
  by_cases e : (t == 1) = true
  ·rw [if_pos e]
   exact SJ ⟨gq, .inl ⟨_, rfl, M'.Dl T.sa T.sb (by simpa using e) T.first⟩⟩
  ·rw [if_neg e]
   have e' : t ≠ 1 := by simpa using e
   by_cases f : (t == 0) = true
   ·rw [if_pos f]
    exact SJ ⟨gq, .inl ⟨_, rfl, M'.AR T.sa T.sb (.inr (by simpa using f))⟩⟩
   ·rw [if_neg f]
    have f' : t ≠ 0 := by simpa using f
    exact wF T gq M' h0 (by omega) (by rw [Ue]; omega) CS
 ·rw [if_neg AE]
  have : t = j := by omega
  subst this
  exact wF T gq M h0 h1 hn CS
theorem wM {out : Array Keyed} {i j g ca cb n : Nat} {st : SortSt} (hc : mH prog w A E s rk S kd) (T : pe rk S a b) (gq : Gq aH st) (kk : kindOf aH = kd) (M : MH rk a b out i j) (h0 : 0 < i) (h1 : 1 < j) (hn : n <= out.size) (ok : ∀ x ∈ a.toList.take i, rk x <= rk (b[j - 1]'(by have := M.hj; omega))) :
  wpS (model prog w) A E s (JC a b i j out g ca cb) (F2 rk a b aH n) st := by
 unfold JC
 have hj := M.hj
 have qj : j - 1 < b.size := by omega
 refine SB (aR qj ?_)
 have M' := M.qy T.sb (by omega) ok
 by_cases e : (j - 1 == 1) = true
 ·rw [if_pos e]
  exact SJ ⟨gq, .inl ⟨_, rfl, M'.Dl T.sa T.sb (by simpa using e) T.first⟩⟩
 ·rw [if_neg e]
  have e' : j - 1 ≠ 1 := by simpa using e
  exact C9 hc T gq kk M' h0 (by omega) (by rw [Us]; omega)
theorem xg {out : Array Keyed} {i j g ca cb n : Nat} {st : SortSt} (hc : mH prog w A E s rk S kd) (T : pe rk S a b) (gq : Gq aH st) (kk : kindOf aH = kd) (M : MH rk a b out i j) (h0 : 0 < i) (h1 : 1 < j) (hn : n <= out.size) :
  wpS (model prog w) A E s (IZ a b i j out g ca cb) (F2 rk a b aH n) st := by
 unfold IZ
 have hi := M.hi
 have hj := M.hj
 have qj : j - 1 < b.size := by omega
 refine SB (lF (SB (aR qj (SB (jb hc (by omega) (by omega) T.Sa (T.wJ qj) ((gq.set g).kind.trans kk) (by rw [List.drop_zero]; exact T.sa.sublist (Ud _ _)) fun t ht g1 g2 => ?_)))))
 have DN := gq.set g
 rw [tV] at g2
 rw [List.drop_zero] at g1
 have CS : ∀ x ∈ a.toList.take t, rk x <= rk b[j - 1] := fun x hx => by
  have := g1 x hx
  unfold Pb at this
  simpa using this
 have IF : ∀ x ∈ b.toList.take j, ∀ y ∈ (a.toList.drop t).take (i - t), rk x <= rk y := fun x hx y hy => by
  have := g2 y hy
  unfold Pb at this
  simp only [SU, Tr] at this
  have := kh T.sb (i := j) (by omega) (by simpa using hj) x hx
  simp at this
  omega
 dsimp only
 by_cases AE : i - t > 0
 ·rw [if_pos AE]
  have M' := M.sA T.sa ht IF
  by_cases e : (t == 0) = true
  ·rw [if_pos e]
   exact SJ ⟨DN, .inl ⟨_, rfl, M'.AR T.sa T.sb (.inl (by simpa using e))⟩⟩
  ·rw [if_neg e]
   have e' : t ≠ 0 := by simpa using e
   exact wM hc T DN kk M' (by omega) h1 (by rw [Ue]; omega) CS
 ·rw [if_neg AE]
  have : t = i := by omega
  subst this
  exact wM hc T DN kk M h0 h1 hn CS
theorem Ct {out : Array Keyed} {i j g ca cb n : Nat} {st : SortSt} (hc : mH prog w A E s rk S kd) (T : pe rk S a b) (gq : Gq aH st) (kk : kindOf aH = kd) (M : MH rk a b out i j) (h0 : 0 < i) (h1 : 1 < j) (hn : n <= out.size) :
  wpS (model prog w) A E s (EW a b i j out g ca cb) (F2 rk a b aH n) st := by
 unfold EW
 split
 ·exact xg hc T gq kk M h0 h1 hn
 ·exact xg hc T gq kk M h0 h1 hn
theorem Cy {out : Array Keyed} {i j g n : Nat} {st : SortSt} (hc : mH prog w A E s rk S kd) (T : pe rk S a b) (gq : Gq aH st) (kk : kindOf aH = kd) (M : MH rk a b out i j) (h0 : 0 < i) (h1 : 1 < j) (hn : n <= out.size) :
  wpS (model prog w) A E s (Jx a b i j out g) (fun r ax => Gq aH ax /\ match r with | .done c => ∃ z, c.1 = some z /\ Res rk a b z | .yield c => c.1 = none /\ yV rk a b n c.2.1 c.2.2.1 c.2.2.2.1) st := by
 unfold Jx
 have hi := M.hi
 have hj := M.hj
 refine SB (Ua (TJ (I := fun x (c : H1) ax => Gq aH ax /\ c.1 = none /\ MH rk a b c.2.2.2.1 c.2.1 c.2.2.1 /\ 0 < c.2.1 /\ 1 < c.2.2.1 /\ n + min x 1 <= c.2.2.2.1.size)
  (Q := fun (c : H1) ax => Gq aH ax /\ ((∃ z, c.1 = some z /\ Res rk a b z) \/ (c.1 = none /\ yV rk a b n c.2.1 c.2.2.1 c.2.2.2.1))) ?step ?fin ⟨gq, rfl, M, h0, h1, by simpa using hn⟩) ?post)
 case fin =>
  rintro c ax ⟨h1, h2, h3, h4, h5, h6⟩
  exact ⟨h1, .inr ⟨h2, h3, h4, h5, by omega⟩⟩
 case step =>
  rintro x c ax _ hx ⟨h1, h2, h3, h4, h5, h6⟩
  refine Ua (C1 hc T h1 kk h3 h4 h5 (Ss _)) fun r bh hr => ?_
  obtain ⟨g1, g2⟩ := hr
  cases r with
  | done d =>
   rcases g2 with z | ⟨z1, z2, z3, z4, z5⟩
   ·exact ⟨g1, .inl z⟩
   ·exact ⟨g1, .inr ⟨z1, z2, z3, z4, by omega⟩⟩
  | yield d =>
   obtain ⟨z1, z2, z3, z4, z5⟩ := g2
   exact ⟨g1, z1, z2, z3, z4, by omega⟩
 case post =>
  rintro ⟨c1, i, j, out, ca, cb⟩ ax ⟨g1, h⟩
  rcases h with ⟨z, hz, hr⟩ | ⟨hz, h1, h2, h3, h4⟩
  ·have mL : c1 = some z := hz
   subst mL
   exact SJ ⟨g1, z, rfl, hr⟩
  ·have mL : c1 = none := hz
   subst mL
   dsimp only
   refine SB (wpS_lift (Ug ⟨rfl, ?_⟩))
   refine SB (Ua (TJ (I := fun x (c : H2) ax => Gq aH ax /\ c.1 = none /\ yV rk a b n c.2.1 c.2.2.1 c.2.2.2.1)
    (Q := fun (c : H2) ax => Gq aH ax /\ ((∃ z, c.1 = some z /\ Res rk a b z) \/ (c.1 = none /\ yV rk a b n c.2.1 c.2.2.1 c.2.2.2.1))) ?zg (fun c ax h => ⟨h.1, .inr h.2⟩) ⟨g1, rfl, h1, h2, h3, h4⟩) ?Bc)
   case zg =>
    rintro x c bh _ hx ⟨h1, h2, h3, h4, h5, h6⟩
    refine Ua (Ct hc T h1 kk h3 h4 h5 (Ss _)) fun r DQ hr => ?_
    obtain ⟨g1, g2⟩ := hr
    cases r with
    | done d =>
     rcases g2 with z | ⟨z1, z2, z3, z4, z5⟩
     ·exact ⟨g1, .inl z⟩
     ·exact ⟨g1, .inr ⟨z1, z2, z3, z4, by omega⟩⟩
    | yield d =>
     obtain ⟨z1, z2, z3, z4, z5⟩ := g2
     exact ⟨g1, z1, z2, z3, z4, by omega⟩
   case Bc =>
    rintro ⟨c1, i, j, out, g, ca, cb⟩ bh ⟨g1, h⟩
    rcases h with ⟨z, hz, hr⟩ | ⟨hz, h1⟩
    ·have mL : c1 = some z := hz
     subst mL
     exact SJ ⟨g1, z, rfl, hr⟩
    ·have mL : c1 = none := hz
     subst mL
     exact SB (lF (SJ ⟨g1.set _, rfl, h1⟩))
theorem MH.zero (rk : Keyed -> Nat) (a b : Array Keyed) : MH rk a b #[] a.size b.size :=
 ⟨Ss _, Ss _, by simp, by rw [SF (by simp), SF (by simp)]; simp, by simp, fun x _ y hy => by simp at hy, fun x _ y hy => by simp at hy⟩
theorem BX {st : SortSt} {Q : Array Keyed -> SortSt -> Prop} (hc : mH prog w A E s rk S kd) (T : pe rk S a b) (ha : 1 <= a.size) (hb : 1 <= b.size) (kk : kindOf st = kd) (h : ∀ r ax, Gq st ax -> Res rk a b r -> Q r ax) :
  wpS (model prog w) A E s (IT a b) Q st := by
 rw [BM]
 refine SB (wpS_lift (Ug ⟨rfl, ?_⟩))
 have qa : a.size - 1 < a.size := by omega
 refine SB (aR qa ?_)
 have el : a.toList[a.size - 1]? = some a[a.size - 1] := by rw [Sw (show a.size - 1 < a.toList.length by rw [SA]; omega)]; simp
 have M : MH rk a b #[a[a.size - 1]] (a.size - 1) b.size := (MH.zero rk a b).pU T.sa ha fun x hx => T.last x (T6 hx) _ el
 by_cases e : (a.size - 1 == 0) = true
 ·rw [if_pos e]
  exact SJ (h _ _ (Gq.refl st) (M.AR T.sa T.sb (.inl (by simpa using e))))
 rw [if_neg e]
 have e' : a.size - 1 ≠ 0 := by simpa using e
 by_cases f : (b.size == 1) = true
 ·rw [if_pos f]
  exact SJ (h _ _ (Gq.refl st) (M.Dl T.sa T.sb (by simpa using f) T.first))
 rw [if_neg f]
 have f' : b.size ≠ 1 := by simpa using f
 refine SB (wpS_get ?_)
 refine SB (Ua (TJ (I := fun x (c : H3) ax => Gq st ax /\ c.1 = none /\ yV rk a b x c.2.1 c.2.2.1 c.2.2.2.1)
  (Q := fun (c : H3) ax => Gq st ax /\ ∃ z, c.1 = some z /\ Res rk a b z) ?step ?fin ⟨Gq.refl st, rfl, M, (by show 0 < a.size - 1; omega), (by show 1 < b.size; omega), by show 0 < 1; decide⟩) ?post)
 case fin =>
  rintro c ax ⟨h1, h2, h3, h4, h5, h6⟩
  have := h3.sz
  omega
 case step =>
  rintro x c ax _ hx ⟨h1, h2, h3, h4, h5, h6⟩
  refine Ua (Cy hc T h1 kk h3 h4 h5 (Ss _)) fun r bh hr => ?_
  obtain ⟨g1, g2⟩ := hr
  cases r with
  | done d => exact ⟨g1, g2⟩
  | yield d =>
   obtain ⟨z1, z2, z3, z4, z5⟩ := g2
   exact ⟨g1, z1, z2, z3, z4, by omega⟩
 case post =>
  rintro ⟨c1, i, j, out, g⟩ ax ⟨g1, z, hz, hr⟩
  have mL : c1 = some z := hz
  subst mL
  exact SJ (h z ax g1 hr)
end
abbrev sg (l : List Keyed) (lo n : Nat) : List Keyed := (l.drop lo).take n
def back (m : Array Keyed) (lo : Nat) (xs : Array Keyed) : Array Keyed := m.toList.zipIdx.foldl (fun a (p, j) => a.setIfInBounds (lo + j) p) xs
theorem Fp (i : Nat) : mergeAt' i = (do
  let s <- get
  let (some (sa, na, pw), some (sb, nb, _)) := ((pendingOf s)[i]?, (pendingOf s)[i + 1]?) | unsupported "internal:list.sort.pending"
  set (setPending s (((pendingOf s).setIfInBounds i (sa, na + nb, pw)).eraseIdxIfInBounds (i + 1)))
  let some k <- yD false (<- elem' (arrOf s) sb) (arrOf s) sa na 0 | return false
  let (sa, na) := (sa + k, na - k)
  if na == 0 then return true
  let some nb <- yD true (<- elem' (arrOf s) (sa + na - 1)) (arrOf s) sb nb (nb - 1) | return false
  if nb == 0 then return true
  let x := (arrOf s).extract sa sb
  let y := (arrOf s).extract sb (sb + nb)
  let m <- if na <= nb then JR x y else IT x y
  modify fun s => setArr s (back m sa (arrOf s))
  return (failedOf (<- get)).isNone) := rfl
theorem pZ (lo : Nat) : ∀ (l : List Keyed) (n : Nat) (xs : Array Keyed), lo + n + l.length <= xs.size -> ((l.zipIdx n).foldl (fun a (p : Keyed × Nat) => a.setIfInBounds (lo + p.2) p.1) xs).toList = xs.toList.take (lo + n) ++ l ++ xs.toList.drop (lo + n + l.length)
 | [], n, xs, h => by simp
 | p :: l, n, xs, h => by
  rw [To] at h
  rw [List.zipIdx_cons, Ux, pZ lo l (n + 1) _ (by rw [Array.size_setIfInBounds]; omega), Array.toList_setIfInBounds]
  have hl : lo + n < xs.toList.length := by rw [SA]; omega
  have e1 : (xs.toList.set (lo + n) p).take (lo + (n + 1)) = xs.toList.take (lo + n) ++ [p] := by
   rw [<- Nat.add_assoc, SV, List.take_set_of_le (Ss _), List.getElem?_set_self hl]
   rfl
  have e2 : (xs.toList.set (lo + n) p).drop (lo + (n + 1) + l.length) = xs.toList.drop (lo + n + (p :: l).length) := by
   rw [List.drop_set_of_lt (by omega), To]
   congr 1
   omega
  rw [e1, e2]
  simp
theorem yr (m : Array Keyed) (lo : Nat) (xs : Array Keyed) (h : lo + m.size <= xs.size) : (back m lo xs).toList = xs.toList.take lo ++ m.toList ++ xs.toList.drop (lo + m.size) := by
 have := pZ lo m.toList 0 xs (by simpa using h)
 simp at this
 unfold back
 rw [<- SK] at this
 exact this
theorem hU (l : List Keyed) (lo m n : Nat) : sg l lo (m + n) = sg l lo m ++ sg l (lo + m) n := by
 unfold sg
 rw [List.take_add, Ub]
theorem qP (l : List Keyed) (lo n : Nat) : l = l.take lo ++ sg l lo n ++ l.drop (lo + n) := by
 unfold sg
 rw [SK, <- Ub, Uv, Uv]
theorem wH (l : List Keyed) (lo k n : Nat) (h : k <= n) : (sg l lo n).drop k = sg l (lo + k) (n - k) := by
 unfold sg
 rw [List.drop_take, Ub]
theorem dW (l : List Keyed) (lo n : Nat) (h : lo + n <= l.length) : (sg l lo n).length = n := by
 unfold sg
 rw [SS, U3]
 omega
theorem jK (l : List Keyed) (lo n i : Nat) (h : i < n) : (sg l lo n)[i]? = l[lo + i]? := by
 unfold sg
 rw [List.getElem?_take, if_pos h, List.getElem?_drop]
theorem zK {l : List Keyed} {lo n : Nat} {x : Keyed} (h : x ∈ sg l lo n) : x ∈ l := List.mem_of_mem_drop (T6 h)
theorem C6 {rk : Keyed -> Nat} {l : List Keyed} {lo n : Nat} {y : Keyed} (s : eJ rk (sg l lo n)) (hy : l[lo]? = some y) (h : lo + n <= l.length) : ∀ x ∈ sg l lo n, rk y <= rk x := fun x hx => by
 obtain ⟨m, hm, e⟩ := TU.mp hx
 have h0 : 0 < (sg l lo n).length := by omega
 have g0 : (sg l lo n)[0]? = some y := by
  rw [jK _ _ _ _ (by rw [dW l lo n h] at h0; exact h0)]
  exact hy
 have := g6 s (S4 m) hm
 rw [Sw h0] at g0
 rw [Tw g0, e] at this
 exact this
theorem wX {rk : Keyed -> Nat} {l : List Keyed} {lo n : Nat} {y : Keyed} (s : eJ rk (sg l lo n)) (hn : 1 <= n) (hy : l[lo + n - 1]? = some y) (h : lo + n <= l.length) : ∀ x ∈ sg l lo n, rk x <= rk y := fun x hx => by
 obtain ⟨m, hm, e⟩ := TU.mp hx
 have len := dW l lo n h
 have h0 : n - 1 < (sg l lo n).length := by omega
 have g0 : (sg l lo n)[n - 1]? = some y := by
  rw [jK _ _ _ _ (by omega), show lo + (n - 1) = lo + n - 1 by omega]
  exact hy
 have := g6 s (show m <= n - 1 by omega) h0
 rw [Sw h0] at g0
 rw [Tw g0, e] at this
 exact this
section
variable {prog : Program} {w : World} {A : Around} {E : Value -> Shared -> Prop} {s : Shared} {rk : Keyed -> Nat} {S : Keyed -> Prop} {kd : SortKind}
theorem B7 {st ax : SortSt} {Q : PUnit -> SortSt -> Prop} (h : Q ⟨⟩ ax) : wpS (model prog w) A E s (set ax : SM PUnit) Q st := by
 unfold wpS
 exact So ⟨rfl, h⟩
theorem CQ {i sa na pw sb nb Gk : Nat} {st : SortSt} {Q : Bool -> SortSt -> Prop} (hc : mH prog w A E s rk S kd) (kk : kindOf st = kd) (hf : failedOf st = none) (hS : ∀ x ∈ (arrOf st).toList, S x)
  (p1 : (pendingOf st)[i]? = some (sa, na, pw)) (p2 : (pendingOf st)[i + 1]? = some (sb, nb, Gk)) (e : sb = sa + na) (n1 : 1 <= na) (n2 : 1 <= nb) (hsz : sb + nb <= (arrOf st).size)
  (s1 : eJ rk (sg (arrOf st).toList sa na)) (s2 : eJ rk (sg (arrOf st).toList sb nb))
  (h : ∀ ax (l : List Keyed), kindOf ax = kd -> failedOf ax = none -> pendingOf ax = ((pendingOf st).setIfInBounds i (sa, na + nb, pw)).eraseIdxIfInBounds (i + 1) -> l.Perm (sg (arrOf st).toList sa (na + nb)) -> eJ rk l ->
   (arrOf ax).toList = (arrOf st).toList.take sa ++ l ++ (arrOf st).toList.drop (sa + (na + nb)) -> Q true ax) : wpS (model prog w) A E s (mergeAt' i) Q st := by
 rw [Fp]
 refine SB (wpS_get ?_)
 rw [p1, p2]
 dsimp only
 refine SB (B7 ?_)
 have L : (arrOf st).toList.length = (arrOf st).size := SA
 have qb : sb < (arrOf st).size := by omega
 refine SB (aR qb (SB (jb hc (by omega) (by omega) hS (hS _ (by simp)) kk s1 fun k hk g1 g2 => ?_)))
 dsimp only
 have ky : (arrOf st).toList[sb]? = some (arrOf st)[sb] := by rw [Sw (by rw [L]; exact qb)]; simp
 generalize (arrOf st)[sb] = y0 at ky g1 g2
 have CS : ∀ x ∈ sg (arrOf st).toList sa k, rk x <= rk y0 := fun x hx => by
  have := g1 x hx
  unfold Pb at this
  simpa using this
 have IF : ∀ x ∈ sg (arrOf st).toList (sa + k) (na - k), rk y0 < rk x := fun x hx => by
  have := g2 x (by rw [wH _ _ _ _ hk]; exact hx)
  unfold Pb at this
  simpa using this
 have hd := C6 s2 ky (by rw [L]; omega)
 have eA : sg (arrOf st).toList sa na = sg (arrOf st).toList sa k ++ sg (arrOf st).toList (sa + k) (na - k) := by
  have := hU (arrOf st).toList sa k (na - k)
  rw [show k + (na - k) = na by omega] at this
  exact this
 have M4 : sg (arrOf st).toList sa (na + nb) = sg (arrOf st).toList sa na ++ sg (arrOf st).toList sb nb := by rw [hU, e]
 have whole : ∀ {ax : SortSt}, kindOf ax = kd -> failedOf ax = none -> pendingOf ax = ((pendingOf st).setIfInBounds i (sa, na + nb, pw)).eraseIdxIfInBounds (i + 1) -> arrOf ax = arrOf st -> (∀ x ∈ sg (arrOf st).toList sa na, ∀ y ∈ sg (arrOf st).toList sb nb, rk x <= rk y) -> Q true ax := fun {ax} a1 a2 a3 a4 a5 => by
  refine h ax (sg (arrOf st).toList sa (na + nb)) a1 a2 a3 (List.Perm.refl _) ?_ (by rw [a4]; exact qP _ _ _)
  rw [M4]
  exact SQ.mpr ⟨s1, s2, a5⟩
 by_cases hz : (na - k == 0) = true
 ·rw [if_pos hz]
  have mL : na - k = 0 := by simpa using hz
  have : k = na := by omega
  subst this
  exact SJ (whole kk hf rfl rfl fun x hx y hy => SD (CS x hx) (hd y hy))
 rw [if_neg hz]
 have mL : na - k ≠ 0 := by simpa using hz
 have qa : sa + k + (na - k) - 1 < (arrOf st).size := by omega
 refine SB (aR qa (SB (jb hc (by omega) (by omega) hS (hS _ (by simp)) kk s2 fun t ht g3 g4 => ?_)))
 dsimp only
 have kl : (arrOf st).toList[sa + k + (na - k) - 1]? = some (arrOf st)[sa + k + (na - k) - 1] := by rw [Sw (by rw [L]; exact qa)]; simp
 generalize (arrOf st)[sa + k + (na - k) - 1] = y1 at kl g3 g4
 have Pa : ∀ x ∈ sg (arrOf st).toList sb t, rk x < rk y1 := fun x hx => by
  have := g3 x hx
  unfold Pb at this
  simpa using this
 have MU : ∀ x ∈ sg (arrOf st).toList (sb + t) (nb - t), rk y1 <= rk x := fun x hx => by
  have := g4 x (by rw [wH _ _ _ _ ht]; exact hx)
  unfold Pb at this
  simpa using this
 have Mr := wX s1 n1 (by rw [show sa + na - 1 = sa + k + (na - k) - 1 by omega]; exact kl) (by rw [L]; omega)
 have eB : sg (arrOf st).toList sb nb = sg (arrOf st).toList sb t ++ sg (arrOf st).toList (sb + t) (nb - t) := by
  have := hU (arrOf st).toList sb t (nb - t)
  rw [show t + (nb - t) = nb by omega] at this
  exact this
 by_cases hy : (t == 0) = true
 ·rw [if_pos hy]
  have fm : t = 0 := by simpa using hy
  subst fm
  refine SJ (whole kk hf rfl rfl fun x hx y hy => SD (Mr x hx) (MU y ?_))
  simpa using hy
 rw [if_neg hy]
 have fm : t ≠ 0 := by simpa using hy
 have tX : ((arrOf st).extract (sa + k) sb).toList = sg (arrOf st).toList (sa + k) (na - k) := by rw [bB, show sb - (sa + k) = na - k by omega]
 have tY : ((arrOf st).extract sb (sb + t)).toList = sg (arrOf st).toList sb t := by rw [bB, Vh]
 have zX : ((arrOf st).extract (sa + k) sb).size = na - k := by rw [UN]; omega
 have zY : ((arrOf st).extract sb (sb + t)).size = t := by rw [UN]; omega
 have pA := SQ.mp (eA ▸ s1)
 have pB := SQ.mp (eB ▸ s2)
 have T : pe rk S ((arrOf st).extract (sa + k) sb) ((arrOf st).extract sb (sb + t)) := by
  refine ⟨by rw [tX]; exact pA.2.1, by rw [tY]; exact pB.1, fun x hx => hS x (zK (by rw [<- tX]; exact hx)), fun x hx => hS x (zK (by rw [<- tY]; exact hx)), fun y hy x hx => ?_, fun y hy x hx => ?_⟩
  ·rw [tX, zX, jK _ _ _ _ (by omega), show sa + k + (na - k - 1) = sa + k + (na - k) - 1 by omega, kl] at hx
   rw [<- Tw hx]
   exact U0 (Pa y (by rw [<- tY]; exact hy))
  ·rw [tY, jK _ _ _ _ (by omega), Nat.add_zero, ky] at hx
   rw [<- Tw hx]
   exact U0 (IF y (by rw [<- tX]; exact hy))
 have fin : ∀ (m : Array Keyed) (ax : SortSt), Gq (setPending st (((pendingOf st).setIfInBounds i (sa, na + nb, pw)).eraseIdxIfInBounds (i + 1))) ax -> Res rk ((arrOf st).extract (sa + k) sb) ((arrOf st).extract sb (sb + t)) m ->
   wpS (model prog w) A E s (do modify fun s => setArr s (back m (sa + k) (arrOf s)); return (failedOf (<- get)).isNone : SM Bool) Q ax := by
  rintro m ax ⟨g, rfl⟩ ⟨mp, ms⟩
  rw [tX, tY] at mp
  have zm : m.size = (na - k) + t := by
   have := mp.length_eq
   rw [SX, SA, dW _ _ _ (by rw [L]; omega), dW _ _ _ (by rw [L]; omega)] at this
   exact this
  refine SB (UV (SB (wpS_get (SJ ?_))))
  have K6 : (failedOf st).isNone = true := by rw [hf]; rfl
  show Q (failedOf st).isNone _
  rw [K6]
  refine h _ (sg (arrOf st).toList sa k ++ m.toList ++ sg (arrOf st).toList (sb + t) (nb - t)) kk hf rfl ?_ ?_ ?_
  ·rw [M4, eA, eB]
   refine List.Perm.trans (UO _ (Uw _ mp)) ?_
   simp
  ·refine SQ.mpr ⟨SQ.mpr ⟨pA.1, ms, fun x hx y hy => ?_⟩, pB.2.1, fun x hx y hy => ?_⟩
   ·rcases S0.mp (mp.mem_iff.mp hy) with z | z
    ·exact pA.2.2 x hx y z
    ·exact SD (CS x hx) (hd y (by rw [eB]; exact T7 _ z))
   ·rcases S0.mp hx with z | z
    ·exact SD (CS x z) (hd y (by rw [eB]; exact S8 _ hy))
    ·rcases S0.mp (mp.mem_iff.mp z) with z | z
     ·exact SD (Mr x (by rw [eA]; exact S8 _ z)) (MU y hy)
     ·exact pB.2.2 x z y hy
  ·show (back m (sa + k) (arrOf st)).toList = _
   rw [yr _ _ _ (by omega), zm]
   have c1 : (arrOf st).toList.take (sa + k) = (arrOf st).toList.take sa ++ sg (arrOf st).toList sa k := List.take_add
   have c2 : (arrOf st).toList.drop (sa + k + (na - k + t)) = sg (arrOf st).toList (sb + t) (nb - t) ++ (arrOf st).toList.drop (sa + (na + nb)) := by
    rw [show sa + k + (na - k + t) = sb + t by omega, show sa + (na + nb) = (sb + t) + (nb - t) by omega]
    unfold sg
    rw [<- Ub (i := nb - t), Uv]
   rw [c1, c2]
   simp
 split
 ·exact SB (BA hc T (by rw [zX]; omega) (by rw [zY]; omega) kk fin)
 ·exact SB (BX hc T (by rw [zX]; omega) (by rw [zY]; omega) kk fin)
end
def jt (xs ys : List Keyed) (lo n : Nat) : Prop := ∃ l : List Keyed, l.Perm (sg xs lo n) /\ ys = xs.take lo ++ l ++ xs.drop (lo + n)
theorem jt.refl (xs : List Keyed) (lo n : Nat) : jt xs xs lo n := ⟨_, List.Perm.refl _, qP xs lo n⟩
theorem jt.len {xs ys : List Keyed} {lo n : Nat} (h : jt xs ys lo n) : ys.length = xs.length := by
 obtain ⟨l, hp, e⟩ := h
 have h1 := TR List.length (qP xs lo n)
 rw [e, SX, SX, hp.length_eq]
 rw [SX, SX] at h1
 omega
theorem jt.perm {xs ys : List Keyed} {lo n : Nat} (h : jt xs ys lo n) : ys.Perm xs := by
 obtain ⟨l, hp, e⟩ := h
 rw [e]
 conv => rhs; rw [qP xs lo n]
 exact UO _ (Uw _ hp)
theorem jt.parts {xs ys l : List Keyed} {lo n : Nat} (hp : l.Perm (sg xs lo n)) (e : ys = xs.take lo ++ l ++ xs.drop (lo + n)) (h : lo + n <= xs.length) : ys.take lo = xs.take lo /\ sg ys lo n = l /\ ys.drop (lo + n) = xs.drop (lo + n) := by
 have l1 : (xs.take lo).length = lo := by rw [SS]; omega
 have l2 : l.length = n := by rw [hp.length_eq, dW xs lo n h]
 refine ⟨?_, ?_, ?_⟩
 ·rw [e, SK, List.take_left' l1]
 ·unfold sg
  rw [e, SK, List.drop_left' l1, List.take_left' l2]
 ·rw [e, <- Ub, SK, List.drop_left' l1, List.drop_left' l2]
theorem jt.ahead {xs ys : List Keyed} {lo n p m : Nat} (h : jt xs ys lo n) (hl : lo + n <= xs.length) (hp : p + m <= lo) : sg ys p m = sg xs p m := by
 obtain ⟨l, h1, e⟩ := h
 obtain ⟨e1, _, _⟩ := jt.parts h1 e hl
 have f : ∀ zs : List Keyed, sg zs p m = sg (zs.take lo) p m := fun zs => by
  unfold sg
  rw [List.drop_take, List.take_take, Nat.min_eq_left (by omega)]
 rw [f ys, f xs, e1]
theorem jt.behind {xs ys : List Keyed} {lo n p m : Nat} (h : jt xs ys lo n) (hl : lo + n <= xs.length) (hp : lo + n <= p) : sg ys p m = sg xs p m := by
 obtain ⟨l, h1, e⟩ := h
 obtain ⟨_, _, e3⟩ := jt.parts h1 e hl
 have f : ∀ zs : List Keyed, zs.drop p = (zs.drop (lo + n)).drop (p - (lo + n)) := fun zs => by rw [Ub]; congr 1; omega
 unfold sg
 rw [f ys, f xs, e3]
theorem jt.trans {xs ys zs : List Keyed} {lo n m : Nat} (h1 : jt xs ys lo n) (h2 : jt ys zs lo m) (RV : n <= m) (hl : lo + m <= xs.length) : jt xs zs lo m := by
 obtain ⟨l1, p1, e1⟩ := h1
 obtain ⟨l2, p2, e2⟩ := h2
 obtain ⟨a1, a2, a3⟩ := jt.parts p1 e1 (by omega)
 refine ⟨l2, p2.trans ?_, ?_⟩
 ·have b1 : sg ys lo m = sg ys lo n ++ sg ys (lo + n) (m - n) := by rw [<- hU, show n + (m - n) = m by omega]
  have b2 : sg xs lo m = sg xs lo n ++ sg xs (lo + n) (m - n) := by rw [<- hU, show n + (m - n) = m by omega]
  rw [b1, b2, a2]
  refine List.Perm.append p1 ?_
  unfold sg
  rw [a3]
 ·rw [e2, a1]
  congr 1
  have f : ∀ zs : List Keyed, zs.drop (lo + m) = (zs.drop (lo + n)).drop (m - n) := fun zs => by rw [Ub]; congr 1; omega
  rw [f ys, f xs, a3]
structure Sa (st ax : SortSt) : Prop where
 k : kindOf ax = kindOf st
 f : failedOf ax = failedOf st
 p : pendingOf ax = pendingOf st
theorem Sa.refl (st : SortSt) : Sa st st := ⟨rfl, rfl, rfl⟩
theorem Sa.set {st ax : SortSt} (h : Sa st ax) (xs : Array Keyed) : Sa st (setArr ax xs) := ⟨h.k, h.f, h.p⟩
theorem sI (xs : Array Keyed) (lo n : Nat) (h : lo + n <= xs.size) : (mirror xs lo (lo + n) ((lo + n - lo) / 2)).toList = xs.toList.take lo ++ (sg xs.toList lo n).reverse ++ xs.toList.drop (lo + n) := by
 apply List.ext_getElem?
 intro k
 rw [Tx, getElem?_mirror_all h]
 have L : xs.toList.length = xs.size := SA
 have lt : (xs.toList.take lo).length = lo := by rw [SS]; omega
 have ls : (sg xs.toList lo n).length = n := dW _ _ _ (by rw [L]; exact h)
 by_cases h1 : k < lo
 ·rw [if_neg (by omega), SK, TY (by omega), List.getElem?_take, if_pos h1, Tx]
 by_cases h2 : k < lo + n
 ·rw [if_pos ⟨by omega, h2⟩, SK, Tn (by omega), lt, TY (by rw [List.length_reverse]; omega), List.getElem?_reverse (by omega), ls, jK _ _ _ _ (by omega), Tx]
  congr 1
  omega
 ·rw [if_neg (by omega), Tn (by rw [SX, List.length_reverse]; omega), SX, List.length_reverse, lt, ls, List.getElem?_drop, Tx]
  congr 1
  omega
theorem t3 (xs : Array Keyed) (lo k l : Nat) (hl : l <= k) (h : lo + k < xs.size) : (bubble xs (lo + k) (lo + k - (lo + l))).toList = xs.toList.take lo ++ (sg xs.toList lo l ++ (xs[lo + k]'h :: sg xs.toList (lo + l) (k - l))) ++ xs.toList.drop (lo + (k + 1)) := by
 apply List.ext_getElem?
 intro i
 rw [Tx, getElem?_bubble h _ (by omega)]
 have L : xs.toList.length = xs.size := SA
 have lt : (xs.toList.take lo).length = lo := by rw [SS]; omega
 have l1 : (sg xs.toList lo l).length = l := dW _ _ _ (by omega)
 have l2 : (sg xs.toList (lo + l) (k - l)).length = k - l := dW _ _ _ (by omega)
 by_cases h1 : i < lo
 ·rw [if_neg (by omega), if_neg (by omega), SK, TY (by omega), List.getElem?_take, if_pos h1, Tx]
 by_cases h2 : i < lo + l
 ·rw [if_neg (by omega), if_neg (by omega), SK, Tn (by omega), lt, SK, TY (by omega), jK _ _ _ _ (by omega), Tx]
  congr 1
  omega
 by_cases h3 : i = lo + l
 ·rw [if_pos (by omega), SK, Tn (by omega), lt, SK, Tn (by omega), l1, show i - lo - l = 0 by omega]
  simp
 by_cases h4 : i <= lo + k
 ·rw [if_neg (by omega), if_pos (by omega), SK, Tn (by omega), lt, SK, Tn (by omega), l1, show i - lo - l = (i - lo - l - 1) + 1 by omega, List.cons_append, List.getElem?_cons_succ, TY (by omega), jK _ _ _ _ (by omega), Tx]
  congr 1
  omega
 ·rw [if_neg (by omega), if_neg (by omega), Tn (by simp only [SX, To]; omega), SX, SX, To, lt, l1, l2, List.getElem?_drop, Tx]
  congr 1
  omega
section
variable {prog : Program} {w : World} {A : Around} {E : Value -> Shared -> Prop} {s : Shared} {rk : Keyed -> Nat} {S : Keyed -> Prop} {kd : SortKind}
theorem kB {st : SortSt} {i j : Nat} {Q : Option Bool -> SortSt -> Prop} (hc : mH prog w A E s rk S kd) (kk : kindOf st = kd) (hS : ∀ x ∈ (arrOf st).toList, S x) (hi : i < (arrOf st).size) (hj : j < (arrOf st).size)
  (h : Q (some (decide (rk (arrOf st)[i] < rk (arrOf st)[j]))) st) : wpS (model prog w) A E s (ltAt' i j) Q st := by
 rw [ltAt'_eq]
 refine SB (wpS_get ?_)
 refine SB (aR hi (SB (aR hj ?_)))
 exact hc _ _ st Q (hS _ (by simp)) (hS _ (by simp)) kk h
theorem xA {lo n ok : Nat} {st : SortSt} {Q : Bool -> SortSt -> Prop} (hc : mH prog w A E s rk S kd) (kk : kindOf st = kd) (hS : ∀ x ∈ (arrOf st).toList, S x) (hn : lo + n <= (arrOf st).size) (h1 : 1 <= ok) (aP : ok <= n) (s1 : eJ rk (sg (arrOf st).toList lo ok))
  (h : ∀ ax, Sa st ax -> jt (arrOf st).toList (arrOf ax).toList lo n -> eJ rk (sg (arrOf ax).toList lo n) -> Q true ax) : wpS (model prog w) A E s (binarySort' lo n ok) Q st := by
 rw [binarySort'_eq]
 have L : (arrOf st).toList.length = (arrOf st).size := SA
 refine SB (Ua (TJ (I := fun k c ax => c = (none, ()) /\ Sa st ax /\ (arrOf ax).size = (arrOf st).size /\ jt (arrOf st).toList (arrOf ax).toList lo (min k n) /\ eJ rk (sg (arrOf ax).toList lo (min k n)))
  (Q := fun c ax => c = (none, ()) /\ Sa st ax /\ jt (arrOf st).toList (arrOf ax).toList lo n /\ eJ rk (sg (arrOf ax).toList lo n)) ?step ?fin ?init) ?post)
 case init => exact ⟨rfl, Sa.refl st, rfl, jt.refl _ _ _, by rw [show min (max ok 1) n = ok by omega]; exact s1⟩
 case fin =>
  rintro c ax ⟨uI, sa, _, pt, so⟩
  rw [show min (max (max ok 1) n) n = n by omega] at pt so
  exact ⟨uI, sa, pt, so⟩
 case post =>
  rintro c ax ⟨rfl, sa, pt, so⟩
  exact SJ (h ax sa pt so)
 case step =>
  rintro k c ax R4 RL ⟨rfl, sa, sz, pt, so⟩
  rw [show min k n = k by omega] at pt so
  have L' : (arrOf ax).toList.length = (arrOf ax).size := SA
  have qk : lo + k < (arrOf ax).size := by omega
  have pW : ∀ x ∈ (arrOf ax).toList, S x := fun x hx => hS x (pt.perm.mem_iff.mp hx)
  have gk : ∀ i (hi : i < k), (sg (arrOf ax).toList lo k)[i]'(by rw [dW _ _ _ (by omega)]; exact hi) = (arrOf ax)[lo + i]'(by omega) := fun i hi => by
   unfold sg
   rw [UU, Uz]
   simp
  refine SB (Ua (TJ (I := fun x c bh => bh = ax /\ ∃ l r, c = (none, l, r) /\ l <= r /\ r <= k /\ r - l <= k - x /\ (∀ i (hi : i < k), i < l -> rk ((arrOf ax)[lo + i]'(by omega)) <= rk (arrOf ax)[lo + k]) /\ (∀ i (hi : i < k), r <= i -> rk (arrOf ax)[lo + k] <= rk ((arrOf ax)[lo + i]'(by omega))))
   (Q := fun c bh => bh = ax /\ ∃ l r, c = (none, l, r) /\ l <= k /\ (∀ i (hi : i < k), i < l -> rk ((arrOf ax)[lo + i]'(by omega)) <= rk (arrOf ax)[lo + k]) /\ (∀ i (hi : i < k), l <= i -> rk (arrOf ax)[lo + k] <= rk ((arrOf ax)[lo + i]'(by omega)))) ?Io ?KH ?HC) ?Ir)
  case HC => exact ⟨rfl, 0, k, rfl, by omega, by omega, by omega, fun i hi h => by omega, fun i hi h => by omega⟩
  case KH =>
   rintro c bh ⟨rfl, l, r, rfl, a1, a2, a3, a4, a5⟩
   have : l = r := by omega
   subst this
   exact ⟨rfl, l, l, rfl, a2, a4, a5⟩
  case Io =>
   rintro x c bh _ hx ⟨rfl, l, r, rfl, a1, a2, a3, a4, a5⟩
   dsimp only
   by_cases qL : l >= r
   ·rw [if_pos qL]
    have : l = r := by omega
    subst this
    exact SJ ⟨rfl, l, l, rfl, a2, a4, a5⟩
   ·rw [if_neg qL]
    have qm : lo + (l + r) / 2 < (arrOf bh).size := by omega
    refine SB (kB hc (sa.k.trans kk) pW qk qm ?_)
    dsimp only
    by_cases hb : rk (arrOf bh)[lo + k] < rk (arrOf bh)[lo + (l + r) / 2]
    ·rw [SE hb, if_pos rfl]
     refine SJ ⟨rfl, l, (l + r) / 2, rfl, by omega, by omega, by omega, a4, fun i hi hm => ?_⟩
     have := g6 so (show (l + r) / 2 <= i from hm) (by rw [dW _ _ _ (by omega)]; exact hi)
     rw [gk _ (by omega), gk i hi] at this
     omega
    ·rw [SW hb, if_neg Sy]
     refine SJ ⟨rfl, (l + r) / 2 + 1, r, rfl, by omega, by omega, by omega, fun i hi hm => ?_, a5⟩
     have := g6 so (show i <= (l + r) / 2 by omega) (by rw [dW _ _ _ (by omega)]; omega)
     rw [gk i hi, gk ((l + r) / 2) (by omega)] at this
     omega
  case Ir =>
   rintro c bh ⟨rfl, l, r, rfl, a2, a4, a5⟩
   dsimp only
   rw [moveDown'_eq]
   refine SB (UV (SJ ?_))
   have bl := t3 (arrOf bh) lo k l a2 qk
   have es : sg (arrOf bh).toList lo k = sg (arrOf bh).toList lo l ++ sg (arrOf bh).toList (lo + l) (k - l) := by rw [<- hU, show l + (k - l) = k by omega]
   have ek : sg (arrOf bh).toList (lo + k) 1 = [(arrOf bh)[lo + k]] := by
    unfold sg
    rw [take1 (by rw [L']; exact qk)]
    simp
   have pm : (sg (arrOf bh).toList lo l ++ ((arrOf bh)[lo + k] :: sg (arrOf bh).toList (lo + l) (k - l))).Perm (sg (arrOf bh).toList lo (k + 1)) := by
    rw [hU, es, ek, SK]
    exact Uw _ (UR (l₁ := [(arrOf bh)[lo + k]]))
   have p2 : jt (arrOf bh).toList (bubble (arrOf bh) (lo + k) (lo + k - (lo + l))).toList lo (k + 1) := ⟨_, pm, bl⟩
   obtain ⟨_, b2, _⟩ := jt.parts pm bl (by omega)
   refine ⟨rfl, sa.set _, by show (bubble _ _ _).size = _; rw [bubble_size]; exact sz, ?_, ?_⟩
   ·rw [show min (k + 1) n = k + 1 by omega]
    exact pt.trans p2 (by omega) (by omega)
   ·rw [show min (k + 1) n = k + 1 by omega]
    show eJ rk (sg (bubble _ _ _).toList lo (k + 1))
    rw [b2]
    rw [es] at so
    have pw := SQ.mp so
    refine SQ.mpr ⟨pw.1, Tq.mpr ⟨fun y hy => ?_, pw.2.1⟩, fun x hx y hy => ?_⟩
    ·obtain ⟨m, hm, e⟩ := TU.mp hy
     have D6 : m < k - l := by rw [dW _ _ _ (by omega)] at hm; exact hm
     have : y = (arrOf bh)[lo + (l + m)]'(by omega) := by
      rw [<- e]
      unfold sg
      rw [UU, Uz]
      simp [Nat.add_assoc]
     rw [this]
     exact a5 (l + m) (by omega) (by omega)
    ·obtain ⟨m, hm, e⟩ := TU.mp hx
     have D6 : m < l := by rw [dW _ _ _ (by omega)] at hm; exact hm
     have ex : x = (arrOf bh)[lo + m]'(by omega) := by
      rw [<- e]
      unfold sg
      rw [UU, Uz]
      simp
     rcases Sx.mp hy with z | z
     ·rw [z, ex]
      exact a4 m (by omega) D6
     ·exact pw.2.2 x hx y z
end
theorem kr (xs : Array Keyed) (lo n : Nat) (h : lo + n < xs.size) : sg xs.toList lo (n + 1) = sg xs.toList lo n ++ [xs[lo + n]] := by
 rw [hU]
 congr 1
 unfold sg
 rw [take1 (by rw [SA]; exact h)]
 simp
theorem oY {rk : Keyed -> Nat} (xs : Array Keyed) (lo n : Nat) (h : lo + n <= xs.size) (h1 : 1 <= n) (s : eJ rk (sg xs.toList lo n)) : ∀ x ∈ sg xs.toList lo n, rk x <= rk (xs[lo + n - 1]'(by omega)) :=
 wX s h1 (by rw [Sw (by rw [SA]; omega)]; simp) (by rw [SA]; exact h)
theorem DB {rk : Keyed -> Nat} {xs : Array Keyed} (nd : (xs.toList.map rk).Nodup) {i j : Nat} (hi : i < xs.size) (hj : j < xs.size) (yT : i ≠ j) : rk xs[i] ≠ rk xs[j] := fun e => by
 have h := List.nodup_iff_pairwise_ne.mp nd
 rw [Tu] at h
 rw [List.pairwise_iff_getElem] at h
 rcases Nat.lt_or_gt_of_ne yT with z | z
 ·exact h i j (by rw [SA]; exact hi) (by rw [SA]; exact hj) z (by simpa using e)
 ·exact h j i (by rw [SA]; exact hj) (by rw [SA]; exact hi) z (by simpa using e.symm)
abbrev AS := Option (Option Nat) × Nat
abbrev DS := Option (Option Nat) × Nat × Nat
def asc (lo a ba : Nat) : SM AS := forIn [a:ba] ((none, a) : AS) fun _ c => do
 match <- ltAt' (lo + c.2) (lo + c.2 - 1) with
 | some sm => if sm = true then pure (.done (none, c.2)) else pure (.yield (none, c.2 + 1))
 | _ => pure (.done (some none, c.2))
def IB (lo a ba : Nat) : SM DS := forIn [a:ba] ((none, a, 0) : DS) fun _ c => do
 match <- ltAt' (lo + c.2.1) (lo + c.2.1 - 1) with
 | some sm =>
  if sm = true then
   if c.2.2 > 0 then do
    reverseSlice' (lo + c.2.1 - (c.2.2 + 1)) (lo + c.2.1)
    pure (.yield (none, c.2.1 + 1, 0))
   else pure (.yield (none, c.2.1 + 1, 0))
  else do
   match <- ltAt' (lo + c.2.1 - 1) (lo + c.2.1) with
   | some lg => if lg = true then pure (.done (none, c.2.1, c.2.2)) else pure (.yield (none, c.2.1 + 1, c.2.2 + 1))
   | _ => pure (.done (some none, c.2.1, c.2.2))
 | _ => pure (.done (some none, c.2.1, c.2.2))
def yQ (lo n ba : Nat) : SM (Option Nat) := do
 reverseSlice' lo (lo + n)
 let c <- asc lo n ba
 match c.1 with
 | some r => pure r
 | none => pure (some c.2)
def II (lo n ba : Nat) : SM (Option Nat) := do
 rule "list.sort.descending-run"
 let c <- IB lo (n + 1) ba
 match c.1 with
 | some r => pure r
 | none =>
  if c.2.2 > 0 then do
   reverseSlice' (lo + c.2.1 - (c.2.2 + 1)) (lo + c.2.1)
   yQ lo c.2.1 ba
  else yQ lo c.2.1 ba
theorem A1 (lo ba : Nat) : countRun' lo ba = (do
  let c <- asc lo 1 ba
  match c.1 with
  | some r => pure r
  | none =>
   if (c.2 == ba) = true then pure (some c.2)
   else if c.2 > 1 then do
    match <- ltAt' lo (lo + c.2 - 1) with
    | some Ht =>
     if Ht = true then pure (some c.2)
     else do
      reverseSlice' lo (lo + c.2)
      II lo c.2 ba
    | _ => pure none
   else II lo c.2 ba) := by
 rw [countRun'_eq]
 show (asc lo 1 ba >>= _) = (asc lo 1 ba >>= _)
 refine Tp fun c => ?_
 have t2 : ∀ n, (do
   reverseSlice' lo (lo + n)
   let c <- asc lo n ba
   match c.1 with
   | some r => pure r
   | none => pure (some c.2) : SM (Option Nat)) = yQ lo n ba := fun n => rfl
 rcases c with ⟨_ | r, n⟩
 ·refine ite_congr rfl (fun _ => rfl) (fun _ => ?_)
  have T1 : ∀ n, (do
    rule "list.sort.descending-run"
    let c <- IB lo (n + 1) ba
    match c.1 with
    | some r => pure r
    | none =>
     if c.2.2 > 0 then do
      reverseSlice' (lo + c.2.1 - (c.2.2 + 1)) (lo + c.2.1)
      yQ lo c.2.1 ba
     else yQ lo c.2.1 ba : SM (Option Nat)) = II lo n ba := fun n => rfl
  have key : ∀ (f : DS -> SM (Option Nat)), (∀ r m q, f (some r, m, q) = pure r) -> (∀ m q, f (none, m, q) = (if q > 0 then do
      reverseSlice' (lo + m - (q + 1)) (lo + m)
      yQ lo m ba
     else yQ lo m ba)) -> (do
    rule "list.sort.descending-run"
    let c <- IB lo (n + 1) ba
    f c) = II lo n ba := fun f h1 h2 => by
   rw [<- T1 n]
   refine Tp fun _ => Tp fun c => ?_
   rcases c with ⟨_ | r, m, q⟩
   ·exact h2 m q
   ·exact h1 r m q
  have f2 : ∀ m q, (if q > 0 then (do
       reverseSlice' (lo + m - (q + 1)) (lo + m)
       yQ lo m ba : SM (Option Nat)) else yQ lo m ba) = (if q > 0 then do
      reverseSlice' (lo + m - (q + 1)) (lo + m)
      yQ lo m ba
     else yQ lo m ba) := fun _ _ => rfl
  refine ite_congr rfl (fun _ => ?_) (fun _ => ?_)
  ·refine Tp fun x => ?_
   cases x with
   | none => rfl
   | some Ht =>
    refine ite_congr rfl (fun _ => rfl) (fun _ => ?_)
    refine Tp fun _ => ?_
    refine key _ (fun r m q => rfl) (fun m q => ?_)
    refine ite_congr rfl (fun _ => ?_) (fun _ => ?_)
    ·refine Tp fun _ => Tp fun _ => Tp fun e => ?_
     rcases e with ⟨_ | r, n⟩
     ·rfl
     ·rfl
    ·refine Tp fun _ => Tp fun e => ?_
     rcases e with ⟨_ | r, n⟩
     ·rfl
     ·rfl
  ·refine key _ (fun r m q => rfl) (fun m q => ?_)
   refine ite_congr rfl (fun _ => ?_) (fun _ => ?_)
   ·refine Tp fun _ => Tp fun _ => Tp fun e => ?_
    rcases e with ⟨_ | r, n⟩
    ·rfl
    ·rfl
   ·refine Tp fun _ => Tp fun e => ?_
    rcases e with ⟨_ | r, n⟩
    ·rfl
    ·rfl
 ·rfl
section
variable {prog : Program} {w : World} {A : Around} {E : Value -> Shared -> Prop} {s : Shared} {rk : Keyed -> Nat} {S : Keyed -> Prop} {kd : SortKind}
theorem wz {lo a ba : Nat} {st : SortSt} {Q : AS -> SortSt -> Prop} (hc : mH prog w A E s rk S kd) (kk : kindOf st = kd) (hS : ∀ x ∈ (arrOf st).toList, S x) (h1 : 1 <= a) (ha : a <= ba) (hn : lo + ba <= (arrOf st).size) (s1 : eJ rk (sg (arrOf st).toList lo a))
  (h : ∀ n, a <= n -> n <= ba -> eJ rk (sg (arrOf st).toList lo n) -> (∀ fG : n < ba, rk ((arrOf st)[lo + n]'(by omega)) < rk ((arrOf st)[lo + n - 1]'(by omega))) -> Q (none, n) st) : wpS (model prog w) A E s (asc lo a ba) Q st := by
 unfold asc
 refine TJ (I := fun x c ax => ax = st /\ c = (none, x) /\ x <= ba /\ eJ rk (sg (arrOf st).toList lo x)) ?step ?fin ⟨rfl, rfl, ha, s1⟩
 case fin =>
  rintro c ax ⟨rfl, rfl, hx, hs⟩
  rw [show max a ba = ba by omega] at hs ⊢
  exact h ba ha (Ss _) hs fun fG => by omega
 case step =>
  rintro x c ax KU hx ⟨rfl, rfl, _, hs⟩
  dsimp only
  refine SB (kB hc kk hS (by omega) (by omega) ?_)
  dsimp only
  by_cases hb : rk ((arrOf ax)[lo + x]'(by omega)) < rk ((arrOf ax)[lo + x - 1]'(by omega))
  ·rw [SE hb, if_pos rfl]
   exact SJ (h x KU (by omega) hs fun _ => hb)
  ·rw [SW hb, if_neg Sy]
   refine SJ ⟨rfl, rfl, by omega, ?_⟩
   rw [kr _ _ _ (by omega)]
   refine SQ.mpr ⟨hs, Vi _ _, fun y hy z hz => ?_⟩
   rw [S7.mp hz]
   have := oY (arrOf ax) lo x (by omega) (by omega) hs y hy
   omega
theorem Ck {lo a ba : Nat} {st : SortSt} {Q : DS -> SortSt -> Prop} (hc : mH prog w A E s rk S kd) (kk : kindOf st = kd) (hS : ∀ x ∈ (arrOf st).toList, S x) (nd : ((arrOf st).toList.map rk).Nodup) (h1 : 1 <= a) (ha : a <= ba) (hn : lo + ba <= (arrOf st).size)
  (s1 : eJ rk (sg (arrOf st).toList lo a).reverse) (h : ∀ n, a <= n -> n <= ba -> eJ rk (sg (arrOf st).toList lo n).reverse -> Q (none, n, 0) st) : wpS (model prog w) A E s (IB lo a ba) Q st := by
 unfold IB
 refine TJ (I := fun x c ax => ax = st /\ c = (none, x, 0) /\ x <= ba /\ eJ rk (sg (arrOf st).toList lo x).reverse) ?step ?fin ⟨rfl, rfl, ha, s1⟩
 case fin =>
  rintro c ax ⟨rfl, rfl, hx, hs⟩
  rw [show max a ba = ba by omega] at hs ⊢
  exact h ba ha (Ss _) hs
 case step =>
  rintro x c ax KU hx ⟨rfl, rfl, _, hs⟩
  dsimp only
  refine SB (kB hc kk hS (by omega) (by omega) ?_)
  dsimp only
  by_cases hb : rk ((arrOf ax)[lo + x]'(by omega)) < rk ((arrOf ax)[lo + x - 1]'(by omega))
  ·rw [SE hb, if_pos rfl, if_neg (by omega)]
   refine SJ ⟨rfl, rfl, by omega, ?_⟩
   rw [kr _ _ _ (by omega), List.reverse_append]
   refine Tq.mpr ⟨fun y hy => ?_, hs⟩
   obtain ⟨m, hm⟩ : ∃ m, x = m + 1 := ⟨x - 1, by omega⟩
   subst hm
   rw [kr _ _ _ (by omega), List.reverse_append] at hs hy
   have hp := Tq.mp hs
   have e : lo + (m + 1) - 1 = lo + m := by omega
   have Br : rk ((arrOf ax)[lo + (m + 1)]'(by omega)) < rk ((arrOf ax)[lo + m]'(by omega)) := by
    have := hb
    simp only [e] at this
    exact this
   rcases Sx.mp hy with z | z
   ·rw [z]; exact U0 Br
   ·exact SD (U0 Br) (hp.1 y z)
  ·rw [SW hb, if_neg Sy]
   refine SB (kB hc kk hS (by omega) (by omega) ?_)
   dsimp only
   have ql := DB nd (show lo + x < (arrOf ax).size by omega) (show lo + x - 1 < (arrOf ax).size by omega) (by omega)
   rw [SE (show rk ((arrOf ax)[lo + x - 1]'(by omega)) < rk ((arrOf ax)[lo + x]'(by omega)) by omega), if_pos rfl]
   exact SJ (h x KU (by omega) hs)
theorem AW {lo ba : Nat} {st : SortSt} {Q : Option Nat -> SortSt -> Prop} (hc : mH prog w A E s rk S kd) (kk : kindOf st = kd) (hS : ∀ x ∈ (arrOf st).toList, S x) (nd : ((arrOf st).toList.map rk).Nodup) (h1 : 1 <= ba) (hn : lo + ba <= (arrOf st).size)
  (h : ∀ n ax, 1 <= n -> n <= ba -> Sa st ax -> jt (arrOf st).toList (arrOf ax).toList lo n -> eJ rk (sg (arrOf ax).toList lo n) -> Q (some n) ax) : wpS (model prog w) A E s (countRun' lo ba) Q st := by
 rw [A1]
 have L : (arrOf st).toList.length = (arrOf st).size := SA
 have one : ∀ (xs : Array Keyed) (p : Nat), eJ rk (sg xs.toList p 1) := fun xs p => by
  unfold sg
  cases hd : xs.toList.drop p with
  | nil => exact .nil
  | cons y r => exact Vi _ _
 refine SB (wz hc kk hS (Ss _) h1 hn (one _ _) fun n n1 n2 s1 brk => ?_)
 dsimp only
 by_cases e : (n == ba) = true
 ·rw [if_pos e]
  exact SJ (h n st n1 n2 (Sa.refl st) (jt.refl _ _ _) s1)
 rw [if_neg e]
 have e' : n ≠ ba := by simpa using e
 by_cases Jl : n > 1
 ·rw [if_pos Jl]
  refine SB (kB hc kk hS (by omega) (by omega) ?_)
  have hle : rk ((arrOf st)[lo]'(by omega)) <= rk ((arrOf st)[lo + n - 1]'(by omega)) := by
   refine oY (arrOf st) lo n (by omega) n1 s1 _ ?_
   obtain ⟨m, hm⟩ : ∃ m, n = 1 + m := ⟨n - 1, by omega⟩
   rw [hm, hU]
   refine T7 _ ?_
   unfold sg
   rw [take1 (by rw [L]; omega)]
   simp
  have ql := DB nd (show lo < (arrOf st).size by omega) (show lo + n - 1 < (arrOf st).size by omega) (by omega)
  dsimp only
  rw [SE (show rk ((arrOf st)[lo]'(by omega)) < rk ((arrOf st)[lo + n - 1]'(by omega)) by omega), if_pos rfl]
  exact SJ (h n st n1 n2 (Sa.refl st) (jt.refl _ _ _) s1)
 rw [if_neg Jl]
 have : n = 1 := by omega
 subst this
 unfold II
 refine SB (wpS_lift (Ug ⟨rfl, ?_⟩))
 have b1 := brk (by omega)
 have s2 : eJ rk (sg (arrOf st).toList lo 2).reverse := by
  rw [kr _ _ 1 (by omega), kr _ _ 0 (by omega)]
  have e0 : sg (arrOf st).toList lo 0 = [] := by unfold sg; simp
  rw [e0]
  refine Tq.mpr ⟨fun y hy => ?_, Vi _ _⟩
  have fm : y = (arrOf st)[lo + 0]'(by omega) := by simpa using hy
  rw [fm]
  have := b1
  simp only [Nat.add_sub_cancel] at this
  exact U0 this
 refine SB (Ck hc kk hS nd (by omega) (by omega) hn s2 fun m m1 m2 s3 => ?_)
 dsimp only
 rw [if_neg (by omega)]
 unfold yQ
 rw [reverseSlice'_eq]
 refine SB (UV ?_)
 have ml := sI (arrOf st) lo m (by omega)
 have pm : (sg (arrOf st).toList lo m).reverse.Perm (sg (arrOf st).toList lo m) := List.reverse_perm _
 have pt : jt (arrOf st).toList (mirror (arrOf st) lo (lo + m) ((lo + m - lo) / 2)).toList lo m := ⟨_, pm, ml⟩
 obtain ⟨_, p2, _⟩ := jt.parts pm ml (by omega)
 have QV : (mirror (arrOf st) lo (lo + m) ((lo + m - lo) / 2)).size = (arrOf st).size := mirror_size _ _ _ _
 refine SB (wz (st := setArr st (mirror (arrOf st) lo (lo + m) ((lo + m - lo) / 2))) hc kk (fun x hx => hS x (pt.perm.mem_iff.mp hx)) (by omega) m2 (by show lo + ba <= (mirror _ _ _ _).size; rw [QV]; exact hn) (by rw [p2]; exact s3) fun n n1 n2 s4 _ => ?_)
 dsimp only
 refine SJ (h n _ (by omega) n2 ((Sa.refl st).set _) ?_ s4)
 exact pt.trans (jt.refl _ _ _) n1 (by omega)
end
def Ch : Nat -> List (Nat × Nat) -> Nat -> Prop
 | a, [], b => a = b
 | a, x :: r, b => x.1 = a /\ 1 <= x.2 /\ Ch (a + x.2) r b
theorem Ch.le : ∀ {p : List (Nat × Nat)} {a b : Nat}, Ch a p b -> a + p.length <= b
 | [], a, b, h => by cases h; simp
 | x :: r, a, b, h => by have := h.2.2.le; have := h.2.1; simp only [To]; omega
theorem Ch.app : ∀ {p q : List (Nat × Nat)} {a b : Nat}, Ch a (p ++ q) b ↔ ∃ m, Ch a p m /\ Ch m q b
 | [], q, a, b => ⟨fun h => ⟨a, rfl, h⟩, fun ⟨m, e, h⟩ => by cases e; exact h⟩
 | x :: r, q, a, b => by
  constructor
  ·intro h
   obtain ⟨m, h1, h2⟩ := Ch.app.1 h.2.2
   exact ⟨m, ⟨h.1, h.2.1, h1⟩, h2⟩
  ·rintro ⟨m, h1, h2⟩
   exact ⟨h1.1, h1.2.1, Ch.app.2 ⟨m, h1.2.2, h2⟩⟩
theorem Ch.mem : ∀ {p : List (Nat × Nat)} {a b : Nat}, Ch a p b -> ∀ q ∈ p, a <= q.1 /\ q.1 + q.2 <= b
 | [], a, b, h, q, hq => by cases hq
 | x :: r, a, b, h, q, hq => by
  have hb := h.2.2.le
  rcases Sx.1 hq with rfl | hq
  ·have := h.1; exact ⟨by omega, by omega⟩
  ·have := h.2.2.mem q hq
   exact ⟨by omega, this.2⟩
abbrev uJ (p : Array (Nat × Nat × Nat)) : List (Nat × Nat) := p.toList.map fun q => (q.1, q.2.1)
section
variable {prog : Program} {w : World} {A : Around} {E : Value -> Shared -> Prop} {s : Shared} {rk : Keyed -> Nat} {S : Keyed -> Prop} {kd : SortKind} {a₀ : Array Keyed}
structure Inv (rk : Keyed -> Nat) (kd : SortKind) (a₀ : Array Keyed) (lo : Nat) (st : SortSt) : Prop where
 k : kindOf st = kd
 f : failedOf st = none
 pm : (arrOf st).toList.Perm a₀.toList
 le : lo <= a₀.size
 ch : Ch 0 (uJ (pendingOf st)) lo
 so : ∀ q ∈ uJ (pendingOf st), eJ rk (sg (arrOf st).toList q.1 q.2)
theorem Inv.sz {lo : Nat} {st : SortSt} (I : Inv rk kd a₀ lo st) : (arrOf st).size = a₀.size := by
 have := I.pm.length_eq
 simpa using this
theorem Inv.put {lo n : Nat} {st ax : SortSt} (I : Inv rk kd a₀ lo st) (a : Sa st ax) (P : jt (arrOf st).toList (arrOf ax).toList lo n) (h : lo + n <= a₀.size) : Inv rk kd a₀ lo ax := by
 refine ⟨a.k.trans I.k, a.f.trans I.f, P.perm.trans I.pm, I.le, by rw [a.p]; exact I.ch, fun q hq => ?_⟩
 rw [a.p] at hq
 have hb := (I.ch.mem q hq).2
 rw [P.ahead (by have := I.sz; simp; omega) hb]
 exact I.so q hq
theorem oP {i lo : Nat} {st : SortSt} {Q : Bool -> SortSt -> Prop} (hc : mH prog w A E s rk S kd) (hS : ∀ x ∈ a₀.toList, S x) (I : Inv rk kd a₀ lo st) (hi : i + 1 < (pendingOf st).size)
  (h : ∀ ax, Inv rk kd a₀ lo ax -> (pendingOf ax).size + 1 = (pendingOf st).size -> (∀ p m, lo <= p -> sg (arrOf ax).toList p m = sg (arrOf st).toList p m) -> Q true ax) : wpS (model prog w) A E s (mergeAt' i) Q st := by
 obtain ⟨⟨sa, na, pw⟩, e1⟩ : ∃ x, (pendingOf st)[i]? = some x := ⟨_, getElem?_pos _ i (by omega)⟩
 obtain ⟨⟨sb, nb, Gk⟩, e2⟩ : ∃ x, (pendingOf st)[i + 1]? = some x := ⟨_, getElem?_pos _ (i + 1) hi⟩
 obtain ⟨pre, post, ep, el⟩ : ∃ pre post, (pendingOf st).toList = pre ++ (sa, na, pw) :: (sb, nb, Gk) :: post /\ pre.length = i := by
  have f1 : (pendingOf st).toList[i]? = some (sa, na, pw) := by simpa using e1
  have f2 : (pendingOf st).toList[i + 1]? = some (sb, nb, Gk) := by simpa using e2
  obtain ⟨l1, g1⟩ := SR.1 f1
  obtain ⟨l2, g2⟩ := SR.1 f2
  refine ⟨(pendingOf st).toList.take i, (pendingOf st).toList.drop (i + 2), ?_, by rw [SS]; omega⟩
  conv => lhs; rw [<- Uv i (pendingOf st).toList, U4 l1, U4 l2, g1, g2]
 have ch := I.ch
 have so := I.so
 unfold uJ at ch so
 rw [ep, Sz, SN, SN] at ch so
 obtain ⟨m, c1, c2⟩ := Ch.app.1 ch
 obtain ⟨rfl, n1, c3⟩ := c2
 obtain ⟨rfl, n2, c4⟩ := c3
 dsimp only at *
 have R7 := c4.le
 have LE := I.le
 have SZ := I.sz
 have L : (arrOf st).toList.length = (arrOf st).size := SA
 refine CQ hc I.k I.f (fun x hx => hS x (I.pm.mem_iff.1 hx)) e1 e2 rfl n1 n2 (by omega) (so (sa, na) (by simp)) (so (sa + na, nb) (by simp)) fun ax l k' f' p' lp ls al => ?_
 have P : jt (arrOf st).toList (arrOf ax).toList sa (na + nb) := ⟨l, lp, al⟩
 have yS : (pendingOf ax).toList = pre ++ (sa, na + nb, pw) :: post := by
  rw [p', Array.toList_eraseIdxIfInBounds, Array.toList_setIfInBounds, ep, List.set_append_right _ _ (by omega), el, Nat.sub_self, List.set_cons_zero, List.eraseIdx_append_of_length_le (by omega), el,
   show i + 1 - i = 1 by omega]
  rfl
 refine h ax ⟨k', f', P.perm.trans I.pm, I.le, ?_, fun q hq => ?_⟩ ?_ fun p m hp => P.behind (by omega) (by omega)
 ·unfold uJ
  rw [yS, Sz, SN]
  exact Ch.app.2 ⟨_, c1, rfl, by dsimp only; omega, by dsimp only; rw [<- Nat.add_assoc]; exact c4⟩
 ·unfold uJ at hq
  rw [yS, Sz, SN] at hq
  rcases S0.1 hq with hq | hq
  ·have := (c1.mem q hq).2
   rw [P.ahead (by omega) this]
   exact so q (T7 _ hq)
  ·rcases Sx.1 hq with rfl | hq
   ·have := (jt.parts lp al (by omega)).2.1
    dsimp only
    rw [this]
    exact ls
   ·have := (c4.mem q hq).1
    rw [P.behind (by omega) (by omega)]
    exact so q (S8 _ (Su _ (Su _ hq)))
 ·rw [<- SA, <- SA (xs := pendingOf st), yS, ep]
  simp only [SX, To]
  omega
end
section
variable {prog : Program} {w : World} {A : Around} {E : Value -> Shared -> Prop} {s : Shared} {rk : Keyed -> Nat} {S : Keyed -> Prop} {kd : SortKind} {a₀ : Array Keyed}
structure AD (rk : Keyed -> Nat) (kd : SortKind) (a₀ : Array Keyed) (lo n : Nat) (st : SortSt) : Prop where
 I : Inv rk kd a₀ lo st
 n1 : 1 <= n
 le : lo + n <= a₀.size
 so : eJ rk (sg (arrOf st).toList lo n)
theorem AD.push {lo n : Nat} {st : SortSt} (C : AD rk kd a₀ lo n st) : Inv rk kd a₀ (lo + n) (setPending st ((pendingOf st).push (lo, n, 0))) := by
 have e : uJ (pendingOf (setPending st ((pendingOf st).push (lo, n, 0)))) = uJ (pendingOf st) ++ [(lo, n)] := by
  show uJ ((pendingOf st).push (lo, n, 0)) = _
  unfold uJ
  rw [Array.toList_push, Sz]
  rfl
 refine ⟨C.I.k, C.I.f, C.I.pm, C.le, ?_, fun q hq => ?_⟩
 ·rw [e]
  exact Ch.app.2 ⟨lo, C.I.ch, rfl, C.n1, rfl⟩
 ·rw [e] at hq
  rcases S0.1 hq with hq | hq
  ·exact C.I.so q hq
  ·cases S7.1 hq
   exact C.so
theorem nB (f : Nat × Nat × Nat -> Nat × Nat × Nat) (hf : ∀ q, ((f q).1, (f q).2.1) = (q.1, q.2.1)) : ∀ (l : List (Nat × Nat × Nat)) (i : Nat), (l.modify i f).map (fun q => (q.1, q.2.1)) = l.map fun q => (q.1, q.2.1)
 | [], i => by cases i <;> rfl
 | x :: r, 0 => by rw [List.modify_zero_cons, SN, SN]; exact TR (· :: _) (hf x)
 | x :: r, i + 1 => by rw [List.modify_succ_cons, SN, SN, nB f hf r i]
theorem AD.pow {lo n pw : Nat} {st : SortSt} (C : AD rk kd a₀ lo n st) : AD rk kd a₀ lo n (setPending st ((pendingOf st).modify ((pendingOf st).size - 1) fun q => (q.1, q.2.1, pw))) := by
 have e : uJ ((pendingOf st).modify ((pendingOf st).size - 1) fun q => (q.1, q.2.1, pw)) = uJ (pendingOf st) := by
  unfold uJ
  rw [Array.toList_modify]
  exact nB (fun q => (q.1, q.2.1, pw)) (fun q => rfl) _ _
 refine ⟨⟨C.I.k, C.I.f, C.I.pm, C.I.le, ?_, fun q hq => ?_⟩, C.n1, C.le, C.so⟩
 ·show Ch 0 (uJ _) lo
  rw [e]
  exact C.I.ch
 ·have hq : q ∈ uJ ((pendingOf st).modify ((pendingOf st).size - 1) fun q => (q.1, q.2.1, pw)) := hq
  rw [e] at hq
  exact C.I.so q hq
theorem tG {st : SortSt} {Q : Unit -> SortSt -> Prop} (hc : mH prog w A E s rk S kd) (hS : ∀ x ∈ a₀.toList, S x) (nd : (a₀.toList.map rk).Nodup) (kk : kindOf st = kd) (hf : failedOf st = none) (ha : arrOf st = a₀) (hp : pendingOf st = #[])
  (h : ∀ ax, (arrOf ax).toList.Perm a₀.toList -> failedOf ax = none -> eJ rk (arrOf ax).toList -> Q () ax) : wpS (model prog w) A E s sortRuns' Q st := by
 rw [sortRuns'_eq]
 refine SB (wpS_get ?_)
 dsimp only
 simp only [ha]
 have I0 : Inv rk kd a₀ 0 st := ⟨kk, hf, by rw [ha], S4 _, by rw [hp]; rfl, by rw [hp]; intro q hq; cases hq⟩
 refine SB (Ua (TJ
  (I := fun x c ax => ∃ lo, c = (none, lo) /\ (x <= lo \/ lo = a₀.size) /\ Inv rk kd a₀ lo ax)
  (Q := fun c ax => c = (none, a₀.size) /\ Inv rk kd a₀ a₀.size ax) ?step ?fin ⟨0, rfl, .inl (Ss _), I0⟩) ?post)
 case fin =>
  rintro c ax ⟨lo, rfl, hx, I⟩
  have : lo = a₀.size := by have := I.le; omega
  subst this
  exact ⟨rfl, I⟩
 case step =>
  rintro x c ax _ hx ⟨lo, rfl, RN, I⟩
  dsimp only
  by_cases qL : lo >= a₀.size
  ·rw [if_pos qL]
   have : lo = a₀.size := by have := I.le; omega
   subst this
   exact SJ ⟨rfl, I⟩
  rw [if_neg qL]
  have pW : ∀ ax, Inv rk kd a₀ lo ax -> ∀ x ∈ (arrOf ax).toList, S x := fun ax I x hx => hS x (I.pm.mem_iff.1 hx)
  have Rj : ((arrOf ax).toList.map rk).Nodup := ((I.pm.map rk).nodup_iff).2 nd
  refine SB (AW hc I.k (pW _ I) Rj (by omega) (by have := I.sz; omega) fun n Ec n1 n2 a2 P2 s2 => ?_)
  dsimp only
  have C2 : AD rk kd a₀ lo n Ec := ⟨I.put a2 P2 (by omega), n1, by omega, s2⟩
  by_cases fG : n < minRun' a₀.size a₀.size 0
  ·rw [if_pos fG]
   refine SB (wpS_lift (Ug ⟨rfl, ?_⟩))
   refine SB (xA hc C2.I.k (pW _ C2.I) (by have := C2.I.sz; omega) n1 (by omega) s2 fun DQ a3 P3 s3 => ?_)
   simp only [TC, SU, Tr]
   have C3 : AD rk kd a₀ lo (min (a₀.size - lo) (minRun' a₀.size a₀.size 0)) DQ := ⟨C2.I.put a3 P3 (by omega), by omega, by omega, s3⟩
   refine SB (wpS_get ?_)
   cases hb : (pendingOf DQ).back? with
   | none =>
    dsimp only
    exact SB (UV (SJ ⟨_, rfl, by have := C3.n1; omega, C3.push⟩))
   | some y =>
    obtain ⟨s1, Np, PX⟩ := y
    dsimp only
    refine SB (Ua (TJ (I := fun _ c pS => c = (none, ()) /\ AD rk kd a₀ lo (min (a₀.size - lo) (minRun' a₀.size a₀.size 0)) pS) (Q := fun c pS => c = (none, ()) /\ AD rk kd a₀ lo (min (a₀.size - lo) (minRun' a₀.size a₀.size 0)) pS) ?_ (fun _ _ hh => hh) ⟨rfl, C3⟩) ?_)
    ·rintro z c pS _ _ ⟨rfl, C4⟩
     refine SB (wpS_get ?_)
     by_cases Ee : (pendingOf pS).size > 1
     ·rw [if_pos Ee]
      obtain ⟨⟨q1, q2, IL⟩, eq⟩ : ∃ q, (pendingOf pS)[(pendingOf pS).size - 2]? = some q := ⟨_, getElem?_pos _ _ (by omega)⟩
      rw [eq]
      dsimp only
      split
      ·exact SJ ⟨rfl, C4⟩
      ·refine SB (oP hc hS C4.I (by omega) fun GN I5 _ b5 => ?_)
       simp only [TC, SU, Tr]
       exact SJ ⟨rfl, I5, C4.n1, C4.le, by rw [b5 lo _ (Ss _)]; exact C4.so⟩
     ·rw [if_neg Ee]
      exact SJ ⟨rfl, C4⟩
    ·rintro c pS ⟨rfl, C4⟩
     dsimp only
     exact SB (UV (SB (UV (SJ ⟨_, rfl, by have := C3.n1; omega, C4.pow.push⟩))))
  ·rw [if_neg fG]
   refine SB (wpS_get ?_)
   cases hb : (pendingOf Ec).back? with
   | none =>
    dsimp only
    exact SB (UV (SJ ⟨_, rfl, by have := C2.n1; omega, C2.push⟩))
   | some y =>
    obtain ⟨s1, Np, PX⟩ := y
    dsimp only
    refine SB (Ua (TJ (I := fun _ c pS => c = (none, ()) /\ AD rk kd a₀ lo n pS) (Q := fun c pS => c = (none, ()) /\ AD rk kd a₀ lo n pS) ?_ (fun _ _ hh => hh) ⟨rfl, C2⟩) ?_)
    ·rintro z c pS _ _ ⟨rfl, C4⟩
     refine SB (wpS_get ?_)
     by_cases Ee : (pendingOf pS).size > 1
     ·rw [if_pos Ee]
      obtain ⟨⟨q1, q2, IL⟩, eq⟩ : ∃ q, (pendingOf pS)[(pendingOf pS).size - 2]? = some q := ⟨_, getElem?_pos _ _ (by omega)⟩
      rw [eq]
      dsimp only
      split
      ·exact SJ ⟨rfl, C4⟩
      ·refine SB (oP hc hS C4.I (by omega) fun GN I5 _ b5 => ?_)
       simp only [TC, SU, Tr]
       exact SJ ⟨rfl, I5, C4.n1, C4.le, by rw [b5 lo _ (Ss _)]; exact C4.so⟩
     ·rw [if_neg Ee]
      exact SJ ⟨rfl, C4⟩
    ·rintro c pS ⟨rfl, C4⟩
     dsimp only
     exact SB (UV (SB (UV (SJ ⟨_, rfl, by have := C2.n1; omega, C4.pow.push⟩))))
 case post =>
  rintro c ax ⟨rfl, I⟩
  dsimp only
  have LP : (pendingOf ax).size <= a₀.size := by
   have := I.ch.le
   rw [Sr, SA] at this
   omega
  refine SB (Ua (TJ (I := fun x c bh => c = (none, ()) /\ Inv rk kd a₀ a₀.size bh /\ (pendingOf bh).size - 1 <= a₀.size - x) (Q := fun c bh => c = (none, ()) /\ Inv rk kd a₀ a₀.size bh /\ (pendingOf bh).size <= 1) ?_ ?_ ⟨rfl, I, by omega⟩) ?_)
  ·rintro x c bh _ hx ⟨rfl, I, hm⟩
   refine SB (wpS_get ?_)
   by_cases h1 : (pendingOf bh).size <= 1
   ·rw [if_pos h1]
    exact SJ ⟨rfl, I, h1⟩
   rw [if_neg h1]
   refine SB (oP hc hS I ?_ fun DQ I3 e3 _ => ?_)
   ·have : ∀ (c : Prop) [Decidable c] (a b : Nat), (if c then a - b else a) <= a := fun c _ a b => by split <;> omega
    have := this (Option.any (fun x => decide (x < ((pendingOf bh)[(pendingOf bh).size - 2 + 1]?.elim 0 fun x => x.2.1))) (if (pendingOf bh).size - 2 > 0 then (pendingOf bh)[(pendingOf bh).size - 2 - 1]?.map fun x => x.2.1 else none) = true) ((pendingOf bh).size - 2) 1
    omega
   ·simp only [TC, SU, Tr]
    exact SJ ⟨rfl, I3, by omega⟩
  ·rintro c bh ⟨rfl, I, hm⟩
   exact ⟨rfl, I, by omega⟩
  ·rintro c bh ⟨rfl, I, h1⟩
   refine SJ (h _ I.pm I.f ?_)
   have SZ := I.sz
   have ch := I.ch
   have so := I.so
   have lp : (uJ (pendingOf bh)).length <= 1 := by rw [Sr, SA]; exact h1
   cases hp : uJ (pendingOf bh) with
   | nil =>
    rw [hp] at ch
    have : (arrOf bh).toList = [] := List.eq_nil_of_length_eq_zero (by rw [SA, SZ]; exact ch.symm)
    rw [this]
    exact .nil
   | cons y r =>
    rw [hp] at ch lp so
    have : r = [] := List.eq_nil_of_length_eq_zero (by simp only [To] at lp; omega)
    subst this
    obtain ⟨e1, _, e2⟩ := ch
    have := so y (Sv)
    rw [e1] at this
    have e2 : 0 + y.2 = a₀.size := e2
    unfold sg at this
    rw [List.drop_zero, SF (by rw [SA]; omega)] at this
    exact this
end
end SO
namespace L2
open PySem PySem.Spec PyProof.Rows
theorem kY {c : Str -> NameKind -> Bool} : ∀ (names : List (Str × NameKind)) (x : Str),
  (names.map fun (n, k) => if c n k then (n, NameKind.cell) else (n, k)).lookup x = (names.lookup x).map fun k => if c x k then NameKind.cell else k
 | [], _ => rfl
 | (n, k) :: r, x => by
  have ih := kY (c := c) r x
  show List.lookup x ((if c n k = true then (n, NameKind.cell) else (n, k)) :: _) = _
  cases hx : x == n with
  | true =>
   have e : x = n := eq_of_beq hx
   subst e
   by_cases hc : c x k = true
   ·rw [if_pos hc]; simp [UH, hc]
   ·rw [if_neg hc]; simp [UH, hc]
  | false =>
   by_cases hc : c n k = true
   ·rw [if_pos hc]; simp only [UH, hx]; exact ih
   ·rw [if_neg hc]; simp only [UH, hx]; exact ih
theorem mw (scope : Scope) (cl : List (Str × Addr)) (C : Addr) (env : Env) (x : Str) :
  (compEnvC scope cl C env).kindOf x = (scope.names.lookup x).map fun k => if (k == .free && env.scope.kind == .function && env.kindOf x == some .cell) then NameKind.cell else k :=
 kY (c := fun n k => (k == .free && env.scope.kind == .function && env.kindOf n == some .cell)) scope.names x
theorem mq {scope : Scope} {cl : List (Str × Addr)} {C : Addr} {env : Env} {x : Str} (h : scope.names.lookup x = some .free) : (compEnvC scope cl C env).kindOf x = some .cell \/ (compEnvC scope cl C env).kindOf x = some .free := by
 rw [mw, h]
 show some (if _ then _ else _) = _ \/ some (if _ then _ else _) = _
 split
 ·exact .inl rfl
 ·exact .inr rfl
theorem mZ {scope : Scope} {cl : List (Str × Addr)} {C : Addr} {env : Env} {x : Str} (nc : ∀ y ∈ scope.names, y.2 ≠ .cell) (h : (compEnvC scope cl C env).kindOf x = some .cell \/ (compEnvC scope cl C env).kindOf x = some .free) : scope.names.lookup x = some .free := by
 rw [mw] at h
 cases e : scope.names.lookup x with
 | none => rw [e] at h; rcases h with h | h <;> cases h
 | some k =>
  rw [e] at h
  have hm := nc _ (Uf e)
  cases k with
  | free => rfl
  | cell => exact absurd rfl hm
  | _ => rcases h with h | h <;> cases h
theorem pD {scope : Scope} {env : Env} (h : ∀ y ∈ scope.names, y.2 = .free -> ∃ c, env.cells.lookup y.1 = some c) :
  ∃ cl, closureFor scope env = pure cl /\ (∀ x c, cl.lookup x = some c -> env.cells.lookup x = some c) /\ (∀ x, (x, NameKind.free) ∈ scope.names -> ∃ c, cl.lookup x = some c) := by
 have go : ∀ (l : List (Str × NameKind)) (acc : List (Str × Addr)), (∀ y ∈ l, y.2 = .free -> ∃ c, env.cells.lookup y.1 = some c) -> (∀ x c, acc.lookup x = some c -> env.cells.lookup x = some c) ->
   ∃ cl, (forIn l acc (fun (x : Str × NameKind) (r : List (Str × Addr)) => if (x.2 == NameKind.free) = true then (do let a <- cellOf env x.1; pure (ForInStep.yield ((x.1, a) :: r))) else pure (ForInStep.yield r)) : Sem (List (Str × Addr))) = pure cl /\
    (∀ x c, cl.lookup x = some c -> env.cells.lookup x = some c) /\ (∀ x, (acc.lookup x).isSome = true \/ (x, NameKind.free) ∈ l -> ∃ c, cl.lookup x = some c) := by
  intro l
  induction l with
  | nil => exact fun acc _ ha => ⟨acc, rfl, ha, fun x hx => by
    rcases hx with hx | hx
    ·exact Uj.mp hx
    ·cases hx⟩
  | cons y l ih =>
   intro acc hl ha
   obtain ⟨n, k⟩ := y
   by_cases hk : k = .free
   ·subst hk
    obtain ⟨c, hc⟩ := hl (n, .free) Sv rfl
    obtain ⟨cl, e1, e2, e3⟩ := ih ((n, c) :: acc) (fun y hy => hl y (Su _ hy)) (fun x d hd => by
     rw [UH] at hd
     cases q : x == n with
     | true => rw [q] at hd; cases hd; rw [eq_of_beq q]; exact hc
     | false => rw [q] at hd; exact ha x d hd)
    refine ⟨cl, ?_, e2, fun x hx => e3 x ?_⟩
    ·rw [T3]
     have ec : cellOf env n = pure c := by unfold cellOf; rw [hc]
     show ((if (NameKind.free == NameKind.free) = true then (do let a <- cellOf env n; pure (ForInStep.yield ((n, a) :: acc))) else pure (ForInStep.yield acc)) >>= _) = _
     rw [if_pos (by decide), ec, pure_bind, pure_bind]
     exact e1
    ·rcases hx with hx | hx
     ·refine .inl ?_
      rw [UH]
      cases q : x == n with
      | true => rfl
      | false => exact hx
     ·rcases Sx.mp hx with hx | hx
      ·cases hx
       exact .inl (by rw [UH, beq_self_eq_true]; rfl)
      ·exact .inr hx
   ·obtain ⟨cl, e1, e2, e3⟩ := ih acc (fun y hy => hl y (Su _ hy)) ha
    refine ⟨cl, ?_, e2, fun x hx => e3 x ?_⟩
    ·rw [T3]
     show ((if (k == NameKind.free) = true then (do let a <- cellOf env n; pure (ForInStep.yield ((n, a) :: acc))) else pure (ForInStep.yield acc)) >>= _) = _
     rw [if_neg (by simpa using hk), pure_bind]
     exact e1
    ·rcases hx with hx | hx
     ·exact .inl hx
     ·rcases Sx.mp hx with hx | hx
      ·cases hx; exact absurd rfl hk
      ·exact .inr hx
 obtain ⟨cl, e1, e2, e3⟩ := go scope.names [] h (fun x c hx => by cases hx)
 refine ⟨cl, ?_, e2, fun x hx => e3 x (.inr hx)⟩
 rw [<- e1]
 simp only [closureFor, bind_pure]
theorem qE {prog : Program} {w : World} {A : Around} {R : Result -> Shared -> Prop} {s : Shared} {elt target iter : Expr} {ifs : List Expr} {scope : Scope} {pos : Pos} {it acc : Value} {env : Env} (I : Nat -> Shared -> Prop)
  (turn : ∀ n s, I n s -> wpAny (model prog w) A (pyNext it) (fun r s₁ => match r with
   | none => R (.ok .next) s₁
   | some v => wpAny (model prog w) A (letOwnedTupleGo target it v) (fun _ D9 => wpAny (model prog w) A (assign target env v) (fun _ s₂ =>
     wpAny (model prog w) A (forIn ifs true fun c r => if r = true then do let ok <- isTrue c env (eval c env); pure (ForInStep.yield ok) else pure (ForInStep.yield r)) (fun ok s₃ =>
      if ok = true then wpAny (model prog w) A (eval elt env) (fun x s₄ =>
       wpAny (model prog w) A (call (.builtin "list.append") [acc, x]) (fun _ s₅ => ∃ m, m < n /\ I m s₅) (fun _ _ => False) s₄) (fun _ _ => False) s₃
      else ∃ m, m < n /\ I m s₃) (fun _ _ => False) s₂) (fun _ _ => False) D9) (fun _ _ => False) s₁) (fun _ _ => False) s)
  (n : Nat) (h : I n s) :
  codeAny (model prog w) A (.compLoop (.ListComp elt [⟨target, iter, ifs, 0⟩] scope pos) 0 it acc env) R s := by
 refine codeAny_loop rfl I (fun n s hI => ?_) n h
 show wpAny _ A ((compTurn (.ListComp elt [⟨target, iter, ifs, 0⟩] scope pos) 0 it acc env).onRaise (fun x => do noteFrame x env; theTreesLotGoes x)) _ _ s
 refine wpAny_noted ?_
 rw [compTurn_list]
 refine Sn (wpAny_standAt (Sn (TZ (turn n s hI) (fun r s₁ h₁ => ?_) fun _ _ h' => h'.elim)))
 cases r with
 | none => exact So h₁
 | some v =>
  refine Sn (TZ h₁ (fun _ D9 Ip => ?_) fun _ _ h' => h'.elim)
  refine Sn (TZ Ip (fun _ s₂ h₂ => Sn (TZ h₂ (fun ok s₃ h₃ => ?_) fun _ _ h' => h'.elim)) fun _ _ h' => h'.elim)
  cases ok with
  | false => exact So ⟨rfl, h₃⟩
  | true =>
   exact Sn (Sn (TZ h₃ (fun x s₄ h₄ => Sn (TZ h₄ (fun _ s₅ h₅ => So (So ⟨rfl, h₅⟩)) fun _ _ h' => h'.elim)) fun _ _ h' => h'.elim))
structure CP where
 cl : List (Str × Addr)
 C : Addr
 s : Shared
 H : Hp
 fp : List Addr
 pn : List (Addr × Obj)
abbrev Cx.comp (X : Cx) (N' : List Str) (scope : Scope) (p : CP) : Cx where
 prog := X.prog
 w := X.w
 K := X.K
 mg := X.mg
 base := X.base
 A := X.A
 N := N'
 s₀ := p.s
 H₀ := p.H
 env := compEnvC scope p.cl p.C X.env
 outer := X.stack
 stack := X.stack
 ex := p.fp
 fn := fun _ => false
 calm := X.calm
 pn := p.pn
 xe := fun _ _ => False
def A6 (X : Cx) (ifs : List Expr) (t : TT) : Prop :=
 ∀ (pins : List (Addr × Obj)) (s : Shared) (σ : St) (H : Hp) (Q : Bool -> Hp -> Prop), Inv X pins σ H s -> t σ H Q ->
  wpAny (model X.prog X.w) X.A (forIn ifs true fun c r => if r = true then do let ok <- isTrue c X.env (eval c X.env); pure (ForInStep.yield ok) else pure (ForInStep.yield r)) (TP X pins σ Q) X.xe s
def L6 : TT := fun _ H Q => Q true H
theorem cT {X : Cx} : A6 X [] L6 := fun _ _ _ H _ I h => wpAny_tests_nil ⟨H, I, h⟩
theorem fz {X : Cx} {c : Expr} {t : TT} (h : PT X c t) : A6 X [c] t := fun pins s σ H Q I hw => wpAny_tests_one (h pins s σ H Q I hw)
def lV (N : List Str) (kinds : List (Str × NameKind)) (N' : List Str) (cap : List (Option Nat)) (names : List (Str × NameKind)) : Bool :=
 names.all (fun y => y.2 != .cell) && names.all (fun y => y.2 != .local || names.lookup y.1 == some .local) &&
 names.all (fun y => y.2 != .free || (kinds.lookup y.1 == some .cell || kinds.lookup y.1 == some .free)) && (cap.length == N'.length) &&
 (N'.zip cap).all (fun q => match q.2 with
  | none => true
  | some j => N[j]? == some q.1 && (kinds.lookup q.1 == some .cell || kinds.lookup q.1 == some .free) && names.lookup q.1 == some .free)
structure bI (X : Cx) (N' : List Str) (cap : List (Option Nat)) (scope : Scope) : Prop where
 kind : scope.kind = .function
 ok : lV X.N X.env.scope.names N' cap scope.names = true
section
variable {X : Cx} {N' : List Str} {cap : List (Option Nat)} {scope : Scope}
theorem bI.z0 (S : bI X N' cap scope) : ∀ y ∈ scope.names, y.2 ≠ .cell := by
 have h := S.ok
 simp only [lV, Td, TB] at h
 intro y hy
 simpa using h.1.1.1.1 y hy
theorem bI.names (S : bI X N' cap scope) : ∀ y ∈ scope.names, y.2 = .local -> scope.names.lookup y.1 = some .local := by
 have h := S.ok
 simp only [lV, Td, TB] at h
 intro y hy hl
 have q := h.1.1.1.2 y hy
 rw [hl] at q
 simpa using q
theorem bI.free (S : bI X N' cap scope) : ∀ y ∈ scope.names, y.2 = .free -> X.env.kindOf y.1 = some .cell \/ X.env.kindOf y.1 = some .free := by
 have h := S.ok
 simp only [lV, Td, TB] at h
 intro y hy hl
 have q := h.1.1.2 y hy
 rw [hl] at q
 have q' : X.env.scope.names.lookup y.1 = some .cell \/ X.env.scope.names.lookup y.1 = some .free := by simpa using q
 exact q'
theorem bI.len (S : bI X N' cap scope) : cap.length = N'.length := by
 have h := S.ok
 simp only [lV, Td, TB] at h
 simpa using h.1.2
theorem bI.Lr (S : bI X N' cap scope) {i j : Nat} {x : Str} (h1 : N'[i]? = some x) (h2 : cap[i]? = some (some j)) :
  X.N[j]? = some x /\ (X.env.kindOf x = some .cell \/ X.env.kindOf x = some .free) /\ scope.names.lookup x = some .free := by
 have h := S.ok
 simp only [lV, Td, TB] at h
 have hm : (x, some j) ∈ N'.zip cap := US.mpr ⟨i, by rw [List.getElem?_zip_eq_some]; exact ⟨h1, h2⟩⟩
 have q := h.2 _ hm
 have q' : X.N[j]? = some x /\ (X.env.scope.names.lookup x = some .cell \/ X.env.scope.names.lookup x = some .free) /\ scope.names.lookup x = some .free := by simpa [and_assoc] using q
 exact q'
end
def dJ (cap : List (Option Nat)) (σ : St) : St := cap.map fun o => match o with
 | some j => (σ[j]?).getD none
 | none => none
def cx (σ σ' : St) : Prop := σ'.length = σ.length /\ ∀ (i : Nat) v, σ[i]? = some (some v) -> σ'[i]? = some (some v)
theorem cx.refl (σ : St) : cx σ σ := ⟨rfl, fun _ _ h => h⟩
theorem cx.trans {a b c : St} (h : cx a b) (h' : cx b c) : cx a c := ⟨h'.1.trans h.1, fun i v e => h'.2 i v (h.2 i v e)⟩
theorem cx.set {σ : St} {i : Nat} {v : Option V} (h : σ[i]? = some none) : cx σ (σ.set i v) := ⟨List.length_set .., fun j u e => by
 have hj : i ≠ j := fun z => by subst z; rw [h] at e; cases e
 rw [List.getElem?_set_ne hj]; exact e⟩
def mn (J : It) (D : Addr) (cap : List (Option Nat)) (σ : St) (H1 : Hp) (g : TG) (tc : TT) (te : TE) (Q : VK) : Prop := ∃ (n : Nat) (Pv : Nat -> List V -> Hp -> Prop),
 Pv 0 [] (upd H1 D (.lst [])) /\ ∀ i xs H2, i <= n -> Pv i xs H2 -> H2 D = some (.lst xs) /\ ((i = n /\ J.stop i H2 /\ Q (.ref D) H2) \/ (i < n /\ J.go i H2 /\ ∀ x H3, J.DL i H2 x H3 -> g x (dJ cap σ) H3 fun σ2 H4 => cx (dJ cap σ) σ2 /\
  tc σ2 H4 fun b H5 => if b = true then te σ2 H5 fun y H6 => H6 D = some (.lst xs) /\ xs.length < sizeLine /\ Pv (i + 1) (xs ++ [y]) (upd H6 D (.lst (xs ++ [y]))) else Pv (i + 1) xs H5))
def zH (cap : List (Option Nat)) (wi : TI) (g : TG) (tc : TT) (te : TE) : TE := fun σ H Q => wi σ H fun J H1 => ∀ D, H1 D = none -> mn J D cap σ H1 g tc te Q
section
variable {X : Cx} {pins : List (Addr × Obj)} {σ : St} {H : Hp} {s : Shared} {N' : List Str} {cap : List (Option Nat)} {scope : Scope} {elt iter tg : Expr} {ifs : List Expr} {pos : Pos} {wi : TI} {g : TG} {tc : TT} {te : TE}
theorem qx {pos' : Pos} {use : Option (Value -> Sem Unit)} {Q : VK} {Qf : Value -> Shared -> Prop} (FE : X.calm = true) (S : bI X N' cap scope) (hi : PI X tg iter wi) (hg : ∀ p, PG (X.comp N' scope p) tg g) (hc : ∀ p, A6 (X.comp N' scope p) ifs tc) (he : ∀ p, PE (X.comp N' scope p) elt te)
  (hs : ∀ x, foldedSetIterable iter X.env x = pure x) (I : Inv X pins σ H s) (h : zH cap wi g tc te σ H Q)
  (fin : ∀ D C H' s', Inv X pins σ H' s' -> Q (.ref D) H' -> (∃ m, s'.heap.Ns C m) -> H' C = none -> C ≠ X.env.locals -> X.s₀.heap.objs.size <= C -> (∀ x c, X.env.cells.lookup x = some c -> c ≠ C) -> (∀ p ∈ X.pn ++ pins, p.1 ≠ C) ->
   compPost (model X.prog X.w) X.A X.xe use Qf (.ref D) C (.ok .next) s') :
  wpAny (model X.prog X.w) X.A (comprehension (.ListComp elt [⟨tg, iter, ifs, 0⟩] scope pos) scope X.env pos' (newList []) false (eval iter X.env) use) Qf X.xe s := by
 obtain ⟨cl, Jt, E3, Ni⟩ := pD (scope := scope) (env := X.env) fun y hy hf => I.ok.has _ (S.free y hy hf)
 refine wpAny_comprehension_free (g := ⟨tg, iter, ifs, 0⟩) (gs := []) rfl hs Jt S.kind S.names ?_
 refine bO (hi pins s σ H _ I h) fun xv s1 h1 => bO h1 fun J8 s2 h2 => ?_
 obtain ⟨it, fp, tn, J, H2, e, I2, T, Ec, f2, h2⟩ := h2
 subst e
 refine Ti ?_ (by size_fits)
 have hD : H2 s2.heap.objs.size = none := I2.aP.fresh (Ss _)
 obtain ⟨cnt, Pv, w0, turn⟩ := h2 s2.heap.objs.size hD
 refine wpAny_newFunctionEnv S.z0 (by intro y hy; cases hy) (fun h₁ u4 qS => ?_) S.kind
 dsimp only at u4 qS ⊢
 generalize J3 : s2.heap.push { cls := .type "list", dict := none, data := .seq ([] : List Value).toArray } = A2 at u4 qS ⊢
 have hC : A2.objs.size = s2.heap.objs.size + 1 := by rw [<- J3, UG]
 have old : ∀ b o, s2.heap.get? b = some o -> h₁.get? b = some o := fun b o e => by
  have lt : @LT.lt Nat instLTNat b s2.heap.objs.size := SI e
  exact qS.extBut b o (S2 (by omega)) (Sq _ (J3 ▸ Sq _ e))
 have KC : h₁.get? s2.heap.objs.size = some { cls := .type "list", dict := none, data := .seq ([] : List Value).toArray } :=
  qS.extBut _ _ (S2 (by omega)) (Sq _ (J3 ▸ SC _ rfl))
 have Bb : ∀ x c, X.env.cells.lookup x = some c -> @LT.lt Nat instLTNat c s2.heap.objs.size := fun x c e => by obtain ⟨v, q⟩ := I2.cell x c e; exact q.lt
 have DK : ∀ p ∈ X.pn ++ pins, @LT.lt Nat instLTNat p.1 s2.heap.objs.size := fun p hp => SI (I2.pin p hp).1
 have IE : ∀ b ∈ fp, @LT.lt Nat instLTNat b s2.heap.objs.size := fun b hb => by obtain ⟨o, e, _⟩ := T.obj 0 _ Ec b hb; exact SI e
 let p : CP := ⟨cl, A2.objs.size, s2, H2, fp, X.pn ++ pins⟩
 have ok : (X.comp N' scope p).Ok := {
  mod := I2.ok.mod
  kind := S.kind
  glob := I2.ok.glob
  blt := I2.ok.blt
  above := by show s2.heap.objs.size <= A2.objs.size; omega
  inj := fun x y c h1 h2 => I2.ok.inj x y c (E3 x c h1) (E3 y c h2)
  has := fun x hx => Ni x (Uf (mZ S.z0 hx))
  Go := fun x c hf _ => by cases hf
  hd := I2.ok.hd
  frames := I2.ok.frames
  Il := .inl rfl
  IA := fun b hb => ⟨S2 (show @LT.lt Nat instLTNat b A2.objs.size by have := IE b hb; omega), fun x c e => (f2 b hb).2.2.2.2.1 x c (E3 x c e)⟩
  bs := I2.bs
  yO := SD I2.ok.yO I2.sz
  yH := fun b o e hb => by
   rcases (f2 b hb).2.2.2.1 with z | z
   ·exact I2.ok.yH b o e z
   ·exact absurd (S6 (S6 (SI e) I2.ok.yO) z) (TM _)
  yG := fun b hb hf => by
   rcases Sx.mp (I2.jY b hf) with z | z
   ·exact (f2 b hb).2.1 z
   ·exact (f2 b hb).2.2.1 z
  ke := I2.stack
  Db := I2.nr }
 have HE : Un (jL X.stack) fp H2 (upd H2 s2.heap.objs.size (.lst [])) s2.heap h₁ := Un.laid old (Ss _) hD
 have I0 : ∀ tk, Inv (X.comp N' scope p) [] (dJ cap σ) (upd H2 s2.heap.objs.size (.lst [])) { s2 with heap := h₁, toks := tk } := fun tk => {
  ok := ok
  os := rfl
  bare := I2.bare
  base := HE
  loc := by
   refine ⟨_, u4, fun i x v h1 h2 h3 => ?_⟩
   unfold dJ at h2
   rw [SH] at h2
   cases hq : cap[i]? with
   | none => rw [hq] at h2; cases h2
   | some o =>
    rw [hq] at h2
    cases o with
    | none => cases h2
    | some j =>
     have jq : (σ[j]?).getD none = some v := Tw h2
     have KG : σ[j]? = some (some v) := by
      cases hz : σ[j]? with
      | none => rw [hz] at jq; cases jq
      | some z => rw [hz] at jq; exact TR some jq
     obtain ⟨n1, n2, n3⟩ := S.Lr h1 hq
     obtain ⟨m, hn, hl⟩ := I2.loc
     obtain ⟨u, r, l⟩ := hl j x v n1 KG (by rcases n2 with z | z; exact .inr (.inl z); exact .inr (.inr z))
     refine ⟨u, r, .inr ⟨mq n3, ?_⟩⟩
     obtain ⟨c, hc⟩ := Ni x (Uf n3)
     refine ⟨c, hc, ?_⟩
     rcases l with ⟨z, _⟩ | ⟨_, c', uI, qh⟩
     ·rcases n2 with n2 | n2 <;> (rw [n2] at z; cases z)
     ·have := E3 x c hc
      rw [uI] at this; cases this
      obtain ⟨o, ho, hd⟩ := qh
      exact ⟨o, old _ _ ho, hd⟩
  cell := fun x c e => by
   obtain ⟨v, o, ho, hd⟩ := I2.cell x c (E3 x c e)
   exact ⟨v, o, old _ _ ho, hd⟩
  free := by
   show upd H2 s2.heap.objs.size (.lst []) A2.objs.size = none
   rw [ak (UZ (by omega))]
   exact I2.aP.fresh (by omega)
  im := fun x c e => by
   have := Bb x c (E3 x c e)
   show upd H2 s2.heap.objs.size (.lst []) c = none
   rw [ak (S2 this)]
   exact I2.im x c (E3 x c e)
  pin := fun q hq => by
   have uG : q ∈ X.pn ++ pins := by
    have z : q ∈ (X.pn ++ pins) ++ ([] : List (Addr × Obj)) := hq
    simpa using z
   have lt := DK q uG
   obtain ⟨e, n, ne, nf, d⟩ := I2.pin q uG
   refine ⟨old _ _ e, by rw [ak (S2 lt)]; exact n, S2 (show @LT.lt Nat instLTNat q.1 A2.objs.size by omega), fun hf => ?_, d⟩
   rcases Sx.mp (I2.jY _ hf) with z | z
   ·exact ne z
   ·exact nf z
  aP := I2.aP.laid old (Ss _) ⟨S4 _, [], _, .nil, KC⟩
  len := by show (dJ cap σ).length = N'.length; unfold dJ; rw [Sr, S.len] }
 have Ev : ∀ {H' : Hp}, (∀ b ∈ fp, H' b = none) -> ∀ b ∈ fp, qN (X.comp N' scope p) [] H' b := fun hn b hb =>
  ⟨hn b hb, (ok.IA b hb).1, ok.yG b hb, .inl hb, (ok.IA b hb).2, fun q hq => (f2 b hb).2.2.2.2.2 q (by
   have z : q ∈ (X.pn ++ pins) ++ ([] : List (Addr × Obj)) := hq
   simpa using z)⟩
 have Ou : ∀ b ∈ fp, (upd H2 s2.heap.objs.size (.lst [])) b = none := fun b hb => by
  rw [ak (S2 (IE b hb))]
  exact (f2 b hb).1
 have loop : ∀ s3 : Shared, (∃ tk, s3 = { s2 with heap := h₁, toks := tk }) -> codeAny (model X.prog X.w) X.A (.compLoop (.ListComp elt [⟨tg, iter, ifs, 0⟩] scope pos) 0 (.ref it) (.ref s2.heap.objs.size) (compEnvC scope cl A2.objs.size X.env))
   (compPost (model X.prog X.w) X.A X.xe use Qf (.ref s2.heap.objs.size) A2.objs.size) s3 := by
  rintro s3 ⟨tk, rfl⟩
  refine qE (fun n s' => ∃ i xs H', Inv (X.comp N' scope p) [] (dJ cap σ) H' s' /\ tn i s'.heap /\ (∀ b ∈ fp, H' b = none) /\ n = cnt - i /\ i <= cnt /\ Pv i xs H') ?_ cnt
   ⟨0, [], _, I0 tk, T.keep 0 _ _ Ec (fun b _ o e => old b o e), Ou, rfl, S4 _, w0⟩
  rintro n s4 ⟨i, xs, H4, I4, pS, Ma, en, sS, w4⟩
  obtain ⟨ON, w4⟩ := turn i xs H4 sS w4
  rcases w4 with ⟨_, stop, qn⟩ | ⟨fG, go, step⟩
  ·refine bO (T.done (X.comp N' scope p) rfl rfl rfl FE i [] s4 _ H4 _ I4 (Ev Ma) pS stop) fun r s5 ⟨hr, I5⟩ => ?_
   subst hr
   have I6 : Inv X pins σ H4 s5 := I2.Eb I5.os I5.base I5.aP I5.bare fun b hb => ⟨(f2 b hb).2.2.2.1, (f2 b hb).2.1, (f2 b hb).2.2.2.2.1, (f2 b hb).2.2.2.2.2⟩
   obtain ⟨m, hm, _⟩ := I5.loc
   refine fin _ _ H4 s5 I6 qn ⟨m, hm⟩ I5.free ?_ ?_ (fun x c e => ?_) fun q hq => ?_
   ·exact UZ (by have : @LT.lt Nat instLTNat X.env.locals s2.heap.objs.size := I2.lt; omega)
   ·have := I2.sz; omega
   ·exact S2 (by have := Bb x c e; omega)
   ·exact S2 (by have := DK q hq; omega)
  ·refine bO (T.item (X.comp N' scope p) rfl rfl rfl FE i [] s4 _ H4 _ I4 (Ev Ma) pS go) fun r s5 ⟨u, hr, h5⟩ => ?_
   subst hr
   refine bO h5 fun _ s6 ⟨x, H6, I6, r6, y6, Ll, QN⟩ => ?_
   have NB := I6.pinned (Ev QN) (T.obj _ _ Ll)
   refine bO (hg p _ s6 _ H6 x u _ NB r6 (step x H6 y6)) fun _ s7 ⟨σ7, H7, I7, Mu, q7⟩ => ?_
   refine bO (hc p _ s7 σ7 H7 _ I7 q7) fun b s8 ⟨H8, I8, q8⟩ => ?_
   have again : ∀ {H9 : Hp} {s9 : Shared} {zs : List V}, Inv (X.comp N' scope p) ([] ++ nI fp s6.heap) σ7 H9 s9 -> Pv (i + 1) zs H9 ->
     ∃ m, m < n /\ ∃ i xs H', Inv (X.comp N' scope p) [] (dJ cap σ) H' s9 /\ tn i s9.heap /\ (∀ b ∈ fp, H' b = none) /\ m = cnt - i /\ i <= cnt /\ Pv i xs H' := fun {H9 s9 zs} I9 w9 => by
    refine ⟨cnt - (i + 1), by omega, i + 1, zs, H9, I9.kx.weak Mu.1.symm (fun i v e => Mu.2 i v e), T.keep _ _ _ Ll fun b hb o e => (I9.pin (b, o) (S8 _ (S8 _ (ik hb e)))).1, fun b hb => ?_, rfl, fG, w9⟩
    obtain ⟨o, e, d⟩ := T.obj _ _ Ll b hb
    exact (I9.pin (b, o) (S8 _ (S8 _ (ik hb e)))).2.1
   cases b with
   | false =>
    exact again I8 q8
   | true =>
    refine bO (he p _ s8 σ7 H8 _ I8 q8) fun yv s9 ⟨y, H9, I9, ry, KQ, hz, w9⟩ => ?_
    refine bO (gH (X := X.comp N' scope p) _ s9 σ7 H9 (.ref s2.heap.objs.size) [y] (.ref s2.heap.objs.size) [yv] (fun v H' => v = .cc /\ H' = upd H9 s2.heap.objs.size (.lst (xs ++ [y]))) I9 rfl (.cons ry .nil) ⟨_, xs, y, rfl, rfl, KQ, hz, rfl, rfl⟩) fun _ RW ⟨_, Se, PM, _, _, NH⟩ => ?_
    subst NH
    exact again PM w9
 refine codeAny_compStart_list (loop _ ⟨_, rfl⟩) (T.self _ 0 _ _ _ (T.keep 0 _ _ Ec fun b _ o e => old b o e) (loop _ ⟨_, rfl⟩))
theorem cv (FE : X.calm = true) (S : bI X N' cap scope) (hi : PI X tg iter wi) (hg : ∀ p, PG (X.comp N' scope p) tg g) (hc : ∀ p, A6 (X.comp N' scope p) ifs tc) (he : ∀ p, PE (X.comp N' scope p) elt te)
  (hs : ∀ x, foldedSetIterable iter X.env x = pure x := by intro _; rfl) : PE X (.ListComp elt [⟨tg, iter, ifs, 0⟩] scope pos) (zH cap wi g tc te) := by
 intro pins s σ H Q I h
 rw [eval_ListComp]
 refine qx (use := none) (Q := Q) FE S hi hg hc he hs I h ?_
 intro D C H' s' I' q ns hC hL h1 h2 h3
 obtain ⟨m, hm⟩ := ns
 exact ⟨m, hm, fun Jn sb => ⟨.ref D, H', I'.turned (t' := s'.toks) (fun b o hb e => (sb.2 b hb).trans e) hC hL (.inr h1) h2 h3, rfl, q⟩⟩
theorem rS {j : Nat} {y : Str} {py FD : Pos} (FE : X.calm = true) (S : bI X N' cap scope) (hi : PI X tg iter wi) (hg : ∀ p, PG (X.comp N' scope p) tg g) (hc : ∀ p, A6 (X.comp N' scope p) ifs tc) (he : ∀ p, PE (X.comp N' scope p) elt te)
  (hN : X.N.Nodup) (hj : X.N[j]? = some y) (hy : X.env.scope.names.lookup y = some .local)
  (Pc : swapsWith (.ListComp elt [⟨tg, iter, ifs, 0⟩] scope pos) (some (.Name y py)) FD.line X.env = pure true)
  (hs : ∀ x, foldedSetIterable iter X.env x = pure x := by intro _; rfl) : PS X (.Assign [.Name y py] (.ListComp elt [⟨tg, iter, ifs, 0⟩] scope pos) FD) (Ci (zH cap wi g tc te) (t5 j)) := by
 intro pins s σ H D I h
 rw [exec_Assign_Name_used _ _ _ _ Pc]
 refine Sn (wpAny_standAt (Sn ?_))
 show wpAny _ X.A (do let _ <- comprehension (.ListComp elt [⟨tg, iter, ifs, 0⟩] scope pos) scope X.env _ (newList []) false (eval iter X.env) (some (assign (.Name y py) X.env))) _ _ s
 refine Sn (TZ (qx (use := some (assign (.Name y py) X.env)) (Qf := fun _ s' => SP X pins D .next s') FE S hi hg hc he hs I h ?_) (fun _ s' hq => So (So hq)) fun _ _ e => e)
 intro D' C H' s' I' q ns hC hL h1 h2 h3
 obtain ⟨m, hm⟩ := ns
 show wpAny _ X.A (assign (.Name y py) X.env (.ref D')) _ _ _
 refine wpAny_assign_Name (qt I' hN hj (.inl hy) (v := .ref D') rfl (fun rW P6 ⟨a, sb, ha⟩ => ?_) (.inr hy))
 have ne : C ≠ a := fun z => by
  rcases ha with e | e
  ·exact hL (z.trans e)
  ·exact h2 y a e z.symm
 exact ⟨m, hm.sameBut sb ne, fun Jn OU => ⟨_, H', P6.turned (t' := rW.toks) (fun b o hb e => (OU.2 b hb).trans e) hC hL (.inr h1) h2 h3, q⟩⟩
end
section
variable {K : Vj} {cap : List (Option Nat)} {σ : St} {H : Hp} {g : TG} {tc : TT} {te : TE} {Q : VK} {D : Addr}
theorem jP {lo : Int} {n : Nat} (Pv : Nat -> List V -> Hp -> Prop) (h0 : Pv 0 [] (upd H D (.lst []))) (hD : ∀ i xs H, i <= n -> Pv i xs H -> H D = some (.lst xs))
  (hs : ∀ i xs H, i < n -> Pv i xs H -> g (.int (lo + i)) (dJ cap σ) H fun σ2 H4 => cx (dJ cap σ) σ2 /\
   tc σ2 H4 fun b H5 => if b = true then te σ2 H5 fun y H6 => H6 D = some (.lst xs) /\ xs.length < sizeLine /\ Pv (i + 1) (xs ++ [y]) (upd H6 D (.lst (xs ++ [y]))) else Pv (i + 1) xs H5)
  (hd : ∀ xs H, Pv n xs H -> Q (.ref D) H) : mn (EC lo n) D cap σ H g tc te Q := by
 refine ⟨n, Pv, h0, fun i xs H2 hi p => ⟨hD i xs H2 hi p, ?_⟩⟩
 by_cases fG : i < n
 ·refine .inr ⟨fG, fG, fun x H' y => ?_⟩
  obtain ⟨e, y⟩ := y
  subst e y
  exact hs i xs _ fG p
 ·have e : i = n := by omega
  subst e
  exact .inl ⟨rfl, Ss _, hd xs H2 p⟩
theorem dR {a : Addr} {ys : List V} (Pv : Nat -> List V -> Hp -> Prop) (h0 : Pv 0 [] (upd H D (.lst []))) (hD : ∀ i xs H, i <= ys.length -> Pv i xs H -> H D = some (.lst xs) /\ bz K H a ys)
  (hs : ∀ i x xs H, ys[i]? = some x -> Pv i xs H -> g x (dJ cap σ) H fun σ2 H4 => cx (dJ cap σ) σ2 /\
   tc σ2 H4 fun b H5 => if b = true then te σ2 H5 fun y H6 => H6 D = some (.lst xs) /\ xs.length < sizeLine /\ Pv (i + 1) (xs ++ [y]) (upd H6 D (.lst (xs ++ [y]))) else Pv (i + 1) xs H5)
  (hd : ∀ xs H, Pv ys.length xs H -> Q (.ref D) H) : mn (Gm K a) D cap σ H g tc te Q := by
 refine ⟨ys.length, Pv, h0, fun i xs H2 hi p => ⟨(hD i xs H2 hi p).1, ?_⟩⟩
 have q := (hD i xs H2 hi p).2
 by_cases fG : i < ys.length
 ·refine .inr ⟨fG, ⟨ys, ys[i], q, by simp [fG]⟩, fun x H' y => ?_⟩
  obtain ⟨e, y⟩ := y
  subst e
  exact hs i x xs _ (y ys q) p
 ·have e : i = ys.length := by omega
  subst e
  exact .inl ⟨rfl, ⟨ys, q, Ss _⟩, hd xs H2 p⟩
theorem iE {a : Addr} {ys : List V} (Pv : Nat -> List V -> Hp -> Prop) (h0 : Pv 0 [] (upd H D (.lst []))) (hD : ∀ i xs H, i <= ys.length -> Pv i xs H -> H D = some (.lst xs) /\ bR K H a ys)
  (hs : ∀ i x xs H, ys[i]? = some x -> Pv i xs H -> g x (dJ cap σ) H fun σ2 H4 => cx (dJ cap σ) σ2 /\
   tc σ2 H4 fun b H5 => if b = true then te σ2 H5 fun y H6 => H6 D = some (.lst xs) /\ xs.length < sizeLine /\ Pv (i + 1) (xs ++ [y]) (upd H6 D (.lst (xs ++ [y]))) else Pv (i + 1) xs H5)
  (hd : ∀ xs H, Pv ys.length xs H -> Q (.ref D) H) : mn (Gd K a) D cap σ H g tc te Q := by
 refine ⟨ys.length, Pv, h0, fun i xs H2 hi p => ⟨(hD i xs H2 hi p).1, ?_⟩⟩
 have q := (hD i xs H2 hi p).2
 by_cases fG : i < ys.length
 ·refine .inr ⟨fG, ⟨ys, ys[i], q, by simp [fG]⟩, fun x H' y => ?_⟩
  obtain ⟨e, y⟩ := y
  subst e
  exact hs i x xs _ (y ys q) p
 ·have e : i = ys.length := by omega
  subst e
  exact .inl ⟨rfl, ⟨ys, q, Ss _⟩, hd xs H2 p⟩
end
mutual
inductive DV (H : Hp) : PyData -> V -> Prop
 | cc : DV H .none .cc
 | bl (b : Bool) : DV H (.bool b) (.bl b)
 | int (i : Int) : DV H (.int i) (.int i)
 | str (x : Str) : DV H (.str x) (.str x)
 | lst {a : Addr} {ds : List PyData} {vs : List V} : H a = some (.lst vs) -> bK H ds vs -> DV H (.list ds) (.ref a)
 | tup {a : Addr} {ds : List PyData} {vs : List V} : H a = some (.tup vs) -> bK H ds vs -> DV H (.tuple ds) (.ref a)
inductive bK (H : Hp) : List PyData -> List V -> Prop
 | nil : bK H [] []
 | cons {d : PyData} {v : V} {ds : List PyData} {vs : List V} : DV H d v -> bK H ds vs -> bK H (d :: ds) (v :: vs)
end
section
variable {H H' : Hp}
mutual
theorem DV.mono (e : am H H') : ∀ {d : PyData} {v : V}, DV H d v -> DV H' d v
 | _, _, .cc => .cc
 | _, _, .bl b => .bl b
 | _, _, .int i => .int i
 | _, _, .str x => .str x
 | _, _, .lst h t => .lst (e _ _ h) (bK.mono e t)
 | _, _, .tup h t => .tup (e _ _ h) (bK.mono e t)
theorem bK.mono (e : am H H') : ∀ {ds : List PyData} {vs : List V}, bK H ds vs -> bK H' ds vs
 | _, _, .nil => .nil
 | _, _, .cons h t => .cons (DV.mono e h) (bK.mono e t)
end
theorem bK.length : ∀ {ds : List PyData} {vs : List V}, bK H ds vs -> ds.length = vs.length
 | _, _, .nil => rfl
 | _, _, .cons _ t => TR (· + 1) (bK.length t)
theorem bK.get : ∀ {ds : List PyData} {vs : List V} {i : Nat} {d : PyData}, bK H ds vs -> ds[i]? = some d -> ∃ v, vs[i]? = some v /\ DV H d v
 | _, _, _, _, .nil, e => by simp at e
 | _, _, 0, _, .cons h _, e => by simp at e; subst e; exact ⟨_, rfl, h⟩
 | _, _, i + 1, d, .cons _ t, e => by
  obtain ⟨v, h1, h2⟩ := bK.get (i := i) (d := d) t (by simpa using e)
  exact ⟨v, by simpa using h1, h2⟩
theorem bK.get' : ∀ {ds : List PyData} {vs : List V} {i : Nat} {v : V}, bK H ds vs -> vs[i]? = some v -> ∃ d, ds[i]? = some d /\ DV H d v
 | _, _, _, _, .nil, e => by simp at e
 | _, _, 0, _, .cons h _, e => by simp at e; subst e; exact ⟨_, rfl, h⟩
 | _, _, i + 1, v, .cons _ t, e => by
  obtain ⟨d, h1, h2⟩ := bK.get' (i := i) (v := v) t (by simpa using e)
  exact ⟨d, by simpa using h1, h2⟩
theorem bK.append : ∀ {ds es : List PyData} {vs ws : List V}, bK H ds vs -> bK H es ws -> bK H (ds ++ es) (vs ++ ws)
 | _, _, _, _, .nil, s => s
 | _, _, _, _, .cons h t, s => .cons h (bK.append t s)
theorem bK.snoc {ds : List PyData} {vs : List V} {d : PyData} {v : V} (h : bK H ds vs) (hd : DV H d v) : bK H (ds ++ [d]) (vs ++ [v]) := h.append (.cons hd .nil)
theorem bK.take : ∀ {ds : List PyData} {vs : List V} (n : Nat), bK H ds vs -> bK H (ds.take n) (vs.take n)
 | _, _, 0, _ => .nil
 | _, _, _ + 1, .nil => .nil
 | _, _, n + 1, .cons h t => .cons h (bK.take n t)
theorem bK.drop : ∀ {ds : List PyData} {vs : List V} (n : Nat), bK H ds vs -> bK H (ds.drop n) (vs.drop n)
 | _, _, 0, t => t
 | _, _, _ + 1, .nil => .nil
 | _, _, n + 1, .cons _ t => bK.drop n t
theorem bK.ints (ns : List Int) : bK H (ns.map PyData.int) (ns.map V.int) := by
 induction ns with
 | nil => exact .nil
 | cons n r ih => exact .cons (.int n) ih
theorem DV.int_inv {i : Int} {v : V} (h : DV H (.int i) v) : v = .int i := by cases h; rfl
theorem DV.Fg {b : Bool} {v : V} (h : DV H (.bool b) v) : v = .bl b := by cases h; rfl
theorem DV.eV {ds : List PyData} {v : V} (h : DV H (.tuple ds) v) : ∃ a vs, v = .ref a /\ H a = some (.tup vs) /\ bK H ds vs := by cases h with | tup h t => exact ⟨_, _, rfl, h, t⟩
theorem bK.kD : ∀ {ns : List Int} {vs : List V}, bK H (ns.map PyData.int) vs -> vs = ns.map V.int
 | [], _, h => by cases h; rfl
 | n :: r, _, h => by
  cases h with
  | cons h t =>
   cases h
   show _ = V.int n :: r.map V.int
   rw [bK.kD t]
theorem bK.nh {a b : PyData} {vs : List V} (h : bK H [a, b] vs) : ∃ v w, vs = [v, w] /\ DV H a v /\ DV H b w := by
 cases h with
 | cons h t => cases t with
  | cons h' t' => cases t'; exact ⟨_, _, rfl, h, h'⟩
theorem bK.lQ {a b c : PyData} {vs : List V} (h : bK H [a, b, c] vs) : ∃ v w u, vs = [v, w, u] /\ DV H a v /\ DV H b w /\ DV H c u := by
 cases h with
 | cons h t =>
  obtain ⟨v, w, rfl, h1, h2⟩ := bK.nh t
  exact ⟨_, _, _, rfl, h, h1, h2⟩
variable {P : Program} {w : World} {h : Heap}
mutual
theorem DV.reads (ok : iA P w H h) : ∀ {d : PyData} {v : V} {u : Value}, DV H d v -> RelV v u -> ∃ as, Reads h u d as
 | _, _, _, .cc, r => by cases r; exact ⟨_, .none⟩
 | _, _, _, .bl b, r => by cases r; exact ⟨_, .bool b⟩
 | _, _, _, .int i, r => by obtain ⟨t, rfl⟩ := r; exact ⟨_, .int i t⟩
 | _, _, _, .str x, r => by obtain ⟨t, rfl⟩ := r; exact ⟨_, .str x t⟩
 | _, _, _, .lst e t, r => by
  cases r
  obtain ⟨_, au, n, rv, eo⟩ := ok _ _ e
  obtain ⟨as, q⟩ := bK.reads ok t rv
  exact ⟨_, .list eo rfl rfl (by simpa using q)⟩
 | _, _, _, .tup e t, r => by
  cases r
  obtain ⟨_, au, rv, o, eo, hc, n, hd⟩ := ok _ _ e
  obtain ⟨as, q⟩ := bK.reads ok t rv
  exact ⟨_, .tuple eo hc hd (by simpa using q)⟩
theorem bK.reads (ok : iA P w H h) : ∀ {ds : List PyData} {vs : List V} {us : List Value}, bK H ds vs -> Vals vs us -> ∃ as, ReadsAll h us ds as
 | _, _, _, .nil, r => by cases r; exact ⟨_, .nil⟩
 | _, _, _, .cons e t, r => by
  cases r with
  | cons r rr =>
   obtain ⟨as, q⟩ := DV.reads ok e r
   obtain ⟨bs, q'⟩ := bK.reads ok t rr
   exact ⟨_, .cons q q'⟩
end
end
section
variable {X : Cx}
def IJ (neg : Bool) : R2 := fun x y H Q => ∃ d e, DV H d x /\ DV H e y /\ d.canLay0 = true /\ e.canLay0 = true /\ min d.depth e.depth <= 60 /\ Q (.bl (if neg then !PyData.eqv d e else PyData.eqv d e)) H
theorem Ft (hu : X.A.units + 64 < cLine) : gi X (compareOp .Eq) (IJ false) := by
 intro pins s σ H x y v u Q I rx ry h
 obtain ⟨d, e, hd, he, c1, c2, dp, q⟩ := h
 obtain ⟨as, ra⟩ := hd.reads I.aP rx
 obtain ⟨bs, rb⟩ := he.reads I.aP ry
 exact SeqAt.compareEq_reads ra rb c1 c2 (by omega) ⟨.bl _, H, I, rfl, q⟩
theorem Ep (hu : X.A.units + 64 < cLine) : gi X (compareOp .NotEq) (IJ true) := by
 intro pins s σ H x y v u Q I rx ry h
 obtain ⟨d, e, hd, he, c1, c2, dp, q⟩ := h
 obtain ⟨as, ra⟩ := hd.reads I.aP rx
 obtain ⟨bs, rb⟩ := he.reads I.aP ry
 exact SeqAt.compareNe_reads ra rb c1 c2 (by omega) ⟨.bl _, H, I, rfl, q⟩
def Hs (neg : Bool) : R2 := fun x y H Q => ∃ d es, DV H d x /\ (DV H (.list es) y \/ DV H (.tuple es) y) /\ d.canLay0 = true /\ PyData.canLayAll0 es = true /\ d.depth <= 60 /\
 Q (.bl (if neg then !(es.any fun e => PyData.eqv e d) else es.any fun e => PyData.eqv e d)) H
theorem KR (hu : X.A.units + 64 < cLine) : gi X (compareOp .In) (Hs false) := by
 intro pins s σ H x y v u Q I rx ry h
 obtain ⟨d, es, hd, he, c1, c2, dp, q⟩ := h
 obtain ⟨as, ra⟩ := hd.reads I.aP rx
 rcases he with he | he
 ·obtain ⟨bs, rb⟩ := he.reads I.aP ry
  exact SeqAt.in_list_reads rb ra c2 c1 (by omega) ⟨.bl _, H, I, rfl, q⟩
 ·obtain ⟨bs, rb⟩ := he.reads I.aP ry
  exact SeqAt.in_tuple_reads rb ra c2 c1 (by omega) ⟨.bl _, H, I, rfl, q⟩
theorem lP (hu : X.A.units + 64 < cLine) : gi X (compareOp .NotIn) (Hs true) := by
 intro pins s σ H x y v u Q I rx ry h
 obtain ⟨d, es, hd, he, c1, c2, dp, q⟩ := h
 obtain ⟨as, ra⟩ := hd.reads I.aP rx
 rcases he with he | he
 ·obtain ⟨bs, rb⟩ := he.reads I.aP ry
  exact SeqAt.notIn_list_reads rb ra c2 c1 (by omega) ⟨.bl _, H, I, rfl, q⟩
 ·obtain ⟨bs, rb⟩ := he.reads I.aP ry
  exact SeqAt.notIn_tuple_reads rb ra c2 c1 (by omega) ⟨.bl _, H, I, rfl, q⟩
end
end L2
namespace PySem
open Sem (wp)
open AutoSeq1 (wpAny_loadPart')
section
variable {prog : Program} {w : World} {A : Around} {E : Value -> Shared -> Prop} {s : Shared}
theorem pj {Q : List Value -> Shared -> Prop} {r : Addr} {a b c : Int} {t u v : Tok} {n : Nat} (hh : A.handled = none) (hr : IsRange s.heap r a b c t u v) (o6 : Builtin.Range.small a b c = true)
  (hn : Builtin.Range.rangeSize a b c = n) (hlen : n <= 2 ^ 24)
  (hQ : ∀ s' acc, (∀ b o, s.heap.get? b = some o -> s'.heap.get? b = some o) -> s'.gens = s.gens -> s'.drawn = s.drawn -> s'.os = s.os -> ItemsOf (fun i v => ∃ t, v = .int (a + i * c) t) acc n -> Q acc.toList s') :
  wpAny (model prog w) A (collect (.ref r)) Q E s := by
 unfold collect
 refine Sn (wpAny_runValue (codeAny_builtin F.entry_proto_collect ?_))
 rw [Around.under_plainId F.plain_proto_collect _]
 show wpAny _ A.in1 (newList [] >>= fun l => again (.builtin "list.__iadd__" ⟨[l, .ref r], []⟩)) _ _ s
 refine Sn (Ti ?_)
 refine So ⟨plainId_quiet F.plain_list_iadd _, codeAny_builtin F.entry_list_iadd ?_⟩
 rw [Around.under_plainId F.plain_list_iadd _]
 show wpAny _ A.in1 (Builtin.List.listExtendWith (.ref s.heap.objs.size) (.ref r) (.ref s.heap.objs.size)) _ _ _
 have hS : (s.heap.push { cls := .type "list", data := .seq ([] : List Value).toArray }).get? s.heap.objs.size = some { cls := .type "list", data := .seq #[] 0 } := SC _ rfl
 have Ic : ∀ (h' : Heap) (tk : Nat) (acc : Array Value) (c' : Nat), (∀ b o, b ≠ s.heap.objs.size -> (s.heap.push { cls := .type "list", data := .seq ([] : List Value).toArray }).get? b = some o -> h'.get? b = some o) ->
   h'.get? s.heap.objs.size = some { cls := .type "list", dict := none, data := .seq acc c', slots := #[] } -> ItemsOf (fun i v => ∃ t, v = .int (a + i * c) t) acc n ->
   wpAny (model prog w) A (match Value.ref s.heap.objs.size with
   | Value.ref a => do
    match (<- load a).data with
     | Data.seq xs _ => pure xs.toList
     | _ => unsupported "internal:collect"
   | _ => unsupported "internal:collect") Q E { s with heap := h', toks := tk } := by
  intro h' tk acc c' hk pW m6
  show wpAny _ A (load s.heap.objs.size >>= _) _ _ _
  refine Sn (wpAny_load pW ?_)
  refine So ?_
  exact hQ { s with heap := h', toks := tk } acc (fun b o' hb => hk b o' (S2 (SI hb)) (Sq _ hb)) rfl rfl rfl m6
 refine TZ (wpAny_extend_range (A := A) (R := fun r s' => r = .ok (.ret (.ref s.heap.objs.size)) /\ ∃ (h' : Heap) (tk : Nat) (acc : Array Value) (c' : Nat), s' = { s with heap := h', toks := tk } /\
   (∀ b o, b ≠ s.heap.objs.size -> (s.heap.push { cls := .type "list", data := .seq ([] : List Value).toArray }).get? b = some o -> h'.get? b = some o) /\
   h'.get? s.heap.objs.size = some { cls := .type "list", dict := none, data := .seq acc c', slots := #[] } /\ ItemsOf (fun i v => ∃ t, v = .int (a + i * c) t) acc n)
  (s := { s with heap := s.heap.push { cls := .type "list", data := .seq ([] : List Value).toArray } }) hh (Sq _ hr) o6 hn hlen s.heap.objs.size (.ref s.heap.objs.size) 0 hS
  fun h' tk KW c' hk pW m6 => ⟨rfl, h', tk, KW, c', rfl, hk, pW, m6⟩) (fun fin s' h => ?_) (fun e s' h => ?_)
 ·cases fin with
  | done f =>
   obtain ⟨e, h', tk, acc, c', rfl, hk, pW, m6⟩ := h
   cases e
   exact Ic h' tk acc c' hk pW m6
  | again c' => exact ⟨h.1, codeAny_mono h.2 fun r rW hr => by obtain ⟨rfl, h', tk, acc, c', rfl, hk, pW, m6⟩ := hr; exact Ic h' tk acc c' hk pW m6⟩
 ·exact absurd h.1 (by simp)
end
theorem ix (r : Addr) (a b c : Int) (t u v : Tok) (n : Nat) (o6 : Builtin.Range.small a b c = true) (hn : Builtin.Range.rangeSize a b c = n) (hlen : n <= 2 ^ 20) :
  Meets (Builtin.«tuple.__new__» ⟨[.type "tuple", .ref r], []⟩)
   (fun A R s => A.handled = none /\ IsRange s.heap r a b c t u v /\ ∀ (s' : Shared) (acc : Array Value), (∀ b o, s.heap.get? b = some o -> s'.heap.get? b = some o) -> s'.gens = s.gens -> s'.drawn = s.drawn -> s'.os = s.os -> ItemsOf (fun i v => ∃ t, v = .int (a + i * c) t) acc n ->
    R (.ok (.ret (.ref s'.heap.objs.size))) { s' with heap := s'.heap.push { cls := .type "tuple", data := .seq acc } }) :=
 .of_wp fun prog w A R s h => by
  obtain ⟨hh, hr, h⟩ := h
  have yh := sub_tuple_self
  have MK := init_tuple_lookup
  have RI := madeHere_tuple
  have hT : s.TypeIs (.ref r) "range" := ⟨_, hr, rfl⟩
  have Pq : A.in1.handled = none := hh
  wp_walk using wpAny_loadPart' hr, wpAny_typeOf hT, pj (n := n) Pq hr o6 hn (by omega)
  intro s' acc hk hg hd zr m6
  show wpAny _ _ (Builtin.Tuple.tupleExact acc.toList.toArray >>= fun v => ret v) _ _ _
  unfold Builtin.Tuple.tupleExact
  refine Sn (Ti ?_ (show acc.toList.toArray.size <= sizeLine by simp only [UB]; rw [m6.1, Uu]; omega))
  refine So ⟨_, rfl, ?_⟩
  have e : acc.toList.toArray = acc := by simp
  rw [e]
  exact h s' acc hk hg hd zr m6
section
variable {prog : Program} {w : World} {A : Around} {E : Value -> Shared -> Prop} {s : Shared}
theorem nD {Q : Value -> Shared -> Prop} {r : Addr} {a b c : Int} {t u v : Tok} {n : Nat} (hh : A.handled = none) (hr : IsRange s.heap r a b c t u v) (o6 : Builtin.Range.small a b c = true)
  (hn : Builtin.Range.rangeSize a b c = n) (hlen : n <= 2 ^ 20)
  (h : ∀ (h' : Heap) (tk : Nat) (acc : Array Value), (∀ b o, s.heap.get? b = some o -> h'.get? b = some o) -> ItemsOf (fun i v => ∃ t, v = .int (a + i * c) t) acc n -> Q (.ref h'.objs.size) { s with heap := h'.push { cls := .type "tuple", data := .seq acc }, toks := tk }) :
  wpAny (model prog w) A (call (.type "tuple") [.ref r]) Q E s := by
 refine callType_new F.called_tuple (by decide) (F.typeCall_tuple_1 _) (F.newCall_tuple_1 _) (fun obj => F.args_object_init_2 obj _) F.entry_tuple_new
  (ix r a b c t u v n o6 hn hlen) ⟨hh, hr, fun s' acc hk hg hd zr m6 => ⟨⟨_, SC _ rfl, rfl⟩, ?_⟩⟩
 obtain ⟨h', g', d', Qo, L7⟩ := s'
 have e1 : g' = s.gens := hg
 have e2 : d' = s.drawn := hd
 have e3 : L7 = s.os := zr
 subst e1 e2 e3
 exact h h' Qo acc hk m6
end
end PySem
namespace L2
open PySem PySem.Spec PyProof.Rows
theorem wZ : ∀ {xs : List V} {us : List Value}, xs.length = us.length -> (∀ (i : Nat) x u, xs[i]? = some x -> us[i]? = some u -> RelV x u) -> Vals xs us
 | [], [], _, _ => .nil
 | [], _ :: _, h, _ => by simp at h
 | _ :: _, [], h, _ => by simp at h
 | x :: xs, u :: us, h, f => .cons (f 0 x u rfl rfl) (wZ (by simpa using h) fun i y z h1 h2 => f (i + 1) y z (by simpa using h1) (by simpa using h2))
def bM (n : Nat) : List Int := (List.range n).map fun k : Nat => (k : Int)
theorem bn (n : Nat) : (bM n).length = n := by simp [bM]
theorem zQ {n i : Nat} (h : i < n) : (bM n)[i]? = some (i : Int) := by simp [bM, h]
theorem jm (n : Nat) : bM (n + 1) = bM n ++ [(n : Int)] := by simp [bM, List.range_succ]
theorem cE {n : Nat} {i : Int} : i ∈ bM n ↔ 0 <= i /\ i < n := by
 simp only [bM, S9, List.mem_range]
 constructor
 ·rintro ⟨k, hk, rfl⟩; omega
 ·rintro ⟨h0, h1⟩; exact ⟨i.toNat, by omega, by omega⟩
section
variable {X : Cx}
theorem tL : dh X (.type "range") (fun xs H Q => ∃ j, xs = [.int j] /\ ∀ p, H p = none -> Q (.ref p) (upd H p (.Dj 0 j))) := by
 intro pins s σ H xs us Q I r h
 obtain ⟨j, rfl, q⟩ := h
 obtain ⟨u, rfl, t, rfl⟩ := vals1 r
 refine call_range_1 ?_
 exact ⟨.ref s.heap.objs.size, _, I.laid (o := .Dj 0 j) (fun b o e => Sq _ e) (Ss _) ⟨_, _, _, SC _ rfl⟩, rfl, q _ (I.aP.fresh (Ss _))⟩
theorem l3 (hc : X.calm = true) : dh X (.type "tuple") (fun xs H Q => ∃ p n, xs = [.ref p] /\ H p = some (.Dj 0 (n : Nat)) /\ n <= 1000 /\ ∀ l, H l = none -> Q (.ref l) (upd H l (.tup ((bM n).map V.int)))) := by
 intro pins s σ H xs us Q I r h
 obtain ⟨p, n, rfl, hp, hn, q⟩ := h
 obtain ⟨u, rfl, rx⟩ := vals1 r
 cases rx
 obtain ⟨t, u, v, e⟩ := I.aP p _ hp
 have hsz : Builtin.Range.rangeSize 0 (n : Int) 1 = n := by rw [rangeSize_one]; split <;> omega
 refine nD (n := n) (I.ok.hd hc) e (small_one (by omega) (by omega) (by omega) (by omega)) hsz (by omega) fun h' tk acc kp items => ?_
 have I1 : Inv X pins σ H { s with heap := h', toks := tk } := I.kept (t' := tk) kp
 have hv : Vals ((bM n).map V.int) acc.toList := by
  refine wZ (by rw [Sr, bn, SA, items.1]) fun i x u h1 h2 => ?_
  have hi : i < n := by
   have := (SR.mp h1).1
   rw [Sr, bn] at this
   exact this
  rw [SH, zQ hi] at h1
  cases h1
  obtain ⟨t', e'⟩ := items.2 i u (by simpa using h2)
  exact ⟨t', by rw [e']; congr 1; omega⟩
 have hz : ((bM n).map V.int).length <= sizeLine := by rw [Sr, bn, Uu]; omega
 have I2 : Inv X pins σ (upd H h'.objs.size (.tup ((bM n).map V.int))) { s with heap := h'.push { cls := .type "tuple", data := .seq acc }, toks := tk } :=
  I1.laid (t' := tk) (fun b o e => Sq _ e) (Ss _) (show cp X.prog X.w _ _ _ (.tup ((bM n).map V.int)) from ⟨hz, acc.toList, hv, ⟨_, SC _ rfl, rfl, 0, by simp⟩⟩)
 exact ⟨.ref h'.objs.size, _, I2, rfl, q _ (I1.aP.fresh (Ss _))⟩
end
theorem cp.there {P : Program} {w : World} {H : Hp} {h : Heap} {a : Addr} {o : HO} (x : cp P w H h a o) : ∃ ob, h.get? a = some ob := by
 cases o with
 | lst xs => obtain ⟨_, _, _, _, e⟩ := x; exact ⟨_, e⟩
 | tup xs => obtain ⟨_, _, _, o, e, _⟩ := x; exact ⟨o, e⟩
 | dK kvs => obtain ⟨_, _, _, _, o, _, _, e, _⟩ := x; exact ⟨o, e⟩
 | dT kvs => obtain ⟨_, _, _, _, o, _, _, e, _⟩ := x; exact ⟨o, e⟩
 | set S n => obtain ⟨o, _, _, _, e, _⟩ := x; exact ⟨o, e⟩
 | ins C dx fs => obtain ⟨_, _, _, e, _⟩ := x; exact ⟨_, e⟩
 | own y => exact x
 | xd fs => obtain ⟨_, ⟨o, _, _, e, _⟩, _⟩ := x; exact ⟨o, e⟩
 | Dj lo hi => obtain ⟨_, _, _, e⟩ := x; exact ⟨_, e⟩
 | yN ob u => obtain ⟨e, _⟩ := x; exact ⟨_, e⟩
 | Dv ps => exact ⟨_, x⟩
 | met f y => exact ⟨_, x⟩
 | ext φ => obtain ⟨_, e, _⟩ := x; exact e
def o9 (P : Program) (w : World) : uN := fun outer H s E e s' => ∃ (a C : Addr) (a0 : Value) (B : Heap) (H' : Hp), e = .ref a /\ s'.os = s.os /\ AllBare s'.gens /\ Un (jL outer) [] H H' s.heap s'.heap /\ iA P w H' s'.heap /\
 Heap.FlyingW B outer a (.ref C) a0 s'.heap /\ (∀ b o, s.heap.get? b = some o -> H b = none -> b ∉ jL outer -> B.get? b = some o) /\ (∀ b o, s.heap.get? b = some o -> b ∉ jL outer -> ∃ o', B.get? b = some o') /\
 (∀ b u, H' b = some u -> ∃ ob, s'.heap.get? b = some ob /\ B.get? b = some ob) /\ E (.ref C) none H'
section
variable {X : Cx} {pins : List (Addr × Obj)} {σ : St} {H H' : Hp} {s : Shared} {h' : Heap}
theorem zC (I : Inv X pins σ H s) (hex : X.ex = []) (u : Un (jL X.stack) [] H H' s.heap h') : Un X.fs [] X.H₀ H' X.s₀.heap h' := by
 have OA : ∀ b o, X.s₀.heap.get? b = some o -> b ∉ X.fs -> b ∉ jL X.stack := fun b o e hb hm => by
  rcases Sx.mp (I.jY b hm) with z | z
  ·exact absurd (S6 (SI e) I.ok.above) (by rw [z]; exact TM _)
  ·exact hb z
 have nx : ∀ b : Addr, b ∉ X.ex := fun b hb => by rw [hex] at hb; cases hb
 have ne : ∀ b : Addr, b ∉ ([] : List Addr) := fun b hb => by cases hb
 refine ⟨fun b o e n hb _ => ?_, fun b o e n hb _ => ?_, fun b o e n _ => ?_, fun b o e _ => ?_, fun b xs e => u.fB b xs (I.base.fB b xs e), fun b o v e => u.iz b o v (I.base.iz b o v e), fun b ps e => ?_⟩
 ·exact u.keep b o (I.base.keep b o e n hb (nx b)) (I.base.free b o e n (nx b)) (OA b o e hb) (ne b)
 ·obtain ⟨sl, e1⟩ := I.base.slot b o e n hb (nx b)
  obtain ⟨CZ, e2⟩ := u.any e1 (I.base.free b o e n (nx b)) (ne b)
  exact ⟨CZ, e2⟩
 ·obtain ⟨o', e1⟩ := I.base.there b o e (nx b)
  exact u.free b o' e1 (I.base.free b o e n (nx b)) (ne b)
 ·obtain ⟨o', e1⟩ := I.base.there b o e (nx b)
  exact u.there b o' e1 (ne b)
 ·obtain ⟨m1, e1⟩ := I.base.iG b ps e
  obtain ⟨m2, e2⟩ := u.iG b _ e1
  exact ⟨m1 ++ m2, by rw [e2, Array.append_assoc]⟩
theorem qC (I : Inv X pins σ H s) {b : Addr} {o : Obj} (e : X.s₀.heap.get? b = some o) (hb : b ∉ X.fs) : b ∉ jL X.stack := fun hm => by
 rcases Sx.mp (I.jY b hm) with z | z
 ·exact absurd (S6 (SI e) I.ok.above) (by rw [z]; exact TM _)
 ·exact hb z
end
def Hx (X : Cx) (E : XK) : Prop := ∀ (pins : List (Addr × Obj)) (σ : St) (H : Hp) (s : Shared) (h' : Heap) (a C : Addr) (vs : List Value), Inv X pins σ H s -> Heap.MadeExcOf s.heap h' a (.ref C) vs -> E (.ref C) none H -> X.xe (.ref a) { s with heap := h' }
section
variable {P : Program} {w : World} {K : Vj} {mg : Str -> Option Value} {base : Heap} {N : List Str} {qual : Str} {scope : Scope} {f : Addr} {cd : Value} {A : Around} {outer : List Env} {s₀ : Shared} {H₀ : Hp} {E : XK}
abbrev px (P : Program) (w : World) (K : Vj) (mg : Str -> Option Value) (base : Heap) (N : List Str) (qual : Str) (scope : Scope) (f : Addr) (cd : Value) (A : Around) (outer : List Env) (s₀ : Shared) (H₀ : Hp) (E : XK) : Cx :=
 si (o9 P w) P w K mg base N qual scope f cd A outer s₀ H₀ E
theorem nF : Hx (px P w K mg base N qual scope f cd A outer s₀ H₀ E) E := by
 intro pins σ H s h' a C vs I hx hE
 have io : (px P w K mg base N qual scope f cd A outer s₀ H₀ E).stack = envOfC qual scope s₀.heap.objs.size f cd :: outer := rfl
 have sS : ∀ env ∈ (px P w K mg base N qual scope f cd A outer s₀ H₀ E).stack, ∀ b, env.frame = some b -> b ∈ jL (px P w K mg base N qual scope f cd A outer s₀ H₀ E).stack := fun env he b hb => List.mem_filterMap.mpr ⟨env, he, hb⟩
 show wpAny (model P w) (A.deeper (envOfC qual scope s₀.heap.objs.size f cd)) («leaving» (envOfC qual scope s₀.heap.objs.size f cd) (.ref a)) _ _ _
 refine wpAny_leaves_madeW (base := PySem.W.hideAll s.heap (jL (px P w K mg base N qual scope f cd A outer s₀ H₀ E).stack)) I.ok.frames rfl (fun b o q => PySem.W.of_hideAll _ q) (PySem.W.funFrames_hide I.stack sS) hx fun h2 t fl tup ht up => ?_
 have gB : ∀ b o, s.heap.get? b = some o -> b ∉ jL (px P w K mg base N qual scope f cd A outer s₀ H₀ E).stack -> (PySem.W.hideAll s.heap (jL (px P w K mg base N qual scope f cd A outer s₀ H₀ E).stack)).get? b = some o := fun b o e hb => PySem.W.hideAll_get _ e hb
 have gF : ∀ b o, s.heap.get? b = some o -> b ∈ jL (px P w K mg base N qual scope f cd A outer s₀ H₀ E).stack -> ∃ sl, h2.get? b = some { o with slots := sl } := fun b o e hb => by
  obtain ⟨_, o', e', hd⟩ := I.stack.mem hb
  rw [e] at e'; cases e'
  exact up b o (hx.keeps b o e) hd
 have EM : ∀ b u, H b = some u -> b ∉ jL (px P w K mg base N qual scope f cd A outer s₀ H₀ E).stack := fun b u e hb => by rw [I.nr b hb] at e; cases e
 have un : Un (jL (px P w K mg base N qual scope f cd A outer s₀ H₀ E).stack) [] H H s.heap h2 := by
  refine ⟨fun b o e _ hb _ => fl.1 b o (gB b o e hb), fun b o e _ hb _ => gF b o e hb, fun _ _ _ n _ => n, fun b o e _ => ?_, fun _ _ q => q, fun _ _ _ q => q, fun _ ps q => ⟨#[], by rw [q]; simp⟩⟩
  by_cases hb : b ∈ jL (px P w K mg base N qual scope f cd A outer s₀ H₀ E).stack
  ·obtain ⟨sl, q⟩ := gF b o e hb
   exact ⟨_, q⟩
  ·exact ⟨o, fl.1 b o (gB b o e hb)⟩
 have nx : ∀ b : Addr, b ∉ (px P w K mg base N qual scope f cd A outer s₀ H₀ E).ex := fun b hb => by cases hb
 refine ⟨a, C, .ref t, _, H, rfl, I.os, I.bare, zC I rfl un, fun b u e => ?_, fl, fun b o e n hb => ?_, fun b o e hb => ?_, fun b u e => ?_, hE⟩
 ·refine (I.aP b u e).j6 (fun c v hc q => ?_) (fun _ q => q) fun _ _ q => q
  have hH : ∃ u', H c = some u' := by
   rcases hc with z | z
   ·exact ⟨u, by rw [z]; exact e⟩
   ·exact ⟨_, z⟩
  obtain ⟨u', rZ⟩ := hH
  exact fl.1 c v (gB c v q (EM c u' rZ))
 ·exact gB b o (I.base.keep b o e n hb (nx b)) (qC I e hb)
 ·obtain ⟨o', e1⟩ := I.base.there b o e (nx b)
  exact ⟨o', gB b o' e1 (qC I e hb)⟩
 ·obtain ⟨ob, q⟩ := (I.aP b u e).there
  have z := gB b ob q (EM b u e)
  exact ⟨ob, fl.1 b ob z, z⟩
theorem dP : Passes (o9 P w) (px P w K mg base N qual scope f cd A outer s₀ H₀ E) E := by
 intro pins σ H s e s' I h
 obtain ⟨a, C, a0, B, H', rfl, os, bare, un, aP, fl, MG, Mh, tr, hE⟩ := h
 show wpAny (model P w) (A.deeper (envOfC qual scope s₀.heap.objs.size f cd)) («leaving» (envOfC qual scope s₀.heap.objs.size f cd) (.ref a)) _ _ _
 refine wpAny_leaves_onW I.ok.frames rfl fl fun h2 j3 up => ?_
 have ne : ∀ b : Addr, b ∉ ([] : List Addr) := fun b hb => by cases hb
 have nx : ∀ b : Addr, b ∉ (px P w K mg base N qual scope f cd A outer s₀ H₀ E).ex := fun b hb => by cases hb
 have gF : ∀ b o, s.heap.get? b = some o -> b ∈ jL (px P w K mg base N qual scope f cd A outer s₀ H₀ E).stack -> ∃ sl, h2.get? b = some { o with slots := sl } := fun b o e hb => by
  obtain ⟨_, o', e', hd⟩ := I.stack.mem hb
  rw [e] at e'; cases e'
  obtain ⟨sl, q⟩ := un.slot b o e (I.nr b hb) hb (ne b)
  obtain ⟨CZ, q'⟩ := up b _ q hd
  exact ⟨CZ, q'⟩
 have OR : Un (jL (px P w K mg base N qual scope f cd A outer s₀ H₀ E).stack) [] H H' s.heap h2 := by
  refine ⟨fun b o e n hb _ => j3.1 b o (MG b o e n hb), fun b o e _ hb _ => gF b o e hb, un.free, fun b o e _ => ?_, un.fB, un.iz, un.iG⟩
  by_cases hb : b ∈ jL (px P w K mg base N qual scope f cd A outer s₀ H₀ E).stack
  ·obtain ⟨sl, q⟩ := gF b o e hb
   exact ⟨_, q⟩
  ·obtain ⟨o', q⟩ := Mh b o e hb
   exact ⟨o', j3.1 b o' q⟩
 refine ⟨a, C, a0, B, H', rfl, os.trans I.os, bare, zC I rfl OR, fun b u e => ?_, j3, fun b o e n hb => ?_, fun b o e hb => ?_, fun b u e => ?_, hE⟩
 ·refine (aP b u e).j6 (fun c v hc q => ?_) (fun _ q => q) fun _ _ q => q
  have hH : ∃ u', H' c = some u' := by
   rcases hc with z | z
   ·exact ⟨u, by rw [z]; exact e⟩
   ·exact ⟨_, z⟩
  obtain ⟨u', rZ⟩ := hH
  obtain ⟨ob, q1, q2⟩ := tr c u' rZ
  rw [q] at q1; cases q1
  exact j3.1 c v q2
 ·exact MG b o (I.base.keep b o e n hb (nx b)) (I.base.free b o e n (nx b)) (qC I e hb)
 ·obtain ⟨o', e1⟩ := I.base.there b o e (nx b)
  exact Mh b o' e1 (qC I e hb)
 ·obtain ⟨ob, q1, q2⟩ := tr b u e
  exact ⟨ob, j3.1 b ob q2, q2⟩
theorem CY : PassesOwn (model P w) (px P w K mg base N qual scope f cd A outer s₀ H₀ E).A (px P w K mg base N qual scope f cd A outer s₀ H₀ E).env (px P w K mg base N qual scope f cd A outer s₀ H₀ E).xe := PassesOwn.leaving
end
theorem BO {K : Vj} {h : Heap} {C : Addr} {Hj : List Value} {newId : String} (X : K.In h) (q : PySem.W.excIn K C Hj newId = true) : ∃ bm N nm qn bs hdct sn sub ab col dd k0 k1 k2 k3 k5 mN,
  h.get? C = some (excClassObj nm qn C N bs bm hdct sn sub ab col dd k0 k1 k2 k3 k5 newId) /\ h.Ns N mN /\ mN "__init__" = none /\ OwnTail h Hj bm := by
 unfold PySem.W.excIn at q
 split at q
 ·rename_i dd cd sl ho
  split at q
  ·rename_i C' bm k0 k1 k2 k3 n k5 hm hs
   simp only [Td, UC, Bool.not_eq_true'] at q
   obtain ⟨⟨⟨⟨⟨rfl, rfl⟩, HK⟩, ht⟩, aP⟩, Jb⟩ := q
   obtain ⟨nm, bs, mro, ns, qn, hd, sn, sub, ab, col, del⟩ := cd
   dsimp only at hm HK aP Jb
   subst hm HK
   have QR : sl = #[k0, k1, k2, k3, some (.builtin n), k5] := by
    obtain ⟨l⟩ := sl
    simp only at hs
    rw [hs]
   subst QR
   exact ⟨bm, ns, nm, qn, bs, hd, sn, sub, ab, col, dd, k0, k1, k2, k3, k5, _, X _ _ ho, .of_isNs (PySem.W.isNs_of_in X aP), PySem.W.nsMap_none_of_in X aP Jb, PySem.W.tail_of_in X ht⟩
  ·cases q
 ·cases q
section
variable {X : Cx} {E : XK} {x : Str} {C : Addr} {B newId EN : String} {Hj : List Value} {np cV pos : Pos} {e₀ : Expr} {rest : List Expr} {ta : TA}
def Fj (C : Addr) (E : XK) (ta : TA) : TS := fun _ σ H => ta σ H fun vs H1 => vs.length <= sizeLine /\ E (.ref C) none H1
theorem nQ (ho : Hx X E) (hc : X.calm = true) (hg : Gl X x) (hm : X.mg x = some (.ref C)) (q : PySem.W.excIn X.K C Hj newId = true) (FB : ExcBaseFacts B newId EN Hj) (ha : PA X (e₀ :: rest) ta)
  (he : starEach (e₀ :: rest) X.env = (false, eval e₀ X.env) :: starEach rest X.env := by rfl) (jR : (backTo cV (starEach rest X.env)).any (·.1) = false := by rfl) (hd : (x == ("__debug__" : Str)) = false := by decide) :
  PS X (.Raise (some (.Call (.Name x np) (e₀ :: rest) [] cV)) none pos) (Fj C E ta) := by
 intro pins s σ H D I h
 obtain ⟨bm, N, nm, qn, bs, hdct, sn, sub, ab, col, dd, k0, k1, k2, k3, k5, mN, hC, hN, Jb, T⟩ := BO I.mod.wT q
 refine wpAny_Raise_call_subT (C := C) (nm := nm) (q := qn) (N := N) (bs := bs) (bm := bm) (hdct := hdct) (sn := sn) (sub := sub) (ab := ab) (col := col) (dd := dd) (k0 := k0) (k1 := k1) (k2 := k2) (k3 := k3) (k5 := k5)
  FB (mN := mN) (T.hasType FB.hasBase) (I.ok.hd hc) (by rw [he]; show (false || (backTo cV (starEach rest X.env)).any (·.1)) = false; rw [jR]; rfl) Jb (kH I hg hm ⟨rfl, ?_⟩ hd)
 have hA := ha cV pins s σ H _ I h
 rw [he] at hA ⊢
 refine Calls.evalArgs_plain (bO hA fun us s2 ⟨vs, H2, I2, r2, hl, hE⟩ => ⟨rfl, by rw [<- r2.length]; exact hl, I2.bk _ _ hC, hN.keeps I2.bk, T.keeps I2.bk, fun h' e hx => ?_⟩)
 exact ho pins σ H2 s2 h' e C us I2 hx hE
end
theorem BG.Gf {P : Program} {w : World} {K : Vj} {mg : Str -> Option Value} {base : Heap} {x qual : Str} {st : Stmt} {f : Addr} {fd : FuncData} {N ps : List Str} {k : Nat} {sp : Sp} (F : BG K x qual st f fd) (S : av N ps (aj st)) (len : ∀ vs H Q E, sp vs H Q E -> vs.length = ps.length)
  (sR : ∀ (cm : Value) (A : Around) (outer : List Env) (s : Shared) (H : Hp) (vs : List V) (Q : VK) (E : XK), dj k (A.deeper (envOfC qual (aj st) s.heap.objs.size f cm)) -> sp vs H Q E ->
   ∃ t, uv (px P w K mg base N qual (aj st) f cm A outer s H E) (ci st) t /\ t { nx := fun _ H' => Q .cc H', rt := Q } (start N vs) H) : aq P w K mg base (o9 P w) (k + 1) f fd ps sp := by
 obtain ⟨oc, od, kV, doc, pm, an, cm, ct, BL, rfl, lk, ve⟩ := F.ex
 exact DE lk ve S len fun A outer s H vs Q E hr yL => sR cm A outer s H vs Q E hr yL
end L2
namespace PyProof.Rows
open PySem PySem.W
section
variable {prog : Program} {w : World} {A : Around} {E : Value -> Shared -> Prop} {s : Shared}
theorem Ab {T : String} {l : Addr} {o : Obj} {vs : List Value} {n : Nat} {Q : List Value -> Shared -> Prop} (hT : T = "list" \/ T = "tuple") (ho : s.heap.get? l = some o) (hc : o.cls = .type T) (hd : o.data = .seq vs.toArray n) (hz : vs.length <= sizeLine)
  (hQ : Q vs { s with heap := (s.heap.push (seqObj "list" #[] 0)).update s.heap.objs.size (Obj.mapSeq (· ++ vs.toArray)) }) : wpAny (model prog w) A (collect (.ref l)) Q E s := by
 have up : (s.heap.push (seqObj "list" #[] 0)).get? l = some o := Sq _ ho
 have nw : (s.heap.push (seqObj "list" #[] 0)).get? s.heap.objs.size = some (seqObj "list" #[] 0) := SC _ rfl
 have cond : ∀ x y : Value, (Builtin.List.listSameRef x y || Value.type T == Value.type "list" || Value.type T == Value.type "tuple") = true := fun x y => by
  rcases hT with rfl | rfl <;> simp
 unfold collect
 refine Sn (wpAny_runValue (codeAny_builtin entry_proto_collect' ?run))
 case run =>
  refine Sn (wpAny_newList (So ⟨Code.quiet_builtin _ (by decide +kernel), codeAny_builtin entry_list_iadd' ?ext⟩))
  case ext =>
   show wpAny _ _ (Builtin.List.listExtendWith (.ref s.heap.objs.size) (.ref l) (.ref s.heap.objs.size)) _ _ _
   unfold Builtin.List.listExtendWith
   refine Sn (wpAny_typeOf (T := T) ⟨o, up, hc⟩ ?_); rw [if_pos (cond _ _)]
   refine Sn (listItems_at up hd (Sn (listItems_at nw rfl ?_))); rw [if_neg (by simp)]
   refine Sn (U8 nw rfl (So ?_) (S4 _) (by show (#[] ++ vs.toArray).size <= sizeLine + 1; simp only [Ue, SG, List.length_nil]; omega))
   refine Sn (wpAny_load (get?_update_seq nw _) ?_)
   have e : (#[] ++ vs.toArray : Array Value).toList = vs := by simp
   show wpAny _ _ (pure (#[] ++ vs.toArray : Array Value).toList) Q E _
   rw [e]; exact So hQ
theorem xM {a : Addr} {vs out : List Value} {n : Nat} {P : PySem.Fin -> Shared -> Prop} (ho : s.heap.get? a = some (seqObj "list" vs.toArray n)) (hz : vs.length <= sizeLine) (hlen : out.length = vs.length) (short : vs.length < 2 -> out = vs)
  (run : 2 <= vs.length -> ∀ h' : Heap, (∀ b o, b ≠ a -> s.heap.get? b = some o -> h'.get? b = some o) -> wpAny (model prog w) A (keyKind' vs.toArray) (fun κ s1 => s1 = { s with heap := h' } /\
   wpAny (model prog w) A ((sortRuns').run (SortSt.mk' κ (vs.toArray.zip vs.toArray) #[] 7 none)) (fun r s2 => s2 = { s with heap := h' } /\ failedOf r.2 = none /\ (arrOf r.2).map (·.2) = out.toArray) E s1) E { s with heap := h' })
  (hP : P (.done (.ret .none)) { s with heap := sortedHeap s.heap a vs out.toArray }) : wpAny (model prog w) A (Builtin.«list.sort» ⟨[.ref a], []⟩) P E s := by
 have ha : a < s.heap.objs.size := SI ho
 have yR : vs.toArray.size <= sizeLine := hz
 have G2 : out.toArray.size <= sizeLine + 1 := Nat.le_succ_of_le (by show out.length <= sizeLine; rw [hlen]; exact hz)
 obtain ⟨e1, uo⟩ : ∃ e1, (s.heap.update a (Obj.mapSeq fun _ => #[])).get? a = some (seqObj "list" #[] e1) := ⟨_, get?_update_seq ho fun _ => #[]⟩
 have old : ∀ b o, b ≠ a -> s.heap.get? b = some o -> (((s.heap.update a (Obj.mapSeq fun _ => #[])).push (seqObj "tuple" vs.toArray 0)).push (seqObj "list" #[] 0)).get? b = some o := fun b o hb e =>
  Sq _ (Sq _ ((Heap.get?_update_ne _ _ _ _ hb).trans e))
 have Hm : (((s.heap.update a (Obj.mapSeq fun _ => #[])).push (seqObj "tuple" vs.toArray 0)).push (seqObj "list" #[] 0)).get? a = some (seqObj "list" #[] e1) := Sq _ (Sq _ uo)
 rw [list_sort_plain]
 refine Sn (listItems_at ho rfl (Sn (U8 ho rfl (Sn (seqEpoch_at uo rfl (Sn (wpAny_newTuple (Sn (wpAny_newList (TV ?_) (S4 _))) hz))) ) yR (S4 _))))
 show wpAny _ _ _ _ _ { s with heap := ((s.heap.update a (Obj.mapSeq fun _ => #[])).push (seqObj "tuple" vs.toArray 0)).push (seqObj "list" #[] 0) }
 dsimp only
 have fin : ∀ st : SortSt, failedOf st = none -> (arrOf st).map (·.2) = out.toArray -> wpAny (model prog w) A (do
   let touched <- (do let x <- seqEpoch a; pure (x != e1))
   Builtin.List.listUpdate (.ref a) fun _ => (arrOf st).map (·.2)
   if let some e := failedOf st then do rule "list.sort.comparison-raised"; throw e
   if touched then do rule "list.sort.modified"; raiseError "ValueError" "list modified during sort"
   ret .none) P E { s with heap := ((s.heap.update a (Obj.mapSeq fun _ => #[])).push (seqObj "tuple" vs.toArray 0)).push (seqObj "list" #[] 0) } := by
  intro st hf LH
  rw [hf, LH]
  refine Sn (Sn (seqEpoch_at Hm rfl (So (Sn (U8 Hm rfl ?_ (S4 _) G2)))))
  simp only [bne_self_eq_false, SU, Tr]
  exact So hP
 by_cases h2 : vs.toArray.size < 2
 ·have ev := short h2
  rw [if_pos h2, if_pos h2]
  refine Sn (So ?_)
  rw [StateT.run_pure]
  refine Sn (So ?_)
  have ez : (arrOf (SortSt.mk' general' (vs.toArray.zip vs.toArray) #[] 7 none)).map (·.2) = out.toArray := by
   show (vs.toArray.zip vs.toArray).map (·.2) = out.toArray
   rw [ev]; apply Array.toList_inj.mp; simp [List.map_snd_zip]
  have q := fin (SortSt.mk' general' (vs.toArray.zip vs.toArray) #[] 7 none) rfl ez
  simp only [bind_assoc, pure_bind] at q
  exact q
 ·rw [if_neg h2, if_neg h2]
  refine Sn (TZ (run (Nat.le_of_not_lt h2) _ old) (fun κ s1 hk => ?_) fun _ _ x => x)
  obtain ⟨rfl, hk⟩ := hk
  refine Sn (TZ hk (fun r s2 hr => ?_) fun _ _ x => x)
  obtain ⟨rfl, hf, LH⟩ := hr
  obtain ⟨⟨⟩, st⟩ := r
  have q := fin st hf LH
  simp only [bind_assoc, pure_bind] at q
  exact q
theorem mK {T : String} {l : Addr} {o : Obj} {vs : List Value} {n : Nat} {Q : Value -> Shared -> Prop} (hT : T = "list" \/ T = "tuple") (ho : s.heap.get? l = some o) (hc : o.cls = .type T) (hd : o.data = .seq vs.toArray n) (hz : vs.length <= sizeLine)
  (hb : ∀ h' : Heap, h' = (((s.heap.push (seqObj "list" #[] 0)).update s.heap.objs.size (Obj.mapSeq (· ++ vs.toArray))).push (seqObj "list" vs.toArray 0)) -> h'.get? (s.heap.objs.size + 1) = some (seqObj "list" vs.toArray 0) -> (∀ b o, s.heap.get? b = some o -> h'.get? b = some o) ->
   wpAny (model prog w) A.in1.in1 (Builtin.«list.sort» ⟨[.ref (s.heap.objs.size + 1)], []⟩) (fun fin s' => fin = .done (.ret .none) /\ Q (.ref (s.heap.objs.size + 1)) s') E { s with heap := h' }) : wpAny (model prog w) A (call (.builtin "sorted") [.ref l]) Q E s := by
 have zs : ((s.heap.push (seqObj "list" #[] 0)).update s.heap.objs.size (Obj.mapSeq (· ++ vs.toArray))).objs.size = s.heap.objs.size + 1 := by rw [Heap.size_update, size_push']
 have qd : (((s.heap.push (seqObj "list" #[] 0)).update s.heap.objs.size (Obj.mapSeq (· ++ vs.toArray))).push (seqObj "list" vs.toArray 0)).get? (s.heap.objs.size + 1) = some (seqObj "list" vs.toArray 0) := by
  have q := SC ((s.heap.push (seqObj "list" #[] 0)).update s.heap.objs.size (Obj.mapSeq (· ++ vs.toArray))) (o := seqObj "list" vs.toArray 0) rfl
  rwa [zs] at q
 have old : ∀ b o, s.heap.get? b = some o -> (((s.heap.push (seqObj "list" #[] 0)).update s.heap.objs.size (Obj.mapSeq (· ++ vs.toArray))).push (seqObj "list" vs.toArray 0)).get? b = some o := fun b o e =>
  Sq _ ((Heap.get?_update_ne _ _ _ _ (S2 (SI e))).trans (Sq _ e))
 refine Calls.call_function_entry kind_sorted plain_sorted entry_sorted (args_sorted1 _) ?body
 case body =>
  unfold Builtin.«sorted»
  refine Sn (m := checkCount "sorted" 1 1 _) (So (Sn (Ab hT ho hc hd hz (Sn (wpAny_newList ?_ hz)))))
  show wpAny _ _ _ _ _ { s with heap := ((s.heap.push (seqObj "list" #[] 0)).update s.heap.objs.size (Obj.mapSeq (· ++ vs.toArray))).push (seqObj "list" vs.toArray 0) }
  rw [zs]
  refine Sn (TV (Tc slot_list_sort ⟨_, qd, rfl⟩ entry_list_sort (TZ (hb _ rfl qd old) (fun fin s' q => ?_) fun _ _ z => z) (args_list_sort _)))
  obtain ⟨rfl, q⟩ := q
  exact ⟨_, rfl, So ⟨_, rfl, q⟩⟩
theorem yA {T : String} {l : Addr} {o : Obj} {vs out : List Value} {n : Nat} {Q : Value -> Shared -> Prop} (hT : T = "list" \/ T = "tuple") (ho : s.heap.get? l = some o) (hc : o.cls = .type T) (hd : o.data = .seq vs.toArray n) (hz : vs.length <= sizeLine)
  (hlen : out.length = vs.length) (short : vs.length < 2 -> out = vs)
  (run : 2 <= vs.length -> ∀ h' : Heap, (∀ b o, s.heap.get? b = some o -> h'.get? b = some o) -> wpAny (model prog w) A.in1.in1 (keyKind' vs.toArray) (fun κ s1 => s1 = { s with heap := h' } /\
   wpAny (model prog w) A.in1.in1 ((sortRuns').run (SortSt.mk' κ (vs.toArray.zip vs.toArray) #[] 7 none)) (fun r s2 => s2 = { s with heap := h' } /\ failedOf r.2 = none /\ (arrOf r.2).map (·.2) = out.toArray) E s1) E { s with heap := h' })
  (hQ : Q (.ref (s.heap.objs.size + 1)) { s with heap := sortedAll s.heap vs out.toArray }) : wpAny (model prog w) A (call (.builtin "sorted") [.ref l]) Q E s := by
 refine mK hT ho hc hd hz fun h1 e1 qd old => ?_
 subst e1
 exact xM (s := { s with heap := _ }) (out := out) qd hz hlen short (fun h2 h' kp => run h2 h' fun b o e => kp b o (S2 (Nat.lt_succ_of_lt (SI e))) (old b o e)) ⟨rfl, hQ⟩
end
theorem hV {α : Type} (d : α) (l : List α) : (List.range l.length).map (fun i => l.getD i d) = l := by
 apply List.ext_getElem?
 intro i
 rw [SH]
 by_cases h : i < l.length
 ·rw [List.getElem?_range h, Sw h]
  simp [h]
 ·rw [List.getElem?_eq_none (by simpa using h), List.getElem?_eq_none (by simpa using h)]
  rfl
end PyProof.Rows
namespace L2
open PySem PySem.Spec PyProof.Rows
section
variable {prog : Program} {w : World} {A : Around} {E : Value -> Shared -> Prop} {s : Shared}
theorem uz {fin : Bool} {Q : Bool -> Shared -> Prop} : ∀ (g k : List Int) (xs ys : List Value) (i : Nat), Vals (g.map V.int) xs -> Vals (k.map V.int) ys -> fin = decide (xs.length < ys.length) -> Q (HT.lexLt g k) s -> PySem.W.KatLex prog w A true fin Q (xs.zip ys) i s
 | [], [], _, _, _, .nil, .nil, hf, q => by subst hf; exact q
 | [], _ :: _, _, _, _, .nil, .cons _ _, hf, q => by subst hf; exact q
 | _ :: _, [], _, _, _, .cons _ _, .nil, hf, q => by subst hf; exact q
 | a :: g, b :: k, x :: xs, y :: ys, i, .cons ra rg, .cons rb rk, hf, q => by
  obtain ⟨t, rfl⟩ := ra
  obtain ⟨u, rfl⟩ := rb
  refine PySem.W.kat_cons (U1 ?_)
  rw [HT.fk] at q
  refine PySem.W.kat_go (fun h => ?_) (fun h => ?_)
  ·rw [if_pos (eq_of_beq h)] at q
   exact PySem.W.kat_yes (uz g k xs ys (i + 1) rg rk (by rw [hf]; simp) q)
  ·rw [if_neg (fun z => by rw [z, beq_self_eq_true] at h; cases h)] at q
   refine PySem.W.kat_no ?_
   cases i with
   | zero => exact oneLt_int q
   | succ j => exact PySem.W.kat_one _ _ (lt_int q)
theorem qu {vs : List V} {us : List Value} (r : Vals vs us) : ∀ (p : List Nat), (∀ i ∈ p, i < vs.length) -> Vals (p.map fun i => vs.getD i .cc) (p.map fun i => us.getD i Value.none)
 | [], _ => .nil
 | i :: p, h => by
  refine .cons ?_ (qu r p fun j hj => h j (Su _ hj))
  have hi := h i Sv
  obtain ⟨u, hu, ru⟩ := r.get (Sw hi)
  show RelV (vs.getD i .cc) (us.getD i Value.none)
  rw [SL, SL, Sw hi, hu]
  exact ru
theorem uj {α : Type} {H : Hp} {f : α -> PyData} {d : α} {l : List α} {vs : List V} (h : bK H (l.map f) vs) : ∀ (p : List Nat), (∀ i ∈ p, i < l.length) -> bK H ((p.map fun i => l.getD i d).map f) (p.map fun i => vs.getD i .cc)
 | [], _ => .nil
 | i :: p, hp => by
  refine .cons ?_ (uj h p fun j hj => hp j (Su _ hj))
  have hi := hp i Sv
  obtain ⟨v, hv, dv⟩ := h.get (i := i) (d := f l[i]) (by rw [SH, Sw hi]; rfl)
  show DV H (f (l.getD i d)) (vs.getD i .cc)
  rw [SL, SL, Sw hi, hv]
  exact dv
end
section
variable {X : Cx}
theorem qV : dh X (.builtin "sorted") (fun xs H Q => ∃ (p : Addr) (ns : List Int), xs = [.ref p] /\ bR X.K H p (ns.map V.int) /\ ns.length < 64 /\ ∀ (l : Addr) (qF : List Int), H l = none -> qF.Perm ns -> qF.Pairwise (· <= ·) -> Q (.ref l) (upd H l (.lst (qF.map V.int)))) := by
 intro pins s σ H xs us Q I r h
 obtain ⟨p, ns, rfl, hp, QI, q⟩ := h
 obtain ⟨u, rfl, ru⟩ := vals1 r
 cases ru
 obtain ⟨au, rv, ⟨o, ho, hc, n, hd⟩, hz⟩ := I.tuple hp
 have ln : au.length = ns.length := by rw [<- rv.length, Sr]
 have hI := intsAre_of rv
 have OE : 64 <= sizeLine := by rw [Uu]; omega
 refine mK (T := "tuple") (.inr rfl) ho hc hd (by omega) fun h1 e1 qd old => ?_
 subst e1
 refine list_sort_tree (s := { s with heap := _ }) qd hI (by omega) fun out qF i1 i2 i3 => ⟨rfl, ?_⟩
 obtain ⟨e, he⟩ := sortedAll_at s.heap au out
 have l1 : qF.length = ns.length := i2.length_eq
 refine ⟨.ref (s.heap.objs.size + 1), _, I.laid (t' := s.toks) (o := .lst (qF.map V.int)) (fun b o hb => sortedAll_old hb) (Uy _) ⟨by rw [Sr]; omega, out.toList, e, lO i1, ?_⟩, rfl, q _ _ (I.aP.fresh (Uy _)) i2 i3⟩
 rw [UB]; exact he
end
section
variable {X : Cx}
theorem GZ {bs : List Bool} {au : List Value} (rv : Vals (bs.map V.bl) au) {i : Nat} {v : Value} (h : au.toArray[i]? = some v) : v = .bool (bs.getD i false) := by
 have hi : i < au.length := by
  have := (Array.getElem?_eq_some_iff.mp h).1
  simpa using this
 have ln : au.length = bs.length := by rw [<- rv.length, Sr]
 have hb : bs[i]? = some (bs.getD i false) := by simp [show i < bs.length by omega]
 obtain ⟨u, hu, ru⟩ := rv.get (i := i) (x := .bl (bs.getD i false)) (by rw [SH, hb]; rfl)
 have e : au[i]? = some v := by simpa using h
 rw [e] at hu; cases hu
 exact ru
theorem range_all (bs : List Bool) : (List.range bs.length).all (fun i => bs.getD i false) = bs.all id := by
 have q := List.all_map (f := fun i => bs.getD i false) (p := id) (l := List.range bs.length)
 rw [hV] at q
 exact q.symm
theorem range_any (bs : List Bool) : (List.range bs.length).any (fun i => bs.getD i false) = bs.any id := by
 have q := List.any_map (f := fun i => bs.getD i false) (p := id) (l := List.range bs.length)
 rw [hV] at q
 exact q.symm
theorem t4 {prog : Program} {w : World} {A : Around} {bs : List Bool} {au : List Value} (rv : Vals (bs.map V.bl) au) : TruthOf prog w A (fun i v => au.toArray[i]? = some v) (fun i => bs.getD i false) := fun i v s Q E hv q => by
 rw [GZ rv hv]
 exact TD q
theorem mf {prog : Program} {w : World} {A : Around} {E : Value -> Shared -> Prop} {s : Shared} {l : Addr} {au : Array Value} {Q : Value -> Shared -> Prop} (hl : s.heap.IsList l au)
  (h : ∀ s₂ : Shared, s₂ = { s with heap := s.heap.push { cls := .type "list_iterator", data := .fields #[.ref l, .int 0 0] } } -> (s₂.heap.IsListIter s.heap.objs.size l 0 /\ s₂.heap.IsList l au) -> l ≠ s.heap.objs.size ->
   (∀ h' : Heap, (∀ b o, b ∉ [s.heap.objs.size] -> s₂.heap.get? b = some o -> h'.get? b = some o) -> ∀ b o, s.heap.get? b = some o -> h'.get? b = some o) -> Q (.ref s.heap.objs.size) s₂) : wpAny (model prog w) A (pyIter (.ref l)) Q E s := by
 have lt : l < s.heap.objs.size := by obtain ⟨_, e, _⟩ := hl; exact SI e
 refine wpAny_pyIter_list hl (h _ rfl ⟨⟨_, SC _ rfl, rfl, rfl⟩, hl.push _⟩ (S2 lt) fun h' hk b o e => hk b o (fun hm => ?_) (Sq _ e))
 exact absurd (SI e) (by rw [S7.mp hm]; exact TM _)
theorem sN (hc : X.calm = true) : dh X (.builtin "all") (fun xs H Q => ∃ (p : Addr) (bs : List Bool), xs = [.ref p] /\ bz X.K H p (bs.map V.bl) /\ Q (.bl (bs.all id)) H) := by
 intro pins s σ H xs us Q I r h
 obtain ⟨p, bs, rfl, hp, q⟩ := h
 obtain ⟨u, rfl, ru⟩ := vals1 r
 cases ru
 obtain ⟨au, rv, pl, _⟩ := I.list hp
 have ln : au.toArray.size = bs.length := by rw [SG, <- rv.length, Sr]
 refine call_all_walk (mf pl.isList fun s₂ e st ql old => ?_)
 subst e
 refine ⟨_, _, _, _, _, _, _, rfl, Walks.list (A := X.A.in1) (I.ok.hd hc) _ p ql au.toArray, st, t4 rv, fun h' tk hk => ?_⟩
 rw [ln, range_all]
 exact ⟨.bl _, H, I.kept (t' := tk) (old h' hk), rfl, q⟩
theorem Bq (hc : X.calm = true) : dh X (.builtin "any") (fun xs H Q => ∃ (p : Addr) (bs : List Bool), xs = [.ref p] /\ bz X.K H p (bs.map V.bl) /\ Q (.bl (bs.any id)) H) := by
 intro pins s σ H xs us Q I r h
 obtain ⟨p, bs, rfl, hp, q⟩ := h
 obtain ⟨u, rfl, ru⟩ := vals1 r
 cases ru
 obtain ⟨au, rv, pl, _⟩ := I.list hp
 have ln : au.toArray.size = bs.length := by rw [SG, <- rv.length, Sr]
 refine call_any_walk (mf pl.isList fun s₂ e st ql old => ?_)
 subst e
 refine ⟨_, _, _, _, _, _, _, rfl, Walks.list (A := X.A.in1) (I.ok.hd hc) _ p ql au.toArray, st, t4 rv, fun h' tk hk => ?_⟩
 rw [ln, range_any]
 exact ⟨.bl _, H, I.kept (t' := tk) (old h' hk), rfl, q⟩
def vB (ns : List Int) : Int := ns.getD (argBest (fun i j => decide (ns.getD i 0 > ns.getD j 0)) (ns.length - 1)) 0
theorem jX (bt : Nat -> Nat -> Bool) : ∀ k, argBest bt k <= k
 | 0 => Ss _
 | k + 1 => by
  unfold argBest
  split
  ·exact Ss _
  ·exact Nat.le_succ_of_le (jX bt k)
theorem Bk {ns : List Int} (h : ns ≠ []) : vB ns ∈ ns := by
 have hl : 0 < ns.length := U6.mpr h
 have hk : argBest (fun i j => decide (ns.getD i 0 > ns.getD j 0)) (ns.length - 1) < ns.length := by
  have := jX (fun i j => decide (ns.getD i 0 > ns.getD j 0)) (ns.length - 1)
  omega
 unfold vB
 rw [SL, Sw hk]
 exact Ui hk
theorem oM : ∀ {ns : List Int} {au : List Value}, Vals (ns.map V.int) au -> ∃ ps : List (Int × Tok), au = ps.map (fun p => Value.int p.1 p.2) /\ ps.map (·.1) = ns
 | [], _, .nil => ⟨[], rfl, rfl⟩
 | n :: ns, _, .cons r rr => by
  obtain ⟨t, rfl⟩ := r
  obtain ⟨ps, e1, e2⟩ := oM rr
  exact ⟨(n, t) :: ps, by rw [e1]; rfl, by rw [<- e2]; rfl⟩
theorem yY (hc : X.calm = true) : dh X (.builtin "max") (fun xs H Q => ∃ (p : Addr) (ns : List Int), xs = [.ref p] /\ bz X.K H p (ns.map V.int) /\ ns ≠ [] /\ Q (.int (vB ns)) H) := by
 intro pins s σ H xs us Q I r h
 obtain ⟨p, ns, rfl, hp, ql, q⟩ := h
 obtain ⟨u, rfl, ru⟩ := vals1 r
 cases ru
 obtain ⟨au, rv, pl, _⟩ := I.list hp
 obtain ⟨ps, rfl, e2⟩ := oM rv
 have ia : (ps.map fun p => Value.int p.1 p.2).toArray = intItems ps.toArray := by unfold intItems; simp
 have hl : (intItems ps.toArray).size = ns.length := by rw [<- e2]; simp [intItems]
 have rV : ps.toArray.size = ns.length := by rw [<- e2]; simp
 have na : numAt ps.toArray = fun i => ns.getD i 0 := by
  funext i
  rw [<- e2]
  unfold numAt
  rw [SL, SH]
  simp
 refine max_intList (I.ok.hd hc) (xs := ps.toArray) (by rw [<- ia]; exact pl.isList) (by rw [rV]; exact U6.mpr ql) fun v h' tk hv hk => ?_
 obtain ⟨t, rfl⟩ := intItems_at hv
 rw [na, rV]
 exact ⟨.int (vB ns), H, I.kept (t' := tk) hk, ⟨t, rfl⟩, q⟩
def D7 (K : Vj) : R2 := fun x y H Q => ∃ a b xs ys, x = .ref a /\ y = .ref b /\ bR K H a xs /\ bR K H b ys /\ xs.length + ys.length <= sizeLine /\
 (xs = [] -> Q (.ref b) H) /\ (xs ≠ [] -> ys = [] -> Q (.ref a) H) /\ (xs ≠ [] -> ys ≠ [] -> ∀ p, H p = none -> Q (.ref p) (upd H p (.tup (xs ++ ys))))
theorem xb : gi X (binaryOp .Add) (D7 X.K) := by
 intro pins s σ H x y v u Q I rx ry h
 obtain ⟨a, b, xs, ys, rfl, rfl, ha, hb, hz, q0, q1, q2⟩ := h
 cases rx; cases ry
 obtain ⟨au, r1, p1, _⟩ := I.tuple ha
 obtain ⟨jw, r2, p2, _⟩ := I.tuple hb
 have n1 : ∀ z : au ≠ [], xs ≠ [] := fun z w' => z (r1.m7.mpr w')
 have n2 : ∀ z : jw ≠ [], ys ≠ [] := fun z w' => z (r2.m7.mpr w')
 by_cases h0 : au = []
 ·obtain ⟨⟨c1, d1, Sc, Po⟩, g1, k1, m1, e1⟩ := id p1
  obtain ⟨⟨c2, d2, RT, JE⟩, g2, k2, m2, e2⟩ := id p2
  simp only at k1 e1 k2 e2
  subst k1 e1 k2 e2
  exact concat_meets ⟨_, g1, rfl⟩ ⟨_, g2, rfl⟩ noFill_tuple_add seq_tuple_add PySem.F.slot_tuple_add PySem.F.entry_tuple_add (PySem.F.args_tuple_add_2 _ _) (tuple_addW0 a b au.toArray jw.toArray m1 m2 d1 d2 Po JE (by simp [h0])) ⟨g1, g2, .ref b, H, I, rfl, q0 (r1.m7.mp h0)⟩
 refine HT.Cq p1 p2 h0 (fun z' => ⟨.ref a, H, I, rfl, q1 (n1 h0) (r2.m7.mp z')⟩) (fun z' => ?_) (by rw [<- r1.length, <- r2.length]; exact hz)
 exact ⟨.ref s.heap.objs.size, _, I.laid (t' := s.toks) (o := .tup (xs ++ ys)) (fun b ob q => Sq _ q) (Ss _) ⟨by rw [SX]; exact hz, _, r1.append r2, IsTup.new _ _⟩, rfl, q2 (n1 h0) (n2 z') _ (I.aP.fresh (Ss _))⟩
end
end L2
namespace PySem
open Sem (wp)
open PyProof.Rows
section
variable {prog : Program} {w : World} {A : Around} {E : Value -> Shared -> Prop} {s : Shared}
theorem jT {it t : Addr} {i : Nat} {au : Array Value} {x : Value} {Q : Value -> Shared -> Prop} (hi : s.heap.IsTupleIter it t i) (ht : s.heap.IsTuple t au) (hx : au[i]? = some x) (hQ : ∀ h', h'.IsTupleIter it t (i + 1) -> Heap.SameBut it s.heap h' -> Q x { s with heap := h' }) :
  wpAny (model prog w) A (Builtin.SmallTypes.nextOf (.ref it)) Q E s := by
 obtain ⟨o, ho, hc, hd⟩ := id hi
 obtain ⟨ol, Ke, _, nl, KI⟩ := ht
 unfold Builtin.SmallTypes.nextOf
 refine Sn (Tv (name := Str.ofString "__next__") hi.typeIs UY (Tc UY hi.typeIs F.entry_tuple_iterator_next ?b (F.args_tuple_iterator_next_1 _)))
 case b =>
  show wpAny _ _ (field (.ref it) 0 >>= _) _ _ _; refine Sn (TH ho hd (x := .ref t) rfl ?_)
  show wpAny _ _ (if (Value.ref t == Value.none) = true then _ else _) _ _ _; rw [if_neg (show ¬ ((Value.ref t == Value.none) = true) from Sy)]
  show wpAny _ _ (field (.ref it) 1 >>= _) _ _ _; refine Sn (TH ho hd (x := .int i 0) rfl ?_)
  show wpAny _ _ (seqItems? (.ref t) >>= _) _ _ _; refine Sn (Ul Ke KI ?_)
  simp only [TF, hx]
  exact Sn (wpAny_setField ho hd (by simp) (So ⟨x, rfl, So (hQ _ ⟨_, Heap.get?_update_self _ ho (Obj.isFreed_of_fields (Obj.data_mapFields hd _)), (Obj.cls_mapFields ..).trans hc, by rw [Obj.data_mapFields hd]; simp [rawInt]⟩ (Tz ..))⟩))
theorem qc {it t : Addr} {i : Nat} {au : Array Value} {Q : Value -> Shared -> Prop} (hh : A.handled = none) (hi : s.heap.IsTupleIter it t i) (ht : s.heap.IsTuple t au) (hx : au[i]? = none)
  (hE : ∀ h' e, Heap.ExtBut it s.heap h' -> (∃ o, h'.get? e = some o /\ o.cls = .type "StopIteration") -> E (.ref e) { s with heap := h' }) : wpAny (model prog w) A (Builtin.SmallTypes.nextOf (.ref it)) Q E s := by
 obtain ⟨o, ho, hc, hd⟩ := id hi
 obtain ⟨ol, Ke, _, nl, KI⟩ := ht
 unfold Builtin.SmallTypes.nextOf
 refine Sn (Tv (name := Str.ofString "__next__") hi.typeIs UY (Tc UY hi.typeIs F.entry_tuple_iterator_next ?b (F.args_tuple_iterator_next_1 _)))
 case b =>
  show wpAny _ _ (field (.ref it) 0 >>= _) _ _ _; refine Sn (TH ho hd (x := .ref t) rfl ?_)
  show wpAny _ _ (if (Value.ref t == Value.none) = true then _ else _) _ _ _; rw [if_neg (show ¬ ((Value.ref t == Value.none) = true) from Sy)]
  show wpAny _ _ (field (.ref it) 1 >>= _) _ _ _; refine Sn (TH ho hd (x := .int i 0) rfl ?_)
  show wpAny _ _ (seqItems? (.ref t) >>= _) _ _ _; refine Sn (Ul Ke KI ?_)
  simp only [TF, hx]
  refine Sn (Ug (Sn (wpAny_setField ho hd (by simp) ?_)))
  show wpAny _ _ (newExc (.type "StopIteration") [] >>= _) _ _ _; refine Sn ?_; simp only [newExc, newTuple]
  refine Sn (Ti (Sn (m := firstArgMember _ _) (wpAny_of_eq (a := Value.none) (by first | rfl | (simp only [firstArgMember]; rfl)) (Ti ?_ (by size_fits)))) (by size_fits))
  simp only [raiseNew]
  refine Sn (wpAny_handled ?_)
  first | rw [show A.in1.handled = none from hh] | rw [hh]
  exact Sn (So (wpAny_throw (hE _ _ (((Tz ..).extBut.push _).push _) ⟨_, SC _ rfl, rfl⟩)))
structure AV (h : Heap) (z TI TO i1 i2 l1 l2 : Addr) (f0 : Value) (k : Nat) (xs ys : Array Value) : Prop where
 z : IsZip h z TI TO f0
 i : IsPair h TI (.ref i1) (.ref i2)
 o : ∃ a b, IsPair h TO a b
 a : h.IsTupleIter i1 l1 k
 b : h.IsTupleIter i2 l2 k
 xs : h.IsTuple l1 xs
 ys : h.IsTuple l2 ys
theorem ye {z TI TO i1 i2 l1 l2 : Addr} {k : Nat} {xs ys : Array Value} {x y : Value} {Q : Option Value -> Shared -> Prop} (D : ZipApart z TI TO i1 i2 l1 l2) (Z : AV s.heap z TI TO i1 i2 l1 l2 .none k xs ys) (hx : xs[k]? = some x) (hy : ys[k]? = some y)
  (hQ : ∀ h', IsZip h' z TI TO (rawInt s.heap.objs.size) -> IsPair h' TO x y -> h'.IsTupleIter i1 l1 (k + 1) -> h'.IsTupleIter i2 l2 (k + 1) -> IsPair h' s.heap.objs.size x y -> h'.objs.size = s.heap.objs.size + 1 ->
   (∀ c o, c ≠ z -> c ≠ TO -> c ≠ i1 -> c ≠ i2 -> s.heap.get? c = some o -> h'.get? c = some o) -> Q (some (.ref s.heap.objs.size)) { s with heap := h' }) : wpAny (model prog w) A (pyNext (.ref z)) Q E s := by
 obtain ⟨hz, Lf, ⟨a, b, K0⟩, h1, h2, yI, rV⟩ := Z
 have hT : s.TypeIs (.ref z) "zip" := ⟨_, hz, rfl⟩
 unfold pyNext
 refine Sn (UD (Tv (name := Str.ofString "__next__") hT F.slot_zip_next (Tc F.slot_zip_next hT F.entry_zip_next ?b (F.args_zip_next_1 _))))
 case b =>
  show wpAny _ _ (field (.ref z) 2 >>= _) _ _ _; refine Sn (TH hz rfl (x := .bool false) rfl ?_)
  show wpAny _ _ (field (.ref z) 3 >>= _) _ _ _; refine Sn (TH hz rfl (x := .ref TI) rfl (Sn (Ul Lf rfl ?_)))
  show wpAny _ _ (Builtin.SmallTypes.ownedTupleIsFree (.ref z) >>= _) _ _ _; refine Sn ?_; unfold Builtin.SmallTypes.ownedTupleIsFree
  refine Sn (TH hz rfl (x := .none) rfl (So ?_)); simp only [T9]
  refine Sn (Ug (Sn (TH hz rfl (x := .ref TO) rfl (Sn (TK hz (by simp) fun g1 yR s1 => ?_)))))
  replace yR : IsZip g1 z TI TO .ellipsis := yR
  refine Sn ?_; simp only [List.zipIdx_cons, List.zipIdx_nil, T3, UW]
  refine Sn (Sn (wpAny_onRaise (show wpAny _ _ (Builtin.SmallTypes.nextOf (.ref i1) >>= _) _ _ _ from Sn (jT (h1.extBut s1.extBut D.i1z) (yI.extBut s1.extBut D.l1z) hx fun g2 j1 s2 => So ?_))))
  have o2 : IsPair g2 TO a b := s2.extBut _ _ D.TOi1 (s1.extBut _ _ D.TOz K0)
  refine Sn (Ul o2 rfl (Sn (wpAny_updateSeq_pair o2 fun g3 o3 s3 => Sn (wpAny_letGo (So ?_)))))
  replace o3 : IsPair g3 TO x b := o3
  refine Sn (Sn (wpAny_onRaise (show wpAny _ _ (Builtin.SmallTypes.nextOf (.ref i2) >>= _) _ _ _ from Sn (jT (((h2.extBut s1.extBut D.i2z).extBut s2.extBut D.i12.symm).extBut s3.extBut D.TOi2.symm) (((rV.extBut s1.extBut D.l2z).extBut s2.extBut D.l2i1).extBut s3.extBut D.l2TO) hy fun g4 j2 s4 => So ?_))))
  have o4 : IsPair g4 TO x b := s4.extBut _ _ D.TOi2 o3
  refine Sn (Ul o4 rfl (Sn (wpAny_updateSeq_pair o4 fun g5 o5 s5 => Sn (wpAny_letGo (So (So ?_))))))
  replace o5 : IsPair g5 TO x y := o5
  refine Sn (Ul o5 rfl (Sn (wpAny_newTuple ?_)))
  have sz : g5.objs.size = s.heap.objs.size := by rw [s5.1, s4.1, s3.1, s2.1, s1.1]
  have z5 : IsZip g5 z TI TO .ellipsis := s5.extBut _ _ D.TOz.symm (s4.extBut _ _ D.i2z.symm (s3.extBut _ _ D.TOz.symm (s2.extBut _ _ D.i1z.symm yR)))
  have k5 : ∀ c o, c ≠ z -> c ≠ TO -> c ≠ i1 -> c ≠ i2 -> s.heap.get? c = some o -> g5.get? c = some o := fun c o c1 c2 c3 c4 e => s5.extBut _ _ c2 (s4.extBut _ _ c4 (s3.extBut _ _ c2 (s2.extBut _ _ c3 (s1.extBut _ _ c1 e))))
  have a5 : g5.IsTupleIter i1 l1 (k + 1) := ((j1.extBut s3.extBut D.TOi1.symm).extBut s4.extBut D.i12).extBut s5.extBut D.TOi1.symm
  have b5 : g5.IsTupleIter i2 l2 (k + 1) := j2.extBut s5.extBut D.TOi2.symm
  have Nj : z < g5.objs.size := SI z5
  show wpAny _ _ (Builtin.SmallTypes.ownedTupleHandOut (.ref z) (.ref g5.objs.size) >>= _) _ _ _; refine Sn ?_; unfold Builtin.SmallTypes.ownedTupleHandOut
  refine Sn (TK (show IsZip (g5.push { cls := .type "tuple", data := .seq #[x, y] }) z TI TO .ellipsis from Sq _ z5) (by simp) fun g7 z7 s7 => ?_)
  replace z7 : IsZip g7 z TI TO (rawInt g5.objs.size) := z7
  refine TK z7 (by simp) fun g8 z8 s8 => ?_
  replace z8 : IsZip g8 z TI TO (rawInt g5.objs.size) := z8
  have up : ∀ c o, c ≠ z -> g5.get? c = some o -> g8.get? c = some o := fun c o c1 e => s8.extBut _ _ c1 (s7.extBut _ _ c1 (Sq _ e))
  have t8 : IsPair g8 g5.objs.size x y := s8.extBut _ _ (UZ Nj) (s7.extBut _ _ (UZ Nj) (SC _ rfl))
  have n8 : g8.objs.size = g5.objs.size + 1 := by rw [s8.1, s7.1, UG]
  refine So ⟨_, rfl, So ?_⟩
  rw [sz] at z8 t8 n8
  have fin := hQ g8 z8 (up _ _ D.TOz o5) (a5.at fun o e => up _ o D.i1z e) (b5.at fun o e => up _ o D.i2z e) t8 n8 fun c o c1 c2 c3 c4 e => up c o c1 (k5 c o c1 c2 c3 c4 e)
  rw [<- sz] at fin
  exact fin
theorem Bl {z TI TO i1 i2 l1 l2 : Addr} {k : Nat} {xs ys : Array Value} {Q : Option Value -> Shared -> Prop} (hh : A.handled = none) (D : ZipApart z TI TO i1 i2 l1 l2) (Z : AV s.heap z TI TO i1 i2 l1 l2 .none k xs ys) (ui : xs[k]? = none \/ ys[k]? = none)
  (hQ : ∀ h', (∀ c o, c ≠ z -> c ≠ TO -> c ≠ i1 -> c ≠ i2 -> s.heap.get? c = some o -> h'.get? c = some o) -> Q none { s with heap := h' }) : wpAny (model prog w) A (pyNext (.ref z)) Q E s := by
 obtain ⟨hz, Lf, ⟨a, b, K0⟩, h1, h2, yI, rV⟩ := Z
 have hT : s.TypeIs (.ref z) "zip" := ⟨_, hz, rfl⟩
 have last : ∀ (h' : Heap) (e : Addr), (∀ c o, c ≠ z -> c ≠ TO -> c ≠ i1 -> c ≠ i2 -> s.heap.get? c = some o -> h'.get? c = some o) -> (∃ o, h'.get? e = some o /\ o.cls = .type "StopIteration") ->
   wpAny (model prog w) A (do if <- isInstance (.ref e) (.type "StopIteration") then pure none else throw (.ref e)) Q E { s with heap := h' } := fun h' e hk ⟨o, ho, hc⟩ =>
  Sn (Uh (T := "StopIteration") (b := true) ⟨o, ho, hc⟩ isSubtype_stop (So (hQ _ hk)))
 unfold pyNext
 refine Sn (UD (Tv (name := Str.ofString "__next__") hT F.slot_zip_next (Tc F.slot_zip_next hT F.entry_zip_next ?b (F.args_zip_next_1 _))))
 case b =>
  show wpAny _ _ (field (.ref z) 2 >>= _) _ _ _; refine Sn (TH hz rfl (x := .bool false) rfl ?_)
  show wpAny _ _ (field (.ref z) 3 >>= _) _ _ _; refine Sn (TH hz rfl (x := .ref TI) rfl (Sn (Ul Lf rfl ?_)))
  show wpAny _ _ (Builtin.SmallTypes.ownedTupleIsFree (.ref z) >>= _) _ _ _; refine Sn ?_; unfold Builtin.SmallTypes.ownedTupleIsFree
  refine Sn (TH hz rfl (x := .none) rfl (So ?_)); simp only [T9]
  refine Sn (Ug (Sn (TH hz rfl (x := .ref TO) rfl (Sn (TK hz (by simp) fun g1 yR s1 => ?_)))))
  replace yR : IsZip g1 z TI TO .ellipsis := yR
  refine Sn ?_; simp only [List.zipIdx_cons, List.zipIdx_nil, T3, UW]
  refine Sn (Sn (wpAny_onRaise (show wpAny _ _ (Builtin.SmallTypes.nextOf (.ref i1) >>= _) _ _ _ from Sn ?_)))
  cases ex : xs[k]? with
  | none =>
   refine qc hh (h1.extBut s1.extBut D.i1z) (yI.extBut s1.extBut D.l1z) ex fun g2 e s2 he => ?_
   obtain ⟨oe, E8, HQ⟩ := he
   have z2 : IsZip g2 z TI TO .ellipsis := s2 _ _ D.i1z.symm yR
   have ez : e ≠ z := fun q => by subst q; rw [z2] at E8; cases E8; simp at HQ
   exact TK z2 (by simp) fun g3 _ s3 => last g3 e (fun c o c1 _ c3 _ q => s3.extBut _ _ c1 (s2 _ _ c3 (s1.extBut _ _ c1 q))) ⟨oe, s3.extBut _ _ ez E8, HQ⟩
  | some x =>
   have ey : ys[k]? = none := by rcases ui with h | h; rw [ex] at h; cases h; exact h
   refine jT (h1.extBut s1.extBut D.i1z) (yI.extBut s1.extBut D.l1z) ex fun g2 j1 s2 => So ?_
   have o2 : IsPair g2 TO a b := s2.extBut _ _ D.TOi1 (s1.extBut _ _ D.TOz K0)
   refine Sn (Ul o2 rfl (Sn (wpAny_updateSeq_pair o2 fun g3 o3 s3 => Sn (wpAny_letGo (So ?_)))))
   refine Sn (Sn (wpAny_onRaise (show wpAny _ _ (Builtin.SmallTypes.nextOf (.ref i2) >>= _) _ _ _ from Sn ?_)))
   refine qc hh (((h2.extBut s1.extBut D.i2z).extBut s2.extBut D.i12.symm).extBut s3.extBut D.TOi2.symm) (((rV.extBut s1.extBut D.l2z).extBut s2.extBut D.l2i1).extBut s3.extBut D.l2TO) ey fun g4 e s4 he => ?_
   obtain ⟨oe, E8, HQ⟩ := he
   have z4 : IsZip g4 z TI TO .ellipsis := s4 _ _ D.i2z.symm (s3.extBut _ _ D.TOz.symm (s2.extBut _ _ D.i1z.symm yR))
   have ez : e ≠ z := fun q => by subst q; rw [z4] at E8; cases E8; simp at HQ
   exact TK z4 (by simp) fun g5 _ s5 => last g5 e (fun c o c1 c2 c3 c4 q => s5.extBut _ _ c1 (s4 _ _ c4 (s3.extBut _ _ c2 (s2.extBut _ _ c3 (s1.extBut _ _ c1 q))))) ⟨oe, s5.extBut _ _ ez E8, HQ⟩
end
abbrev IV (h : Heap) (l1 : Addr) : Heap := h.push { cls := .type "tuple_iterator", data := .fields #[.ref l1, .int 0 0] }
abbrev JG (h : Heap) (l1 l2 : Addr) : Heap := (IV h l1).push { cls := .type "tuple_iterator", data := .fields #[.ref l2, .int 0 0] }
abbrev Jf (h : Heap) (l1 l2 : Addr) : Heap := (JG h l1 l2).push { cls := .type "tuple", data := .seq #[.ref h.objs.size, .ref (IV h l1).objs.size] }
abbrev Jr (h : Heap) (l1 l2 : Addr) : Heap := (Jf h l1 l2).push { cls := .type "tuple", data := .seq #[.none, .none] }
abbrev ET (h : Heap) (l1 l2 : Addr) : Heap := (Jr h l1 l2).push { cls := .type "zip", data := .fields #[.none, .bool false, .bool false, .ref (JG h l1 l2).objs.size, .ref (Jf h l1 l2).objs.size] }
theorem uX (l1 l2 : Addr) (xs ys : Array Value) : Meets (Builtin.«zip.__new__» ⟨[.type "zip", .ref l1, .ref l2], []⟩) (fun _ R s => s.heap.IsTuple l1 xs /\ s.heap.IsTuple l2 ys /\ R (.ok (.ret (.ref (Jr s.heap l1 l2).objs.size))) { s with heap := ET s.heap l1 l2 }) :=
 .of_wp fun prog w A R s hs => by
  obtain ⟨hp, g, d, tk, os⟩ := s; obtain ⟨t1, t2, hR⟩ := hs
  have yh := sub_zip
  have T1 : Heap.IsTuple (Shared.heap ⟨hp, g, d, tk, os⟩) l1 xs := t1
  have T2 : Heap.IsTuple (Shared.heap ⟨hp.push { cls := .type "tuple_iterator", data := .fields #[.ref l1, .int 0 0] }, g, d, tk, os⟩) l2 ys := by
   obtain ⟨o, ho, r⟩ := t2; exact ⟨o, Sq _ ho, r⟩
  wp_walk using wpAny_pyIter_tuple T1, wpAny_pyIter_tuple T2
  exact ⟨_, rfl, hR⟩
section
variable {prog : Program} {w : World} {A : Around} {E : Value -> Shared -> Prop} {s : Shared}
theorem x5 {l1 l2 : Addr} {xs ys : Array Value} {Q : Value -> Shared -> Prop} (t1 : s.heap.IsTuple l1 xs) (t2 : s.heap.IsTuple l2 ys)
  (h : ∀ h', AV h' (s.heap.objs.size + 4) (s.heap.objs.size + 2) (s.heap.objs.size + 3) s.heap.objs.size (s.heap.objs.size + 1) l1 l2 .none 0 xs ys -> (∀ c o, s.heap.get? c = some o -> h'.get? c = some o) -> Q (.ref (s.heap.objs.size + 4)) { s with heap := h' }) :
  wpAny (model prog w) A (call (.type "zip") [.ref l1, .ref l2]) Q E s := by
 have y1 : (IV s.heap l1).objs.size = s.heap.objs.size + 1 := UG ..
 have y2 : (JG s.heap l1 l2).objs.size = s.heap.objs.size + 2 := by rw [UG, y1]
 have y3 : (Jf s.heap l1 l2).objs.size = s.heap.objs.size + 3 := by rw [UG, y2]
 have y4 : (Jr s.heap l1 l2).objs.size = s.heap.objs.size + 4 := by rw [UG, y3]
 have up : ∀ c o, s.heap.get? c = some o -> (ET s.heap l1 l2).get? c = some o := fun c o x => Sq _ (Sq _ (Sq _ (Sq _ (Sq _ x))))
 have p5 : (ET s.heap l1 l2).get? (Jr s.heap l1 l2).objs.size = some _ := SC _ rfl
 have p4 : (ET s.heap l1 l2).get? (Jf s.heap l1 l2).objs.size = some _ := Sq _ (SC _ rfl)
 have p3 : (ET s.heap l1 l2).get? (JG s.heap l1 l2).objs.size = some _ := Sq _ (Sq _ (SC _ rfl))
 have p2 : (ET s.heap l1 l2).get? (IV s.heap l1).objs.size = some _ := Sq _ (Sq _ (Sq _ (SC _ rfl)))
 have p1 : (ET s.heap l1 l2).get? s.heap.objs.size = some _ := Sq _ (Sq _ (Sq _ (Sq _ (SC _ rfl))))
 rw [y4, y2, y3] at p5; rw [y3] at p4; rw [y2, y1] at p3; rw [y1] at p2
 refine callType_new F.called_zip (by decide) (F.typeCall_zip_2 _ _) (F.newCall_zip_2 _ _) (fun obj => F.args_object_init_3 obj _ _) F.entry_zip_new (uX l1 l2 xs ys) ⟨t1, t2, ?_⟩
 rw [y4]
 refine ⟨⟨_, p5, rfl⟩, h _ ⟨p5, p3, ⟨_, _, p4⟩, ⟨_, p1, rfl, rfl⟩, ⟨_, p2, rfl, rfl⟩, ?_, ?_⟩ up⟩
 ·obtain ⟨o, ho, r⟩ := t1; exact ⟨o, up _ _ ho, r⟩
 ·obtain ⟨o, ho, r⟩ := t2; exact ⟨o, up _ _ ho, r⟩
end
end PySem
namespace L2
open PySem PySem.Spec PyProof.Rows
section
variable {X : Cx} {pins : List (Addr × Obj)} {σ : St} {H : Hp} {s : Shared}
theorem Inv.drawn {h' : Heap} {ch : List Addr} {p : Addr} {o : HO} {t' : Nat} (I : Inv X pins σ H s) (nu : ∀ b ∈ ch, qN X pins H b) (k : ∀ b u, b ∉ ch -> s.heap.get? b = some u -> h'.get? b = some u) (hp : s.heap.objs.size <= p)
  (new : cp X.prog X.w (upd H p o) h' p o) : Inv X pins σ (upd H p o) { s with heap := h', toks := t' } := by
 have hn : H p = none := I.aP.fresh hp
 have y7 : ∀ b u, H b = some u -> b ∉ ch := fun b u e hb => by rw [(nu b hb).1] at e; cases e
 refine I.step (g' := s.gens) (d' := s.drawn) (ch := ch) (fun b hb => ⟨(nu b hb).2.2.2.1, (nu b hb).2.1, (nu b hb).2.2.2.2.1, (nu b hb).2.2.2.2.2⟩) (fun b u _ _ hc e _ => k b u hc e) (fun b u _ _ hc e _ => ⟨u.slots, k b u hc e⟩) (fun b u hc e n => ?_) (fun b u hc e => ⟨u, k b u hc e⟩)
  (fun b xs e => by rw [ak (ay e hn)]; exact e) (fun b _ _ e => by rw [ak (ay e hn)]; exact e) (fun b ps e => ⟨#[], by rw [ak (ay e hn), e]; simp⟩) (fun m hm => ?_) (fun b u e => ?_) I.bare
 ·rw [ak (S2 (S6 (SI e) hp))]; exact n
 ·obtain ⟨ob, es, ep, lI, r⟩ := hm
  exact ⟨ob, es, ep, k _ ob (fun z => (nu _ z).2.1 rfl) lI, r⟩
 ·by_cases hb : b = p
  ·subst hb; rw [ae] at e; cases e; exact new
  ·rw [ak hb] at e
   refine (I.aP b u e).j6 (fun c v hc q => k c v ?_ q) (fun c q => by rw [ak (ay q hn)]; exact q) fun c xs q => by rw [ak (ay q hn)]; exact q
   rcases hc with z | z
   ·rw [z]; exact y7 b u e
   ·exact y7 c _ z
end
def Lu (a b : Addr) : It :=
 ⟨fun i H => ∃ xs ys x y, H a = some (.tup xs) /\ H b = some (.tup ys) /\ xs[i]? = some x /\ ys[i]? = some y,
  fun i H v H' => ∃ p x y, v = .ref p /\ H p = none /\ H' = upd H p (.tup [x, y]) /\ ∀ xs ys, H a = some (.tup xs) -> H b = some (.tup ys) -> xs[i]? = some x /\ ys[i]? = some y,
  fun i H => ∃ xs ys, H a = some (.tup xs) /\ H b = some (.tup ys) /\ (xs.length <= i \/ ys.length <= i)⟩
structure Ix (z TI TO i1 i2 : Addr) : Prop where
 a1 : TI ≠ z
 a2 : TO ≠ z
 a3 : i1 ≠ z
 a4 : i2 ≠ z
 b2 : TI ≠ TO
 b3 : TI ≠ i1
 b4 : TI ≠ i2
 c3 : TO ≠ i1
 c4 : TO ≠ i2
 d4 : i1 ≠ i2
def NO (z TI TO i1 i2 a b : Addr) (f0 : Value) (i : Nat) (h : Heap) : Prop := IsZip h z TI TO f0 /\ IsPair h TI (.ref i1) (.ref i2) /\ (∃ x y, IsPair h TO x y) /\ h.IsTupleIter i1 a i /\ h.IsTupleIter i2 b i
theorem AO {P : Program} {w : World} {K : Vj} {elts : List Expr} {kk : Nat} {B9 : Pos} {a b z TI TO i1 i2 : Addr} (N : Ix z TI TO i1 i2) : Turn P w K (.Tuple elts kk B9) (Lu a b) [z, TI, TO, i1, i2] z (NO z TI TO i1 i2 a b .none) where
 mem := by simp
 obj := fun i h st c hc => by
  obtain ⟨h1, h2, ⟨x, y, h3⟩, ⟨o4, e4, _, d4⟩, ⟨o5, e5, _, d5⟩⟩ := st
  simp only [Sx, U2, or_false] at hc
  rcases hc with rfl | rfl | rfl | rfl | rfl
  ·exact ⟨_, h1, fun v q => by cases q⟩
  ·exact ⟨_, h2, fun v q => by cases q⟩
  ·exact ⟨_, h3, fun v q => by cases q⟩
  ·exact ⟨_, e4, fun v q => by rw [d4] at q; cases q⟩
  ·exact ⟨_, e5, fun v q => by rw [d5] at q; cases q⟩
 keep := fun i h h' st k => by
  obtain ⟨h1, h2, ⟨x, y, h3⟩, ⟨o4, e4, r4⟩, ⟨o5, e5, r5⟩⟩ := st
  exact ⟨k z (by simp) _ h1, k TI (by simp) _ h2, ⟨x, y, k TO (by simp) _ h3⟩, ⟨o4, k i1 (by simp) _ e4, r4⟩, ⟨o5, k i2 (by simp) _ e5, r5⟩⟩
 item := by
  intro X hP hw hK hc i pins s σ H E I hf st hg
  subst hP hw hK
  obtain ⟨xs, ys, x, y, ha, hb, hx, hy⟩ := hg
  obtain ⟨_, us, ru, o1, e1, c1, n1, d1⟩ := I.aP a _ ha
  obtain ⟨_, vs, rv, o2, e2, c2, n2, d2⟩ := I.aP b _ hb
  obtain ⟨ux, fx, rx⟩ := ru.get hx
  obtain ⟨uy, fy, ry⟩ := rv.get hy
  have na : ∀ c ∈ [z, TI, TO, i1, i2], a ≠ c := fun c hc q => by have := (hf c hc).1; rw [<- q, ha] at this; cases this
  have nb : ∀ c ∈ [z, TI, TO, i1, i2], b ≠ c := fun c hc q => by have := (hf c hc).1; rw [<- q, hb] at this; cases this
  have D : ZipApart z TI TO i1 i2 a b := ⟨N.a1, N.a2, N.a3, N.a4, N.b2, N.b3, N.b4, N.c3, N.c4, N.d4, na z (by simp), na TO (by simp), na i1 (by simp), na i2 (by simp), nb z (by simp), nb TO (by simp), nb i1 (by simp), nb i2 (by simp)⟩
  obtain ⟨s1, s2, s3, s4, s5⟩ := st
  have Z : AV s.heap z TI TO i1 i2 a b .none i us.toArray vs.toArray := ⟨s1, s2, s3, s4, s5, ⟨o1, e1, c1, n1, d1⟩, ⟨o2, e2, c2, n2, d2⟩⟩
  refine ye D Z (x := ux) (y := uy) (by simpa using fx) (by simpa using fy) fun h' z1 z2 z3 z4 z5 z6 kp => ?_
  refine ⟨_, rfl, wpAny_letOwnedTupleGo_zip (s := { s with heap := h' }) z1 fun h2 y1 sb => ?_⟩
  have lt : ∀ c ∈ [z, TI, TO, i1, i2], c < s.heap.objs.size := fun c hc => by
   simp only [Sx, U2, or_false] at hc
   obtain ⟨x', y', h3⟩ := s3
   obtain ⟨o4, e4, _⟩ := s4
   obtain ⟨o5, e5, _⟩ := s5
   rcases hc with rfl | rfl | rfl | rfl | rfl
   ·exact SI s1
   ·exact SI s2
   ·exact SI h3
   ·exact SI e4
   ·exact SI e5
  have pz : s.heap.objs.size ≠ z := UZ (lt z (by simp))
  have Q9 : ∀ c o, c ∉ [z, TI, TO, i1, i2] -> s.heap.get? c = some o -> h2.get? c = some o := fun c o hc e => by
   simp only [Sx, U2, or_false, not_or] at hc
   exact sb.extBut _ _ hc.1 (kp c o hc.1 hc.2.2.1 hc.2.2.2.1 hc.2.2.2.2 e)
  have tp : h2.get? s.heap.objs.size = some { cls := .type "tuple", data := .seq #[ux, uy] } := sb.extBut _ _ pz z5
  have I2 : Inv X pins σ (upd H s.heap.objs.size (.tup [x, y])) { s with heap := h2, toks := s.toks } := I.drawn (t' := s.toks) hf Q9 (Ss _) ⟨by show 2 <= sizeLine; decide, [ux, uy], .cons rx (.cons ry .nil), ⟨_, tp, rfl, 0, by rfl⟩⟩
  refine ⟨.ref s.heap.objs.size, _, I2, rfl, ⟨_, x, y, rfl, I.aP.fresh (Ss _), rfl, fun Ge sh Ji Br => ?_⟩, ⟨y1, ?_, ⟨ux, uy, sb.extBut _ _ N.a2 z2⟩, ?_, ?_⟩, fun c hc => ?_⟩
  ·rw [ha] at Ji; rw [hb] at Br
   cases Ji; cases Br
   exact ⟨hx, hy⟩
  ·exact sb.extBut _ _ N.a1 (kp TI _ N.a1 N.b2 N.b3 N.b4 s2)
  ·exact z3.extBut sb.extBut N.a3
  ·exact z4.extBut sb.extBut N.a4
  ·rw [ak (S2 (lt c hc))]; exact (hf c hc).1
 done := by
  intro X hP hw hK hc i pins s σ H E I hf st hg
  subst hP hw hK
  obtain ⟨xs, ys, ha, hb, ui⟩ := hg
  obtain ⟨_, us, ru, o1, e1, c1, n1, d1⟩ := I.aP a _ ha
  obtain ⟨_, vs, rv, o2, e2, c2, n2, d2⟩ := I.aP b _ hb
  have na : ∀ c ∈ [z, TI, TO, i1, i2], a ≠ c := fun c hc q => by have := (hf c hc).1; rw [<- q, ha] at this; cases this
  have nb : ∀ c ∈ [z, TI, TO, i1, i2], b ≠ c := fun c hc q => by have := (hf c hc).1; rw [<- q, hb] at this; cases this
  have D : ZipApart z TI TO i1 i2 a b := ⟨N.a1, N.a2, N.a3, N.a4, N.b2, N.b3, N.b4, N.c3, N.c4, N.d4, na z (by simp), na TO (by simp), na i1 (by simp), na i2 (by simp), nb z (by simp), nb TO (by simp), nb i1 (by simp), nb i2 (by simp)⟩
  obtain ⟨s1, s2, s3, s4, s5⟩ := st
  have Z : AV s.heap z TI TO i1 i2 a b .none i us.toArray vs.toArray := ⟨s1, s2, s3, s4, s5, ⟨o1, e1, c1, n1, d1⟩, ⟨o2, e2, c2, n2, d2⟩⟩
  refine Bl (I.ok.hd hc) D Z (ui.imp (fun z => ?_) (fun z => ?_)) fun h' kp => ⟨rfl, ?_⟩
  ·rw [ru.length] at z; simp [z]
  ·rw [rv.length] at z; simp [z]
  ·have nu : ∀ c ∈ [z, TO, i1, i2], qN X pins H c := fun c hc => hf c (by simp only [Sx, U2, or_false] at hc ⊢; rcases hc with q | q | q | q <;> simp [q])
   have k' : ∀ c o, c ∉ [z, TO, i1, i2] -> s.heap.get? c = some o -> h'.get? c = some o := fun c o hc e => by
    simp only [Sx, U2, or_false, not_or] at hc
    exact kp c o hc.1 hc.2.1 hc.2.2.1 hc.2.2.2 e
   have y7 : ∀ c u, H c = some u -> c ∉ [z, TO, i1, i2] := fun c u e hb => by rw [(nu c hb).1] at e; cases e
   refine I.step (g' := s.gens) (d' := s.drawn) (t' := s.toks) (ch := [z, TO, i1, i2]) (fun b hb => ⟨(nu b hb).2.2.2.1, (nu b hb).2.1, (nu b hb).2.2.2.2.1, (nu b hb).2.2.2.2.2⟩) (fun b u _ _ hc e _ => k' b u hc e) (fun b u _ _ hc e _ => ⟨u.slots, k' b u hc e⟩) (fun _ _ _ _ n => n) (fun b u hc e => ⟨u, k' b u hc e⟩)
    (fun _ _ e => e) (fun _ _ _ e => e) (fun b ps e => ⟨#[], by rw [e]; simp⟩) (fun m hm => ?_) (fun b u e => ?_) I.bare
   ·obtain ⟨ob, es, ep, lI, r⟩ := hm
    exact ⟨ob, es, ep, k' _ ob (fun q => (nu _ q).2.1 rfl) lI, r⟩
   ·refine (I.aP b u e).j6 (fun c v hc q => k' c v ?_ q) (fun _ q => q) fun _ _ q => q
    rcases hc with q' | q'
    ·rw [q']; exact y7 b u e
    ·exact y7 c _ q'
 self := fun _ _ _ _ _ st h => wpAny_pyIter_zip st.1 h
section
variable {X : Cx}
def Kz (ta : TA) : TI := fun σ H R => ta σ H fun vs H1 => ∃ a b xs ys, vs = [.ref a, .ref b] /\ H1 a = some (.tup xs) /\ H1 b = some (.tup ys) /\ R (Lu a b) H1
theorem FZ {elts : List Expr} {kk : Nat} {B9 : Pos} {e1 e2 : Expr} {ta : TA} {p pos : Pos} (hg : Gl X "zip") (hm : X.mg "zip" = none) (hv : bootBuiltins "zip" = some (.type "zip")) (ha : PA X [e1, e2] ta)
  (hs : starEach [e1, e2] X.env = [(false, eval e1 X.env), (false, eval e2 X.env)] := by rfl) (G9 : starEach [e2] X.env = [(false, eval e2 X.env)] := by rfl) : PI X (.Tuple elts kk B9) (.Call (.Name "zip" p) [e1, e2] [] pos) (Kz ta) := by
 intro pins s σ H R I h
 refine Call_ (nR I hg hm hv (PyProof.Rows.callWith_type1 (bO (ha pos pins s σ H _ I h) fun us s1 ⟨vs, H1, I1, r1, q1⟩ => ?_) (by rw [hs, G9]) (by rw [G9]; rfl)))
 obtain ⟨a, b, xs, ys, rfl, Ji, Br, q⟩ := q1
 obtain ⟨u1, u2, rfl, ra, rb⟩ := vals2 r1
 cases ra; cases rb
 obtain ⟨_, au, ru, o1, f1, c1, n1, d1⟩ := I1.aP a _ Ji
 obtain ⟨_, jw, rv, o2, f2, c2, n2, d2⟩ := I1.aP b _ Br
 refine x5 (xs := au.toArray) (ys := jw.toArray) ⟨o1, f1, c1, n1, d1⟩ ⟨o2, f2, c2, n2, d2⟩ fun h' Z kp => ?_
 refine wpAny_pyIter_zip Z.z ?_
 have lt : ∀ i j : Nat, i ≠ j -> s1.heap.objs.size + i ≠ s1.heap.objs.size + j := fun i j yT z => yT (Nat.add_left_cancel z)
 have F5 : Ix (s1.heap.objs.size + 4) (s1.heap.objs.size + 2) (s1.heap.objs.size + 3) s1.heap.objs.size (s1.heap.objs.size + 1) := ⟨lt 2 4 (by decide), lt 3 4 (by decide), lt 0 4 (by decide), lt 1 4 (by decide), lt 2 3 (by decide), lt 2 0 (by decide), lt 2 1 (by decide), lt 3 0 (by decide), lt 3 1 (by decide), lt 0 1 (by decide)⟩
 refine ⟨s1.heap.objs.size + 4, [s1.heap.objs.size + 4, s1.heap.objs.size + 2, s1.heap.objs.size + 3, s1.heap.objs.size, s1.heap.objs.size + 1], _, _, H1, rfl, I1.kept (t' := s1.toks) kp, AO F5, ⟨Z.z, Z.i, Z.o, Z.a, Z.b⟩, fun c hc => ?_, q⟩
 have qL : s1.heap.objs.size <= c := by
  simp only [Sx, U2, or_false] at hc
  rcases hc with rfl | rfl | rfl | rfl | rfl
  ·exact Nat.le_add_right _ 4
  ·exact Nat.le_add_right _ 2
  ·exact Nat.le_add_right _ 3
  ·exact Ss _
  ·exact Nat.le_add_right _ 1
 exact I1.xk qL (I1.aP.fresh qL)
end
theorem tU {cap : List (Option Nat)} {σ : St} {H : Hp} {g : TG} {tc : TT} {te : TE} {Q : VK} {D a b : Addr} {as bs : List V} {n : Nat} (Pv : Nat -> List V -> Hp -> Prop) (h0 : Pv 0 [] (upd H D (.lst []))) (hn : n = min as.length bs.length)
  (hD : ∀ i xs H, i <= n -> Pv i xs H -> H D = some (.lst xs) /\ H a = some (.tup as) /\ H b = some (.tup bs))
  (hs : ∀ i x y xs H p, as[i]? = some x -> bs[i]? = some y -> H p = none -> Pv i xs H -> g (.ref p) (dJ cap σ) (upd H p (.tup [x, y])) fun σ2 H4 => cx (dJ cap σ) σ2 /\
   tc σ2 H4 fun b H5 => if b = true then te σ2 H5 fun y H6 => H6 D = some (.lst xs) /\ xs.length < sizeLine /\ Pv (i + 1) (xs ++ [y]) (upd H6 D (.lst (xs ++ [y]))) else Pv (i + 1) xs H5)
  (hd : ∀ xs H, Pv n xs H -> Q (.ref D) H) : mn (Lu a b) D cap σ H g tc te Q := by
 refine ⟨n, Pv, h0, fun i xs H2 hi p => ⟨(hD i xs H2 hi p).1, ?_⟩⟩
 obtain ⟨q0, q1, q2⟩ := hD i xs H2 hi p
 by_cases fG : i < n
 ·have l1 : i < as.length := by omega
  have l2 : i < bs.length := by omega
  refine .inr ⟨fG, ⟨as, bs, as[i], bs[i], q1, q2, Sw l1, Sw l2⟩, fun v H3 y => ?_⟩
  obtain ⟨pp, x, y, rfl, hp, rfl, Ql⟩ := y
  obtain ⟨e1, e2⟩ := Ql as bs q1 q2
  exact hs i x y xs H2 pp e1 e2 hp p
 ·have e : i = n := by omega
  subst e
  refine .inl ⟨rfl, ⟨as, bs, q1, q2, ?_⟩, hd xs H2 p⟩
  omega
end L2
namespace HT
open PySem PySem.Spec PyProof.Rows
section
variable {prog : Program} {w : World} {A : Around} {E : Value -> Shared -> Prop} {s : Shared}
theorem kE {t sl : Addr} {items : Array Value} {vl vu : Value} {lo hi : Option Int} {Q : Value -> Shared -> Prop} (ht : IsTup s.heap t items) (hs : s.heap.IsSliceOf sl vl vu .none) (pl : IsPart vl lo) (pu : IsPart vu hi)
  (hw : c8 items.size 0 lo = 0 /\ c8 items.size items.size hi = items.size) (h : Q (.ref t) s) : wpAny (model prog w) A (getItem (.ref t) (.ref sl)) Q E s := by
 obtain ⟨os, zr, IU, Iz⟩ := id hs
 have TS : s.TypeIs (.ref sl) "slice" := ⟨os, zr, IU⟩
 have yes : ((((c8 items.size 0 lo : Nat) : Int) == 0 && (1 : Int) == 1 && (c8 items.size items.size hi - c8 items.size 0 lo) == items.size) = true) := by rw [hw.1, hw.2]; simp
 unfold getItem
 try with_reducible refine TV ?_
 first | refine Sn (So ?_) | skip
 refine Sn (wpAny_sequenceKey ht.typeIs (by decide) (Sn (Tv (name := Str.ofString "__getitem__") ht.typeIs TQ (Tc TQ ht.typeIs entry_tuple_getitem ?b (args_tuple_getitem _ _)))))
 case b =>
  show wpAny _ _ (Builtin.Tuple.tupleItemsOf (.ref t) >>= _) _ _ _; refine Sn (tupleItemsOf_ ht (Sn (wpAny_typeOf TS ?_))); rw [if_pos (by decide)]
  refine Sn (gw hs pl pu ?_)
  show wpAny _ _ (if (((c8 items.size 0 lo : Nat) : Int) == 0 && (1 : Int) == 1 && (c8 items.size items.size hi - c8 items.size 0 lo) == items.size) = true then _ else _) _ _ s
  rw [if_pos yes]
  obtain ⟨ot, QK, Q5, _⟩ := id ht
  have TT : s.TypeIs (.ref t) "tuple" := ⟨ot, QK, Q5⟩
  unfold Builtin.Tuple.tupleIsExact
  refine Sn (Sn (wpAny_typeOf TT (So ?_)))
  rw [if_pos (by decide)]
  exact Sn (Ug (So ⟨_, rfl, So h⟩))
end
end HT
namespace L2
open PySem PySem.Spec PyProof.Rows
section
variable {X : Cx}
def HI (K : Vj) : V -> Option Int -> Option Int -> Hp -> VK -> Prop := fun x lo hi H Q => ∃ a xs, x = .ref a /\ bR K H a xs /\ (HT.c8 xs.length 0 lo = 0 /\ HT.c8 xs.length xs.length hi = xs.length) /\ Q (.ref a) H
theorem BH : Bw X (HI X.K) := by
 intro pins s σ H x v vl vu lo hi sl Q I rx hs pl pu h
 obtain ⟨a, xs, rfl, hx, hw, q⟩ := h
 cases rx
 obtain ⟨au, r, ht, hz⟩ := I.tuple hx
 have ln : au.toArray.size = xs.length := by rw [SG]; exact r.length.symm
 exact ⟨"tuple", _, TQ.lookup, ht.typeIs, HT.kE ht hs pl pu (by rw [ln]; exact hw) ⟨.ref a, H, I, rfl, q⟩⟩
theorem Di : Bw X (fun x lo hi H Q => Iv X.K x lo hi H Q \/ HI X.K x lo hi H Q) := Bw.or Fa BH
end
end L2
namespace PySem.W
open PySem PySem.Spec PySem.Calls PyProof.Rows
open Builtin Builtin.ObjectAttr Builtin.Getset_descriptor
structure Eo (K : Frag) (D : Addr) : Prop where
 ga : findIn K (.ref D) "__getattribute__" = some (some (.builtin "BaseException.__getattribute__"))
 hk : findIn K (.ref D) "__getattr__" = some none
 ca : findIn K (.ref D) "__class__" = some (some (.builtin "object.__class__"))
 gt : specialIn K (.builtin "object.__class__") "__get__" = some (some (.builtin "getset_descriptor.__get__"))
 tk : takesIn K (.builtin "object.__class__") = some true
 mo : mroIn K D (.type "object") = some true
 mb : mroIn K D (.type "BaseException") = some true
 cl : (clsIn K D).isSome = true
theorem Eo.cls {K : Frag} {D : Addr} (c : Eo K D) : ∃ c' d' cd CZ, K.lookup D = some ⟨c', d', .cls cd, CZ⟩ := by
 have z := c.cl
 unfold clsIn at z
 split at z
 ·rename_i ho; exact ⟨_, _, _, _, ho⟩
 ·cases z
end PySem.W
namespace L2
open PySem PySem.Spec PyProof.Rows
abbrev TX := St -> Hp -> VK -> XK -> Prop
def XP (X : Cx) (pins : List (Addr × Obj)) (σ : St) (E : XK) (e : Value) (s' : Shared) : Prop := ∃ H1 s1, Inv X pins σ H1 s1 /\ o9 X.prog X.w X.stack H1 s1 E e s'
section
variable {X : Cx} {k : Nat} {f C : Addr} {fd : FuncData} {ps : List Str} {sp : Sp} {js : List V} {ds : List Value} {x y : Str} {p pos : Pos} {e : Expr} {es : List Expr} {t : TA}
abbrev Ox := Ends -> XK -> St -> Hp -> Prop
variable {tx : TX} {i : Nat} {rest : List Stmt} {u : TS} {FD pos' : Pos}
end
section
variable {X : Cx} {CC : Addr} {j : Nat} {x n : Str} {tb : Ox} {ts : Addr -> Addr -> TS} {body M5 : List Stmt} {b₀ : Stmt} {np Iu pos : Pos} {rest : List ExceptHandler}
theorem tZ {P : Program} {w : World} {X : Cx} : Passes (o9 P w) X E0 := fun _ _ _ _ _ _ _ h => by
 obtain ⟨_, _, _, _, _, _, _, _, _, _, _, _, _, _, z⟩ := h
 exact z.elim
end
section
variable {X : Cx} {K : Vj} (h : X.K = K)
include h
theorem zn : gi X (compareOp .NotIn) (Ln K true) := by subst h; exact ki
theorem Ie : gi X (binaryOp .Add) (D7 K) := by subst h; exact xb
theorem HX : zt X (G0 K) := by subst h; exact jp
theorem GL : zt X (GY K) := by subst h; exact bC
theorem tupK {es : List Expr} {k n : Nat} {pos : Pos} {t : Eg} (hc : X.calm = true) (ht : HW X es t) (hn : (assignEach es X.env).length = n := by rfl) (io : (assignEach es X.env).findIdx? (·.1) = none := by rfl) : PG X (.Tuple es k pos) (Ha K n t) := by subst h; exact lK hc ht hn io
end
section
variable {X : Cx}
theorem xL (hc : X.calm = true) : dh X (.builtin "min") (fun xs H Q => ∃ (p : Addr) (ns : List Int), xs = [.ref p] /\ bz X.K H p (ns.map V.int) /\ ns ≠ [] /\ ∀ m, m ∈ ns -> (∀ n ∈ ns, m <= n) -> Q (.int m) H) := by
 intro pins s σ H xs us Q I r h
 obtain ⟨p, ns, rfl, hp, ql, q⟩ := h
 obtain ⟨u, rfl, ru⟩ := vals1 r
 cases ru
 obtain ⟨au, rv, pl, _⟩ := I.list hp
 obtain ⟨ps, rfl, e2⟩ := oM rv
 have ia : (ps.map fun p => Value.int p.1 p.2).toArray = intItems ps.toArray := by unfold intItems; simp
 have rV : ps.toArray.size = ns.length := by rw [<- e2]; simp
 have Iu : 0 < ps.toArray.size := by rw [rV]; exact U6.mpr ql
 refine min_intList (I.ok.hd hc) (xs := ps.toArray) (by rw [<- ia]; exact pl.isList) Iu fun v h' tk hv hk => ?_
 obtain ⟨t, rfl⟩ := intItems_at hv
 obtain ⟨h1, h2⟩ := argBest_lt (numAt ps.toArray) (ps.toArray.size - 1)
 have na : numAt ps.toArray = fun i => ns.getD i 0 := by
  funext i
  rw [<- e2]
  unfold numAt
  rw [SL, SH]
  simp
 refine ⟨.int _, H, I.kept (t' := tk) hk, ⟨t, rfl⟩, q _ ?_ fun n hn => ?_⟩
 ·rw [na]
  have hi : argBest (fun i j => decide (numAt ps.toArray i < numAt ps.toArray j)) (ps.toArray.size - 1) < ns.length := by omega
  rw [na] at hi
  show ns.getD _ 0 ∈ ns
  rw [SL, Sw hi]
  exact Ui hi
 ·obtain ⟨j, hj⟩ := US.mp hn
  have RD : j < ns.length := (SR.mp hj).1
  have := h2 j (by omega)
  rw [na] at this ⊢
  have e : ns.getD j 0 = n := by rw [SL, hj]; rfl
  have DY : ns.getD (argBest (fun i j => decide (ns.getD i 0 < ns.getD j 0)) (ps.toArray.size - 1)) 0 <= ns.getD j 0 := this
  rw [e] at DY
  exact DY
end
end L2
namespace FN
open PySem L2
theorem uK {α : Type} {x : α} {r : List α} : AJ (x :: r) 0 = some x := gR (j := 0) (xs := x :: r) rfl
theorem qd {α : Type} {x y : α} {r : List α} : AJ (x :: y :: r) 1 = some y := gR (j := 1) (xs := x :: y :: r) rfl
theorem at2 {α : Type} {x y z : α} {r : List α} : AJ (x :: y :: z :: r) 2 = some z := gR (j := 2) (xs := x :: y :: z :: r) rfl
theorem vV {α : Type} {xs : List α} {i : Int} (h0 : 0 <= i) (h1 : i < xs.length) : ∃ v, v ∈ xs /\ AJ xs i = some v := by
 have hj : i.toNat < xs.length := by omega
 have e : xs[i.toNat]? = some xs[i.toNat] := Sw hj
 refine ⟨xs[i.toNat], Ui hj, ?_⟩
 have q := gR e
 rwa [show ((i.toNat : Nat) : Int) = i by omega] at q
theorem cq {c : Bool} {A B : Prop} (h1 : c = true -> A) (h2 : c = false -> B) : if c = true then A else B := by
 cases c with
 | true => exact h1 rfl
 | false => exact h2 rfl
theorem aJ {n : Nat} (h : n <= 1000000) : n <= sizeLine := by rw [Uu]; omega
theorem aX {n : Nat} (h : n <= 1000000) : n < sizeLine := by rw [Uu]; omega
mutual
def eF : PyData -> Bool
 | .list _ => false
 | .tuple ds => cC ds
 | .dict _ => false
 | _ => true
def cC : List PyData -> Bool
 | [] => true
 | d :: ds => eF d && cC ds
end
theorem aF {α : Type} {f : α -> PyData} (hf : ∀ x, eF (f x) = true) : ∀ l : List α, cC (l.map f) = true
 | [] => rfl
 | x :: r => by
  simp only [SN, cC, Td]
  exact ⟨hf x, aF hf r⟩
section
variable {H : Hp} {D : Addr} {o : HO} {ys : List V}
mutual
theorem dO (hD : H D = some (.lst ys)) : ∀ {d : PyData} {v : V}, DV H d v -> eF d = true -> DV (upd H D o) d v
 | _, _, .cc, _ => .cc
 | _, _, .bl b, _ => .bl b
 | _, _, .int i, _ => .int i
 | _, _, .str x, _ => .str x
 | _, _, .lst _ _, n => by simp [eF] at n
 | _, _, .tup h t, n => .tup (by rw [ak (cR h hD (by intro z; cases z))]; exact h) (bN hD t (by simpa [eF] using n))
theorem bN (hD : H D = some (.lst ys)) : ∀ {ds : List PyData} {vs : List V}, bK H ds vs -> cC ds = true -> bK (upd H D o) ds vs
 | _, _, .nil, _ => .nil
 | _, _, .cons h t, n => by
  simp only [cC, Td] at n
  exact .cons (dO hD h n.1) (bN hD t n.2)
end
end
section
variable {H H' : Hp}
mutual
theorem uP (e : ∀ b vs, H b = some (.tup vs) -> H' b = some (.tup vs)) : ∀ {d : PyData} {v : V}, DV H d v -> eF d = true -> DV H' d v
 | _, _, .cc, _ => .cc
 | _, _, .bl b, _ => .bl b
 | _, _, .int i, _ => .int i
 | _, _, .str x, _ => .str x
 | _, _, .lst _ _, n => by simp [eF] at n
 | _, _, .tup h t, n => .tup (e _ _ h) (i8 e t (by simpa [eF] using n))
theorem i8 (e : ∀ b vs, H b = some (.tup vs) -> H' b = some (.tup vs)) : ∀ {ds : List PyData} {vs : List V}, bK H ds vs -> cC ds = true -> bK H' ds vs
 | _, _, .nil, _ => .nil
 | _, _, .cons h t, n => by
  simp only [cC, Td] at n
  exact .cons (uP e h n.1) (i8 e t n.2)
end
end
theorem az {H0 H : Hp} {D : Addr} {o : HO} (e : am H0 H) (h : H0 D = none) : am H0 (upd H D o) := fun b u q => by
 rw [ak (ay q h)]
 exact e b u q
theorem ai {H : Hp} {D : Addr} {o : HO} (h : H D = none) : am H (upd H D o) := az (am.refl H) h
theorem fD {α : Type} {f : α -> PyData} (hf : ∀ x, (f x).canLay0 = true) : ∀ l : List α, PyData.canLayAll0 (l.map f) = true
 | [] => by simp [PyData.canLayAll0]
 | x :: r => by simp only [SN, PyData.canLayAll0, hf x, fD hf r, Bool.and_self]
theorem Dg (i : Int) : (PyData.int i).canLay0 = true := by simp [PyData.canLay0]
theorem Bo (g : List Int) : PyData.canLayAll0 (g.map PyData.int) = true := fD Dg g
theorem la {α : Type} {f : α -> PyData} {n : Nat} (hf : ∀ x, (f x).depth <= n) : ∀ l : List α, PyData.depthAll (l.map f) <= n
 | [] => by simp [PyData.depthAll]
 | x :: r => by
  simp only [SN, PyData.depthAll]
  exact Nat.max_le.mpr ⟨hf x, la hf r⟩
abbrev Th := Int × Bool
abbrev Qu := Int × Int × Int
def yU (t : Th) : PyData := .tuple [.int t.1, .bool t.2]
def CJ (q : Qu) : PyData := .tuple [.int q.1, .int q.2.1, .int q.2.2]
theorem tT (t : Th) : eF (yU t) = true := rfl
theorem sJ (q : Qu) : eF (CJ q) = true := rfl
section
variable {H : Hp}
theorem IK {t : Th} {b : Addr} (h : H b = some (.tup [.int t.1, .bl t.2])) : DV H (yU t) (.ref b) := .tup h (.cons (.int _) (.cons (.bl _) .nil))
theorem Gz {q : Qu} {b : Addr} (h : H b = some (.tup [.int q.1, .int q.2.1, .int q.2.2])) : DV H (CJ q) (.ref b) := .tup h (.cons (.int _) (.cons (.int _) (.cons (.int _) .nil)))
theorem zI {t : Th} {v : V} (h : DV H (yU t) v) : ∃ b, v = .ref b /\ H b = some (.tup [.int t.1, .bl t.2]) := by
 obtain ⟨a, vs, rfl, e, q⟩ := h.eV
 obtain ⟨v, w, rfl, h1, h2⟩ := q.nh
 cases h1.int_inv
 cases h2.Fg
 exact ⟨a, rfl, e⟩
theorem z9 {q : Qu} {v : V} (h : DV H (CJ q) v) : ∃ b, v = .ref b /\ H b = some (.tup [.int q.1, .int q.2.1, .int q.2.2]) := by
 obtain ⟨a, vs, rfl, e, q⟩ := h.eV
 obtain ⟨v, w, u, rfl, h1, h2, h3⟩ := q.lQ
 cases h1.int_inv
 cases h2.int_inv
 cases h3.int_inv
 exact ⟨a, rfl, e⟩
theorem bG {α : Type} {f : α -> PyData} {l : List α} {vs : List V} {i : Nat} {v : V} (h : bK H (l.map f) vs) (e : vs[i]? = some v) : ∃ x, l[i]? = some x /\ DV H (f x) v := by
 obtain ⟨d, h1, h2⟩ := h.get' e
 rw [SH] at h1
 cases q : l[i]? with
 | none => rw [q] at h1; cases h1
 | some x =>
  rw [q] at h1
  cases h1
  exact ⟨x, rfl, h2⟩
theorem aK {α : Type} {f : α -> PyData} {l : List α} {vs : List V} (h : bK H (l.map f) vs) : vs.length = l.length := by
 have := h.length
 rw [Sr] at this
 exact this.symm
end
structure Gu (n : Int) (q : Qu) : Prop where
 a0 : 0 <= q.1
 a1 : q.1 < n
 b0 : 0 <= q.2.1
 b1 : q.2.1 < n
 ab : q.1 ≠ q.2.1
 k : q.2.2 = -1 \/ (0 <= q.2.2 /\ q.2.2 < n /\ q.2.2 ≠ q.1 /\ q.2.2 ≠ q.2.1)
structure uM (ts : List Th) : Prop where
 l1 : 1 <= ts.length
 l6 : ts.length <= 6
 p : ∀ t ∈ ts, 1 <= t.1 /\ t.1 <= 1000000000
def LstAt {α : Type} (f : α -> PyData) (H : Hp) (a : Addr) (l : List α) : Prop := ∃ vs, H a = some (.lst vs) /\ bK H (l.map f) vs
def TupAt {α : Type} (f : α -> PyData) (H : Hp) (a : Addr) (l : List α) : Prop := ∃ vs, H a = some (.tup vs) /\ bK H (l.map f) vs
section
variable {α : Type} {f : α -> PyData} {H H' : Hp} {a : Addr} {l : List α}
theorem LstAt.mono (h : LstAt f H a l) (e : am H H') : LstAt f H' a l := let ⟨vs, h1, h2⟩ := h; ⟨vs, e _ _ h1, h2.mono e⟩
theorem TupAt.mono (h : TupAt f H a l) (e : am H H') : TupAt f H' a l := let ⟨vs, h1, h2⟩ := h; ⟨vs, e _ _ h1, h2.mono e⟩
theorem LstAt.dv (h : LstAt f H a l) : DV H (.list (l.map f)) (.ref a) := let ⟨_, h1, h2⟩ := h; .lst h1 h2
theorem TupAt.dv (h : TupAt f H a l) : DV H (.tuple (l.map f)) (.ref a) := let ⟨_, h1, h2⟩ := h; .tup h1 h2
end
def bad (g : List Int) (q : Qu) : Bool := g.contains q.1 && g.contains q.2.1 && !g.contains q.2.2
def iF (qs : List Qu) (g : List Int) : Bool := !(qs.any (bad g))
theorem gu (i : Int) (g : List Int) : AQ (.int i) (g.map V.int) = g.contains i := by
 unfold AQ
 rw [List.any_map, List.contains_eq_any_beq]
 congr 1
 funext y
 show (y == i) = (i == y)
 rw [Bool.beq_comm]
theorem gE (g : List Int) : (g.map V.int).all ll = true := by
 rw [List.all_map]
 exact TB.mpr fun _ _ => rfl
def cX : Nat -> Int -> Int -> List Int
 | 0, _, _ => []
 | k + 1, t, num => (if num % 2 = 1 then [t] else []) ++ cX k (t + 1) (num / 2)
def bits (n : Nat) (num : Int) : List Int := cX n 0 num
def groups (n : Nat) : List (List Int) := (bM (2 ^ n)).map (bits n)
def gg (g : List Int) : PyData := .tuple (g.map PyData.int)
theorem iT (g : List Int) : eF (gg g) = true := by
 show cC (g.map PyData.int) = true
 exact aF (fun _ => rfl) g
theorem gU {H : Hp} {g : List Int} {v : V} (h : DV H (gg g) v) : ∃ b, v = .ref b /\ H b = some (.tup (g.map V.int)) := by
 obtain ⟨a, vs, rfl, e, q⟩ := h.eV
 cases q.kD
 exact ⟨a, rfl, e⟩
theorem iZ {H : Hp} {g : List Int} {b : Addr} (h : H b = some (.tup (g.map V.int))) : DV H (gg g) (.ref b) := .tup h (bK.ints g)
theorem zF (cell : Int) (n : Nat) (h2 : 2 <= n) (h6 : n <= 6) : 0 <= cell % (n : Int) /\ cell % (n : Int) < n /\ 0 <= (cell % (n : Int) + 1 + cell / (n : Int) % ((n : Int) - 1)) % (n : Int) /\
  (cell % (n : Int) + 1 + cell / (n : Int) % ((n : Int) - 1)) % (n : Int) < n /\ cell % (n : Int) ≠ (cell % (n : Int) + 1 + cell / (n : Int) % ((n : Int) - 1)) % (n : Int) := by
 have c : n = 2 \/ n = 3 \/ n = 4 \/ n = 5 \/ n = 6 := by omega
 rcases c with rfl | rfl | rfl | rfl | rfl <;> omega
theorem Cm (n : Nat) (h2 : 2 <= n) (h6 : n <= 6) : (0 : Int) < (n : Int) * ((n : Int) - 1) /\ (n : Int) * ((n : Int) - 1) < 1073741824 := by
 have c : n = 2 \/ n = 3 \/ n = 4 \/ n = 5 \/ n = 6 := by omega
 rcases c with rfl | rfl | rfl | rfl | rfl <;> decide
abbrev bX (P : Program) (w : World) (K : Vj) (mg : Str -> Option Value) (base : Heap) (N : List Str) (qual : Str) (st : Stmt) (f : Addr) (cm : Value) (A : Around) (outer : List Env) (s : Shared) (H : Hp) (E : XK) : Cx :=
 (si bA P w K mg base N qual (aj st) f cm A outer s H E).C8
abbrev bD (Q : VK) : Ends := { nx := fun _ H' => Q .cc H', rt := Q }
structure Fn (K : Vj) (mg : Str -> Option Value) (x : Str) (st : Stmt) (f : Addr) (fd : FuncData) (ps : List Str) : Prop where
 fn : BG K x x st f fd
 b : Binds K fd ps []
 g : mg x = some (.ref f)
structure Mt (K : Vj) (x qual : Str) (st : Stmt) (f : Addr) (fd : FuncData) (ps : List Str) : Prop where
 fn : BG K x qual st f fd
 b : Binds K fd ps []
end FN
namespace L2
open PySem PySem.Spec PyProof.Rows
section
variable {X : Cx} {x : Str} {pos : Pos}
theorem gn (i : Nat) (hN : X.N.Nodup) (hi : X.N[i]? = some x := by rfl) (hx : Loc X.env.scope x := by first | exact Or.inl rfl | exact Or.inr rfl) (hf : X.fn x = true \/ X.env.scope.names.lookup x = some .local := by first | exact .inl rfl | exact .inr rfl | assumption) : PG X (.Name x pos) (t5 i) := BU hN hi hx hf
theorem sn (i : Nat) {e : Expr} {te : TE} {pos' : Pos} (hN : X.N.Nodup) (he : PE X e te) (hi : X.N[i]? = some x := by rfl) (hx : Loc X.env.scope x := by first | exact Or.inl rfl | exact Or.inr rfl) (hs : swapsWith e (some (.Name x pos')) pos.line X.env = pure false := by rfl)
  (hf : X.fn x = true \/ X.env.scope.names.lookup x = some .local := by first | exact .inl rfl | exact .inr rfl | assumption) : PS X (.Assign [.Name x pos'] e pos) (Ci te (t5 i)) := Fb hN hi hx he hs hf
theorem ge {N P : List Str} {sc : Scope} (h1 : sc.kind = .function := by rfl) (h2 : sc.isCoroutine = false := by rfl) (h3 : sc.isGenerator = false := by rfl) (h4 : N.Nodup := by decide +kernel) (h5 : N.take P.length = P := by rfl)
  (h6 : ∀ x ∈ P, sc.names.lookup x = some .local \/ sc.names.lookup x = some .cell := by decide +kernel) (h7 : ∀ y ∈ sc.names, y.2 ≠ .free := by decide +kernel) : av N P sc := ⟨h1, h2, h3, h4, h5, h6, h7⟩
theorem cl {CX : uN} {k j : Nat} {f : Addr} {fd : FuncData} {ps : List Str} {sp : Sp} {E : XK} {st : Stmt} {e : Expr} {es : List Expr} {t : TA} {p : Pos} (F : aq X.prog X.w X.K X.mg X.base CX k f fd ps sp) (N : FN.Fn X.K X.mg x st f fd ps) (hr : dj j X.A) (hx : Passes CX X E) (ha : PA X (e :: es) t)
  (hk : k <= j := by decide) (hg : Gl X x := by rfl) (nY : (x == ("__debug__" : Str)) = false := by decide) (he : starEach (e :: es) X.env = (false, eval e X.env) :: starEach es X.env := by rfl) (yM : (backTo pos (starEach es X.env)).any (·.1) = false := by rfl) :
  PE X (.Call (.Name x p) (e :: es) [] pos) (DM sp [] E t) := B1 F (hr.mono hk) hg N.g N.fn.kp N.b .nil hx ha nY he yM
end
section
variable {prog : Program} {w : World} {A : Around} {E : Value -> Shared -> Prop} {s : Shared}
def fH (h : Heap) (a : Addr) (g : List Int) : Prop := ∃ au : List Value, Vals (g.map V.int) au /\ IsTup h a au.toArray
theorem fH.typeIs {a : Addr} {g : List Int} (h : fH s.heap a g) : s.TypeIs (.ref a) "tuple" := let ⟨_, _, o, ho, hc, _⟩ := h; ⟨o, ho, hc⟩
theorem jF {g k : List Int} {a b : Addr} {P : PySem.Fin -> Shared -> Prop} (hx : fH s.heap a g) (hy : fH s.heap b k) (h : P (.done (.ret (.bool (HT.lexLt g k)))) s) :
  wpAny (model prog w) A (Builtin.«tuple.__lt__» ⟨[.ref a, .ref b], []⟩) P E s := by
 have GC := hy.typeIs
 obtain ⟨xs, rx, oa, yP, _, na, yW⟩ := hx
 obtain ⟨ys, ry, ob, lI, _, nb, nY⟩ := hy
 show wpAny _ _ (isInstance (.ref b) (.type "tuple") >>= _) _ _ s
 refine Sn (Uh GC isSubtype_tuple_tuple ?_)
 simp only [TC, SU, Tr]
 refine Sn (Vf yP yW ?_)
 refine Sn (Vf lI nY ?_)
 refine Sn ?_
 refine wpAny_forIn_list _
  (fun rest r s' => s' = s /\ ((r.1 = none /\ ∃ g' k' Ge sh, rest = List.zip Ge sh /\ Vals (g'.map V.int) Ge /\ Vals (k'.map V.int) sh /\ HT.lexLt g' k' = HT.lexLt g k /\ (decide (Ge.length < sh.length)) = (decide (xs.toArray.size < ys.toArray.size))) ))
  _ ?_ ?_ _ _ ⟨rfl, rfl, g, k, xs, ys, by simp, rx, ry, rfl, by simp⟩
 ·rintro ⟨u, v⟩ rest r s' ⟨rfl, hr, g', k', Ge, sh, hz, hg, hk, vJ, hlen⟩
  cases g' with
  | nil => cases hg; simp at hz
  | cons m g' =>
   cases k' with
   | nil => cases hk; rw [List.zip_nil_right] at hz; cases hz
   | cons n k' =>
    cases hg with
    | cons r1 Lz =>
    cases hk with
    | cons r2 Kl =>
    obtain ⟨t1, rfl⟩ := r1
    obtain ⟨t2, rfl⟩ := r2
    rw [UL] at hz
    injection hz with yR G2
    injection yR with e1 e2
    subst e1 e2 G2
    rw [HT.fk] at vJ
    refine Sn (U1 ?_)
    by_cases JJ : m = n
    ·rw [if_pos JJ] at vJ
     rw [show (m == n) = true from UC.mpr JJ]
     simp only [TC, SU, Tr]
     exact So ⟨rfl, rfl, g', k', _, _, rfl, Lz, Kl, vJ, by simpa using hlen⟩
    ·rw [if_neg JJ] at vJ
     rw [show (m == n) = false from TN.mpr JJ]
     simp only [Bool.not_false, T9]
     refine Sn (Ug (Sn (show wpAny (model prog w) A (compareOp .Lt (.int m t1) (.int n t2)) _ E s' from lt_int ?_)))
     rw [vJ]
     exact Sn (So (So (So h)))
 ·rintro ⟨r1, r2⟩ s' ⟨rfl, hr, g', k', Ge, sh, hz, hg, hk, vJ, hlen⟩
  simp only at hr
  subst hr
  refine So ?_
  have LJ : decide (xs.toArray.size < ys.toArray.size) = HT.lexLt g k := by
   rw [<- vJ, <- hlen]
   cases g' with
   | nil =>
    cases hg
    cases k' with
    | nil => cases hk; rfl
    | cons n k' => cases hk; simp [HT.lexLt]
   | cons m g' =>
    cases hg
    cases k' with
    | nil => cases hk; simp [HT.lexLt]
    | cons n k' => cases hk; simp at hz
  show P (.done (.ret (.bool (decide (xs.toArray.size < ys.toArray.size))))) s'
  rw [LJ]; exact h
theorem sP {g k : List Int} {a b : Addr} {Q : Value -> Shared -> Prop} (hu : A.units < cLine) (hx : fH s.heap a g) (hy : fH s.heap b k) (h : Q (.bool (HT.lexLt g k)) s) :
  wpAny (model prog w) A (compareOp .Lt (.ref a) (.ref b)) Q E s :=
 show wpAny (model prog w) A (richCompare .Lt (.ref a) (.ref b)) Q E s from
 wpAny_richCompare_same_room (op := .Lt) hx.typeIs hy.typeIs F.slot_tuple_lt
   (Tc F.slot_tuple_lt hx.typeIs F.entry_tuple_lt (jF hx hy ⟨_, rfl, (fun e => nomatch e), h⟩) (F.args_tuple_lt_2 _ _)) hu
theorem iO {g k : List Int} {a b : Addr} {o : Bool} {Q : Bool -> Shared -> Prop} (hu : A.units < cLine) (hx : fH s.heap a g) (hy : fH s.heap b k) (h : Q (HT.lexLt g k) s) :
  wpAny (model prog w) A (oneLt' o (.ref a) (.ref b)) Q E s := by
 cases o with
 | false => exact PySem.W.kat_one _ _ (sP hu hx hy h)
 | true =>
  rw [oneLt'_eq]
  simp only [T9]
  refine Sn (wpAny_cRoomFor_or (.inr hu) ?_)
  refine Sn (wpAny_callSpecialIfBound?_slot hx.typeIs F.slot_tuple_lt (Tc F.slot_tuple_lt hx.typeIs F.entry_tuple_lt (jF hx hy ⟨_, rfl, ?_⟩) (F.args_tuple_lt_2 _ _)))
  exact TD h
theorem nT : ∀ {g : List Int} {au : List Value}, Vals (g.map V.int) au -> ItemsAre (intKind prog w) g au
 | [], _, .nil => .nil
 | _ :: _, _, .cons ⟨_, e⟩ r => by subst e; exact .cons (by first | rfl | simp [intKind, Value.isInt]) (nT r)
theorem fH.key {h : Heap} {a : Addr} {g : List Int} : fH h a g -> IsTupleKey (intKind prog w) h g a
 | ⟨au, rv, o, ho, hc, n, hd⟩ => ⟨o, au.toArray, n, ho, hc, hd, by rw [List.toList_toArray]; exact nT rv⟩
theorem iR {g k : List Int} {a b : Addr} {Q : Bool -> Shared -> Prop} (hu : A.units < cLine) (hx : fH s.heap a g) (hy : fH s.heap b k) (h : Q (decide (g = k)) s) :
  wpAny (model prog w) A (eqBool (.ref a) (.ref b)) Q E s := by
 exact wpAny_eqBool_tuple hu hx.key hy.key h
def iy (h : Heap) (k : Value) (p : Int × List Int) : Prop := ∃ a b t, k = .ref a /\ IsTup h a #[.int p.1 t, .ref b] /\ fH h b p.2
def aA (p q : Int × List Int) : Bool := if p.1 = q.1 then HT.lexLt p.2 q.2 else decide (p.1 < q.1)
theorem gv : ∀ g : List Int, HT.lexLt g g = false
 | [] => rfl
 | m :: g => by rw [HT.fk, if_pos rfl, gv g]
theorem uW {x y : Value} {p q : Int × List Int} {Q : Bool -> Shared -> Prop} (hu : A.units < cLine) (hx : iy s.heap x p) (hy : iy s.heap y q) (h : Q (aA p q) s) : wpAny (model prog w) A (keyLt' (tuples' true) x y) Q E s := by
 obtain ⟨a, b, t, rfl, ⟨o, ho, hc, n, hd⟩, hb⟩ := hx
 obtain ⟨a', b', t', rfl, ⟨o', j8, uI, n', uH⟩, Br⟩ := hy
 refine PySem.W.kat_lt ho hd j8 uH ?_
 show PySem.W.KatLex prog w A true (decide (2 < 2)) Q [(.int p.1 t, .int q.1 t'), (.ref b, .ref b')] 0 s
 refine PySem.W.kat_cons (U1 ?_)
 unfold aA at h
 refine PySem.W.kat_go (fun e => ?_) fun e => ?_
 ·rw [if_pos (eq_of_beq e)] at h
  refine PySem.W.kat_yes (PySem.W.kat_cons (iR hu hb Br ?_))
  refine PySem.W.kat_go (fun e => ?_) fun e => ?_
  ·have e := S1 e
   rw [e, gv] at h
   exact PySem.W.kat_yes (PySem.W.kat_nil h)
  ·exact PySem.W.kat_no (iO hu hb Br h)
 ·rw [if_neg (fun z => by rw [z, beq_self_eq_true] at e; cases e)] at h
  exact PySem.W.kat_no (oneLt_int h)
end
section
theorem lex_trans : ∀ {a b c : List Int}, HT.lexLt a b = true -> HT.lexLt b c = true -> HT.lexLt a c = true
 | [], _, [], h1, h2 => by rename_i b; cases b <;> simp [HT.lexLt] at h1 h2
 | [], _, _ :: _, _, _ => by simp [HT.lexLt]
 | _ :: _, [], _, h1, _ => by simp [HT.lexLt] at h1
 | _ :: _, _ :: _, [], _, h2 => by simp [HT.lexLt] at h2
 | x :: a, y :: b, z :: c, h1, h2 => by
  rw [HT.fk] at h1 h2 ⊢
  by_cases e1 : x = y
  ·rw [if_pos e1] at h1
   by_cases e2 : y = z
   ·rw [if_pos e2] at h2
    rw [if_pos (e1.trans e2)]
    exact lex_trans h1 h2
   ·rw [if_neg e2] at h2
    rw [if_neg (fun e => e2 (e1.symm.trans e)), e1]
    exact h2
  ·rw [if_neg e1] at h1
   by_cases e2 : y = z
   ·rw [<- e2, if_neg e1]
    exact h1
   ·rw [if_neg e2] at h2
    have h1 := S1 h1
    have h2 := S1 h2
    rw [if_neg (by omega)]
    exact SE (by omega)
theorem jd : ∀ {a b : List Int}, a ≠ b -> HT.lexLt a b = false -> HT.lexLt b a = true
 | [], [], h, _ => absurd rfl h
 | [], _ :: _, _, h => by simp [HT.lexLt] at h
 | _ :: _, [], _, _ => by simp [HT.lexLt]
 | x :: a, y :: b, h, h1 => by
  rw [HT.fk] at h1 ⊢
  by_cases e : x = y
  ·rw [if_pos e] at h1
   rw [if_pos e.symm]
   exact jd (fun z => h (by rw [e, z])) h1
  ·rw [if_neg e] at h1
   rw [if_neg (fun z => e z.symm)]
   have := of_decide_eq_false h1
   exact SE (by omega)
theorem lY (p : Int × List Int) : aA p p = false := by unfold aA; rw [if_pos rfl, gv]
theorem oS {p q r : Int × List Int} (h1 : aA p q = true) (h2 : aA q r = true) : aA p r = true := by
 unfold aA at *
 by_cases e1 : p.1 = q.1
 ·rw [if_pos e1] at h1
  by_cases e2 : q.1 = r.1
  ·rw [if_pos e2] at h2
   rw [if_pos (e1.trans e2)]
   exact lex_trans h1 h2
  ·rw [if_neg e2] at h2
   rw [if_neg (fun e => e2 (e1.symm.trans e)), e1]
   exact h2
 ·rw [if_neg e1] at h1
  by_cases e2 : q.1 = r.1
  ·rw [<- e2, if_neg e1]
   exact h1
  ·rw [if_neg e2] at h2
   have h1 := S1 h1
   have h2 := S1 h2
   rw [if_neg (by omega)]
   exact SE (by omega)
theorem zZ {p q : Int × List Int} (h : p ≠ q) (h1 : aA p q = false) : aA q p = true := by
 unfold aA at *
 by_cases e : p.1 = q.1
 ·rw [if_pos e] at h1
  rw [if_pos e.symm]
  exact jd (fun z => h (Prod.ext e z)) h1
 ·rw [if_neg e] at h1
  rw [if_neg (fun z => e z.symm)]
  have := of_decide_eq_false h1
  exact SE (by omega)
def c9 (ps : List (Int × List Int)) (p : Int × List Int) : Nat := ps.countP fun x => aA x p
theorem countP_le {α : Type} {f g : α -> Bool} (h : ∀ x, f x = true -> g x = true) : ∀ l : List α, l.countP f <= l.countP g
 | [] => Ss _
 | x :: l => by
  rw [T5, T5]
  have := countP_le h l
  by_cases e : f x = true
  ·rw [if_pos e, if_pos (h x e)]; omega
  ·rw [if_neg e]; omega
theorem mj {α : Type} {f g : α -> Bool} (h : ∀ x, f x = true -> g x = true) {y : α} (h1 : f y = false) (h2 : g y = true) : ∀ {l : List α}, y ∈ l -> l.countP f < l.countP g
 | x :: l, hy => by
  rw [T5, T5]
  rcases Sx.mp hy with rfl | hy
  ·rw [if_neg (by rw [h1]; simp), if_pos h2]
   have := countP_le h l
   omega
  ·have := mj h h1 h2 hy
   by_cases e : f x = true
   ·rw [if_pos e, if_pos (h x e)]; omega
   ·rw [if_neg e]; omega
theorem ko {ps : List (Int × List Int)} {p q : Int × List Int} (hp : p ∈ ps) : decide (c9 ps p < c9 ps q) = aA p q := by
 cases e : aA p q with
 | true => exact SE (mj (f := fun x => aA x p) (g := fun x => aA x q) (fun x hx => oS hx e) (lY p) e hp)
 | false =>
  refine SW (Nat.not_lt.mpr ?_)
  by_cases Ja : p = q
  ·rw [Ja]; exact Ss _
  ·exact countP_le (f := fun x => aA x q) (g := fun x => aA x p) (fun x hx => oS hx (zZ Ja e)) ps
theorem iy.inj {h : Heap} {k : Value} {p q : Int × List Int} (h1 : iy h k p) (h2 : iy h k q) : p = q := by
 obtain ⟨a, b, t, rfl, ⟨o, ho, _, n, hd⟩, au, rv, o1, uo, _, n1, FK⟩ := h1
 obtain ⟨a', b', t', e, ⟨o', j8, _, n', uH⟩, its', Lo, Sf, Hq, _, Np, Iw⟩ := h2
 cases e
 rw [ho] at j8; cases j8
 rw [hd] at uH
 injection uH with e1 e2
 have e1 : [Value.int p.1 t, .ref b] = [Value.int q.1 t', .ref b'] := TR Array.toList e1
 injection e1 with e3 e4
 injection e4 with e5 e6
 injection e3 with e7 e8
 injection e5 with e5
 subst e5
 rw [uo] at Hq; cases Hq
 rw [FK] at Iw
 injection Iw with e1 e2
 have e1 : au = its' := TR Array.toList e1
 subst e1
 refine Prod.ext e7 ?_
 clear FK uo hd ho
 have aux : ∀ (g k : List Int) (au : List Value), Vals (g.map V.int) au -> Vals (k.map V.int) au -> g = k := by
  intro g
  induction g with
  | nil => intro k au r1 r2; cases r1; cases k with
   | nil => rfl
   | cons x k => cases r2
  | cons m g ih =>
   intro k au r1 r2
   cases r1 with
   | cons a1 b1 =>
    cases k with
    | nil => cases r2
    | cons x k =>
     cases r2 with
     | cons a2 b2 =>
      obtain ⟨t1, e1⟩ := a1
      obtain ⟨t2, e2⟩ := a2
      rw [e1] at e2
      injection e2 with e3
      rw [e3, ih k _ b1 b2]
 exact aux _ _ _ rv Lo
end
section
variable {X : Cx} {H H' DG : Hp} {s s' : Shared} {h' : Heap}
structure lJ (X : Cx) (H : Hp) (s : Shared) (H' : Hp) (s' : Shared) : Prop where
 os : s'.os = s.os
 bare : AllBare s'.gens
 un : Un (jL X.stack) [] H H' s.heap s'.heap
 aP : iA X.prog X.w H' s'.heap
 same : am H H'
theorem lJ.inv {pins : List (Addr × Obj)} {σ : St} (I : Inv X pins σ H s) (M : lJ X H s H' s') : Inv X pins σ H' s' := I.Eb M.os M.un M.aP M.bare fun b z => absurd z (by simp)
theorem lJ.start {pins : List (Addr × Obj)} {σ : St} (I : Inv X pins σ H s) : lJ X H s H s := ⟨rfl, I.bare, Un.refl, I.aP, am.refl _⟩
theorem lJ.keep {t : Nat} (M : lJ X H s H' s') (k : ∀ b u, s'.heap.get? b = some u -> h'.get? b = some u) : lJ X H s H' { s' with heap := h', toks := t } :=
 ⟨M.os, M.bare, M.un.trans (Un.kept k), M.aP.kept k, M.same⟩
theorem lJ.CK {a : Addr} {t : Nat} (M : lJ X H s H' s') (ha : s.heap.get? a = none) (hn : H' a = none) (k : ∀ b u, b ≠ a -> s'.heap.get? b = some u -> h'.get? b = some u) : lJ X H s H' { s' with heap := h', toks := t } := by
 have na : ∀ b o, s.heap.get? b = some o -> b ≠ a := fun b o e z => by rw [z, ha] at e; cases e
 have nt : ∀ b o, H' b = some o -> b ≠ a := fun b o e z => by rw [z, hn] at e; cases e
 refine ⟨M.os, M.bare, ⟨fun b o e n f x => k b o (na b o e) (M.un.keep b o e n f x), fun b o e n f x => ?_, M.un.free, fun b o e x => ?_, M.un.fB, M.un.iz, M.un.iG⟩, fun b o e => ?_, M.same⟩
 ·obtain ⟨sl, q⟩ := M.un.slot b o e n f x
  exact ⟨sl, k b _ (na b o e) q⟩
 ·obtain ⟨o', q⟩ := M.un.there b o e x
  exact ⟨o', k b _ (na b o e) q⟩
 ·refine (M.aP b o e).j6 (fun c v hc q => k c v ?_ q) (fun _ q => q) fun _ _ q => q
  rcases hc with z | z
  ·rw [z]; exact nt b o e
  ·exact nt c _ z
theorem lJ.GM {a : Addr} {o : HO} (M : lJ X H s H' s') (ha : s.heap.get? a = none) (hn : H' a = none) (new : cp X.prog X.w (upd H' a o) s'.heap a o) : lJ X H s (upd H' a o) s' := by
 have na : ∀ b o, s.heap.get? b = some o -> b ≠ a := fun b o e z => by rw [z, ha] at e; cases e
 have nt : ∀ b o, H' b = some o -> b ≠ a := fun b o e z => by rw [z, hn] at e; cases e
 refine ⟨M.os, M.bare, ⟨M.un.keep, M.un.slot, fun b u e n x => by rw [ak (na b u e)]; exact M.un.free b u e n x, M.un.there, fun b xs e => ?_, fun b u xs e => ?_, fun b ps e => ?_⟩, fun b u e => ?_, fun b u e => ?_⟩
 ·have q := M.un.fB b xs e
  rw [ak (nt b _ q)]; exact q
 ·have q := M.un.iz b u xs e
  rw [ak (nt b _ q)]; exact q
 ·obtain ⟨m, q⟩ := M.un.iG b ps e
  exact ⟨m, by rw [ak (nt b _ q)]; exact q⟩
 ·by_cases hb : b = a
  ·subst hb; rw [ae] at e; cases e; exact new
  ·rw [ak hb] at e
   exact (M.aP b u e).j6 (fun c v _ q => q) (fun c q => by rw [ak (nt c _ q)]; exact q) fun c xs q => by rw [ak (nt c _ q)]; exact q
 ·have q := M.same b u e
  rw [ak (nt b _ q)]; exact q
theorem lJ.trans (M : lJ X H s H' s') {rW : Shared} (N : lJ X H' s' DG rW) : lJ X H s DG rW := ⟨N.os.trans M.os, N.bare, M.un.trans N.un, N.aP, M.same.trans N.same⟩
def n0 (X : Cx) (f : Addr) (ys : List V) (H : Hp) (kf : V -> Int × List Int) : Prop :=
 ∀ (H' : Hp) (s' : Shared) (y : V) (u : Value), y ∈ ys -> RelV y u -> oh X.prog X.w X.K X.mg X.base X.A X.stack s' H' -> am H H' ->
  wpAny (model X.prog X.w) X.A.in1.in1 (call (.ref f) [u]) (fun v rW => ∃ q b : Addr, v = .ref q /\ lJ X H' s' (upd H' q (.tup [.int (kf y).1, .ref b])) rW /\ H' q = none /\ H b = some (.tup ((kf y).2.map V.int))) (fun _ _ => False) s'
theorem xy {a : Addr} {o : HO} (hn : H a = none) : am H (upd H a o) := fun b u e => by rw [ak (ay e hn)]; exact e
theorem n0.of {CX : uN} {k : Nat} {f : Addr} {fd : FuncData} {x : Str} {sp : Sp} {ys : List V} {kf : V -> Int × List Int} (F : aq X.prog X.w X.K X.mg X.base CX k f fd [x] sp) (hr : dj (k + 2) X.A) (hb : Binds X.K fd [x] [])
  (LY : ∀ outer H s e s', ¬ CX outer H s (fun _ _ _ => False) e s')
  (yL : ∀ y ∈ ys, ∃ b, H b = some (.tup ((kf y).2.map V.int)) /\ ∀ H', am H H' -> ∀ Q : VK, (∀ q, H' q = none -> Q (.ref q) (upd H' q (.tup [.int (kf y).1, .ref b]))) -> sp [y] H' Q (fun _ _ _ => False)) : n0 X f ys H kf := by
 intro H' s' y u hy ru e0 sm
 obtain ⟨b, AI, h⟩ := yL y hy
 have wT : X.K.In s'.heap := e0.mod.wT.keeps fun b o e => (e0.bs b o e).1
 refine wpAny_call (codeAny_mono (F.run X.A.in1.in1 X.stack s' H' ⟨[u], []⟩ [u] [y] (fun v DG => ∃ q, v = .ref q /\ H' q = none /\ DG = upd H' q (.tup [.int (kf y).1, .ref b])) (fun _ _ _ => False) hr.in1.in1 e0.in1.in1 ?_ (.cons ru .nil) (h H' sm _ fun q hq => ⟨q, rfl, hq, rfl⟩)) fun r rW hq => ?_)
 ·exact hb s' [u] wT rfl
 cases r with
 | error e => exact (LY _ _ _ _ _ hq).elim
 | ok fl =>
  cases fl with
  | ret v =>
   obtain ⟨v', DG, os, bare, un, aP, r, q, rfl, hn, rfl⟩ := hq
   cases r
   exact ⟨q, b, rfl, ⟨os, bare, un, aP, xy hn⟩, hn, AI⟩
  | next => exact False.elim hq
  | brk => exact False.elim hq
  | cont => exact False.elim hq
end
open Classical in
noncomputable def keyOf (h : Heap) (k : Value) : Int × List Int := if e : ∃ p, iy h k p then Classical.choose e else (0, [])
theorem ku {h : Heap} {k : Value} {p : Int × List Int} (e : iy h k p) : keyOf h k = p := by
 unfold keyOf
 rw [dif_pos ⟨p, e⟩]
 exact (Classical.choose_spec (⟨p, e⟩ : ∃ p, iy h k p)).inj e
theorem iy.mono {h h' : Heap} {k : Value} {p : Int × List Int} (e : iy h k p) (kp : ∀ b o, h.get? b = some o -> h'.get? b = some o) : iy h' k p := by
 obtain ⟨a, b, t, rfl, ⟨o, ho, c, n, hd⟩, au, rv, o1, uo, c1, n1, FK⟩ := e
 exact ⟨a, b, t, rfl, ⟨o, kp _ _ ho, c, n, hd⟩, au, rv, o1, kp _ _ uo, c1, n1, FK⟩
def gO (ps : List (Int × List Int)) (vs out : List Value) : Prop := ∃ qs : List ((Int × List Int) × Value), qs.Perm (ps.zip vs) /\ out = qs.map Prod.snd /\ qs.Pairwise fun x y => aA x.1 y.1 = true
theorem Bm {h : Heap} : ∀ {ks : List Value} {ps : List (Int × List Int)}, Paired (iy h) ks ps -> ∃ fs, fs.length = ps.length /\ (∀ f ∈ fs, ∃ i t, f = Value.int i t) /\ PySem.W.KatTups h ks fs
 | [], _, .nil => ⟨[], rfl, (fun _ z => by cases z), trivial⟩
 | _ :: _, p :: ps, .cons e r => by
  obtain ⟨fs, hl, hi, hk⟩ := Bm r
  obtain ⟨a, b, t, rfl, ⟨o, ho, c, n, hd⟩, _⟩ := e
  refine ⟨.int p.1 t :: fs, by simp [hl], fun f hf => ?_, PySem.W.KatTups.cons ho c hd (by simp) hk⟩
  rcases Sx.mp hf with rfl | z
  ·exact ⟨_, t, rfl⟩
  ·exact hi f z
theorem rl {h : Heap} : ∀ {ks : List Value} {ps : List (Int × List Int)} {vs : List Value}, Paired (iy h) ks ps -> (ks.zip vs).map (fun x => (keyOf h x.1, x.2)) = ps.zip vs
 | [], _, _, .nil => by simp
 | _ :: _, _ :: _, [], .cons _ _ => by simp
 | _ :: _, _ :: _, v :: vs, .cons e r => by
  rw [UL, UL, SN, ku e, rl r]
theorem n4 {h : Heap} : ∀ {ks : List Value} {ps : List (Int × List Int)} {k : Value}, Paired (iy h) ks ps -> k ∈ ks -> ∃ p ∈ ps, iy h k p
 | _, _, _, .nil, hk => by cases hk
 | _ :: _, _ :: _, k, .cons e r, hk => by
  rcases Sx.mp hk with rfl | hk
  ·exact ⟨_, Sv, e⟩
  ·obtain ⟨p, hp, q⟩ := n4 r hk
   exact ⟨p, Su _ hp, q⟩
section
variable {prog : Program} {w : World} {A : Around} {E : Value -> Shared -> Prop} {s : Shared}
theorem Be {ks vs : List Value} {ps : List (Int × List Int)} (hu : A.units < cLine) (hk : Paired (iy s.heap) ks ps) (hl : ks.length = vs.length) (nd : ps.Nodup) :
  wpAny (model prog w) A ((sortRuns').run (SortSt.mk' (tuples' true) (ks.toArray.zip vs.toArray) #[] 7 none)) (fun r s2 => s2 = s /\ failedOf r.2 = none /\ gO ps vs ((arrOf r.2).map (·.2)).toList) E s := by
 have lp : ks.length = ps.length := hk.length
 have zl : (ks.toArray.zip vs.toArray).toList = ks.zip vs := by simp
 have zz : (ks.zip vs).map (fun x => c9 ps (keyOf s.heap x.1)) = ps.map (c9 ps) := by
  have e := TR (List.map fun y : (Int × List Int) × Value => c9 ps y.1) (rl (vs := vs) hk)
  rw [Tg] at e
  rw [show (ps.zip vs).map (fun y => c9 ps y.1) = (((ps.zip vs).map Prod.fst).map (c9 ps)) by rw [Tg]; rfl, List.map_fst_zip (by omega)] at e
  exact e
 have IS : (ps.map (c9 ps)).Nodup := by
  refine List.Pairwise.map _ (R := fun p q => p ∈ ps /\ q ∈ ps /\ p ≠ q) (fun p q h e => ?_) ?_
  ·have e1 := ko (q := q) h.1
   have e2 := ko (q := p) h.2.1
   rw [e] at e1 e2
   rw [SW (TM _)] at e1
   rw [SW (TM _)] at e2
   have := zZ h.2.2 e1.symm
   rw [<- e2] at this
   cases this
  ·exact Uk (fun {p q} hp hq ql => ⟨hp, hq, ql⟩) nd
 refine SO.tG (prog := prog) (w := w) (A := A) (E := E) (s := s) (rk := fun x => c9 ps (keyOf s.heap x.1)) (S := fun x => ∃ p ∈ ps, iy s.heap x.1 p) (kd := tuples' true) (a₀ := ks.toArray.zip vs.toArray) (st := SortSt.mk' (tuples' true) (ks.toArray.zip vs.toArray) #[] 7 none)
  (Q := fun _ st => failedOf st = none /\ gO ps vs ((arrOf st).map (·.2)).toList) ?cmp ?mem ?nd rfl rfl rfl rfl ?fin
 case cmp =>
  intro x y st Q hx hy kk q
  obtain ⟨p, hp, e1⟩ := hx
  obtain ⟨p', Oh, e2⟩ := hy
  have ee : decide (c9 ps (keyOf s.heap x.1) < c9 ps (keyOf s.heap y.1)) = aA p p' := by rw [ku e1, ku e2, ko hp]
  have q : Q (some (decide (c9 ps (keyOf s.heap x.1) < c9 ps (keyOf s.heap y.1)))) st := q
  rw [ee] at q
  rw [lt'_eq]
  refine SB (wpS_get ?_)
  refine SB (wpS_lift ?_)
  rw [kk]
  refine UD (uW hu e1 e2 ?_)
  exact ⟨rfl, SJ q⟩
 case mem =>
  intro x hx
  rw [zl] at hx
  obtain ⟨k, v⟩ := x
  exact n4 hk (List.of_mem_zip hx).1
 case nd => rw [zl, zz]; exact IS
 case fin =>
  intro st hp hf hs
  rw [zl] at hp
  refine ⟨hf, (arrOf st).toList.map (fun x => (keyOf s.heap x.1, x.2)), ?_, ?_, ?_⟩
  ·rw [<- rl hk]; exact hp.map _
  ·rw [Array.toList_map, Tg]; rfl
  ·have zL : ((arrOf st).toList.map fun x => c9 ps (keyOf s.heap x.1)).Nodup := by
    have := (hp.map fun x => c9 ps (keyOf s.heap x.1)).nodup_iff.mpr (by rw [zz]; exact IS)
    exact this
   rw [Tu]
   have Qe := Tu.mp zL
   refine Uk (fun {x y} hx hy h => ?_) (hs.and Qe)
   obtain ⟨h1, h2⟩ := h
   have pJ := hp.mem_iff.mp hx
   obtain ⟨x1, x2⟩ := x
   obtain ⟨p, OV, e⟩ := n4 hk (List.of_mem_zip pJ).1
   have := ko (ps := ps) (p := keyOf s.heap x1) (q := keyOf s.heap y.1) (by rw [ku e]; exact OV)
   rw [<- this]
   exact SE (Nat.lt_of_le_of_ne h1 h2)
end
section
variable {X : Cx} {pins : List (Addr × Obj)} {σ : St} {H H' : Hp} {s s0 : Shared} {A : Around} {E : Value -> Shared -> Prop} {a kS : Addr} {keys : Array Value} {vs : List Value} {ps : List (Int × List Int)} {e e1 : Nat} {P : PySem.Fin -> Shared -> Prop}
structure Own (X : Cx) (H : Hp) (s0 : Shared) (H' : Hp) (s : Shared) (a kS : Addr) (keys : Array Value) (e e1 : Nat) : Prop where
 M : lJ X H s0 H' s
 nk : s.heap.get? kS = some (seqObj "list" keys e)
 na : s.heap.get? a = some (seqObj "list" #[] e1)
 ne : kS ≠ a
 k0 : s0.heap.objs.size <= kS
 a0 : s0.heap.objs.size <= a
 kn : H' kS = none
 an : H' a = none
theorem wK {st : SortSt} (O : Own X H s0 H' s a kS keys e e1) (hz : keys.size <= sizeLine) (G2 : (arrOf st).size <= sizeLine) (OI : failedOf st = none)
  (h : ∀ s' c, lJ X H s0 H' s' -> s'.heap.get? a = some (seqObj "list" ((arrOf st).map (·.2)) c) -> P (.done (.ret .none)) s') : wpAny (model X.prog X.w) A (ksk_tail a false e1 (.ref kS) st) P E s := by
 have s1 := Tz s.heap kS (Obj.mapSeq fun _ => (#[] : Array Value))
 have Kp : (s.heap.update kS (Obj.mapSeq fun _ => (#[] : Array Value))).get? a = some (seqObj "list" #[] e1) := (s1.2 a O.ne.symm).trans O.na
 have s2 := Tz (s.heap.update kS (Obj.mapSeq fun _ => (#[] : Array Value))) a (Obj.mapSeq fun _ => (arrOf st).map (·.2))
 obtain ⟨c2, Bu⟩ : ∃ c2, ((s.heap.update kS (Obj.mapSeq fun _ => (#[] : Array Value))).update a (Obj.mapSeq fun _ => (arrOf st).map (·.2))).get? a = some (seqObj "list" ((arrOf st).map (·.2)) c2) :=
  ⟨_, get?_update_seq Kp fun _ => (arrOf st).map (·.2)⟩
 unfold ksk_tail
 dsimp only
 refine Sn (U8 O.nk rfl ?_ hz (S4 _))
 refine Sn (wpAny_letGo ?_)
 refine Sn (seqEpoch_at Kp rfl ?_)
 refine Sn (U8 Kp rfl ?_ (S4 _) (by simp only [SU, Tr, Array.size_map]; exact Nat.le_succ_of_le G2))
 rw [OI]
 simp only [bne_self_eq_false, SU, Tr]
 have M1 : lJ X H s0 H' { s with heap := s.heap.update kS (Obj.mapSeq fun _ => (#[] : Array Value)) } := O.M.CK (t := s.toks) (UA O.k0) O.kn fun b u hb e => (s1.2 b hb).trans e
 have M2 : lJ X H s0 H' { s with heap := (s.heap.update kS (Obj.mapSeq fun _ => (#[] : Array Value))).update a (Obj.mapSeq fun _ => (arrOf st).map (·.2)) } := M1.CK (t := s.toks) (UA O.a0) O.an fun b u hb e => (s2.2 b hb).trans e
 exact So (h _ c2 M2 Bu)
theorem xX {ps : List (Int × List Int)} {vs : List Value} (hl : ps.length = vs.length) (h : vs.length < 2) : gO ps vs vs := by
 refine ⟨ps.zip vs, List.Perm.refl _, (List.map_snd_zip (by omega)).symm, ?_⟩
 have : (ps.zip vs).length < 2 := by rw [List.length_zip]; omega
 cases hq : ps.zip vs with
 | nil => exact .nil
 | cons x r =>
  rw [hq] at this
  have : r = [] := List.eq_nil_of_length_eq_zero (by simp only [To] at this; omega)
  rw [this]
  exact Vi _ _
theorem gO.len {ps : List (Int × List Int)} {vs out : List Value} (h : gO ps vs out) (hl : ps.length = vs.length) : out.length = vs.length := by
 obtain ⟨qs, h1, rfl, _⟩ := h
 rw [Sr, h1.length_eq, List.length_zip]
 omega
theorem EY (hu : A.units < cLine) (O : Own X H s0 H' s a kS keys e e1) (hk : Paired (iy s.heap) keys.toList ps) (hl : ps.length = vs.length) (hz : vs.length <= sizeLine) (nd : ps.Nodup)
  (h : ∀ s' out c, lJ X H s0 H' s' -> s'.heap.get? a = some (seqObj "list" out c) -> gO ps vs out.toList -> P (.done (.ret .none)) s') : wpAny (model X.prog X.w) A (ksk_end a false vs.toArray e1 (.ref kS) keys) P E s := by
 have lk : keys.size = vs.length := by have := hk.length; rw [SA] at this; omega
 have zs : (keys.zip vs.toArray).size = vs.length := by rw [Array.size_zip, lk, SG, Nat.min_self]
 unfold ksk_end
 simp only [SU, Tr]
 by_cases h2 : vs.toArray.size < 2
 ·rw [if_pos h2, if_pos h2]
  refine Sn (So ?_)
  rw [StateT.run_pure]
  refine Sn (So ?_)
  dsimp only
  refine wK (st := SortSt.mk' general' (keys.zip vs.toArray) #[] 7 none) O (by omega) (by show (keys.zip vs.toArray).size <= _; omega) rfl fun s' c M' q => h s' _ c M' q ?_
  have e : ((keys.zip vs.toArray).map (·.2)).toList = vs := by
   rw [Array.toList_map]
   have : (keys.zip vs.toArray).toList = keys.toList.zip vs := ksk_zip keys vs
   rw [this]
   exact List.map_snd_zip (by have := SA (xs := keys); omega)
  show gO ps vs ((keys.zip vs.toArray).map (·.2)).toList
  rw [e]
  exact xX hl (by simpa using h2)
 ·rw [if_neg h2, if_neg h2]
  rw [SG] at h2
  obtain ⟨fs, f1, f2, f3⟩ := Bm hk
  have ek : keys = keys.toList.toArray := by rw [UB]
  refine Sn ?_
  rw [show keyKind' keys = keyKind' keys.toList.toArray by rw [UB]]
  refine PySem.W.kat_kind (T := .type "int") f3 (by omega) (fun v hv => ?_) rfl ?_
  ·obtain ⟨i, t, rfl⟩ := f2 v hv
   exact PySem.W.Looks.of_pure rfl
  have run := Be (prog := X.prog) (w := X.w) (A := A) (E := E) (s := s) (ks := keys.toList) (vs := vs) hu hk (by rw [SA]; exact lk) nd
  rw [UB] at run
  refine Sn (TZ run ?_ fun _ _ e => e)
  rintro ⟨⟨⟩, st⟩ s' ⟨rfl, hf, hs⟩
  dsimp only at hf hs ⊢
  have hlen := hs.len hl
  refine wK O (by omega) ?_ hf fun s' c M' q => h s' _ c M' q hs
  rw [SA, Array.size_map] at hlen
  omega
theorem BZ {f : Addr} {ys : List V} {kf : V -> Int × List Int} (hu : X.A.in1.in1.units < cLine) (K : n0 X f ys H kf) (I : Inv X pins σ H s0) (O : Own X H s0 H' s a kS #[] e e1) (rv : Vals ys vs) (hz : vs.length <= sizeLine) (nd : (ys.map kf).Nodup)
  (h : ∀ H' s' out c, lJ X H s0 H' s' -> H' a = none -> s'.heap.get? a = some (seqObj "list" out c) -> gO (ys.map kf) vs out.toList -> P (.done (.ret .none)) s') : wpAny (model X.prog X.w) X.A.in1.in1 (ksk_rest a (.ref f) false vs.toArray e1 (.ref kS)) P E s := by
 have lv : ys.length = vs.length := rv.length
 unfold ksk_rest
 refine Sn (Ug ?_)
 rw [List.forIn_toArray]
 have OP : ∀ b, s0.heap.objs.size <= b -> b ∉ jL X.stack := fun b hb z => by
  rcases Sx.mp (I.jY b z) with z | z
  ·rw [z] at hb
   exact absurd I.lt (Nat.not_lt.mpr hb)
  ·exact I.HS hb z
 refine Sn (ksk_fold (fun i s' => ∃ H' kA e, Own X H s0 H' s' a kS kA e e1 /\ Paired (fun k p => ∃ q b, k = Value.ref q /\ H' q = some (.tup [.int p.1, .ref b]) /\ H b = some (.tup (p.2.map V.int))) kA.toList ((ys.map kf).take i)) vs 0 s
  ⟨H', #[], e, O, by simpa using Paired.nil⟩ ?step ?done)
 case step =>
  rintro j x s' hx ⟨H', kA, e, O, hk⟩
  simp only [Nat.zero_add] at hk ⊢
  have hj : j < vs.length := (SR.mp hx).1
  obtain ⟨y, hy⟩ : ∃ y, ys[j]? = some y := ⟨_, Sw (by omega)⟩
  obtain ⟨u, rZ, ru⟩ := rv.get hy
  rw [hx] at rZ; cases rZ
  have lk : kA.size = j := by
   have := hk.length
   rw [SA, SS, Sr] at this
   omega
  have I' := O.M.inv I
  refine Sn (UD (TZ (K H' s' y x (S5 hy) ru I'.EJ O.M.same) (fun v rW he => ?_) fun _ _ hF => hF.elim))
  obtain ⟨q, b, rfl, M2, hq, hb⟩ := he
  dsimp only
  have wT : ∀ c o, s'.heap.get? c = some o -> H' c = none -> s0.heap.objs.size <= c -> rW.heap.get? c = some o := fun c o e n z => M2.un.keep c o e n (OP c z) (by simp)
  have nk := wT kS _ O.nk O.kn O.k0
  have na := wT a _ O.na O.an O.a0
  have qk : kS ≠ q := fun z => by
   have := M2.un.free kS _ O.nk O.kn (by simp)
   rw [z, ae] at this; cases this
  have qa : a ≠ q := fun z => by
   have := M2.un.free a _ O.na O.an (by simp)
   rw [z, ae] at this; cases this
  have s1 := Tz rW.heap kS (Obj.mapSeq (·.push (.ref q)))
  obtain ⟨c2, Bu⟩ : ∃ c2, (rW.heap.update kS (Obj.mapSeq (·.push (.ref q)))).get? kS = some (seqObj "list" (kA.push (.ref q)) c2) := ⟨_, get?_update_seq nk (·.push (.ref q))⟩
  have ek : (ys.map kf).take (j + 1) = (ys.map kf).take j ++ [kf y] := by rw [SV, SH, hy]; rfl
  refine Sn (U8 nk rfl ?_ (by omega) (SD (Nat.le_of_eq (Us ..)) (by omega)))
  have M3 := (O.M.trans M2).CK (t := rW.toks) (h' := rW.heap.update kS (Obj.mapSeq (·.push (.ref q)))) (UA O.k0) (by rw [ak qk]; exact O.kn) fun b u hb e => (s1.2 b hb).trans e
  refine So ⟨rfl, upd H' q (.tup [.int (kf y).1, .ref b]), kA.push (.ref q), c2, ⟨M3, Bu, (s1.2 a O.ne.symm).trans na, O.ne, O.k0, O.a0, by rw [ak qk]; exact O.kn, by rw [ak qa]; exact O.an⟩, ?_⟩
  rw [Array.toList_push, ek]
  have ap : ∀ {l1 : List Value} {l2 : List (Int × List Int)}, Paired (fun k p => ∃ q b, k = Value.ref q /\ H' q = some (.tup [.int p.1, .ref b]) /\ H b = some (.tup (p.2.map V.int))) l1 l2 ->
    Paired (fun k p => ∃ q' b', k = Value.ref q' /\ upd H' q (.tup [.int (kf y).1, .ref b]) q' = some (.tup [.int p.1, .ref b']) /\ H b' = some (.tup (p.2.map V.int))) (l1 ++ [.ref q]) (l2 ++ [kf y]) := by
   intro l1 l2 r
   induction r with
   | nil => exact .cons ⟨q, b, rfl, ae, hb⟩ .nil
   | cons e _ ih =>
    obtain ⟨q', b', e1, e2, e3⟩ := e
    exact .cons ⟨q', b', e1, by rw [ak (ay e2 hq)]; exact e2, e3⟩ ih
  exact ap hk
 case done =>
  rintro s' ⟨H', kA, e, O, hk⟩
  have e3 : (ys.map kf).take (0 + vs.length) = ys.map kf := SF (by rw [Sr]; omega)
  rw [e3] at hk
  refine Sn (listItems_at O.nk rfl ?_)
  refine EY hu O (Paired.imp' (fun k p he => ?_) hk) (by rw [Sr]; exact lv) hz nd fun s' out c M' q o => h H' s' out c M' O.an q o
  obtain ⟨q, b, rfl, h1, h2⟩ := he
  obtain ⟨_, au, LK, o1, g1, c1, n1, d1⟩ := O.M.aP q _ h1
  obtain ⟨_, jw, Hd, t2⟩ := O.M.aP b _ (O.M.same _ _ h2)
  cases LK with
  | cons ra rb =>
   obtain ⟨t, rfl⟩ := ra
   cases rb with
   | cons rc rd =>
    cases rc
    cases rd
    exact ⟨q, b, t, rfl, ⟨o1, g1, c1, n1, d1⟩, jw, Hd, t2⟩
theorem By {f : Addr} {ys : List V} {kf : V -> Int × List Int} {n : Nat} (hu : X.A.in1.in1.units < cLine) (K : n0 X f ys H kf) (I : Inv X pins σ H s0) (M : lJ X H s0 H s) (ho : s.heap.get? a = some (seqObj "list" vs.toArray n)) (ha : s0.heap.objs.size <= a) (an : H a = none) (rv : Vals ys vs) (hz : vs.length <= sizeLine) (nd : (ys.map kf).Nodup)
  (hl : s0.heap.objs.size <= s.heap.objs.size)
  (h : ∀ H' s' out c, lJ X H s0 H' s' -> H' a = none -> s'.heap.get? a = some (seqObj "list" out c) -> gO (ys.map kf) vs out.toList -> P (.done (.ret .none)) s') : wpAny (model X.prog X.w) X.A.in1.in1 (ksk_tree a (.ref f) false) P E s := by
 have lt : a < s.heap.objs.size := SI ho
 have s1 := Tz s.heap a (Obj.mapSeq fun _ => (#[] : Array Value))
 obtain ⟨e1, uo⟩ : ∃ e1, (s.heap.update a (Obj.mapSeq fun _ => (#[] : Array Value))).get? a = some (seqObj "list" #[] e1) := ⟨_, get?_update_seq ho fun _ => #[]⟩
 have Ki : ((s.heap.update a (Obj.mapSeq fun _ => (#[] : Array Value))).push (seqObj "tuple" vs.toArray 0)).objs.size = s.heap.objs.size + 1 := by rw [size_push', Heap.size_update]
 unfold ksk_tree
 refine Sn (listItems_at ho rfl ?_)
 refine Sn (U8 ho rfl ?_ (by rw [SG]; exact hz) (S4 _))
 refine Sn (seqEpoch_at uo rfl ?_)
 refine Sn (wpAny_newTuple ?_ (by show vs.length <= _; exact hz))
 refine Sn (wpAny_newList ?_ (S4 _))
 refine TV ?_
 have M1 : lJ X H s0 H { s with heap := s.heap.update a (Obj.mapSeq fun _ => (#[] : Array Value)) } := M.CK (t := s.toks) (UA ha) an fun b u hb e => (s1.2 b hb).trans e
 have M2 := M1.keep (t := s.toks) (h' := ((s.heap.update a (Obj.mapSeq fun _ => (#[] : Array Value))).push (seqObj "tuple" vs.toArray 0)).push (seqObj "list" #[] 0)) fun b u e => Sq _ (Sq _ e)
 refine BZ hu K I (H' := H) (e := 0) (kS := ((s.heap.update a (Obj.mapSeq fun _ => (#[] : Array Value))).push (seqObj "tuple" vs.toArray 0)).objs.size) ⟨M2, SC _ rfl, Sq _ (Sq _ uo), by rw [Ki]; exact UZ (Nat.lt_succ_of_lt lt), by rw [Ki]; omega, ha, ?_, an⟩ rv hz nd h
 rw [Ki]
 exact M.aP.fresh (Uy _)
end
section
variable {X : Cx} {pins : List (Addr × Obj)} {σ : St} {H : Hp} {s : Shared}
def wV (X : Cx) (f : Addr) : List V -> Hp -> VK -> Prop := fun xs H Q => ∃ (p : Addr) (ys : List V) (kf : V -> Int × List Int), xs = [.ref p] /\ bz X.K H p ys /\ n0 X f ys H kf /\ (ys.map kf).Nodup /\
 ∀ (H' : Hp) (l : Addr) (sh : List V), am H H' -> H' l = none -> sh.Perm ys -> sh.Pairwise (fun x y => aA (kf x) (kf y) = true) -> Q (.ref l) (upd H' l (.lst sh))
theorem xG {ys : List V} {vs : List Value} (rv : Vals ys vs) (kf : V -> Int × List Int) : ∀ {qs : List ((Int × List Int) × Value)}, qs.Perm ((ys.map kf).zip vs) -> ∃ sh : List V, sh.Perm ys /\ Vals sh (qs.map Prod.snd) /\ sh.map kf = qs.map Prod.fst := by
 intro qs hq
 let f : V × Value -> (Int × List Int) × Value := fun z => (kf z.1, z.2)
 have e0 : (ys.map kf).zip vs = (ys.zip vs).map f := by
  rw [List.zip_map_left]
  exact U5 fun ⟨x, y⟩ _ => rfl
 rw [e0] at hq
 have key : ∀ {l : List (V × Value)} {qs : List ((Int × List Int) × Value)}, qs.Perm (l.map f) -> ∃ l' : List (V × Value), l'.Perm l /\ l'.map f = qs := by
  intro l qs h
  generalize hm : l.map f = m at h
  induction h generalizing l with
  | nil =>
   cases l with
   | nil => exact ⟨[], .refl _, rfl⟩
   | cons _ _ => cases hm
  | cons x _ ih =>
   cases l with
   | nil => cases hm
   | cons z l =>
    rw [SN] at hm
    injection hm with h1 h2
    obtain ⟨l', p1, p2⟩ := ih h2
    exact ⟨z :: l', p1.cons z, by rw [SN, h1, p2]⟩
  | swap x y r =>
   cases l with
   | nil => cases hm
   | cons z l =>
    cases l with
    | nil => cases hm
    | cons z2 l =>
     rw [SN, SN] at hm
     injection hm with h1 h2
     injection h2 with h3 h4
     exact ⟨z2 :: z :: l, List.Perm.swap _ _ _, by rw [SN, SN, h1, h3, h4]⟩
  | trans _ _ L4 LF =>
   obtain ⟨l2, p2, e2⟩ := LF hm
   obtain ⟨l1, p1, e1⟩ := L4 e2
   exact ⟨l1, p1.trans p2, e1⟩
 obtain ⟨l', p1, p2⟩ := key hq
 have lv := rv.length
 refine ⟨l'.map Prod.fst, ?_, ?_, ?_⟩
 ·have := p1.map Prod.fst
  rw [List.map_fst_zip (by omega)] at this
  exact this
 ·rw [<- p2, Tg]
  have hm : ∀ z ∈ l', RelV z.1 z.2 := fun z hz => by
   have hz := p1.mem_iff.mp hz
   obtain ⟨i, hi⟩ := US.mp hz
   rw [List.getElem?_zip_eq_some] at hi
   obtain ⟨u, h1, h2⟩ := rv.get hi.1
   rw [hi.2] at h1; cases h1
   exact h2
  clear p1 p2 hq
  induction l' with
  | nil => exact .nil
  | cons z r ih => exact .cons (hm z Sv) (ih fun y hy => hm y (Su _ hy))
 ·rw [<- p2, Tg, Tg]; rfl
theorem yd {f : Addr} {xs : List V} {us : List Value} {Q : VK} (hu : X.A.in1.in1.units < cLine) (I : Inv X pins σ H s) (r : Vals xs us) (h : wV X f xs H Q) :
  wpAny (model X.prog X.w) X.A (call (.builtin "sorted") us [(Str.ofString "key", .ref f)]) (EP X pins σ Q) X.xe s := by
 obtain ⟨p, ys, kf, rfl, hp, K, nd, q⟩ := h
 obtain ⟨u, rfl, ru⟩ := vals1 r
 cases ru
 obtain ⟨au, rv, pl, hz⟩ := I.list hp
 have ln : au.length = ys.length := rv.length.symm
 refine call_function_entry_kw kind_sorted plain_sorted entry_sorted (ksk_s1 _ _) ?_
 unfold Builtin.«sorted»
 refine Sn (m := checkCount "sorted" 1 1 _) (So ?_)
 refine Sn (collect_list pl.isList ?_ (by omega))
 refine Sn (wpAny_newList ?_ (by show au.length <= _; omega))
 have hsz : ((s.heap.push (seqObj "list" #[] 0)).update s.heap.objs.size (Obj.mapSeq (· ++ au.toArray))).objs.size = s.heap.objs.size + 1 := by
  rw [Heap.size_update, size_push']
 have Jg : (((s.heap.push (seqObj "list" #[] 0)).update s.heap.objs.size (Obj.mapSeq (· ++ au.toArray))).push (seqObj "list" au.toArray 0)).get? (s.heap.objs.size + 1) = some (seqObj "list" au.toArray 0) := by
  rw [<- hsz]; exact SC _ rfl
 have keep : ∀ b o, s.heap.get? b = some o -> (((s.heap.push (seqObj "list" #[] 0)).update s.heap.objs.size (Obj.mapSeq (· ++ au.toArray))).push (seqObj "list" au.toArray 0)).get? b = some o := fun b o q => by
  have fG : b < s.heap.objs.size := SI q
  rw [Heap.get?_push_ne _ _ _ (by rw [hsz]; exact S2 (Nat.lt_succ_of_lt fG)), Heap.get?_update_ne _ _ _ _ (S2 fG), Heap.get?_push_ne _ _ _ (S2 fG)]
  exact q
 show wpAny _ _ _ _ _ { s with heap := ((s.heap.push (seqObj "list" #[] 0)).update s.heap.objs.size (Obj.mapSeq (· ++ au.toArray))).push (seqObj "list" au.toArray 0) }
 rw [hsz]
 refine Sn (TV (wpAny_call_entry_kw slot_list_sort ⟨_, Jg, rfl⟩ entry_list_sort ?body (ksk_l1 _ _)))
 case body =>
  show wpAny (model X.prog X.w) X.A.in1.in1 (Builtin.«list.sort» ⟨[.ref (s.heap.objs.size + 1)], [(Str.ofString "key", .ref f)]⟩) _ _ _
  rw [ksk_t1]
  refine By hu K I (M := (lJ.start I).keep (t := s.toks) keep) Jg (Uy _) (I.aP.fresh (Uy _)) rv (by omega) nd ?_ fun H' s' out c M' an ho o => ⟨_, rfl, ?_⟩
  ·show _ <= Array.size _
   rw [size_push', hsz]
   omega
  obtain ⟨qs, h1, h2, h3⟩ := o
  obtain ⟨sh, y1, y2, y3⟩ := xG rv kf h1
  rw [<- h2] at y2
  have M2 := M'.GM (o := .lst sh) (UA (Uy _)) an ⟨by rw [y1.length_eq]; omega, out.toList, c, y2, by rw [UB]; exact ho⟩
  refine So ⟨.ref (s.heap.objs.size + 1), rfl, .ref (s.heap.objs.size + 1), _, M2.inv I, rfl, q H' _ sh M'.same an y1 ?_⟩
  have h4 : (qs.map Prod.fst).Pairwise fun x y => aA x y = true := Tu.mpr h3
  rw [<- y3] at h4
  exact Tu.mp h4
end
abbrev bv := List Int × Int
section
variable {prog : Program} {w : World} {A : Around} {E : Value -> Shared -> Prop} {s : Shared}
def cP (h : Heap) (k : bv) (a : Addr) : Prop := ∃ b t, IsTup h a #[.ref b, .int k.2 t] /\ fH h b k.1
theorem cP.typeIs {k : bv} {a : Addr} (h : cP s.heap k a) : s.TypeIs (.ref a) "tuple" := let ⟨_, _, ⟨o, ho, hc, _⟩, _⟩ := h; ⟨o, ho, hc⟩
theorem Bp : ∀ {g k : List Int} {au : List Value}, Vals (g.map V.int) au -> Vals (k.map V.int) au -> g = k := by
 intro g
 induction g with
 | nil =>
  intro k au r1 r2
  cases r1
  cases k with
  | nil => rfl
  | cons x k => cases r2
 | cons m g ih =>
  intro k au r1 r2
  cases r1 with
  | cons a1 b1 =>
   cases k with
   | nil => cases r2
   | cons x k =>
    cases r2 with
    | cons a2 b2 =>
     obtain ⟨t1, e1⟩ := a1
     obtain ⟨t2, e2⟩ := a2
     rw [e1] at e2
     injection e2 with e3
     rw [e3, ih b1 b2]
theorem fH.inj {h : Heap} {a : Addr} {g k : List Int} (x : fH h a g) (y : fH h a k) : g = k := by
 obtain ⟨au, rv, o, ho, _, n, hd⟩ := x
 obtain ⟨its', Lo, o', j8, _, n', uH⟩ := y
 rw [ho] at j8; cases j8
 rw [hd] at uH
 injection uH with e1 e2
 have e1 : au = its' := TR Array.toList e1
 subst e1
 exact Bp rv Lo
theorem cP.inj {h : Heap} {a : Addr} {p q : bv} (h1 : cP h p a) (h2 : cP h q a) : p = q := by
 obtain ⟨b, t, ⟨o, ho, _, n, hd⟩, x⟩ := h1
 obtain ⟨b', t', ⟨o', j8, _, n', uH⟩, y⟩ := h2
 rw [ho] at j8; cases j8
 rw [hd] at uH
 injection uH with e1 e2
 have e1 : [Value.ref b, .int p.2 t] = [Value.ref b', .int q.2 t'] := TR Array.toList e1
 injection e1 with e3 e4
 injection e4 with e5 e6
 injection e3 with e7
 injection e5 with e5
 subst e7
 refine Prod.ext ?_ e5
 exact x.inj y
theorem cP.keeps {h h' : Heap} {k : bv} {a d : Addr} {o : Obj} {es ep} (x : cP h k a) (ho : h.get? d = some o) (hd : o.data = .dict es ep) (hs : Heap.SameBut d h h') : cP h' k a := by
 obtain ⟨b, t, ⟨o1, uo, c1, n1, FK⟩, au, rv, o2, tq, c2, n2, hd2⟩ := x
 have ne : ∀ {c : Addr} {o' : Obj} {xs : Array Value} {n : Nat}, h.get? c = some o' -> o'.data = .seq xs n -> c ≠ d := fun {c o' xs n} e1 e2 z => by
  rw [z, ho] at e1; cases e1
  rw [hd] at e2; cases e2
 exact ⟨b, t, ⟨o1, (hs.2 a (ne uo FK)).trans uo, c1, n1, FK⟩, au, rv, o2, (hs.2 b (ne tq hd2)).trans tq, c2, n2, hd2⟩
def gV (prog : Program) (w : World) (k : bv) : Int := reduceHash (Builtin.Tuple.tupleHashOf [tupleKeyHash (intKind prog w) k.1, hashInt k.2])
theorem zP {k : bv} {a : Addr} {Q : Int -> Shared -> Prop} (hu : A.units + 8 < cLine) (hk : cP s.heap k a) (h : Q (gV prog w k) { s with toks := s.toks + (k.1.length + 3) }) :
  wpAny (model prog w) A (pyHash (.ref a)) Q E s := by
 have hT := hk.typeIs
 obtain ⟨b, t, ⟨o, ho, _, n, hd⟩, hb⟩ := hk
 unfold pyHash
 first | unfold pyHashByItsType | skip
 first | refine Sn (wpAny_cRoomFor_or (.inr (by omega)) ?_) | skip
 refine Sn (Vb hT F.slot_tuple_hash.lookup ?_)
 show wpAny _ _ (if (some (Value.builtin "tuple.__hash__") == some Value.none) = true then _ else _) Q E s
 rw [if_neg (by rw [beq_builtin_none]; exact Sy)]
 refine Sn (Vb hT F.slot_tuple_hash.lookup ?_)
 show wpAny _ _ (callSpecialIfBoundUnlessNone? (.ref a) "__hash__" _ >>= _) Q E s
 refine Sn (wpAny_callSpecialIfBoundUnlessNone?_slot hT F.slot_tuple_hash (Tc F.slot_tuple_hash hT F.entry_tuple_hash ?_ (F.args_tuple_hash_1 _)))
 show wpAny _ _ (Builtin.Tuple.tupleItemsOf (.ref a) >>= _) _ _ s
 refine Sn (Vf ho hd ?_)
 refine Sn ?_
 rw [<- Array.forIn_toList]
 show wpAny _ _ (forIn [Value.ref b, .int k.2 t] _ _) _ _ s
 rw [T3]
 refine Sn (Sn (wpAny_pyHash_tuple (knd := intKind prog w) (by show A.units + 1 < cLine; omega) hb.key (So ?_)))
 dsimp only
 rw [T3]
 refine Sn (Sn (wpAny_pyHash_int (So ?_)))
 dsimp only
 rw [UW]
 refine So ?_
 show wpAny _ _ (retInt (Builtin.Tuple.tupleHashOf [tupleKeyHash (intKind prog w) k.1, hashInt k.2])) _ _ _
 refine wpAny_ret_mkInt ?_
 show wpAny _ _ (if (decide (-(2 : Int) ^ 63 <= Builtin.Tuple.tupleHashOf [tupleKeyHash (intKind prog w) k.1, hashInt k.2]) && decide (Builtin.Tuple.tupleHashOf [tupleKeyHash (intKind prog w) k.1, hashInt k.2] < 2 ^ 63)) = true then _ else _) Q E _
 unfold gV reduceHash at h
 by_cases hr : (decide (-(2 : Int) ^ 63 <= Builtin.Tuple.tupleHashOf [tupleKeyHash (intKind prog w) k.1, hashInt k.2]) && decide (Builtin.Tuple.tupleHashOf [tupleKeyHash (intKind prog w) k.1, hashInt k.2] < 2 ^ 63)) = true
 ·rw [if_pos hr]
  rw [if_pos hr] at h
  exact So (by simpa [Nat.add_assoc] using h)
 ·rw [if_neg hr]
  rw [if_neg hr] at h
  exact Sn (Ug (So (by simpa [Nat.add_assoc] using h)))
theorem sT {x y : bv} {a b : Addr} {P : PySem.Fin -> Shared -> Prop} (hu : A.units < cLine) (hx : cP s.heap x a) (hy : cP s.heap y b) (h : P (.done (.ret (.bool (decide (x = y))))) s) :
  wpAny (model prog w) A (Builtin.«tuple.__eq__» ⟨[.ref a, .ref b], []⟩) P E s := by
 have GC := hy.typeIs
 obtain ⟨b1, t1, ⟨oa, yP, _, na, yW⟩, Px⟩ := hx
 obtain ⟨b2, t2, ⟨ob, lI, _, nb, nY⟩, Qb⟩ := hy
 show wpAny _ _ (isInstance (.ref b) (.type "tuple") >>= _) _ _ s
 refine Sn (Uh GC isSubtype_tuple_tuple ?_)
 simp only [TC, SU, Tr]
 refine Sn (Vf yP yW ?_)
 refine Sn (Vf lI nY ?_)
 refine Sn ?_
 show wpAny _ _ (forIn [(Value.ref b1, Value.ref b2), (.int x.2 t1, .int y.2 t2)] _ _) _ _ s
 rw [T3]
 refine Sn (Sn (iR hu Px Qb ?_))
 by_cases h1 : x.1 = y.1
 ·rw [SE h1]
  simp only [TC, SU, Tr]
  refine So ?_
  dsimp only
  rw [T3]
  refine Sn (Sn (U1 ?_))
  by_cases h2 : x.2 = y.2
  ·rw [show (x.2 == y.2) = true from UC.mpr h2]
   simp only [TC, SU, Tr]
   refine So ?_
   dsimp only
   rw [UW]
   refine So ?_
   rw [SE (Prod.ext h1 h2)] at h
   exact So h
  ·rw [show (x.2 == y.2) = false from TN.mpr h2]
   simp only [Bool.not_false, T9]
   rw [SW (fun e => h2 (TR Prod.snd e))] at h
   exact Sn (So (So (So (So h))))
 ·rw [SW h1]
  simp only [Bool.not_false, T9]
  rw [SW (fun e => h1 (TR Prod.fst e))] at h
  exact Sn (So (So (So (So h))))
theorem FY {x y : bv} {a b : Addr} {Q : Bool -> Shared -> Prop} (hu : A.units + 8 < cLine) (hx : cP s.heap x a) (hy : cP s.heap y b) (h : Q (decide (x = y)) s) : wpAny (model prog w) A (eqBool (.ref a) (.ref b)) Q E s := by
 unfold eqBool
 try with_reducible refine TV ?_
 show wpAny _ _ (if (Value.ref a == Value.ref b) = true then _ else _) Q E s
 by_cases Gn : (Value.ref a == Value.ref b) = true
 ·rw [if_pos Gn]
  have e : a = b := by have := eq_of_beq Gn; injection this
  subst e
  have e : x = y := cP.inj hx hy
  subst e
  exact Sn (Ug (So (by simpa using h)))
 ·rw [if_neg Gn]
  exact Sn (wpAny_richCompare_same_room (op := .Eq) hx.typeIs hy.typeIs F.slot_tuple_eq
   (Tc F.slot_tuple_eq hx.typeIs F.entry_tuple_eq (sT (by show A.units + 1 < cLine; omega) hx hy ⟨_, rfl, (fun e => nomatch e), TD h⟩) (F.args_tuple_eq_2 _ _)) (by omega))
theorem xS {m : Nat} {g : List Int} {a : Addr} {Q : Bool -> Shared -> Prop} (hk : fH s.heap a g) (h : Q true s) : wpAny (model prog w) A (eqIsQuiet (m + 1) (.ref a)) Q E s := by
 have hT := hk.typeIs
 have hi := (hk.key (prog := prog) (w := w))
 obtain ⟨o, items, n, ho, _, hd, hi⟩ := hi
 unfold eqIsQuiet
 refine Sn (Vb hT F.slot_tuple_eq.lookup ?_)
 show wpAny _ _ (isInstance (.ref a) (.type "tuple") >>= _) _ _ s
 refine Sn (Uh hT isSubtype_tuple_tuple ?_)
 simp only [TC, SU, Tr]
 refine Sn (Ul ho hd ?_)
 refine Sn ?_
 show wpAny _ _ (forIn items _ _) _ _ s
 rw [<- Array.forIn_toList]
 refine wpAny_forIn_list _ (fun rest r s' => r.1 = none /\ s' = s /\ ∀ v ∈ rest, carriedByValue v = true) _ ?_ ?_ _ _ ⟨rfl, rfl, hi.byValue⟩
 ·rintro v rest r s' ⟨hr, rfl, xR⟩
  rw [eqIsQuiet_byValue _ (xR v Sv)]
  refine Sn (So ?_)
  simp only [TC, SU, Tr]
  exact So ⟨rfl, rfl, fun u rZ => xR u (Su _ rZ)⟩
 ·rintro ⟨r1, r2⟩ s' ⟨hr, rfl, _⟩
  simp only at hr
  subst hr
  exact So h
theorem yK {k : bv} {a : Addr} {Q : Bool -> Shared -> Prop} (hk : cP s.heap k a) (h : Q true s) : wpAny (model prog w) A (eqIsQuiet 8 (.ref a)) Q E s := by
 have hT := hk.typeIs
 obtain ⟨b, t, ⟨o, ho, _, n, hd⟩, hb⟩ := hk
 unfold eqIsQuiet
 refine Sn (Vb hT F.slot_tuple_eq.lookup ?_)
 show wpAny _ _ (isInstance (.ref a) (.type "tuple") >>= _) _ _ s
 refine Sn (Uh hT isSubtype_tuple_tuple ?_)
 simp only [TC, SU, Tr]
 refine Sn (Ul ho hd ?_)
 refine Sn ?_
 show wpAny _ _ (forIn (#[Value.ref b, .int k.2 t]) _ _) _ _ s
 rw [<- Array.forIn_toList]
 show wpAny _ _ (forIn [Value.ref b, .int k.2 t] _ _) _ _ s
 rw [T3]
 refine Sn (Sn (xS hb ?_))
 simp only [TC, SU, Tr]
 refine So ?_
 dsimp only
 rw [T3, eqIsQuiet_byValue _ rfl]
 refine Sn (Sn (So ?_))
 simp only [TC, SU, Tr]
 refine So ?_
 dsimp only
 rw [UW]
 exact So (So h)
def aN (prog : Program) (w : World) : HeapKind prog w bv where
 is := cP
 hash := gV prog w
 draws := fun k => k.1.length + 3
 room := fun A => A.units + 8 < cLine
 inj := fun hx hy => hx.inj hy
 keeps := fun x ho hd hs => x.keeps ho hd hs
 pyHash := fun hu hk h => zP hu hk h
 eqBool := fun hu hx hy h => FY hu hx hy h
 quiet := fun hk h => yK hk h
end
def jr (P : Program) (w : World) (a : Addr) (xs : List (bv × Addr × Value)) : HO :=
 .ext fun h => ∃ o es ep, h.get? a = some o /\ o.ExactDict /\ o.data = .dict es ep /\ es.toList = xs.map (entryOfKey (aN P w)) /\ (xs.map (·.1)).Nodup
def jA (H : Hp) (k : bv) (a : Addr) : Prop := ∃ b, H a = some (.tup [.ref b, .int k.2]) /\ H b = some (.tup (k.1.map V.int))
abbrev KS (H : Hp) : List (bv × V) -> List (bv × Addr × Value) -> Prop := Paired fun p q => p.1 = q.1 /\ jA H p.1 q.2.1 /\ RelV p.2 q.2.2
def DS (P : Program) (w : World) (H : Hp) (a : Addr) (kvs : List (bv × V)) : Prop := kvs.length <= sizeLine /\ (a == sysModules) = false /\ ∃ xs, Rd H a (jr P w a xs) /\ KS H kvs xs
def DW (P : Program) (w : World) (H : Hp) (a : Addr) (kvs : List (bv × V)) : Prop := kvs.length <= sizeLine /\ (a == sysModules) = false /\ ∃ xs, H a = some (jr P w a xs) /\ KS H kvs xs
def cu (kvs : List (bv × V)) (k : bv) : Option V := (kvs.find? fun x => decide (x.1 = k)).map (·.2)
def pC (kvs : List (bv × V)) (k : bv) (v : V) : List (bv × V) := if (cu kvs k).isSome then kvs.map (fun x => if x.1 = k then (x.1, v) else x) else kvs ++ [(k, v)]
section
variable {P : Program} {w : World} {H H' : Hp} {h : Heap} {a : Addr} {kvs : List (bv × V)} {xs : List (bv × Addr × Value)} {k : bv}
theorem DW.ds (d : DW P w H a kvs) : DS P w H a kvs := let ⟨h1, h2, xs, h3, h4⟩ := d; ⟨h1, h2, xs, .inl h3, h4⟩
theorem jA.mono (e : ∀ b ys, H b = some (.tup ys) -> H' b = some (.tup ys)) (x : jA H k a) : jA H' k a := let ⟨b, h1, h2⟩ := x; ⟨b, e _ _ h1, e _ _ h2⟩
theorem KS.mono (e : ∀ b ys, H b = some (.tup ys) -> H' b = some (.tup ys)) (x : KS H kvs xs) : KS H' kvs xs := Paired.u5 x fun _ _ z => ⟨z.1, z.2.1.mono e, z.2.2⟩
theorem DS.mono (e : am H H') (x : DS P w H a kvs) : DS P w H' a kvs := let ⟨h1, h2, xs, h3, h4⟩ := x
 ⟨h1, h2, xs, h3.elim (fun z => .inl (e _ _ z)) (fun ⟨o, z⟩ => .inr ⟨o, e _ _ z⟩), h4.mono fun _ _ => e _ _⟩
theorem DW.mono (e : am H H') (x : DW P w H a kvs) : DW P w H' a kvs := let ⟨h1, h2, xs, h3, h4⟩ := x
 ⟨h1, h2, xs, e _ _ h3, h4.mono fun _ _ => e _ _⟩
theorem jA.is (ok : iA P w H h) (x : jA H k a) : cP h k a := by
 obtain ⟨b, h1, h2⟩ := x
 obtain ⟨_, au, LK, o1, g1, c1, n1, d1⟩ := ok a _ h1
 obtain ⟨_, jw, Hd, t2⟩ := ok b _ h2
 cases LK with
 | cons ra rb =>
  cases ra
  cases rb with
  | cons rc rd =>
   obtain ⟨t, rfl⟩ := rc
   cases rd
   exact ⟨b, t, ⟨o1, g1, c1, n1, d1⟩, jw, Hd, t2⟩
def fe (k : bv) : PyData := .tuple [.tuple (k.1.map PyData.int), .int k.2]
theorem jA.dv (x : jA H k a) : DV H (fe k) (.ref a) := by
 obtain ⟨b, h1, h2⟩ := x
 exact .tup h1 (.cons (.tup h2 (bK.ints _)) (.cons (.int _) .nil))
theorem jA.of {v : V} (x : DV H (fe k) v) : ∃ a, v = .ref a /\ jA H k a := by
 obtain ⟨a, vs, rfl, ha, hv⟩ := x.eV
 obtain ⟨v1, v2, rfl, d1, d2⟩ := hv.nh
 obtain ⟨b, us, rfl, hb, hu⟩ := d1.eV
 cases d2.int_inv
 cases hu.kD
 exact ⟨a, rfl, b, ha, hb⟩
theorem KS.val (r : KS H kvs xs) (k : bv) : k8 (cu kvs k) ((atKey xs k).map (·.2)) := by
 induction r with
 | nil => exact UK
 | @cons p q ps qs h t ih =>
  obtain ⟨h1, _, h2⟩ := h
  by_cases e : p.1 = k
  ·have e' : q.1 = k := h1.symm.trans e
   have b : atKey (q :: qs) k = some q.2 := by simp [atKey, Ur, e']
   have c : cu (p :: ps) k = some p.2 := by simp [cu, Ur, e]
   rw [c, b]; exact h2
  ·have e' : ¬ q.1 = k := fun z => e (h1.trans z)
   have b : atKey (q :: qs) k = atKey qs k := by simp [atKey, Ur, e']
   have c : cu (p :: ps) k = cu ps k := by simp [cu, Ur, e]
   rw [c, b]; exact ih
theorem iL {o : Option V} {u : Option Value} (r : k8 o u) : o.isSome = u.isSome := by
 cases o <;> cases u <;> first | rfl | exact r.elim
theorem yF {o : Option V} {u : Option Value} {d : V} {d' : Value} (r : k8 o u) (rd : RelV d d') : RelV (o.getD d) (u.getD d') := by
 cases o <;> cases u <;> first | exact r.elim | exact rd | exact r
theorem KS.LN (r : KS H kvs xs) (k : bv) {y : V} {u : Value} (ry : RelV y u) : KS H (kvs.map fun kv => if kv.1 = k then (kv.1, y) else kv) (xs.map (putAt k u)) := by
 induction r with
 | nil => exact .nil
 | @cons p q ps qs h t ih =>
  rw [SN, SN]
  refine .cons ?_ ih
  obtain ⟨h1, h2, h3⟩ := h
  unfold putAt
  by_cases e : p.1 = k
  ·rw [if_pos e, if_pos (h1.symm.trans e)]; exact ⟨h1, h2, ry⟩
  ·rw [if_neg e, if_neg (fun z => e (h1.trans z))]; exact ⟨h1, h2, h3⟩
theorem KS.put (r : KS H kvs xs) (k : bv) {b : Addr} {y : V} {u : Value} (hb : jA H k b) (ry : RelV y u) : KS H (pC kvs k y) (storedH xs k b u) := by
 have e : (cu kvs k).isSome = (atKey xs k).isSome := by rw [iL (r.val k), T0]
 unfold pC storedH
 rw [e]
 by_cases q : (atKey xs k).isSome = true
 ·rw [if_pos q, if_pos q]; exact r.LN k ry
 ·rw [if_neg q, if_neg q]; exact Paired.snoc r ⟨rfl, hb, ry⟩
theorem Ac (kvs : List (bv × V)) (k : bv) (v : V) : (pC kvs k v).length <= kvs.length + 1 := by
 unfold pC
 split <;> simp
theorem KS.is (ok : iA P w H h) (r : KS H kvs xs) : ∀ x ∈ xs, cP h x.1 x.2.1 := by
 induction r with
 | nil => intro x hx; cases hx
 | cons e _ ih =>
  intro x hx
  rcases Sx.mp hx with rfl | hx
  ·rw [<- e.1]; exact e.2.1.is ok
  ·exact ih x hx
theorem jC (ok : iA P w H h) (d : Rd H a (jr P w a xs)) (r : KS H kvs xs) : h.DictOfH (aN P w) a xs := by
 obtain ⟨⟨o, es, ep, h1, h2, h3, h4, h5⟩, _⟩ := (show cp P w H h a (jr P w a xs) from d.ok ok)
 exact ⟨o, es, ep, h1, h2, h3, h4, r.is ok, h5⟩
theorem j9 {h' : Heap} (d : h'.DictOfH (aN P w) a xs) : cp P w H h' a (jr P w a xs) := by
 obtain ⟨o, es, ep, h1, h2, h3, h4, _, h5⟩ := d
 refine ⟨⟨o, es, ep, h1, h2, h3, h4, h5⟩, ⟨o, h1⟩, fun g1 g2 φ kp => ?_⟩
 obtain ⟨o, es, ep, h1, h2, h3, h4, h5⟩ := φ
 exact ⟨o, es, ep, kp _ h1, h2, h3, h4, h5⟩
end
section
variable {X : Cx}
theorem Inv.FX {pins : List (Addr × Obj)} {σ : St} {H : Hp} {s : Shared} (I : Inv X pins σ H s) : sysModules < s.heap.objs.size := by
 have h : mainGlobals < s.heap.objs.size := (I.mod.glob.keeps I.bk).lt
 exact Nat.lt_trans (by decide) h
def Hl (X : Cx) (neg : Bool) : R2 := fun y x H Q => ∃ a b k kvs, x = .ref a /\ y = .ref b /\ jA H k b /\ DS X.prog X.w H a kvs /\ Q (.bl (if neg then !(cu kvs k).isSome else (cu kvs k).isSome)) H
theorem FP (hu : X.A.units + 64 < cLine) : gi X (compareOp .In) (Hl X false) := by
 intro pins s σ H y x u v Q I ry rx h
 obtain ⟨a, b, k, kvs, rfl, rfl, hk, ⟨_, hd, xs, rd, r⟩, q⟩ := h
 cases ry; cases rx
 refine wpAny_in_heap (knd := aN X.prog X.w) (show X.A.in1.units + 8 < cLine by show X.A.units + 1 + 8 < cLine; omega) (hk.is I.aP) hd (jC I.aP rd r) ?_
 have e := iL (r.val k)
 rw [T0] at e
 rw [<- e]
 exact ⟨.bl (cu kvs k).isSome, H, I.tok _, rfl, q⟩
theorem xV (hu : X.A.units + 64 < cLine) : gi X (compareOp .NotIn) (Hl X true) := by
 intro pins s σ H y x u v Q I ry rx h
 obtain ⟨a, b, k, kvs, rfl, rfl, hk, ⟨_, hd, xs, rd, r⟩, q⟩ := h
 cases ry; cases rx
 refine wpAny_notIn_heap (knd := aN X.prog X.w) (show X.A.in1.units + 8 < cLine by show X.A.units + 1 + 8 < cLine; omega) (hk.is I.aP) hd (jC I.aP rd r) ?_
 have e := iL (r.val k)
 rw [T0] at e
 rw [<- e]
 exact ⟨.bl (!(cu kvs k).isSome), H, I.tok _, rfl, q⟩
def Hf (X : Cx) : R2 := fun x y H Q => ∃ a b k kvs v, x = .ref a /\ y = .ref b /\ jA H k b /\ DS X.prog X.w H a kvs /\ cu kvs k = some v /\ Q v H
theorem Ak (hu : X.A.units + 64 < cLine) : zt X (Hf X) := by
 intro value slice pins s σ H x y u iv Q I rx ry h hs
 obtain ⟨a, b, k, kvs, v, rfl, rfl, hk, ⟨_, hd, xs, rd, r⟩, hv, q⟩ := h
 cases ry; cases rx
 have dd := jC I.aP rd r
 obtain ⟨w', hw, HR⟩ := k8.some_of (v := v) (o := (atKey xs k).map (·.2)) (by rw [<- hv]; exact r.val k)
 obtain ⟨p, hp, EH⟩ := Tl.mp hw
 refine subscriptTail_builtinR (x := w') dd.typeIs PySem.F.slot_dict_getitem.lookup (wpAny_getItem_heap (knd := aN X.prog X.w) (show X.A.in1.units + 8 < cLine by show X.A.units + 1 + 8 < cLine; omega) (hk.is I.aP) dd hp ?_) hs
 rw [EH]
 exact ⟨rfl, v, H, I.tok _, HR, q⟩
def Hn (X : Cx) : V -> V -> V -> Hp -> (Hp -> Prop) -> Prop := fun o i v H Q => ∃ a b k kvs, o = .ref a /\ i = .ref b /\ jA H k b /\ DW X.prog X.w H a kvs /\ kvs.length < sizeLine /\ ∀ o', DW X.prog X.w (upd H a o') a (pC kvs k v) -> Q (upd H a o')
theorem xz (hu : X.A.units + 64 < cLine) : EU X (Hn X) := by
 intro pins s σ H o i v ov iv u Q I ro ri rv h
 obtain ⟨a, b, k, kvs, rfl, rfl, hk, ⟨hz, hd, xs, e, r⟩, hl, q⟩ := h
 cases ro; cases ri
 have mL : xs.length <= sizeLine := by rw [<- TW r]; exact hz
 refine wpAny_setItem_heap (knd := aN X.prog X.w) (hsz := mL) (show X.A.in1.units + 8 < cLine by show X.A.units + 1 + 8 < cLine; omega) (hk.is I.aP) (jC I.aP (.inl e) r) fun h' Hh hs => ?_
 have tp : ∀ c ys, H c = some (.tup ys) -> upd H a (jr X.prog X.w a (storedH xs k b u)) c = some (.tup ys) := fun c ys ec => by
  rw [ak (cR ec e (fun z => nomatch z))]; exact ec
 have he : ∃ q, h'.get? a = some q := let ⟨q, _, _, hq, _⟩ := Hh; ⟨q, hq⟩
 refine ⟨_, I.write (x := a) (e := a) (o := jr X.prog X.w a (storedH xs k b u)) (by rw [e]; exact UK) (.inl rfl) (fun b q hb z => (hs.2 b hb).trans z) he (j9 Hh), q _ ⟨?_, hd, _, ae, (r.put k hk rv).mono tp⟩⟩
 have := Ac kvs k v
 omega
def FQ (X : Cx) : TE := fun _ H Q => ∀ p o, H p = none -> DW X.prog X.w (upd H p o) p [] -> Q (.ref p) (upd H p o)
theorem Bn {pos : Pos} : PE X (.Dict [] [] pos) (FQ X) := fun pins s σ H Q I h =>
 wpAny_Dict_empty ⟨.ref s.heap.objs.size, _, I.laid (a := s.heap.objs.size) (o := jr X.prog X.w s.heap.objs.size []) (t' := s.toks) (fun _ _ q => Sq _ q) (Ss _) (j9 (Heap.DictOfH.new s.heap)), rfl,
  h _ _ (I.aP.fresh (Ss _)) ⟨S4 _, TN.mpr (UT (S2 I.FX)), [], ae, .nil⟩⟩
def Dy (X : Cx) : V -> List V -> Hp -> VK -> Prop := fun x ys H Q => ∃ a b k kvs, x = .ref a /\ ys = [.ref b] /\ jA H k b /\ DS X.prog X.w H a kvs /\ Q ((cu kvs k).getD .cc) H
theorem BK (hu : X.A.units + 64 < cLine) : Ez X "dict.get" (Dy X) := by
 intro pins s σ H x ys v us Q I rx rs h
 obtain ⟨a, b, k, kvs, rfl, rfl, hk, ⟨_, hd, xs, rd, r⟩, q⟩ := h
 cases rx
 obtain ⟨u, rfl, ru⟩ := rs.one
 cases ru
 have dd := jC I.aP rd r
 refine call_meetsIn PySem.F.slot_dict_get dd.typeIs PySem.F.entry_dict_get (PySem.F.args_dict_get_2 _ _) (meetsH_dict_get (aN X.prog X.w) a b hd) ⟨show X.A.in1.units + 8 < cLine from by show X.A.units + 1 + 8 < cLine; omega, k, xs, hk.is I.aP, dd, ?_⟩
 exact ⟨(cu kvs k).getD .cc, H, I.tok _, yF (d := .cc) (r.val k) rfl, q⟩
end
def yB (g : List (bv × Int)) (k : bv) : Option Int := (g.find? fun x => decide (x.1 = k)).map (·.2)
def DA (f g : List (bv × Int)) : Bool := f.length == g.length && f.all fun p => decide (yB g p.1 = some p.2)
abbrev iv (f : List (bv × Int)) : List (bv × V) := f.map fun p => (p.1, V.int p.2)
theorem qI (f : List (bv × Int)) (k : bv) : cu (iv f) k = (yB f k).map V.int := by
 induction f with
 | nil => rfl
 | cons p f ih =>
  by_cases e : p.1 = k
  ·have h1 : cu (iv (p :: f)) k = some (V.int p.2) := by simp [cu, Ur, e]
   have h2 : yB (p :: f) k = some p.2 := by simp [yB, Ur, e]
   rw [h1, h2]; rfl
  ·have h1 : cu (iv (p :: f)) k = cu (iv f) k := by simp [cu, Ur, e]
   have h2 : yB (p :: f) k = yB f k := by simp [yB, Ur, e]
   rw [h1, h2]; exact ih
section
variable {prog : Program} {w : World} {A : Around} {E : Value -> Shared -> Prop} {s : Shared}
theorem KS.at {H : Hp} : ∀ {f : List (bv × Int)} {xs : List (bv × Addr × Value)} {i : Nat} {p : bv × Int}, KS H (iv f) xs -> f[i]? = some p -> ∃ b t, xs[i]? = some (p.1, b, .int p.2 t) /\ jA H p.1 b
 | [], _, _, _, .nil, e => by simp at e
 | q :: f, _, 0, p, .cons (b := y) h _, e => by
  simp at e; subst e
  obtain ⟨h1, h2, t, h3⟩ := h
  obtain ⟨y1, y2, y3⟩ := y
  cases h1
  have h3 : y3 = Value.int q.2 t := h3
  subst h3
  exact ⟨y2, t, rfl, h2⟩
 | q :: f, _, i + 1, p, .cons _ r, e => by
  obtain ⟨b, t, h1, h2⟩ := KS.at (i := i) (p := p) r (by simpa using e)
  exact ⟨b, t, by simpa using h1, h2⟩
theorem KS.lk {H : Hp} {f : List (bv × Int)} {xs : List (bv × Addr × Value)} (r : KS H (iv f) xs) (hn : (xs.map (·.1)).Nodup) {j : Nat} {k : bv} {p : Addr × Value} (h : xs[j]? = some (k, p)) : ∃ i t, p.2 = .int i t /\ yB f k = some i := by
 have e1 := atKey_of_get hn h
 have e2 := r.val k
 rw [e1, qI] at e2
 cases h3 : yB f k with
 | none => rw [h3] at e2; exact e2.elim
 | some i =>
  rw [h3] at e2
  obtain ⟨t, e2⟩ := e2
  exact ⟨i, t, e2, rfl⟩
theorem KS.PJ {H : Hp} {f : List (bv × Int)} {xs : List (bv × Addr × Value)} (r : KS H (iv f) xs) {k : bv} (h : ∀ (j : Nat) (p : Addr × Value), xs[j]? ≠ some (k, p)) : yB f k = none := by
 have e1 := atKey_none_of_get h
 have e2 := r.val k
 rw [e1, qI] at e2
 cases h3 : yB f k with
 | none => rfl
 | some i => rw [h3] at e2; exact e2.elim
theorem vc {H : Hp} {nm : String} {a b : Addr} {f g : List (bv × Int)} {xs ys : List (bv × Addr × Value)} {Q : Bool -> Shared -> Prop} (hu : A.units + 8 < cLine) (ok : iA prog w H s.heap) (ha : (a == sysModules) = false) (hb : (b == sysModules) = false)
  (da : s.heap.DictOfH (aN prog w) a xs) (db : s.heap.DictOfH (aN prog w) b ys) (ra : KS H (iv f) xs) (rb : KS H (iv g) ys) (h : Q (DA f g) s) :
  wpAny (model prog w) A (Builtin.Dict.samePairs nm a b) Q E s := by
 obtain ⟨oa, es, ep, yP, _, yW, Mf, RE, R3⟩ := da
 obtain ⟨ob, x9, yS, lI, _, nY, LV, Q6, Mn⟩ := db
 have KA : f.length = es.size := by rw [Vc Mf, <- TW ra, Sr]
 have Cs : g.length = x9.size := by rw [Vc LV, <- TW rb, Sr]
 unfold DA at h
 rw [KA, Cs] at h
 unfold Builtin.Dict.samePairs Builtin.Dict.showsAll
 rw [if_neg (show ¬ (a == sysModules) = true by rw [ha]; exact Sy), if_neg (show ¬ (b == sysModules) = true by rw [hb]; exact Sy)]
 refine Sn (So (Sn (So ?_)))
 refine Sn (Tt yP yW ?_)
 dsimp only
 refine Sn (Tt lI nY ?_)
 by_cases hsz : es.size = x9.size
 case neg =>
  rw [if_pos (by simpa using hsz)]
  have OH : (es.size == x9.size) = false := by simpa using hsz
  rw [OH, Tf] at h
  exact Sn (Ug (So h))
 case pos =>
  rw [show (es.size == x9.size) = true from UC.mpr hsz, Va] at h
  rw [if_neg (by rw [hsz]; simp)]
  refine Sn (Uq yP yW ?_)
  refine Sn ?_
  rw [Std.Legacy.Range.forIn_eq_forIn_range']
  simp only [Std.Legacy.Range.size, Nat.sub_zero, Nat.add_sub_cancel, Nat.div_one]
  refine wpAny_forIn_list _
   (fun rest q s' => s' = s /\ q = (none, ()) /\ ∃ i, rest = List.range' i (es.size - i) /\ i <= es.size /\ ((f.drop i).all fun p => decide (yB g p.1 = some p.2)) = (f.all fun p => decide (yB g p.1 = some p.2)))
   _ ?_ ?_ _ _ ⟨rfl, rfl, 0, by simp, S4 _, rfl⟩
  ·rintro x rest q s' ⟨rfl, rfl, i, hr, hi, jx⟩
   have fG : i < es.size := by
    rcases Nat.lt_or_ge i es.size with h | h
    ·exact h
    ·rw [Nat.sub_eq_zero_of_le h] at hr; simp at hr
   obtain ⟨rfl, G3⟩ : x = i /\ rest = List.range' (i + 1) (es.size - (i + 1)) := by
    have e : es.size - i = (es.size - (i + 1)) + 1 := by omega
    rw [e, List.range'_succ] at hr
    injection hr with h1 h2
    exact ⟨h1, h2⟩
   refine Sn (Tt yP yW ?_)
   have IM : x < f.length := by rw [KA]; exact fG
   obtain ⟨c, t, hx, kc⟩ := ra.at (Sw IM)
   have hex : es[x]? = some (entryOfKey (aN prog w) (f[x].1, c, .int f[x].2 t)) := by rw [entry_at Mf, hx]; rfl
   have IQ : f.drop x = f[x] :: f.drop (x + 1) := U4 IM
   rw [hex]
   rw [IQ, List.all_cons] at jx
   show wpAny _ _ (holding [Value.ref c, Value.int f[x].2 t] _ >>= _) _ _ _
   refine Sn (TV (Sn (wpAny_dictFind_heap (knd := aN prog w) hu (kc.is ok) lI nY LV Q6 Mn (fun zA => ?_) fun j p hj => ?_)))
   ·rw [rb.PJ zA] at jx
    rw [<- jx] at h
    refine So ?_
    show wpAny _ _ (if (!false) = true then _ else _) _ _ _
    rw [if_pos (by decide)]
    exact So (So h)
   ·obtain ⟨n, u, hp, hl⟩ := rb.lk Mn hj
    have Ph : x9[j]? = some (entryOfKey (aN prog w) (f[x].1, p)) := by rw [entry_at LV, hj]; rfl
    refine Sn (Tt lI nY ?_)
    rw [Ph]
    obtain ⟨p1, p2⟩ := p
    have hp : p2 = Value.int n u := hp
    subst hp
    refine TV (U1 ?_)
    rw [hl] at jx
    by_cases en : f[x].2 = n
    ·rw [show (f[x].2 == n) = true from UC.mpr en]
     rw [SE (by rw [en]), Va] at jx
     show wpAny _ _ (if (!true) = true then _ else _) _ _ _
     rw [if_neg (by decide)]
     refine Sn (Uq yP yW ?_)
     rw [if_neg (by simp)]
     exact So ⟨rfl, rfl, x + 1, G3, fG, jx⟩
    ·rw [show (f[x].2 == n) = false from TN.mpr en]
     rw [SW (fun z => en (Tw z).symm), Tf] at jx
     rw [<- jx] at h
     show wpAny _ _ (if (!false) = true then _ else _) _ _ _
     rw [if_pos (by decide)]
     exact So (So h)
  ·rintro q s' ⟨rfl, rfl, i, hr, hi, jx⟩
   have sS : i = es.size := by
    rcases Nat.lt_or_ge i es.size with h | h
    ·have e : es.size - i = (es.size - (i + 1)) + 1 := by omega
     rw [e, List.range'_succ] at hr; exact nomatch hr
    ·exact Nat.le_antisymm hi h
   refine So ?_
   rw [sS, <- KA, List.drop_length] at jx
   rw [<- jx] at h
   exact h
end
section
variable {X : Cx}
def K8 (X : Cx) : R2 := fun x y H Q => ∃ a b f g, x = .ref a /\ y = .ref b /\ DS X.prog X.w H a (iv f) /\ DS X.prog X.w H b (iv g) /\ Q (.bl (!DA f g)) H
theorem EO (hu : X.A.units + 64 < cLine) : gi X (compareOp .NotEq) (K8 X) := by
 intro pins s σ H x y u v Q I rx ry h
 obtain ⟨a, b, f, g, rfl, rfl, ⟨_, ha, xs, d1, r1⟩, ⟨_, hb, ys, d2, r2⟩, q⟩ := h
 cases rx; cases ry
 have da := jC I.aP d1 r1
 have db := jC I.aP d2 r2
 refine wpAny_richCompare_same_room (op := .NotEq) da.typeIs db.typeIs PySem.F.slot_dict_ne (Tc PySem.F.slot_dict_ne da.typeIs PySem.F.entry_dict_ne ?_ (PySem.F.args_dict_ne_2 _ _)) (by omega)
 show wpAny _ _ (Builtin.Dict.dictSlotArgs "__ne__" ⟨[.ref a, .ref b], []⟩ >>= _) _ _ s
 refine Sn ?_
 unfold Builtin.Dict.dictSlotArgs
 refine Sn (wpAny_notOrdered_dict da.typeIs ?_)
 show wpAny _ _ (pure (Value.ref a, Value.ref b)) _ _ s
 refine So ?_
 refine Sn (Uh (T := "dict") db.typeIs PySem.F.sub_dict_dict ?_)
 simp only [TC, SU, Tr]
 refine Sn (So (Sn (So ?_)))
 refine Sn (vc (by show X.A.units + 1 + 8 < cLine; omega) I.aP ha hb da db r1 r2 ?_)
 refine So ⟨_, rfl, ?_, ?_⟩
 ·exact fun x => nomatch x
 ·refine ⟨.bl (!DA f g), H, I, ?_, q⟩
  show Value.bool (DA f g == false) = Value.bool (!DA f g)
  cases DA f g <;> rfl
end
theorem ox {α : Type} (h : α -> Int) : ∀ {l : List α}, (l.map h).Nodup -> ∀ x ∈ l, (l.filter fun e => h e == h x).length <= 1
 | [], _, _, hx => by cases hx
 | y :: l, nd, x, hx => by
  rw [SN, TL] at nd
  rw [Ta]
  by_cases e : h y = h x
  ·rw [if_pos (UC.mpr e)]
   have : l.filter (fun e => h e == h x) = [] := by
    rw [List.filter_eq_nil_iff]
    intro z hz q
    exact nd.1 (by rw [e, <- eq_of_beq q]; exact Ts hz)
   rw [this]; exact Ss _
  ·rw [if_neg (by simpa using e)]
   rcases Sx.mp hx with rfl | hx
   ·exact absurd rfl e
   ·exact ox h nd.2 x hx
section
variable {prog : Program} {w : World} {A : Around} {E : Value -> Shared -> Prop} {s : Shared}
theorem x3 {nm : String} {d o : Addr} {xs : List (bv × Addr × Value)} {Q : Unit -> Shared -> Prop} (LG : d ≠ o) (Kf : (o == sysModules) = false) (hd : s.heap.DictOfH (aN prog w) d []) (ho : s.heap.DictOfH (aN prog w) o xs)
  (hh : (xs.map fun x => gV prog w x.1).Nodup) (hsz : xs.length <= sizeLine) (hQ : ∀ h', h'.DictOfH (aN prog w) d xs -> Heap.SameBut d s.heap h' -> Q () { s with heap := h' }) :
  wpAny (model prog w) A (Builtin.Dict.mergeDict nm d o) Q E s := by
 obtain ⟨od, Q7, Ol, uL, ve, sG, Qg, KF, R1⟩ := id hd
 obtain ⟨oo, yp, RS, JB, RC, Cw, xC, Nv, Lg⟩ := id ho
 have h0 : Q7 = #[] := by
  have := Vc Qg
  exact Array.size_eq_zero_iff.mp this
 have hlen : yp.size = xs.length := Vc xC
 unfold Builtin.Dict.mergeDict
 rw [if_neg (by simpa using LG)]
 unfold Builtin.Dict.showsAll
 rw [if_neg (by rw [Kf]; exact Sy)]
 refine Sn (So ?_)
 refine Sn (Tt JB Cw ?_)
 dsimp only
 cases xs with
 | nil =>
  have e0 : yp = #[] := Array.size_eq_zero_iff.mp hlen
  subst e0
  rw [if_neg (by simp)]
  refine Sn (Uq JB Cw ?_)
  refine Sn (Tt JB Cw ?_)
  refine Sn ?_
  rw [Std.Legacy.Range.forIn_eq_forIn_range']
  show wpAny _ _ (forIn (List.range' 0 0 1) _ _) _ _ _
  rw [List.range'_zero, UW]
  exact So (So (hQ _ hd (Heap.SameBut.refl _ _)))
 | cons x xs =>
  have QT : (!(decide (yp.size <= 8) && yp.all fun e => (keyPart e.key).isSome)) = true := by
   have : (yp.all fun e => (keyPart e.key).isSome) = false := by
    rw [<- Array.all_toList, xC, SN, List.all_cons]
    rfl
   rw [this, Uc]; rfl
  rw [if_pos QT]
  refine Sn (Tt uL sG ?_)
  rw [h0, if_pos (by rfl)]
  refine Sn ?_
  unfold Builtin.Dict.entriesForEmpty
  refine Sn (Tt JB Cw ?_)
  refine Sn ?_
  rw [<- Array.forIn_toList]
  refine wpAny_forIn_list _ (fun rest _ s' => s' = s /\ ∀ e ∈ rest, e ∈ yp.toList) _ ?_ ?_ _ _ ⟨rfl, fun e he => he⟩
  ·rintro e rest r s' ⟨rfl, hr⟩
   have he := hr e Sv
   rw [xC] at he
   obtain ⟨y, hy, rfl⟩ := S9.mp he
   have hT := (show cP s'.heap y.1 y.2.1 from Nv y hy).typeIs
   refine Sn ?_
   show wpAny _ _ (Builtin.Dict.quietEq (.ref y.2.1)) _ _ _
   unfold Builtin.Dict.quietEq
   refine Sn (Vb hT PySem.F.slot_tuple_eq.lookup (So ?_))
   rw [show ((some (Value.builtin "tuple.__eq__") : Option Value) == some (Value.builtin "object.__eq__")) = false from by decide]
   simp only [Bool.not_false, T9]
   have one : ¬ (yp.filter fun e => e.hash == (entryOfKey (aN prog w) y).hash).size > 1 := by
    have h1 := ox (fun e : DictEntry => e.hash) (l := yp.toList) (by rw [xC, Tg]; exact hh) (entryOfKey (aN prog w) y) (by rw [xC]; exact Ts hy)
    have h2 : (yp.filter fun e => e.hash == (entryOfKey (aN prog w) y).hash).size = (yp.toList.filter fun e => e.hash == (entryOfKey (aN prog w) y).hash).length := by
     rw [<- Array.toList_filter, SA]
    omega
   rw [if_neg one]
   exact So ⟨rfl, fun e he => hr e (Su _ he)⟩
  ·rintro r s' ⟨rfl, _⟩
   refine So ?_
   have ne : (!yp.isEmpty) = true := by
    cases hq : yp.isEmpty with
    | false => rfl
    | true =>
     have := Array.isEmpty_iff.mp hq
     rw [this] at hlen
     simp at hlen
   rw [if_pos ne]
   subst h0
   refine Sn (wpAny_updateDictKeysTo uL sG (So (hQ _ ⟨_, yp, Ol + 1, Heap.get?_update_self _ uL (Obj.isFreed_of_dict (Obj.data_mapDictKeys sG _)), ve.mapDictKeys _, Obj.data_mapDictKeys sG _, xC, fun z hz => ?_, Lg⟩ (Tz ..))) (by omega))
   exact (show cP s'.heap z.1 z.2.1 from Nv z hz).keeps uL sG (Tz ..)
theorem DictOfH.FM {h : Heap} {a : Addr} {xs : List (bv × Addr × Value)} (o' : Obj) (d : h.DictOfH (aN prog w) a xs) : (h.push o').DictOfH (aN prog w) a xs := by
 obtain ⟨o, es, ep, h1, h2, h3, h4, h5, h6⟩ := d
 refine ⟨o, es, ep, Sq _ h1, h2, h3, h4, fun x hx => ?_, h6⟩
 obtain ⟨b, t, ⟨o1, g1, c1⟩, au, rv, o2, g2, c2⟩ := (show cP h x.1 x.2.1 from h5 x hx)
 exact ⟨b, t, ⟨o1, Sq _ g1, c1⟩, au, rv, o2, Sq _ g2, c2⟩
theorem pL {o : Addr} {xs : List (bv × Addr × Value)} {Q : Value -> Shared -> Prop} (Kf : (o == sysModules) = false) (ho : s.heap.DictOfH (aN prog w) o xs) (hh : (xs.map fun x => gV prog w x.1).Nodup) (hsz : xs.length <= sizeLine)
  (h : ∀ h', h'.DictOfH (aN prog w) s.heap.objs.size xs -> Heap.SameBut s.heap.objs.size (s.heap.push { cls := .type "dict", data := .dict #[] }) h' -> Q (.ref s.heap.objs.size) { s with heap := h' }) :
  wpAny (model prog w) A (call (.type "dict") [.ref o]) Q E s := by
 refine callType_codes (Q₁ := fun obj s₁ => obj = .ref s.heap.objs.size /\ s₁ = { s with heap := s.heap.push { cls := .type "dict", data := .dict #[] } }) F.kt_called_dict (F.kt_typeCall_dict_1 _) F.entry_dict_init (kt_code_dict_new _ ⟨rfl, rfl⟩) ?_
 rintro obj s₁ ⟨rfl, rfl⟩
 have Fq : (s.heap.push { cls := .type "dict", data := .dict #[] }).DictOfH (aN prog w) s.heap.objs.size [] := Heap.DictOfH.new s.heap
 have j8 := DictOfH.FM { cls := .type "dict", data := .dict #[] } ho
 have LG : s.heap.objs.size ≠ o := by
  obtain ⟨_, _, _, hg, _⟩ := ho
  exact fun e => absurd (SI hg) (by rw [e]; exact TM _)
 refine ⟨Fq.typeIs, F.args_dict_init_2 _ _, ?_⟩
 unfold Builtin.«dict.__init__»
 refine Sn ?_
 unfold Builtin.Dict.selfAndRest
 refine Sn (wpAny_notOrdered_dict Fq.typeIs ?_)
 show wpAny _ _ (pure (s.heap.objs.size, [Value.ref o])) _ _ _
 refine So ?_
 show wpAny _ _ (Builtin.Dict.updateFrom "dict.__init__" s.heap.objs.size (.ref o) [] .none) _ _ _
 unfold Builtin.Dict.updateFrom
 refine Sn (wpAny_typeOf (s := { s with heap := s.heap.push { cls := .type "dict", data := .dict #[] } }) j8.typeIs ?_)
 rw [if_neg (by decide)]
 refine Sn ?_
 unfold Builtin.Dict.merge
 refine Sn ?_
 unfold Builtin.Dict.readDirectly
 refine Sn (Uh (s := { s with heap := s.heap.push { cls := .type "dict", data := .dict #[] } }) j8.typeIs isSubtype_dict_dict ?_)
 simp only [TC, SU, Tr]
 refine Sn (Vb (s := { s with heap := s.heap.push { cls := .type "dict", data := .dict #[] } }) j8.typeIs F.slot_dict_iter.lookup (So ?_))
 simp only [beq_self_eq_true, T9]
 refine Sn (So ?_)
 refine x3 LG Kf Fq j8 hh hsz fun h' uH Mc => ?_
 show wpAny _ _ (Builtin.Dict.addKeywords s.heap.objs.size [] >>= _) _ _ _
 exact Sn (So (So ⟨rfl, h h' uH Mc⟩))
end
def nX (P : Program) (w : World) (kvs : List (bv × V)) : Prop := (kvs.map fun p => gV P w p.1).Nodup
theorem KS.keys {H : Hp} {kvs : List (bv × V)} {xs : List (bv × Addr × Value)} (r : KS H kvs xs) {β : Type} (f : bv -> β) : (xs.map fun x => f x.1) = kvs.map fun p => f p.1 := by
 induction r with
 | nil => rfl
 | cons h _ ih => rw [SN, SN, ih, h.1]
section
variable {X : Cx}
def E7 (X : Cx) : List V -> Hp -> VK -> Prop := fun xs H Q => ∃ a kvs, xs = [.ref a] /\ DS X.prog X.w H a kvs /\ nX X.prog X.w kvs /\ ∀ p o, H p = none -> DW X.prog X.w (upd H p o) p kvs -> Q (.ref p) (upd H p o)
theorem vN : dh X (.type "dict") (E7 X) := by
 intro pins s σ H ys us Q I rs h
 obtain ⟨a, kvs, rfl, ⟨hz, hd, xs, rd, r⟩, hh, q⟩ := h
 obtain ⟨u, rfl, ru⟩ := vals1 rs
 cases ru
 have mL : xs.length <= sizeLine := by rw [<- TW r]; exact hz
 refine pL hd (jC I.aP rd r) (by rw [r.keys]; exact hh) mL fun h' dd hs => ?_
 have kp : ∀ b u, s.heap.get? b = some u -> h'.get? b = some u := fun b u e => (hs.2 b (S2 (SI e))).trans (Sq _ e)
 have hn : H s.heap.objs.size = none := I.aP.fresh (Ss _)
 have tp : ∀ c ys, H c = some (.tup ys) -> upd H s.heap.objs.size (jr X.prog X.w s.heap.objs.size xs) c = some (.tup ys) := fun c ys ec => by
  rw [ak (ay ec hn)]; exact ec
 exact ⟨.ref s.heap.objs.size, _, I.laid (t' := s.toks) (o := jr X.prog X.w s.heap.objs.size xs) kp (Ss _) (j9 dd), rfl, q _ _ hn ⟨hz, TN.mpr (UT (S2 I.FX)), xs, ae, r.mono tp⟩⟩
end
def hI (g : List Int) : Int := reduceHash (Builtin.Tuple.tupleHashOf (g.map hashInt))
def hS (k : bv) : Int := reduceHash (Builtin.Tuple.tupleHashOf [hI k.1, hashInt k.2])
def subs : Nat -> Nat -> List (List Int)
 | 0, _ => [[]]
 | n + 1, m => let r := subs n (m + 1); r ++ r.map fun g => (m : Int) :: g
def eO : List bv := (subs 6 0).flatMap fun g => [(g, 0), (g, 1)]
def u6 : List Int -> Bool
 | [] => true
 | x :: l => !(l.contains x) && u6 l
theorem pP : ∀ {l : List Int}, u6 l = true -> l.Nodup
 | [], _ => .nil
 | x :: l, h => by
  unfold u6 at h
  rw [Td] at h
  refine TL.mpr ⟨fun hm => ?_, pP h.2⟩
  have := h.1
  rw [List.contains_iff_mem.mpr hm] at this
  cases this
theorem Al : (eO.map hS).Nodup := pP (by decide +kernel)
theorem qv {α β : Type} {f : α -> β} : ∀ {l : List α}, (l.map f).Nodup -> ∀ {x y : α}, x ∈ l -> y ∈ l -> f x = f y -> x = y
 | a :: l, nd, x, y, hx, hy, e => by
  rw [SN, TL] at nd
  rcases Sx.mp hx with h1 | pJ <;> rcases Sx.mp hy with h2 | fm
  ·rw [h1, h2]
  ·rw [h1] at e
   exact absurd (e ▸ Ts fm) nd.1
  ·rw [h2] at e
   exact absurd (e ▸ Ts pJ) nd.1
  ·exact qv nd.2 pJ fm e
theorem yk {P : Program} {w : World} {kvs : List (bv × V)} (nd : (kvs.map (·.1)).Nodup) (h : ∀ p ∈ kvs, p.1 ∈ eO) : nX P w kvs := by
 unfold nX
 have e : (kvs.map fun p => gV P w p.1) = (kvs.map (·.1)).map hS := by rw [Tg]; rfl
 rw [e]
 refine List.Pairwise.map _ (R := fun x y => x ∈ eO /\ y ∈ eO /\ x ≠ y) (fun x y q z => q.2.2 (qv Al q.1 q.2.1 z)) ?_
 refine Uk (fun {x y} hx hy ql => ?_) nd
 obtain ⟨p, hp, rfl⟩ := S9.mp hx
 obtain ⟨q, hq, rfl⟩ := S9.mp hy
 exact ⟨h p hp, h q hq, ql⟩
section
variable {X : Cx} {k v : Expr} {tk tv : TE} {pos : Pos}
def Fz (X : Cx) (tk tv : TE) : TE := fun σ H Q => ∀ p o, H p = none -> DW X.prog X.w (upd H p o) p [] -> tk σ (upd H p o) fun x H1 => tv σ H1 fun y H2 =>
 ∃ b k, x = .ref b /\ jA H2 k b /\ DW X.prog X.w H2 p [] /\ ∀ o', DW X.prog X.w (upd H2 p o') p [(k, y)] -> Q (.ref p) (upd H2 p o')
theorem AC (hu : X.A.units + 64 < cLine) (hk : PE X k tk) (hv : PE X v tv) : PE X (.Dict [some k] [v] pos) (Fz X tk tv) := by
 intro pins s σ H Q I q
 have hn := I.aP.fresh (Ss s.heap.objs.size)
 have I1 := I.laid (a := s.heap.objs.size) (o := jr X.prog X.w s.heap.objs.size []) (h' := s.heap.push { cls := .type "dict", data := .dict #[] }) (t' := s.toks) (fun _ _ q => Sq _ q) (Ss _) (j9 (Heap.DictOfH.new s.heap))
 have hb : (s.heap.objs.size == sysModules) = false := TN.mpr (UT (S2 I.FX))
 refine wpAny_Dict_any rfl rfl (by simp) (by simp) ?_
 refine pairTrees_cons_walk (bO (hk pins _ σ _ _ I1 (q _ _ hn ⟨S4 _, hb, [], ae, .nil⟩)) fun u s1 ⟨x, H1, I2, rx, q1⟩ => bO (hv pins s1 σ H1 _ I2 q1) fun w2 s2 ⟨y, H2, I3, ry, b, kk, ex, ka, ⟨_, _, xs, e, r⟩, q2⟩ => pairTrees_nil_walk ?_)
 subst ex
 cases rx
 cases r
 unfold storeAll
 rw [T3]
 refine Sn (Sn (wpAny_dictSet_heap (knd := aN X.prog X.w) (hsz := S4 _) (show X.A.units + 8 < cLine by omega) (ka.is I3.aP) (jC I3.aP (.inl e) .nil) fun h' Hh hs => So ?_))
 dsimp only
 rw [UW]
 have tp : ∀ c ys, H2 c = some (.tup ys) -> upd H2 s.heap.objs.size (jr X.prog X.w s.heap.objs.size (storedH [] kk b w2)) c = some (.tup ys) := fun c ys ec => by
  rw [ak (cR ec e (fun z => nomatch z))]; exact ec
 have he : ∃ q, h'.get? s.heap.objs.size = some q := let ⟨q, _, _, hq, _⟩ := Hh; ⟨q, hq⟩
 refine So ⟨.ref s.heap.objs.size, _, I3.write (x := s.heap.objs.size) (e := s.heap.objs.size) (o := jr X.prog X.w s.heap.objs.size (storedH [] kk b w2)) (by rw [e]; exact UK) (.inl rfl) (fun b q hb z => (hs.2 b hb).trans z) he (j9 Hh), rfl,
  q2 _ ⟨by rw [Uu]; simp, hb, _, ae, ?_⟩⟩
 exact KS.mono tp ((show KS H2 [] [] from .nil).put kk ka ry)
def IC (X : Cx) (td : TE) (t : TA) : TE := fun σ H Q => td σ H fun x H1 => (∃ a kvs, x = .ref a /\ DS X.prog X.w H1 a kvs) /\ t σ H1 fun xs H2 => Dy X x xs H2 Q
variable {o e : Expr} {to : TE} {t : TA} {apos cV : Pos}
theorem Da (hu : X.A.units + 64 < cLine) (ho : PE X o to) (ha : PA X [e] t)
  (kT : attributeBase o "get" X.env (eval o X.env) = eval o X.env := by rfl)
  (Bd : ((backTo cV (starEach [e] X.env)).all (fun x => !x.1) && (backToKw cV (keywordEach [] X.env)).all (fun x => x.1.isSome)
   && decide (([e] : List Expr).length + ([] : List Keyword).length + (if ([] : List Keyword).isEmpty then 0 else 1) < 30)) = true := by rfl)
  (kN : (apos.endLine == cV.line) = true := by rfl) (hs : starEach [e] X.env = (false, eval e X.env) :: starEach [] X.env := by rfl) (jR : (backTo cV (starEach [] X.env)).any (·.1) = false := by rfl) :
  PE X (.Call (.Attribute o "get" apos) [e] [] cV) (IC X to t) := by
 intro pins s σ H Q I h
 refine wpAny_Call_method_late kT Bd kN rfl (bO (ho pins s σ H _ I h) fun v s1 ⟨x, H1, I1, r1, ⟨a, kvs, ex, d⟩, q1⟩ => ?_)
 subst ex
 cases r1
 obtain ⟨_, _, xs, rd, r⟩ := d
 have dd := jC I1.aP rd r
 refine ⟨"dict", "dict.get", PySem.F.plainAttrs_dict, PySem.F.slot_dict_get, PySem.F.type_dict_get, dd.typeIs, fun b eb => ?_, ?_⟩
 ·cases eb
  obtain ⟨ob, _, _, h1, h2, _⟩ := dd
  exact ⟨ob, h1, h2.2.1⟩
 have hA := ha cV pins s1 σ H1 _ I1 q1
 rw [hs] at hA ⊢
 refine Calls.callWith_builtin (by show (false || (backTo cV (starEach [] X.env)).any (·.1)) = false; rw [jR] <;> rfl) (Calls.evalArgs_plain ?_)
 exact bO hA fun us s2 ⟨vs, H2, I2, r2, q2⟩ => BK hu pins s2 σ H2 (.ref a) vs _ us Q I2 rfl r2 q2
theorem pO {p p2 LD : Pos} {x : Str} {f : Addr} {t : TA} (hu : X.A.units + 64 < cLine) (hg : Gl X "sorted") (hm : X.mg "sorted" = none) (QZ : Gl X x) (Qr : X.mg x = some (.ref f)) (ha : PA X [e] t) (nY : (x == ("__debug__" : Str)) = false := by decide) (he : starEach [e] X.env = [(false, eval e X.env)] := by rfl) :
  PE X (.Call (.Name "sorted" p) [e] [⟨some "key", .Name x p2, LD⟩] pos) (Lm (wV X f) t) := by
 intro pins s σ H Q I h
 refine Vg (nR I hg hm boot_sorted ?_)
 refine callWith_kw (bO (ha pos pins s σ H _ I h) fun us s1 ⟨vs, H1, I1, r1, q1⟩ => ?_) (by rw [he]; rfl) (by rw [he]; rfl)
 show wpAny _ _ (evalAll [do let v <- eval (.Name x p2) X.env; standAt pos; pure v]) _ _ _
 refine wpAny_evalAll_cons (Sn (kH I1 QZ Qr (Sn (wpAny_standAt (So ?_))) nY))
 exact wpAny_evalAll_nil (yd (by show X.A.units + 1 + 1 < cLine; omega) I1 r1 q1)
end
def lR (h : Heap) (d : Addr) (es : Array DictEntry) (ep : Nat) : Prop := ∃ o, h.get? d = some o /\ o.ExactDict /\ o.data = .dict es ep
theorem lR.typeIs {s : Shared} {d : Addr} {es : Array DictEntry} {ep : Nat} (x : lR s.heap d es ep) : s.TypeIs (.ref d) "dict" := let ⟨o, ho, hc, _⟩ := x; ⟨o, ho, hc.1⟩
theorem lR.keep {h h' : Heap} {d : Addr} {es : Array DictEntry} {ep : Nat} (x : lR h d es ep) (k : ∀ b o, h.get? b = some o -> h'.get? b = some o) : lR h' d es ep := let ⟨o, ho, r⟩ := x; ⟨o, k _ _ ho, r⟩
section
variable {prog : Program} {w : World} {A : Around} {E : Value -> Shared -> Prop} {s : Shared} {es : Array DictEntry} {e : DictEntry} {d it v : Addr} {i ep : Nat} {ok ov : Value}
theorem DH : Builtin.Dict_items.ownsTuple "dict_keyiterator" = false := by decide
theorem zi : Builtin.Dict_items.ownsTuple "dict_itemiterator" = true := by decide
theorem Ar {Q : Value -> Shared -> Prop} (hd : (d == sysModules) = false) (x : lR s.heap d es ep)
  (q : Q (.ref s.heap.objs.size) { s with heap := s.heap.push { cls := .type "dict_keyiterator", data := .fields #[.ref d, .int 0 0, .int es.size 0, .int ep 0] } }) : wpAny (model prog w) A (pyIter (.ref d)) Q E s := by
 have ty := x.typeIs
 obtain ⟨o, ho, _, An⟩ := x
 refine wpAny_pyIter_slot ty F.slot_dict_iter (Tc F.slot_dict_iter ty F.entry_dict_iter ?_ (F.args_dict_iter_1 _))
 unfold Builtin.«dict.__iter__» Builtin.Dict.dictSlotNone
 refine Sn ?_; refine Sn (wpAny_notOrdered_dict ty ?_)
 show wpAny _ _ (pure (Value.ref d)) _ _ s
 refine So ?_
 show wpAny _ _ (Builtin.Dict.showsAll d >>= _) _ _ s
 unfold Builtin.Dict.showsAll
 rw [hd, if_neg Sy]
 refine Sn (So (Sn (Tt ho An (Sn (Uq ho An ?_)))))
 refine Sn (Ti (So ⟨_, rfl, "dict_keyiterator", _, ⟨_, SC _ rfl, rfl⟩, Ut.lookup, ?_⟩))
 exact q
theorem zq {Q : Option Value -> Shared -> Prop} (st : s.heap.IsKeyIter it d i es.size ep) (x : lR s.heap d es ep) (hx : es[i]? = some e)
  (q : ∀ h', h'.IsKeyIter it d (i + 1) es.size ep -> Heap.SameBut it s.heap h' -> Q (some e.key) { s with heap := h' }) : wpAny (model prog w) A (pyNext (.ref it)) Q E s := by
 obtain ⟨o, ho, hc, hf⟩ := id st
 obtain ⟨od, uL, _, sG⟩ := x
 obtain ⟨fG, rfl⟩ := Array.getElem?_eq_some_iff.mp hx
 have ax : (s.heap.update it (Obj.mapFields (·.setIfInBounds 1 (rawInt ((i : Int) + 1))))).IsKeyIter it d (i + 1) es.size ep :=
  ⟨_, Heap.get?_update_self _ ho (Obj.isFreed_of_fields (Obj.data_mapFields hf _)), (Obj.cls_mapFields ..).trans hc, by rw [Obj.data_mapFields hf]; simp [rawInt]⟩
 unfold pyNext
 refine Sn (UD (Tv (name := Str.ofString "__next__") st.typeIs Ut (Tc Ut st.typeIs F.entry_dict_keyiterator_next ?_ (F.args_dict_keyiterator_next_1 _))))
 refine Sn (So (Sn (Sn ?_)))
 refine Sn (UJ st.typeIs (So ?_)); refine Sn (wpAny_fieldsOf ho hf ?_)
 simp only [DH, T9, SU, Tr]; show wpAny _ _ (if (Value.ref d == Value.none) = true then _ else _) _ _ _
 rw [if_neg (show ¬ (Value.ref d == Value.none) = true from Sy)]
 refine Sn (So (Sn (Tt uL sG ?_)))
 rw [if_neg (by simp)]
 refine Sn (So (Sn (Uq uL sG ?_)))
 rw [if_neg (by simp)]
 refine So ?_
 simp only [show ¬ ((i : Int) < 0) by omega, Tr, TF, Array.getElem?_eq_getElem fG]
 refine Sn ?_; refine Sn (UJ st.typeIs (So ?_))
 refine Sn (wpAny_isOneOf_keyiter st.typeIs ?_)
 show wpAny _ _ (setField (.ref it) 1 (rawInt ((i : Int) + 1)) >>= _) _ _ s
 refine Sn (wpAny_setField ho hf (by simp) (Sn (TV (Sn (wpAny_isOneOf_keyiter (s := { s with heap := s.heap.update it (Obj.mapFields (·.setIfInBounds 1 (rawInt ((i : Int) + 1)))) }) ax.typeIs ?_)))))
 show wpAny _ _ (pure es[i].key) _ _ _
 exact So (So ⟨_, rfl, So (q _ ax (Tz ..))⟩)
theorem qO {Q : Option Value -> Shared -> Prop} (hh : A.handled = none) (st : s.heap.IsKeyIter it d i es.size ep) (x : lR s.heap d es ep) (hx : es.size <= i)
  (q : ∀ h', Heap.ExtBut it s.heap h' -> Q none { s with heap := h' }) : wpAny (model prog w) A (pyNext (.ref it)) Q E s := by
 obtain ⟨o, ho, hc, hf⟩ := id st
 obtain ⟨od, uL, _, sG⟩ := x
 unfold pyNext
 refine Sn (UD (Tv (name := Str.ofString "__next__") st.typeIs Ut (Tc Ut st.typeIs F.entry_dict_keyiterator_next ?_ (F.args_dict_keyiterator_next_1 _))))
 refine Sn (So (Sn (Sn ?_)))
 refine Sn (UJ st.typeIs (So ?_)); refine Sn (wpAny_fieldsOf ho hf ?_)
 simp only [DH, T9, SU, Tr]; show wpAny _ _ (if (Value.ref d == Value.none) = true then _ else _) _ _ _
 rw [if_neg (show ¬ (Value.ref d == Value.none) = true from Sy)]
 refine Sn (So (Sn (Tt uL sG ?_)))
 rw [if_neg (by simp)]
 refine Sn (So (Sn (Uq uL sG ?_)))
 rw [if_neg (by simp)]
 refine So ?_
 simp only [show ¬ ((i : Int) < 0) by omega, Tr, TF, Array.getElem?_eq_none hx]
 refine Sn ?_; refine Sn (UJ st.typeIs (So ?_))
 show wpAny _ _ (setField (.ref it) 0 .none >>= _) _ _ s
 refine Sn (wpAny_setField ho hf (by simp) ?_)
 show wpAny _ _ (newExc (.type "StopIteration") [] >>= _) _ _ _; refine Sn ?_
 simp only [newExc, newTuple]; refine Sn (Ti ?_ (by size_fits))
 refine Sn (m := firstArgMember _ _) (wpAny_of_eq (a := Value.none) (by first | rfl | (simp only [firstArgMember]; rfl)) (Ti ?_ (by size_fits)))
 simp only [raiseNew]; refine Sn (wpAny_handled ?_); rw [(show A.in1.handled = none from hh)]
 refine Sn (So (wpAny_throw ?_))
 refine Sn (Uh (T := "StopIteration") (b := true) ⟨_, SC _ rfl, rfl⟩ isSubtype_stop ?_)
 exact So (q _ (((Tz ..).extBut.push _).push _))
theorem yz (hd : (d == sysModules) = false) {Q : Value -> Shared -> Prop} (x : lR s.heap d es ep) (q : Q (.ref s.heap.objs.size) { s with heap := s.heap.push { cls := .type "dict_items", data := .fields #[.ref d] } }) :
  wpAny (model prog w) A (call (.builtin "dict.items") [.ref d]) Q E s := by
 have ty := x.typeIs
 refine Tc F.slot_dict_items ty F.entry_dict_items ?_ (F.args_dict_items_1 _)
 unfold Builtin.«dict.items» Builtin.Dict.noArgs
 refine Sn ?_; refine Sn (wpAny_notOrdered_dict ty ?_)
 show wpAny _ _ (pure d) _ _ s
 refine So ?_
 show wpAny _ _ (Builtin.Dict.showsAll d >>= _) _ _ s
 unfold Builtin.Dict.showsAll
 rw [hd, if_neg Sy]
 exact Sn (So (Sn (Ti (So ⟨_, rfl, q⟩))))
theorem nz {Q : Value -> Shared -> Prop} (hv : s.heap.IsItemsView v d) (x : lR s.heap d es ep)
  (q : Q (.ref s.heap.objs.size) { s with heap := s.heap.push { cls := .type "dict_itemiterator", data := .fields #[.none, .bool false, .ref d, .int 0 0, .int es.size 0, .int ep 0, .none, .none] } }) : wpAny (model prog w) A (pyIter (.ref v)) Q E s := by
 have ty := hv.typeIs
 obtain ⟨o1, h1, _, h2⟩ := hv
 obtain ⟨o, ho, _, An⟩ := x
 refine wpAny_pyIter_slot ty F.slot_dict_items_iter (Tc F.slot_dict_items_iter ty F.entry_dict_items_iter ?_ (F.args_dict_items_iter_1 _))
 unfold Builtin.«dict_items.__iter__» Builtin.Dict_items.dictOf Builtin.Dict_items.newIterator
 refine Sn (So ?_); refine Sn ?_
 refine Sn (TH h1 h2 (x := .ref d) rfl (So ?_))
 refine Sn ?_; refine Sn (Tt ho An (Sn (Uq ho An ?_)))
 simp only [zi, T9]
 refine Ti (So ⟨_, rfl, "dict_itemiterator", _, ⟨_, SC _ rfl, rfl⟩, Uo.lookup, ?_⟩)
  (by simp only [sizeOk, Builtin.Dict_items.ownedTupleFields, SG, SX, To, List.length_nil, Uu]; omega)
 exact q
theorem zo {k v : Value} {n : Nat} {Q : Value -> Shared -> Prop} (st : IsItemIter s.heap it d i n ep ok ov)
  (q : ∀ h', IsItemIterOut h' it d i n ep k v s.heap.objs.size -> h'.get? s.heap.objs.size = some { cls := .type "tuple", data := .seq #[k, v] } -> (∀ b o, b ≠ it -> s.heap.get? b = some o -> h'.get? b = some o) -> Q (.ref s.heap.objs.size) { s with heap := h' }) :
  wpAny (model prog w) A (Builtin.Dict_items.pairFromOwner (.ref it) 6 k v) Q E s := by
 obtain ⟨hp, g, dr, tk, os⟩ := s
 have lt : it < hp.objs.size := SI st
 unfold Builtin.Dict_items.pairFromOwner
 refine Sn (wpAny_newTuple ?_)
 have e2 : IsItemIter (hp.push { cls := .type "tuple", data := .seq #[k, v] }) it d i n ep ok ov := Sq _ st
 have t2 : (hp.push { cls := .type "tuple", data := .seq #[k, v] }).get? hp.objs.size = some { cls := .type "tuple", data := .seq #[k, v] } := SC _ rfl
 have k2 : ∀ b o, b ≠ it -> hp.get? b = some o -> (hp.push { cls := .type "tuple", data := .seq #[k, v] }).get? b = some o := fun b o _ z => Sq _ z
 generalize hp.push { cls := .type "tuple", data := .seq #[k, v] } = h2 at e2 t2 k2
 show wpAny _ _ (Builtin.Dict_items.ownedTupleIsFree (.ref it) >>= _) _ _ ⟨h2, g, dr, tk, os⟩
 refine Sn ?_
 unfold Builtin.Dict_items.ownedTupleIsFree
 refine Sn (TH e2 rfl (x := .none) rfl (So ?_))
 simp only [T9]
 refine Sn (TH e2 rfl (x := ok) rfl (Sn (TH e2 rfl (x := ov) rfl ?_)))
 refine Sn (TK e2 (by simp) fun h3 e3 s3 => ?_)
 have s3 : Heap.SameBut it h2 h3 := s3
 have e3 : IsItemIter h3 it d i n ep k ov := e3
 refine Sn (TK e3 (by simp) fun h4 e4 s4 => ?_)
 have s4 : Heap.SameBut it h3 h4 := s4
 have e4 : IsItemIter h4 it d i n ep k v := e4
 refine Sn (TK e4 (by simp) fun h5 e5 s5 => ?_)
 have s5 : Heap.SameBut it h4 h5 := s5
 have e5 : IsItemIterOut h5 it d i n ep k v hp.objs.size := e5
 refine Sn (TK e5 (by simp) fun h6 e6 s6 => ?_)
 have s6 : Heap.SameBut it h5 h6 := s6
 have e6 : IsItemIterOut h6 it d i n ep k v hp.objs.size := e6
 have k6 : ∀ b o, b ≠ it -> h2.get? b = some o -> h6.get? b = some o := fun b o hb z => s6.extBut b o hb (s5.extBut b o hb (s4.extBut b o hb (s3.extBut b o hb z)))
 exact Sn (wpAny_letGo (So (q h6 e6 (k6 _ _ (UZ lt) t2) fun b o hb z => k6 b o hb (k2 b o hb z))))
theorem nJ {Q : Option Value -> Shared -> Prop} (st : IsItemIter s.heap it d i es.size ep ok ov) (x : lR s.heap d es ep) (hx : es[i]? = some e)
  (q : ∀ h', IsItemIterOut h' it d (i + 1) es.size ep e.key e.val s.heap.objs.size -> h'.get? s.heap.objs.size = some { cls := .type "tuple", data := .seq #[e.key, e.val] } ->
   (∀ b o, b ≠ it -> s.heap.get? b = some o -> h'.get? b = some o) -> Q (some (.ref s.heap.objs.size)) { s with heap := h' }) : wpAny (model prog w) A (pyNext (.ref it)) Q E s := by
 obtain ⟨hp, g, dr, tk, os⟩ := s
 obtain ⟨od, uL, _, sG⟩ := x
 obtain ⟨fG, rfl⟩ := Array.getElem?_eq_some_iff.mp hx
 have ty : Shared.TypeIs ⟨hp, g, dr, tk, os⟩ (.ref it) "dict_itemiterator" := ⟨_, st, rfl⟩
 unfold pyNext
 refine Sn (UD (Tv (name := Str.ofString "__next__") ty Uo (Tc Uo ty F.entry_dict_itemiterator_next ?_ (F.args_dict_itemiterator_next_1 _))))
 refine Sn (So (Sn (Sn ?_)))
 refine Sn (UI ty (So ?_)); refine Sn (wpAny_fieldsOf st rfl ?_)
 simp only [zi, T9, SU, Tr]; show wpAny _ _ (if (Value.ref d == Value.none) = true then _ else _) _ _ _
 rw [if_neg (show ¬ (Value.ref d == Value.none) = true from Sy)]
 refine Sn (So (Sn (Tt uL sG ?_)))
 rw [if_neg (by simp)]
 refine Sn (So (Sn (Uq uL sG ?_)))
 rw [if_neg (by simp)]
 refine So ?_
 simp only [show ¬ ((i : Int) < 0) by omega, Tr, TF, Array.getElem?_eq_getElem fG]
 refine Sn ?_; refine Sn (UI ty (So ?_))
 refine Sn (wpAny_isOneOf_itemiter ty ?_)
 show wpAny _ _ (setField (.ref it) 3 (rawInt ((i : Int) + 1)) >>= _) _ _ ⟨hp, g, dr, tk, os⟩
 refine Sn (TK st (by simp) fun h1 e1 s1 => ?_)
 have s1 : Heap.SameBut it hp h1 := s1
 have e1 : IsItemIter h1 it d (i + 1) es.size ep ok ov := by
  have z : ((i + 1 : Nat) : Int) = (i : Int) + 1 := by omega
  unfold IsItemIter; rw [z]; simpa [rawInt] using e1
 have MY : Shared.TypeIs ⟨h1, g, dr, tk, os⟩ (.ref it) "dict_itemiterator" := ⟨_, e1, rfl⟩
 refine Sn (TV (Sn (wpAny_isOneOf_itemiter MY (Sn (wpAny_isOneOf_itemiter MY ?_)))))
 show wpAny _ _ (Builtin.Dict_items.pairFromOwner (.ref it) 6 es[i].key es[i].val) _ _ ⟨h1, g, dr, tk, os⟩
 refine zo (s := ⟨h1, g, dr, tk, os⟩) e1 fun h6 e6 t6 k6 => So ⟨_, rfl, So ?_⟩
 have z1 : h1.objs.size = hp.objs.size := s1.1
 have e6 : IsItemIterOut h6 it d (i + 1) es.size ep es[i].key es[i].val h1.objs.size := e6
 have t6 : h6.get? h1.objs.size = some { cls := .type "tuple", data := .seq #[es[i].key, es[i].val] } := t6
 rw [z1] at e6 t6
 show Q (some (.ref h1.objs.size)) ⟨h6, g, dr, tk, os⟩
 rw [z1]
 exact q h6 e6 t6 fun b o hb z => k6 b o hb (s1.extBut b o hb z)
theorem jZ {Q : Option Value -> Shared -> Prop} (hh : A.handled = none) (st : IsItemIter s.heap it d i es.size ep ok ov) (x : lR s.heap d es ep) (hx : es.size <= i)
  (q : ∀ h', Heap.ExtBut it s.heap h' -> Q none { s with heap := h' }) : wpAny (model prog w) A (pyNext (.ref it)) Q E s := by
 obtain ⟨od, uL, _, sG⟩ := x
 have ty : s.TypeIs (.ref it) "dict_itemiterator" := ⟨_, st, rfl⟩
 unfold pyNext
 refine Sn (UD (Tv (name := Str.ofString "__next__") ty Uo (Tc Uo ty F.entry_dict_itemiterator_next ?_ (F.args_dict_itemiterator_next_1 _))))
 refine Sn (So (Sn (Sn ?_)))
 refine Sn (UI ty (So ?_)); refine Sn (wpAny_fieldsOf st rfl ?_)
 simp only [zi, T9, SU, Tr]; show wpAny _ _ (if (Value.ref d == Value.none) = true then _ else _) _ _ _
 rw [if_neg (show ¬ (Value.ref d == Value.none) = true from Sy)]
 refine Sn (So (Sn (Tt uL sG ?_)))
 rw [if_neg (by simp)]
 refine Sn (So (Sn (Uq uL sG ?_)))
 rw [if_neg (by simp)]
 refine So ?_
 simp only [show ¬ ((i : Int) < 0) by omega, Tr, TF, Array.getElem?_eq_none hx]
 refine Sn ?_; refine Sn (UI ty (So ?_))
 show wpAny _ _ (setField (.ref it) 2 .none >>= _) _ _ s
 refine Sn (wpAny_setField st rfl (by simp) ?_)
 show wpAny _ _ (newExc (.type "StopIteration") [] >>= _) _ _ _; refine Sn ?_
 simp only [newExc, newTuple]; refine Sn (Ti ?_ (by size_fits))
 refine Sn (m := firstArgMember _ _) (wpAny_of_eq (a := Value.none) (by first | rfl | (simp only [firstArgMember]; rfl)) (Ti ?_ (by size_fits)))
 simp only [raiseNew]; refine Sn (wpAny_handled ?_); rw [(show A.in1.handled = none from hh)]
 refine Sn (So (wpAny_throw ?_))
 refine Sn (Uh (T := "StopIteration") (b := true) ⟨_, SC _ rfl, rfl⟩ isSubtype_stop ?_)
 exact So (q _ (((Tz ..).extBut.push _).push _))
end
section
variable {X : Cx} {pins : List (Addr × Obj)} {σ : St} {H : Hp} {s : Shared} {h' : Heap}
theorem Inv.Dt {t' : Nat} {it p : Addr} {o : HO} (I : Inv X pins σ H s) (k : ∀ b o, b ≠ it -> s.heap.get? b = some o -> h'.get? b = some o) (hn : H it = none) (hL : it ≠ X.env.locals)
  (h1 : it ∈ X.ex \/ X.s₀.heap.objs.size <= it) (h2 : ∀ x c, X.env.cells.lookup x = some c -> c ≠ it) (h3 : ∀ p ∈ X.pn ++ pins, p.1 ≠ it) (hp : s.heap.objs.size <= p) (new : cp X.prog X.w (upd H p o) h' p o) :
  Inv X pins σ (upd H p o) { s with heap := h', toks := t' } := by
 have np : H p = none := I.aP.fresh hp
 have HL : ∀ b u, H b = some u -> b ≠ it := fun b u e z => by rw [z, hn] at e; cases e
 have na : ∀ b u, s.heap.get? b = some u -> b ≠ p := fun b u e => S2 (S6 (SI e) hp)
 refine I.step (g' := s.gens) (d' := s.drawn) (ch := [it]) (fun b hb => ?_) (fun b o _ _ hc e _ => k b o (fun z => hc (by simp [z])) e) (fun b o _ _ hc e _ => ⟨o.slots, k b o (fun z => hc (by simp [z])) e⟩)
  (fun b u _ e n => by rw [ak (na b u e)]; exact n) (fun b o hc e => ⟨o, k b o (fun z => hc (by simp [z])) e⟩) (fun b xs e => by rw [ak (ay e np)]; exact e) (fun b o' u e => by rw [ak (ay e np)]; exact e)
  (fun b ps e => ⟨#[], by rw [ak (ay e np), e]; simp⟩) (fun m hm => ?_) (fun b u e => ?_) I.bare
 ·have e : b = it := by simpa using hb
  subst e
  exact ⟨h1, hL, h2, h3⟩
 ·obtain ⟨o, es, ep, ho, r⟩ := hm
  exact ⟨o, es, ep, k _ o (UT hL) ho, r⟩
 ·by_cases hb : b = p
  ·subst hb; rw [ae] at e; cases e; exact new
  ·rw [ak hb] at e
   refine (I.aP b u e).j6 (fun c v hc q => k c v ?_ q) (fun c q => by rw [ak (ay q np)]; exact q) fun c xs q => by rw [ak (ay q np)]; exact q
   rcases hc with z | z
   ·rw [z]; exact HL b u e
   ·exact HL c _ z
end
abbrev iY (P : Program) (w : World) (o : Obj) (d : Addr) (xs : List (bv × Addr × Value)) : HO := .yN o (jr P w d xs)
theorem jn {P : Program} {w : World} {H : Hp} {h : Heap} {o : Obj} {d : Addr} {xs : List (bv × Addr × Value)} (ok : iA P w H h) (e : H d = some (iY P w o d xs)) : ∃ es ep, o.data = .dict es ep /\ lR h d es ep /\ es.toList = xs.map (entryOfKey (aN P w)) := by
 obtain ⟨h1, ⟨o', es, ep, h2, h3, h4, h5, _⟩, _⟩ := (show cp P w H h d (iY P w o d xs) from ok d _ e)
 rw [h1] at h2; cases h2
 exact ⟨es, ep, h4, ⟨o, h1, h3, h4⟩, h5⟩
def Er (P : Program) (w : World) (o : Obj) (d : Addr) (xs : List (bv × Addr × Value)) : It :=
 ⟨fun i H => H d = some (iY P w o d xs) /\ i < xs.length, fun i H x H' => H' = H /\ ∃ k b v, xs[i]? = some (k, b, v) /\ x = .ref b, fun i H => H d = some (iY P w o d xs) /\ xs.length <= i⟩
def Gr (P : Program) (w : World) (o : Obj) (d : Addr) (xs : List (bv × Addr × Value)) (vs : List V) : It :=
 ⟨fun i H => H d = some (iY P w o d xs) /\ i < xs.length, fun i H x H' => ∃ k b v y p, xs[i]? = some (k, b, v) /\ vs[i]? = some y /\ x = .ref p /\ H p = none /\ H' = upd H p (.tup [.ref b, y]), fun i H => H d = some (iY P w o d xs) /\ xs.length <= i⟩
theorem xp {P : Program} {w : World} {K : Vj} {tg : Expr} (o : Obj) (d it : Addr) (xs : List (bv × Addr × Value)) : Turn P w K tg (Er P w o d xs) [it] it (fun i h => ∃ es ep, o.data = .dict es ep /\ h.IsKeyIter it d i es.size ep) where
 mem := by simp
 obj := fun i h st b hb => by
  have e : b = it := by simpa using hb
  subst e
  obtain ⟨es, ep, _, o', e, c, dd⟩ := st
  exact ⟨o', e, fun v z => by rw [dd] at z; cases z⟩
 keep := fun i h h' ⟨es, ep, e, st⟩ k => ⟨es, ep, e, st.at fun o e => k it (by simp) o e⟩
 item := by
  intro X hP hw hK hc i pins s σ H E I hf st hg
  subst hP hw hK
  obtain ⟨hd, hi⟩ := hg
  obtain ⟨es, ep, e1, raw, el⟩ := jn I.aP hd
  obtain ⟨x9, yS, e2, st⟩ := st
  rw [e1] at e2
  injection e2 with e3 e4
  subst e3 e4
  obtain ⟨⟨k, b, v⟩, hx⟩ : ∃ x, xs[i]? = some x := ⟨_, Sw hi⟩
  have he : es[i]? = some (entryOfKey (aN X.prog X.w) (k, b, v)) := by rw [entry_at el, hx]; rfl
  obtain ⟨f0, f1, f2, f3, f4, f5⟩ := hf it (by simp)
  refine zq st raw he fun h' ax sb => ⟨_, rfl, ?_⟩
  have I1 : Inv X pins σ H { s with heap := h' } := I.turned (t' := s.toks) (fun b o hb e => (sb.2 b hb).trans e) f0 f1 f3 f4 f5
  obtain ⟨o', e, c, dd⟩ := id ax
  exact xi (s := { s with heap := h' }) e c dd (by decide) ⟨.ref b, H, I1, rfl, ⟨rfl, k, b, v, hx, rfl⟩, ⟨es, ep, e1, ax⟩, fun b hb => (hf b hb).1⟩
 done := by
  intro X hP hw hK hc i pins s σ H E I hf st hg
  subst hP hw hK
  obtain ⟨hd, hi⟩ := hg
  obtain ⟨es, ep, e1, raw, el⟩ := jn I.aP hd
  obtain ⟨x9, yS, e2, st⟩ := st
  rw [e1] at e2
  injection e2 with e3 e4
  subst e3 e4
  obtain ⟨f0, f1, f2, f3, f4, f5⟩ := hf it (by simp)
  exact qO (I.ok.hd hc) st raw (by rw [Vc el]; exact hi) fun h' eb => ⟨rfl, I.turned (t' := s.toks) (fun b o hb e => eb b o hb e) f0 f1 f3 f4 f5⟩
 self := fun _ _ _ _ _ ⟨_, _, _, st⟩ h => wpAny_pyIter_keyiter st h
theorem vR {P : Program} {w : World} {K : Vj} {elts : List Expr} {x1} {pos : Pos} (o : Obj) (d it : Addr) (xs : List (bv × Addr × Value)) (vs : List V) (rv : Paired (fun (x : bv × Addr × Value) (y : V) => RelV y x.2.2) xs vs) :
  Turn P w K (.Tuple elts x1 pos) (Gr P w o d xs vs) [it] it (fun i h => ∃ es ep ok ov, o.data = .dict es ep /\ IsItemIter h it d i es.size ep ok ov) where
 mem := by simp
 obj := fun i h st b hb => by
  have e : b = it := by simpa using hb
  subst e
  obtain ⟨es, ep, ok, ov, _, st⟩ := st
  exact ⟨_, st, fun v z => by cases z⟩
 keep := fun i h h' ⟨es, ep, ok, ov, e, st⟩ k => ⟨es, ep, ok, ov, e, k it (by simp) _ st⟩
 item := by
  intro X hP hw hK hc i pins s σ H E I hf st hg
  subst hP hw hK
  obtain ⟨hd, hi⟩ := hg
  obtain ⟨es, ep, e1, raw, el⟩ := jn I.aP hd
  obtain ⟨x9, yS, ok, ov, e2, st⟩ := st
  rw [e1] at e2
  injection e2 with e3 e4
  subst e3 e4
  obtain ⟨⟨k, b, v⟩, hx⟩ : ∃ x, xs[i]? = some x := ⟨_, Sw hi⟩
  obtain ⟨y, hy, ry⟩ : ∃ y, vs[i]? = some y /\ RelV y v := by
   have hl := TW rv
   have : ∀ {xs : List (bv × Addr × Value)} {vs : List V} {i : Nat} {x : bv × Addr × Value}, Paired (fun (x : bv × Addr × Value) (y : V) => RelV y x.2.2) xs vs -> xs[i]? = some x -> ∃ y, vs[i]? = some y /\ RelV y x.2.2 := by
    intro xs vs i x r
    induction r generalizing i with
    | nil => intro e; simp at e
    | cons h _ ih =>
     intro e
     cases i with
     | zero => simp at e; subst e; exact ⟨_, rfl, h⟩
     | succ i => obtain ⟨y, h1, h2⟩ := ih (i := i) (by simpa using e); exact ⟨y, by simpa using h1, h2⟩
   exact this rv hx
  have he : es[i]? = some (entryOfKey (aN X.prog X.w) (k, b, v)) := by rw [entry_at el, hx]; rfl
  obtain ⟨f0, f1, f2, f3, f4, f5⟩ := hf it (by simp)
  refine nJ st raw he fun h' ax tu kp => ⟨_, rfl, ?_⟩
  refine wpAny_letOwnedTupleGo_items (s := { s with heap := h' }) ax fun Jn bh sb => ?_
  have Nn : it ≠ s.heap.objs.size := S2 (SI st)
  have PK : Jn.get? s.heap.objs.size = some { cls := .type "tuple", data := .seq #[Value.ref b, v] } := (sb.2 _ (UT Nn)).trans tu
  have np : H s.heap.objs.size = none := I.aP.fresh (Ss _)
  have I1 : Inv X pins σ (upd H s.heap.objs.size (.tup [.ref b, y])) { s with heap := Jn } := I.Dt (t' := s.toks) (fun b o hb e => (sb.2 b hb).trans (kp b o hb e)) f0 f1 f3 f4 f5 (Ss _)
   ⟨by rw [Uu]; simp, [Value.ref b, v], .cons rfl (.cons ry .nil), _, PK, rfl, _, rfl⟩
  exact ⟨.ref s.heap.objs.size, _, I1, rfl, ⟨k, b, v, y, _, hx, hy, rfl, np, rfl⟩, ⟨es, ep, _, _, e1, bh⟩, fun c hc => by
   have e : c = it := by simpa using hc
   rw [e, ak Nn]; exact f0⟩
 done := by
  intro X hP hw hK hc i pins s σ H E I hf st hg
  subst hP hw hK
  obtain ⟨hd, hi⟩ := hg
  obtain ⟨es, ep, e1, raw, el⟩ := jn I.aP hd
  obtain ⟨x9, yS, ok, ov, e2, st⟩ := st
  rw [e1] at e2
  injection e2 with e3 e4
  subst e3 e4
  obtain ⟨f0, f1, f2, f3, f4, f5⟩ := hf it (by simp)
  exact jZ (I.ok.hd hc) st raw (by rw [Vc el]; exact hi) fun h' eb => ⟨rfl, I.turned (t' := s.toks) (fun b o hb e => eb b o hb e) f0 f1 f3 f4 f5⟩
 self := fun _ _ _ _ _ ⟨_, _, _, _, _, st⟩ h => PySem.W.kcp_self st h
def DF (P : Program) (w : World) (H : Hp) (a : Addr) (kvs : List (bv × V)) : Prop := kvs.length <= sizeLine /\ (a == sysModules) = false /\ ∃ o xs, H a = some (iY P w o a xs) /\ KS H kvs xs
section
variable {P : Program} {w : World} {H H' : Hp} {a : Addr} {kvs : List (bv × V)}
theorem DF.ds (d : DF P w H a kvs) : DS P w H a kvs := let ⟨h1, h2, o, xs, h3, h4⟩ := d; ⟨h1, h2, xs, .inr ⟨o, h3⟩, h4⟩
theorem DF.mono (e : am H H') (x : DF P w H a kvs) : DF P w H' a kvs := let ⟨h1, h2, o, xs, h3, h4⟩ := x; ⟨h1, h2, o, xs, e _ _ h3, h4.mono fun _ _ => e _ _⟩
theorem KS.get {xs : List (bv × Addr × Value)} : ∀ {kvs : List (bv × V)} {i : Nat} {k : bv} {b : Addr} {v : Value}, KS H kvs xs -> xs[i]? = some (k, b, v) -> ∃ y, kvs[i]? = some (k, y) /\ jA H k b /\ RelV y v := by
 intro kvs i k b v r
 induction r generalizing i with
 | nil => intro e; simp at e
 | @cons p q _ _ h _ ih =>
  intro e
  cases i with
  | zero =>
   simp at e; subst e
   obtain ⟨h1, h2, h3⟩ := h
   obtain ⟨p1, p2⟩ := p
   have h1 : p1 = k := h1
   subst h1
   exact ⟨p2, rfl, h2, h3⟩
  | succ i =>
   obtain ⟨y, h1, h2⟩ := ih (i := i) (by simpa using e)
   exact ⟨y, by simpa using h1, h2⟩
theorem KS.vals {xs : List (bv × Addr × Value)} (r : KS H kvs xs) : Paired (fun (x : bv × Addr × Value) (y : V) => RelV y x.2.2) xs (kvs.map (·.2)) := by
 induction r with
 | nil => exact .nil
 | cons h _ ih => exact .cons h.2.2 ih
end
section
variable {X : Cx} {tg l o : Expr} {tl to : TE} {apos cV pos : Pos}
def Ho (X : Cx) (tl : TE) : TI := fun σ H R => tl σ H fun x H1 => ∃ a o xs, x = .ref a /\ (a == sysModules) = false /\ H1 a = some (iY X.prog X.w o a xs) /\ R (Er X.prog X.w o a xs) H1
theorem BS (hl : PE X l tl) : PI X tg l (Ho X tl) := by
 intro pins s σ H R I h
 refine bO (hl pins s σ H _ I h) fun v s1 ⟨x, H1, I1, r1, q1⟩ => ?_
 obtain ⟨a, o, xs, e, hd, hq, q⟩ := q1
 subst e
 cases r1
 obtain ⟨es, ep, e1, raw, el⟩ := jn I1.aP hq
 refine Ar hd raw ?_
 refine ⟨s1.heap.objs.size, [s1.heap.objs.size], _, _, H1, rfl, I1.kept (t' := s1.toks) fun b o e => Sq _ e, xp o a _ xs, ⟨es, ep, e1, _, SC _ rfl, rfl, rfl⟩, fun b hb => ?_, q⟩
 have e : b = s1.heap.objs.size := by simpa using hb
 subst e
 exact I1.xk (Ss _) (I1.aP.fresh (Ss _))
def E6 (X : Cx) (to : TE) : TI := fun σ H R => to σ H fun x H1 => ∃ a o xs vs, x = .ref a /\ (a == sysModules) = false /\ H1 a = some (iY X.prog X.w o a xs) /\ Paired (fun (x : bv × Addr × Value) (y : V) => RelV y x.2.2) xs vs /\ R (Gr X.prog X.w o a xs vs) H1
theorem zh {elts : List Expr} {x1} (ho : PE X o to) (kT : attributeBase o "items" X.env (eval o X.env) = eval o X.env := by rfl) (kN : (apos.endLine == cV.line) = true := by rfl) :
  PI X (.Tuple elts x1 pos) (.Call (.Attribute o "items" apos) [] [] cV) (E6 X to) := by
 intro pins s σ H R I h
 refine wpAny_Call_method0_late kT kN (bO (ho pins s σ H _ I h) fun v s1 ⟨x, H1, I1, r1, q1⟩ => ?_)
 obtain ⟨a, ob, xs, vs, e, hd, hq, rv, q⟩ := q1
 subst e
 cases r1
 obtain ⟨es, ep, e1, raw, el⟩ := jn I1.aP hq
 obtain ⟨o', j8, ex, _⟩ := id raw
 refine ⟨"dict", "dict.items", PySem.F.plainAttrs_dict, PySem.F.slot_dict_items, PySem.F.type_dict_items, raw.typeIs, fun b eb => ?_, ?_⟩
 ·cases eb
  exact ⟨o', j8, ex.2.1⟩
 refine Calls.callWith_builtin rfl (PySem.evalArgs_none (yz hd raw ?_))
 have I2 : Inv X pins σ H1 { s1 with heap := s1.heap.push { cls := .type "dict_items", data := .fields #[.ref a] } } := I1.kept (t' := s1.toks) fun b o e => Sq _ e
 refine nz (s := { s1 with heap := s1.heap.push { cls := .type "dict_items", data := .fields #[.ref a] } }) ⟨_, SC _ rfl, rfl, rfl⟩ (raw.keep fun b o e => Sq _ e) ?_
 refine ⟨(s1.heap.push { cls := .type "dict_items", data := .fields #[.ref a] }).objs.size, [(s1.heap.push { cls := .type "dict_items", data := .fields #[.ref a] }).objs.size], _, _, H1, rfl, I2.kept (t' := s1.toks) fun b o e => Sq _ e, vR ob a _ xs vs rv, ⟨es, ep, .none, .none, e1, SC _ rfl⟩, fun b hb => ?_, q⟩
 have e : b = (s1.heap.push { cls := .type "dict_items", data := .fields #[.ref a] }).objs.size := by simpa using hb
 subst e
 exact I2.xk (Ss _) (I2.aP.fresh (Ss _))
def L0 (X : Cx) (te : TE) : TE := fun σ H Q => te σ H fun x H1 => ∃ a kvs, x = .ref a /\ DW X.prog X.w H1 a kvs /\ ∀ o, DF X.prog X.w (upd H1 a o) a kvs -> Q x (upd H1 a o)
theorem Fk {e : Expr} {te : TE} (h : PE X e te) : PE X e (L0 X te) := by
 intro pins s σ H Q I q
 refine bO (h pins s σ H _ I q) fun v s1 ⟨x, H1, I1, r1, a, kvs, ex, ⟨z, hd, xs, e, r⟩, q1⟩ => ?_
 subst ex
 have Mw : cp X.prog X.w H1 s1.heap a (jr X.prog X.w a xs) := I1.aP a _ e
 obtain ⟨ob, lI⟩ := Mw.2.1
 have tp : ∀ c ys, H1 c = some (.tup ys) -> upd H1 a (iY X.prog X.w ob a xs) c = some (.tup ys) := fun c ys ec => by
  rw [ak (cR ec e (fun z => nomatch z))]; exact ec
 have I2 : Inv X pins σ (upd H1 a (iY X.prog X.w ob a xs)) s1 := I1.write (x := a) (e := a) (h' := s1.heap) (t' := s1.toks) (o := iY X.prog X.w ob a xs) (by rw [e]; exact UK) (.inl rfl) (fun b u _ q => q) ⟨ob, lI⟩ ⟨lI, Mw⟩
 exact ⟨.ref a, _, I2, r1, q1 _ ⟨z, hd, ob, xs, ae, r.mono tp⟩⟩
end
theorem A7 {P : Program} {w : World} {o : Obj} {d : Addr} {xs : List (bv × Addr × Value)} {kvs : List (bv × V)} {g : TG} {tb : TS} {D : Ends} {σ : St} {H : Hp} (Pv : Nat -> St -> Hp -> Prop) (h0 : Pv 0 σ H)
  (hl : ∀ i σ H, i <= kvs.length -> Pv i σ H -> H d = some (iY P w o d xs) /\ KS H kvs xs)
  (hs : ∀ i k y b σ H, kvs[i]? = some (k, y) -> jA H k b -> Pv i σ H -> g (.ref b) σ H fun σ2 H2 => tb { D with nx := Pv (i + 1), ct := Pv (i + 1), bk := D.nx } σ2 H2) (hd : ∀ σ H, Pv kvs.length σ H -> D.nx σ H) :
  ∃ W : Nat -> Nat -> St -> Hp -> Prop, (∃ m, W 0 m σ H) /\ ∀ i m σ H, W i m σ H ->
   ((Er P w o d xs).stop i H /\ D.nx σ H) \/ ((Er P w o d xs).go i H /\ ∃ N : St -> Hp -> Prop, (∀ σ' H', N σ' H' -> ∃ m', m' < m /\ W (i + 1) m' σ' H') /\ ∀ x H', (Er P w o d xs).DL i H x H' -> g x σ H' fun σ2 H2 => tb { D with nx := N, ct := N, bk := D.nx } σ2 H2) := by
 refine ⟨fun i m σ H => m = kvs.length - i /\ i <= kvs.length /\ Pv i σ H, ⟨kvs.length, by simp, S4 _, h0⟩, ?_⟩
 rintro i m σ H ⟨rfl, hi, p⟩
 obtain ⟨q, r⟩ := hl i σ H hi p
 have ln : kvs.length = xs.length := TW r
 by_cases fG : i < kvs.length
 ·refine .inr ⟨⟨q, by omega⟩, Pv (i + 1), fun σ' H' p' => ⟨kvs.length - (i + 1), by omega, rfl, fG, p'⟩, fun x H' y => ?_⟩
  obtain ⟨e, k, b, v, hx, e2⟩ := y
  subst e e2
  obtain ⟨y, hy, ka, _⟩ := r.get hx
  exact hs i k y b σ _ hy ka p
 ·have e : i = kvs.length := by omega
  subst e
  exact .inl ⟨⟨q, by omega⟩, hd σ H p⟩
theorem ya {P : Program} {w : World} {o : Obj} {d : Addr} {xs : List (bv × Addr × Value)} {kvs : List (bv × V)} {g : TG} {tb : TS} {D : Ends} {σ : St} {H : Hp} (Pv : Nat -> St -> Hp -> Prop) (h0 : Pv 0 σ H)
  (hl : ∀ i σ H, i <= kvs.length -> Pv i σ H -> H d = some (iY P w o d xs) /\ KS H kvs xs)
  (hs : ∀ i k y b p σ H, kvs[i]? = some (k, y) -> jA H k b -> H p = none -> Pv i σ H -> g (.ref p) σ (upd H p (.tup [.ref b, y])) fun σ2 H2 => tb { D with nx := Pv (i + 1), ct := Pv (i + 1), bk := D.nx } σ2 H2) (hd : ∀ σ H, Pv kvs.length σ H -> D.nx σ H) :
  ∃ W : Nat -> Nat -> St -> Hp -> Prop, (∃ m, W 0 m σ H) /\ ∀ i m σ H, W i m σ H ->
   ((Gr P w o d xs (kvs.map (·.2))).stop i H /\ D.nx σ H) \/ ((Gr P w o d xs (kvs.map (·.2))).go i H /\ ∃ N : St -> Hp -> Prop, (∀ σ' H', N σ' H' -> ∃ m', m' < m /\ W (i + 1) m' σ' H') /\ ∀ x H', (Gr P w o d xs (kvs.map (·.2))).DL i H x H' -> g x σ H' fun σ2 H2 => tb { D with nx := N, ct := N, bk := D.nx } σ2 H2) := by
 refine ⟨fun i m σ H => m = kvs.length - i /\ i <= kvs.length /\ Pv i σ H, ⟨kvs.length, by simp, S4 _, h0⟩, ?_⟩
 rintro i m σ H ⟨rfl, hi, p⟩
 obtain ⟨q, r⟩ := hl i σ H hi p
 have ln : kvs.length = xs.length := TW r
 by_cases fG : i < kvs.length
 ·refine .inr ⟨⟨q, by omega⟩, Pv (i + 1), fun σ' H' p' => ⟨kvs.length - (i + 1), by omega, rfl, fG, p'⟩, fun x H' y => ?_⟩
  obtain ⟨k, b, v, y, pp, hx, hy, e1, hn, e2⟩ := y
  subst e1 e2
  obtain ⟨y', fm, ka, _⟩ := r.get hx
  rw [SH, fm] at hy
  cases hy
  exact hs i k _ b pp σ H fm ka hn p
 ·have e : i = kvs.length := by omega
  subst e
  exact .inl ⟨⟨q, by omega⟩, hd σ H p⟩
section
variable (P : Program) (w : World)
def HB (neg : Bool) : R2 := fun y x H Q => ∃ a b k kvs, x = .ref a /\ y = .ref b /\ jA H k b /\ DS P w H a kvs /\ Q (.bl (if neg then !(cu kvs k).isSome else (cu kvs k).isSome)) H
def Lc : R2 := fun x y H Q => ∃ a b k kvs v, x = .ref a /\ y = .ref b /\ jA H k b /\ DS P w H a kvs /\ cu kvs k = some v /\ Q v H
def GH : V -> V -> V -> Hp -> (Hp -> Prop) -> Prop := fun o i v H Q => ∃ a b k kvs, o = .ref a /\ i = .ref b /\ jA H k b /\ DW P w H a kvs /\ kvs.length < sizeLine /\ ∀ o', DW P w (upd H a o') a (pC kvs k v) -> Q (upd H a o')
def E4 : TE := fun _ H Q => ∀ p o, H p = none -> DW P w (upd H p o) p [] -> Q (.ref p) (upd H p o)
def Cp (tk tv : TE) : TE := fun σ H Q => ∀ p o, H p = none -> DW P w (upd H p o) p [] -> tk σ (upd H p o) fun x H1 => tv σ H1 fun y H2 =>
 ∃ b k, x = .ref b /\ jA H2 k b /\ DW P w H2 p [] /\ ∀ o', DW P w (upd H2 p o') p [(k, y)] -> Q (.ref p) (upd H2 p o')
def KL : R2 := fun x y H Q => ∃ a b f g, x = .ref a /\ y = .ref b /\ DS P w H a (iv f) /\ DS P w H b (iv g) /\ Q (.bl (!DA f g)) H
def Fl : List V -> Hp -> VK -> Prop := fun xs H Q => ∃ a kvs, xs = [.ref a] /\ DS P w H a kvs /\ nX P w kvs /\ ∀ p o, H p = none -> DW P w (upd H p o) p kvs -> Q (.ref p) (upd H p o)
def Ia : V -> List V -> Hp -> VK -> Prop := fun x ys H Q => ∃ a b k kvs, x = .ref a /\ ys = [.ref b] /\ jA H k b /\ DS P w H a kvs /\ Q ((cu kvs k).getD .cc) H
def G6 (td : TE) (t : TA) : TE := fun σ H Q => td σ H fun x H1 => (∃ a kvs, x = .ref a /\ DS P w H1 a kvs) /\ t σ H1 fun xs H2 => Ia P w x xs H2 Q
def Bh (tl : TE) : TI := fun σ H R => tl σ H fun x H1 => ∃ a o xs, x = .ref a /\ (a == sysModules) = false /\ H1 a = some (iY P w o a xs) /\ R (Er P w o a xs) H1
def CB (to : TE) : TI := fun σ H R => to σ H fun x H1 => ∃ a o xs vs, x = .ref a /\ (a == sysModules) = false /\ H1 a = some (iY P w o a xs) /\ Paired (fun (x : bv × Addr × Value) (y : V) => RelV y x.2.2) xs vs /\ R (Gr P w o a xs vs) H1
def DU (te : TE) : TE := fun σ H Q => te σ H fun x H1 => ∃ a kvs, x = .ref a /\ DW P w H1 a kvs /\ ∀ o, DF P w (upd H1 a o) a kvs -> Q x (upd H1 a o)
end
section
variable {X : Cx} {P : Program} {w : World} (hP : X.prog = P) (hw : X.w = w)
include hP hw
theorem GU (hu : X.A.units + 64 < cLine) : gi X (compareOp .In) (HB P w false) := by subst hP hw; exact FP hu
theorem EK (hu : X.A.units + 64 < cLine) : gi X (compareOp .NotIn) (HB P w true) := by subst hP hw; exact xV hu
theorem Bs (hu : X.A.units + 64 < cLine) : zt X (Lc P w) := by subst hP hw; exact Ak hu
theorem EE (hu : X.A.units + 64 < cLine) : EU X (GH P w) := by subst hP hw; exact xz hu
theorem kg {pos : Pos} : PE X (.Dict [] [] pos) (E4 P w) := by subst hP hw; exact Bn
theorem yJ {k v : Expr} {tk tv : TE} {pos : Pos} (hu : X.A.units + 64 < cLine) (hk : PE X k tk) (hv : PE X v tv) : PE X (.Dict [some k] [v] pos) (Cp P w tk tv) := by subst hP hw; exact AC hu hk hv
theorem NZ (hu : X.A.units + 64 < cLine) : gi X (compareOp .NotEq) (KL P w) := by subst hP hw; exact EO hu
theorem vG : dh X (.type "dict") (Fl P w) := by subst hP hw; exact vN
theorem t9 {tg l : Expr} {tl : TE} (hl : PE X l tl) : PI X tg l (Bh P w tl) := by subst hP hw; exact BS hl
theorem wS {e : Expr} {te : TE} (h : PE X e te) : PE X e (DU P w te) := by subst hP hw; exact Fk h
theorem Dr {tg l : Expr} {tl : TE} (hl : PE X l tl) : PI X tg l (Bh P w (DU P w tl)) := t9 hP hw (wS hP hw hl)
theorem yg {elts : List Expr} {x1 : Nat} {o : Expr} {to : TE} {apos cV pos : Pos} (ho : PE X o to) (kT : attributeBase o "items" X.env (eval o X.env) = eval o X.env := by rfl) (kN : (apos.endLine == cV.line) = true := by rfl) :
  PI X (.Tuple elts x1 pos) (.Call (.Attribute o "items" apos) [] [] cV) (CB P w to) := by subst hP hw; exact zh ho kT kN
theorem Cn {o e : Expr} {to : TE} {t : TA} {apos cV : Pos} (hu : X.A.units + 64 < cLine) (ho : PE X o to) (ha : PA X [e] t)
  (kT : attributeBase o "get" X.env (eval o X.env) = eval o X.env := by rfl)
  (Bd : ((backTo cV (starEach [e] X.env)).all (fun x => !x.1) && (backToKw cV (keywordEach [] X.env)).all (fun x => x.1.isSome)
   && decide (([e] : List Expr).length + ([] : List Keyword).length + (if ([] : List Keyword).isEmpty then 0 else 1) < 30)) = true := by rfl)
  (kN : (apos.endLine == cV.line) = true := by rfl) (hs : starEach [e] X.env = (false, eval e X.env) :: starEach [] X.env := by rfl) (jR : (backTo cV (starEach [] X.env)).any (·.1) = false := by rfl) :
  PE X (.Call (.Attribute o "get" apos) [e] [] cV) (G6 P w to t) := by subst hP hw; exact Da hu ho ha kT Bd kN hs jR
end
theorem DW.at {P : Program} {w : World} {H : Hp} {a : Addr} {kvs : List (bv × V)} (d : DW P w H a kvs) : ∃ xs, H a = some (jr P w a xs) := let ⟨_, _, xs, h, _⟩ := d; ⟨xs, h⟩
theorem DW.nl {P : Program} {w : World} {H : Hp} {a : Addr} {kvs : List (bv × V)} (d : DW P w H a kvs) {o : HO} : (∀ b vs, H b = some (.lst vs) -> upd H a o b = some (.lst vs)) /\ ∀ b vs, H b = some (.tup vs) -> upd H a o b = some (.tup vs) := by
 obtain ⟨xs, h⟩ := d.at
 exact ⟨fun b vs e => by rw [ak (cR e h (by intro z; cases z))]; exact e, fun b vs e => by rw [ak (cR e h (by intro z; cases z))]; exact e⟩
theorem DW.F0 {P : Program} {w : World} {H : Hp} {a D : Addr} {o : HO} {ys : List V} {kvs : List (bv × V)} (d : DW P w H a kvs) (hD : H D = some (.lst ys)) : DW P w (upd H D o) a kvs :=
 let ⟨h1, h2, xs, h3, h4⟩ := d
 ⟨h1, h2, xs, by rw [ak (cR h3 hD (by intro z; cases z))]; exact h3, h4.mono fun b vs e => by rw [ak (cR e hD (by intro z; cases z))]; exact e⟩
theorem xF {P : Program} {w : World} {o : Obj} {d : Addr} {kxs : List (bv × Addr × Value)} {kvs : List (bv × V)} {cap : List (Option Nat)} {σ : St} {H : Hp} {g : TG} {tc : TT} {te : TE} {Q : VK} {D : Addr} (Pv : Nat -> List V -> Hp -> Prop) (h0 : Pv 0 [] (upd H D (.lst [])))
  (hD : ∀ i xs H, i <= kvs.length -> Pv i xs H -> H D = some (.lst xs) /\ H d = some (iY P w o d kxs) /\ KS H kvs kxs)
  (hs : ∀ i k y b xs H, kvs[i]? = some (k, y) -> jA H k b -> Pv i xs H -> g (.ref b) (dJ cap σ) H fun σ2 H4 => cx (dJ cap σ) σ2 /\
   tc σ2 H4 fun c H5 => if c = true then te σ2 H5 fun y H6 => H6 D = some (.lst xs) /\ xs.length < sizeLine /\ Pv (i + 1) (xs ++ [y]) (upd H6 D (.lst (xs ++ [y]))) else Pv (i + 1) xs H5)
  (hd : ∀ xs H, Pv kvs.length xs H -> Q (.ref D) H) : mn (Er P w o d kxs) D cap σ H g tc te Q := by
 refine ⟨kvs.length, Pv, h0, fun i xs H2 hi p => ⟨(hD i xs H2 hi p).1, ?_⟩⟩
 obtain ⟨_, q, r⟩ := hD i xs H2 hi p
 have ln : kvs.length = kxs.length := TW r
 by_cases fG : i < kvs.length
 ·refine .inr ⟨fG, ⟨q, by omega⟩, fun x H' y => ?_⟩
  obtain ⟨e, k, b, v, hx, e2⟩ := y
  subst e e2
  obtain ⟨y, hy, ka, _⟩ := r.get hx
  exact hs i k y b xs _ hy ka p
 ·have e : i = kvs.length := by omega
  subst e
  exact .inl ⟨rfl, ⟨q, by omega⟩, hd xs H2 p⟩
section
variable {M : Model} {A : Around} {E : Value -> Shared -> Prop} {s : Shared}
def sK (h : Heap) : List Value -> List (Option Value) -> Prop := Paired fun v f => ∃ a o xs n, v = .ref a /\ h.get? a = some o /\ o.cls = .type "tuple" /\ o.data = .seq xs n /\ xs[0]? = f
theorem xa : ∀ (vs : List Value) (fs : List (Option Value)) {Q : List (Option Value) -> Shared -> Prop}, sK s.heap vs fs -> Q fs s -> wpAny M A (vs.mapM firstOfTuple') Q E s
 | [], _, _, .nil, h => by rw [List.mapM_nil]; exact So h
 | v :: vs, f :: fs, Q, .cons t r, h => by
  obtain ⟨a, o, xs, n, rfl, ho, hc, hd, hf⟩ := t
  rw [List.mapM_cons]
  refine Sn ?_
  rw [PySem.W.kas_first_eq]
  refine Sn (PySem.W.Looks.here (show PySem.W.Looks M s.heap (typeOf (.ref a)) o.cls from (PySem.W.Looks.ld ho).andThen .now) ?_)
  rw [hc, if_neg (by first | decide | simp)]
  refine Sn (listItems_at ho hd (So ?_))
  rw [hf]
  exact Sn (xa vs fs (Q := fun bs s' => wpAny M A (pure (f :: bs)) Q E s') r (So h))
theorem pN {h : Heap} : ∀ {vs : List Value} {fs : List (Option Value)}, sK h vs fs -> (∀ f ∈ fs, f.isSome = true) -> PySem.W.KatTups h vs (fs.filterMap id)
 | [], _, .nil, _ => trivial
 | _ :: _, f :: fs, .cons t r, hf => by
  obtain ⟨a, o, xs, n, rfl, ho, hc, hd, hx⟩ := t
  have := hf f Sv
  cases f with
  | none => cases this
  | some u => exact PySem.W.KatTups.cons ho hc hd hx (pN r fun f K6 => hf f (Su _ K6))
theorem pM {h : Heap} {v : Value} : ∀ {vs : List Value} {fs : List (Option Value)}, sK h vs fs -> v ∈ vs -> ∃ a o, v = .ref a /\ h.get? a = some o /\ o.cls = .type "tuple"
 | _, _, .nil, hv => by cases hv
 | _ :: _, _ :: _, .cons t r, hv => by
  rcases Sx.mp hv with rfl | hv
  ·obtain ⟨a, o, xs, n, rfl, ho, hc, _⟩ := t
   exact ⟨a, o, rfl, ho, hc⟩
  ·exact pM r hv
theorem FG {vs : List Value} {fs : List (Option Value)} {Q : SortKind -> Shared -> Prop} (t : sK s.heap vs fs) (h2 : 0 < vs.length) (hi : ∀ f ∈ fs, ∀ u, f = some u -> ∃ i t, u = Value.int i t)
  (h : ∀ κ, (κ = tuples' true \/ κ = oneType' \/ κ = general') -> Q κ s) : wpAny M A (keyKind' vs.toArray) Q E s := by
 have hl : vs.length = fs.length := TW t
 by_cases all : ∀ f ∈ fs, f.isSome = true
 ·refine PySem.W.kat_kind (T := .type "int") (pN t all) ?_ (fun v hv => ?_) rfl (h _ (.inl rfl))
  ·cases fs with
   | nil => exact absurd hl (fun z => by rw [z] at h2; exact absurd h2 (by simp))
   | cons f fs =>
    have := all f Sv
    cases f with
    | none => cases this
    | some u => simp
  ·obtain ⟨f, hf, e⟩ := List.mem_filterMap.mp hv
   obtain ⟨i, t, rfl⟩ := hi f hf v e
   exact PySem.W.Looks.of_pure rfl
 ·rw [kat_kind_eq, List.mapM_toArray, map_eq_pure_bind]
  refine Sn (Sn (xa vs _ t (So ?_)))
  have xR : ¬ (fs.toArray.all fun x => x.isSome) = true := by
   intro z
   refine all fun f hf => ?_
   rw [List.all_toArray, TB] at z
   exact z f hf
  rw [if_neg xR]
  by_cases c : (fs.toArray[0]?.bind id).isSome = true
  ·rw [if_pos c]; exact So (h _ (.inr (.inr rfl)))
  ·rw [if_neg c, oneTypeOnly'_eq, List.mapM_toArray, map_eq_pure_bind]
   refine Sn (Sn (Sn (PySem.W.kas_mapM (r := .type "tuple") _ (fun v hv Q' hq => ?_) (So ?_))))
   ·obtain ⟨a, o, rfl, ho, hc⟩ := pM t hv
    have lk : PySem.W.Looks M s.heap (typeOf (.ref a)) o.cls := (PySem.W.Looks.ld ho).andThen .now
    rw [hc] at lk
    exact lk.here hq
   ·obtain ⟨v, vr, rfl⟩ : ∃ v vr, vs = v :: vr := by
     cases vs with
     | nil => simp at h2
     | cons v vr => exact ⟨v, vr, rfl⟩
    have GG : ((List.map (fun _ => Value.type "tuple") (v :: vr)).toArray.all fun x => x == Value.type "tuple") = true := by
     simp only [List.all_toArray, List.all_map, TB]
     intro _ _
     rfl
    have h0 : (List.map (fun _ => Value.type "tuple") (v :: vr)).toArray[0]? = some (Value.type "tuple") := by simp
    rw [h0]
    simp only [GG, T9]
    exact So (So (h _ (.inr (.inl rfl))))
end
theorem zc {a b : List Int} (h : HT.lexLt a b = true) : HT.lexLt b a = false := by
 cases q : HT.lexLt b a with
 | false => rfl
 | true => have := lex_trans h q; rw [gv] at this; cases this
def jO (gs : List (List Int)) : List Nat := (List.range gs.length).mergeSort fun i j => !HT.lexLt (gs.getD j []) (gs.getD i [])
def yE (gs : List (List Int)) : List (List Int) := (jO gs).map fun i => gs.getD i []
theorem gL (gs : List (List Int)) : (jO gs).Perm (List.range gs.length) := List.mergeSort_perm _ _
theorem fS {gs : List (List Int)} {i : Nat} (h : i ∈ jO gs) : i < gs.length := List.mem_range.mp ((gL gs).mem_iff.mp h)
theorem eW (gs : List (List Int)) : (yE gs).Perm gs := by
 have := (gL gs).map fun i => gs.getD i []
 rw [hV] at this
 exact this
theorem se (gs : List (List Int)) : (jO gs).Pairwise fun i j => (!HT.lexLt (gs.getD j []) (gs.getD i [])) = true := by
 refine List.pairwise_mergeSort (fun a b c h1 h2 => ?_) (fun a b => ?_) _
 ·have h1 : HT.lexLt (gs.getD b []) (gs.getD a []) = false := by simpa using h1
  have h2 : HT.lexLt (gs.getD c []) (gs.getD b []) = false := by simpa using h2
  cases q : HT.lexLt (gs.getD c []) (gs.getD a []) with
  | false => rfl
  | true =>
   by_cases e : gs.getD b [] = gs.getD c []
   ·rw [e, q] at h1; cases h1
   ·have := jd (UT e) h2
    rw [lex_trans this q] at h1; cases h1
 ·cases q : HT.lexLt (gs.getD b []) (gs.getD a []) with
  | false => rfl
  | true => rw [zc q]; rfl
theorem km {α : Type} : ∀ {l : List α}, l.Nodup -> ∀ {i j : Nat} (hi : i < l.length) (hj : j < l.length), l[i] = l[j] -> i = j
 | [], _, _, _, hi, _, _ => absurd hi (by simp)
 | a :: l, nd, 0, 0, _, _, _ => rfl
 | a :: l, nd, 0, j + 1, _, hj, e => by
  have e : a = l[j]'(by simpa using hj) := e
  exact absurd (e ▸ Ui _) (TL.mp nd).1
 | a :: l, nd, i + 1, 0, hi, _, e => by
  have e : l[i]'(by simpa using hi) = a := e
  exact absurd (e ▸ Ui _) (TL.mp nd).1
 | a :: l, nd, i + 1, j + 1, hi, hj, e => by rw [km (TL.mp nd).2 (i := i) (j := j) (by simpa using hi) (by simpa using hj) e]
theorem u8 {gs : List (List Int)} (nd : gs.Nodup) {i j : Nat} (hi : i < gs.length) (hj : j < gs.length) (h : i ≠ j) : gs.getD i [] ≠ gs.getD j [] := by
 intro e
 rw [SL, SL, Sw hi, Sw hj] at e
 exact h (km nd hi hj e)
theorem mz {gs : List (List Int)} (nd : gs.Nodup) : (jO gs).Pairwise fun i j => HT.lexLt (gs.getD i []) (gs.getD j []) = true := by
 have n1 : (jO gs).Nodup := (gL gs).nodup_iff.mpr List.nodup_range
 refine Uk (fun {i j} hi hj h => ?_) ((se gs).and n1)
 have h1 : HT.lexLt (gs.getD j []) (gs.getD i []) = false := by simpa using h.1
 exact jd (UT (u8 nd (fS hi) (fS hj) h.2)) h1
theorem tD {gs : List (List Int)} (nd : gs.Nodup) : (yE gs).Pairwise fun g k => HT.lexLt g k = true := by
 unfold yE
 rw [Tu]
 exact mz nd
def rY (gs : List (List Int)) (g : List Int) : Nat := gs.countP fun x => HT.lexLt x g
theorem nj {gs : List (List Int)} {g k : List Int} (hg : g ∈ gs) : decide (rY gs g < rY gs k) = HT.lexLt g k := by
 cases e : HT.lexLt g k with
 | true => exact SE (mj (f := fun x => HT.lexLt x g) (g := fun x => HT.lexLt x k) (fun x hx => lex_trans hx e) (gv g) e hg)
 | false =>
  refine SW (Nat.not_lt.mpr ?_)
  by_cases q : g = k
  ·rw [q]; exact Ss _
  ·exact countP_le (f := fun x => HT.lexLt x k) (g := fun x => HT.lexLt x g) (fun x hx => lex_trans hx (jd q e)) gs
def rz (h : Heap) (v : Value) (g : List Int) : Prop := ∃ a, v = .ref a /\ fH h a g
open Classical in
noncomputable def dI (h : Heap) (v : Value) : List Int := if e : ∃ g, rz h v g then Classical.choose e else []
theorem oE {h : Heap} {v : Value} {g : List Int} (e : rz h v g) : dI h v = g := by
 unfold dI
 rw [dif_pos ⟨g, e⟩]
 obtain ⟨a, e1, t1⟩ := e
 obtain ⟨b, e2, t2⟩ := Classical.choose_spec (⟨g, a, e1, t1⟩ : ∃ g, rz h v g)
 rw [e1] at e2; cases e2
 exact t2.inj t1
theorem zB {α : Type} {rk : α -> Nat} : ∀ {l m : List α}, l.Pairwise (fun x y => rk x < rk y) -> m.Pairwise (fun x y => rk x < rk y) -> (∀ x, x ∈ l ↔ x ∈ m) -> l = m
 | [], [], _, _, _ => rfl
 | [], b :: r, _, _, h => absurd ((h b).mpr Sv) (by simp)
 | a :: l, [], _, _, h => absurd ((h a).mp Sv) (by simp)
 | a :: l, b :: r, h1, h2, h => by
  obtain ⟨ha, hl⟩ := Tq.mp h1
  obtain ⟨hb, hr⟩ := Tq.mp h2
  have e : a = b := by
   rcases Sx.mp ((h a).mp Sv) with e | e
   ·exact e
   ·rcases Sx.mp ((h b).mpr Sv) with e' | e'
    ·exact e'.symm
    ·have := hb a e; have := ha b e'; omega
  subst e
  have t : l = r := by
   refine zB hl hr fun x => ⟨fun hx => ?_, fun hx => ?_⟩
   ·rcases Sx.mp ((h x).mp (Su _ hx)) with e | e
    ·have := ha x hx; rw [e] at this; omega
    ·exact e
   ·rcases Sx.mp ((h x).mpr (Su _ hx)) with e | e
    ·have := hb x hx; rw [e] at this; omega
    ·exact e
  rw [t]
section
variable {prog : Program} {w : World} {A : Around} {E : Value -> Shared -> Prop} {s : Shared}
theorem Av {κ : SortKind} (hκ : κ = tuples' true \/ κ = oneType' \/ κ = general') {g k : List Int} {a b : Addr} {Q : Bool -> Shared -> Prop} (hu : A.units < cLine) (hx : fH s.heap a g) (hy : fH s.heap b k) (h : Q (HT.lexLt g k) s) :
  wpAny (model prog w) A (keyLt' κ (.ref a) (.ref b)) Q E s := by
 rcases hκ with rfl | rfl | rfl
 ·obtain ⟨xs, rx, oa, yP, _, na, yW⟩ := hx
  obtain ⟨ys, ry, ob, lI, _, nb, nY⟩ := hy
  refine PySem.W.kat_lt yP yW lI nY ?_
  rw [List.toList_toArray, List.toList_toArray]
  exact uz _ _ _ _ 0 rx ry (by simp) h
 ·rw [keyLt'_oneType]; exact iO hu hx hy h
 ·show wpAny _ _ (oneLt' false _ _) _ _ _
  exact iO hu hx hy h
theorem uF {P : Program} {H : Hp} {h : Heap} (ok : iA P w H h) : ∀ {gs : List (List Int)} {vs : List V} {us : List Value}, bK H (gs.map fun g => .tuple (g.map PyData.int)) vs -> Vals vs us -> ∃ fs, sK h us fs /\ (∀ f ∈ fs, ∀ u, f = some u -> ∃ i t, u = Value.int i t) /\ Paired (rz h) us gs
 | [], _, _, .nil, .nil => ⟨[], .nil, (fun _ z => by cases z), .nil⟩
 | g :: gs, _, _, .cons hd ht, .cons r rr => by
  obtain ⟨fs, h1, h2, h3⟩ := uF ok ht rr
  obtain ⟨a, vs, rfl, ha, hv⟩ := hd.eV
  cases hv.kD
  cases r
  obtain ⟨_, au, rv, o, ho, hc, n, Nk⟩ := ok a _ ha
  refine ⟨au.toArray[0]? :: fs, .cons ⟨a, o, _, n, rfl, ho, hc, Nk, rfl⟩ h1, fun f hf u e => ?_, .cons ⟨a, rfl, au, rv, o, ho, hc, n, Nk⟩ h3⟩
  rcases Sx.mp hf with rfl | z
  ·cases g with
   | nil => cases rv; simp at e
   | cons x g =>
    cases rv with
    | @cons _ u' _ us ru _ =>
     obtain ⟨t, rfl⟩ := ru
     simp at e
     exact ⟨x, t, e.symm⟩
  ·exact h2 f z u e
theorem wC {h : Heap} : ∀ {us : List Value} {gs : List (List Int)}, Paired (rz h) us gs -> us.map (dI h) = gs
 | [], _, .nil => rfl
 | _ :: _, _ :: _, .cons e r => by rw [SN, oE e, wC r]
theorem uB {h : Heap} {v : Value} : ∀ {us : List Value} {gs : List (List Int)}, Paired (rz h) us gs -> v ∈ us -> ∃ g ∈ gs, rz h v g
 | _, _, .nil, hv => by cases hv
 | _ :: _, _ :: _, .cons e r, hv => by
  rcases Sx.mp hv with rfl | hv
  ·exact ⟨_, Sv, e⟩
  ·obtain ⟨g, h1, h2⟩ := uB r hv
   exact ⟨g, Su _ h1, h2⟩
theorem lD {α β : Type} (f : α -> β) : ∀ l : List α, (l.zip l).map (fun x => f x.1) = l.map f
 | [] => rfl
 | a :: l => by rw [UL, SN, SN, lD f l]
theorem gW {α : Type} {x : α × α} : ∀ {l : List α}, x ∈ l.zip l -> x.1 ∈ l /\ x.1 = x.2
 | [], h => by cases h
 | a :: l, h => by
  rw [UL] at h
  rcases Sx.mp h with rfl | h
  ·exact ⟨Sv, rfl⟩
  ·obtain ⟨h1, h2⟩ := gW h
   exact ⟨Su _ h1, h2⟩
theorem mem_zip_self {α : Type} {x : α} : ∀ {l : List α}, x ∈ l -> (x, x) ∈ l.zip l
 | a :: l, h => by
  rw [UL]
  rcases Sx.mp h with rfl | h
  ·exact Sv
  ·exact Su _ (mem_zip_self h)
theorem zk {κ : SortKind} (hκ : κ = tuples' true \/ κ = oneType' \/ κ = general') {us : List Value} {gs : List (List Int)} (hu : A.units < cLine) (hk : Paired (rz s.heap) us gs) (nd : gs.Nodup) :
  wpAny (model prog w) A ((sortRuns').run (SortSt.mk' κ (us.toArray.zip us.toArray) #[] 7 none)) (fun r s2 => s2 = s /\ failedOf r.2 = none /\ (arrOf r.2).map (·.2) = ((jO gs).map fun i => us.getD i Value.none).toArray) E s := by
 have lp : us.length = gs.length := hk.length
 have zl : (us.toArray.zip us.toArray).toList = us.zip us := by simp
 have gm := wC hk
 have zz : (us.zip us).map (fun x => rY gs (dI s.heap x.1)) = gs.map (rY gs) := by
  rw [lD (fun v => rY gs (dI s.heap v)) us]
  have e := TR (List.map (rY gs)) gm
  rw [Tg] at e
  exact e
 have M9 : ∀ i, i < gs.length -> dI s.heap (us.getD i Value.none) = gs.getD i [] := fun i hi => by
  have e : (us.map (dI s.heap))[i]? = gs[i]? := by rw [gm]
  rw [SH, Sw (by omega), Sw hi] at e
  rw [SL, SL, Sw (show i < us.length by omega), Sw hi]
  exact Tw e
 have IS : (gs.map (rY gs)).Nodup := by
  refine List.Pairwise.map _ (R := fun p q => p ∈ gs /\ q ∈ gs /\ p ≠ q) (fun p q h e => ?_) ?_
  ·have e1 := nj (k := q) h.1
   have e2 := nj (k := p) h.2.1
   rw [e] at e1 e2
   rw [SW (TM _)] at e1
   rw [SW (TM _)] at e2
   have := jd h.2.2 e1.symm
   rw [<- e2] at this
   cases this
  ·exact Uk (fun {p q} hp hq ql => ⟨hp, hq, ql⟩) nd
 refine SO.tG (prog := prog) (w := w) (A := A) (E := E) (s := s) (rk := fun x => rY gs (dI s.heap x.1)) (S := fun x => ∃ g ∈ gs, rz s.heap x.1 g) (kd := κ) (a₀ := us.toArray.zip us.toArray) (st := SortSt.mk' κ (us.toArray.zip us.toArray) #[] 7 none)
  (Q := fun _ st => failedOf st = none /\ (arrOf st).map (·.2) = ((jO gs).map fun i => us.getD i Value.none).toArray) ?cmp ?mem ?nd rfl rfl rfl rfl ?fin
 case cmp =>
  intro x y st Q hx hy kk q
  obtain ⟨p, hp, e1⟩ := hx
  obtain ⟨p', Oh, e2⟩ := hy
  have ee : decide (rY gs (dI s.heap x.1) < rY gs (dI s.heap y.1)) = HT.lexLt p p' := by rw [oE e1, oE e2, nj hp]
  have q : Q (some (decide (rY gs (dI s.heap x.1) < rY gs (dI s.heap y.1)))) st := q
  rw [ee] at q
  rw [lt'_eq]
  refine SB (wpS_get ?_)
  refine SB (wpS_lift ?_)
  rw [kk]
  obtain ⟨a, ea, ta⟩ := e1
  obtain ⟨b, eb, tb⟩ := e2
  rw [ea, eb]
  refine UD (Av hκ hu ta tb ?_)
  exact ⟨rfl, SJ q⟩
 case mem =>
  intro x hx
  rw [zl] at hx
  exact uB hk (gW hx).1
 case nd => rw [zl, zz]; exact IS
 case fin =>
  intro st hp hf hs
  rw [zl] at hp
  refine ⟨hf, ?_⟩
  have zL : ((arrOf st).toList.map fun x => rY gs (dI s.heap x.1)).Nodup := (hp.map fun x => rY gs (dI s.heap x.1)).nodup_iff.mpr (by rw [zz]; exact IS)
  have Ra : (arrOf st).toList.Pairwise fun x y => rY gs (dI s.heap x.1) < rY gs (dI s.heap y.1) := by
   refine List.Pairwise.imp (fun {x y} h => ?_) (hs.and (Tu.mp zL))
   exact Nat.lt_of_le_of_ne h.1 h.2
  have Gk : ((jO gs).map fun i => (us.getD i Value.none, us.getD i Value.none)).Pairwise fun x y => rY gs (dI s.heap x.1) < rY gs (dI s.heap y.1) := by
   rw [Tu]
   refine Uk (fun {i j} hi hj h => ?_) (mz nd)
   rw [M9 i (fS hi), M9 j (fS hj)]
   have m : gs.getD i [] ∈ gs := by
    rw [SL, Sw (fS hi)]
    exact Ui _
   exact S1 ((nj m).trans h)
  have e := zB Ra Gk fun x => by
   rw [hp.mem_iff]
   constructor
   ·intro hx
    obtain ⟨h1, h2⟩ := gW hx
    obtain ⟨i, hi, e⟩ := TU.mp h1
    refine S9.mpr ⟨i, (gL gs).mem_iff.mpr (List.mem_range.mpr (by omega)), ?_⟩
    rw [SL, Sw hi]
    show (us[i], us[i]) = x
    rw [e]
    exact Prod.ext rfl h2
   ·intro hx
    obtain ⟨i, hi, e⟩ := S9.mp hx
    have pc : i < us.length := by rw [lp]; exact fS hi
    rw [<- e, SL, Sw pc]
    exact mem_zip_self (Ui pc)
  apply Array.ext'
  rw [Array.toList_map, e, Tg]
  simp
end
section
variable {X : Cx}
theorem rO (hu : X.A.units + 64 < cLine) : dh X (.builtin "sorted") (fun xs H Q => ∃ (p : Addr) (gs : List (List Int)) (vs : List V), xs = [.ref p] /\ H p = some (.lst vs) /\ bK H (gs.map fun g => .tuple (g.map PyData.int)) vs /\ gs.Nodup /\
  ∀ (l : Addr) (At : List V), H l = none -> bK H ((yE gs).map fun g => .tuple (g.map PyData.int)) At -> Q (.ref l) (upd H l (.lst At))) := by
 intro pins s σ H xs us Q I r h
 obtain ⟨p, gs, vs, rfl, hp, dv, nd, q⟩ := h
 obtain ⟨u, rfl, ru⟩ := vals1 r
 cases ru
 obtain ⟨hz, au, n, rv, eo⟩ := I.aP p _ hp
 have ln : au.length = gs.length := by rw [<- rv.length, <- dv.length, Sr]
 have lv : vs.length = gs.length := by rw [<- dv.length, Sr]
 have lo : (jO gs).length = gs.length := by rw [(gL gs).length_eq, List.length_range]
 refine yA (T := "list") (out := (jO gs).map fun i => au.getD i Value.none) (.inl rfl) eo rfl rfl (by omega) (by rw [Sr, lo, ln]) (fun h => ?_) (fun h2 h' kp => ?_) ?_
 ·have e : jO gs = List.range gs.length := by
   unfold jO
   have : gs.length = 0 \/ gs.length = 1 := by omega
   rcases this with z | z <;> rw [z] <;> simp [List.range_succ]
  rw [e, <- ln, hV]
 ·have QH : iA X.prog X.w H h' := I.aP.kept kp
  obtain ⟨fs, h1, h3, h4⟩ := uF QH dv rv
  refine FG h1 (by omega) h3 fun κ hκ => ⟨rfl, ?_⟩
  exact zk hκ (by show X.A.units + 1 + 1 < cLine; omega) h4 nd
 ·obtain ⟨e, he⟩ := sortedAll_at s.heap au ((jO gs).map fun i => au.getD i Value.none).toArray
  refine ⟨.ref (s.heap.objs.size + 1), _, I.laid (t' := s.toks) (o := .lst ((jO gs).map fun i => vs.getD i .cc)) (fun b o hb => sortedAll_old hb) (Uy _) ⟨by rw [Sr, lo]; omega, _, e, qu rv _ (fun i hi => by rw [lv]; exact fS hi), he⟩, rfl, q _ _ (I.aP.fresh (Uy _)) (uj dv _ fun i hi => fS hi)⟩
end
abbrev Old (h : Heap) (s : Shared) : Prop := ∀ a u, h.get? a = some u -> s.heap.get? a = some u
def DD (P : Program) (w : World) (A : Around) (h : Heap) (au : Array Value) (less : Nat -> Nat -> Bool) : Prop :=
 ∀ (i j : Nat) (x y : Value) (s : Shared) (Q E : Value -> Shared -> Prop), au[i]? = some x -> au[j]? = some y -> i ≠ j -> Old h s -> Q (.bool (less i j)) s -> wpAny (model P w) A (richCompare .Lt x y) Q E s
section
variable {P : Program} {w : World} {A : Around} {h : Heap} {l I S : Addr} {au : Array Value} {less : Nat -> Nat -> Bool} {R : Result -> Shared -> Prop}
abbrev Cb (x : Value) (c : Nat) : Obj := { cls := .type "list", dict := none, data := .seq #[x, x] c, slots := #[] }
theorem xq (hh : A.in1.handled = none) (hl : l ≠ I) (hS : S ≠ I) (IR : S ≠ l) (hI : h.get? I = none) (Gv : h.get? S = none) (ask : DD P w A.in1 h au less) : ∀ (k j : Nat) (s : Shared) (x : Value) (c : Nat), au.size - (j + 1) = k -> j + 1 <= au.size ->
  (s.heap.IsListIter I l (j + 1) /\ s.heap.IsList l au) -> au[argBest less j]? = some x -> s.heap.get? S = some (Cb x c) -> Old h s ->
  (∀ x' h' t', au[argBest less (au.size - 1)]? = some x' -> (∀ a u, h.get? a = some u -> h'.get? a = some u) -> R (.ok (.ret x')) { s with heap := h', toks := t' }) ->
  codeAny (model P w) A (.builtin "min.loop" ⟨[.ref I, .none, .ref S], []⟩) R s := by
 have W := Walks.list (prog := P) (w := w) hh I l hl au
 have nm : ("min" ++ ".loop" : String) = "min.loop" := by decide
 have HY : S ∉ [I] := fun z => hS (S7.mp z)
 have outF : ∀ b ∈ [I, l], S ≠ b := fun b hb z => by
  rcases Sx.mp hb with e | e
  ·exact hS (z.trans e)
  ·exact IR (z.trans (S7.mp e))
 intro k
 induction k with
 | zero =>
  intro j s x c ek ej st hx hs old fin
  have en : j + 1 = au.size := by omega
  refine codeAny_builtin F.entry_min_loop ?_
  rw [Around.under_plainId F.plain_min_loop]
  show wpAny _ _ (seqItems? (Value.ref S) >>= _) _ _ _
  refine Sn (Ul hs rfl ?_)
  show wpAny _ _ (tryCatch (pyNext (Value.ref I)) _ >>= _) _ _ _
  rw [en] at st
  refine Sn (wpAny_tryCatch (W.done s _ _ st fun h1 t1 kp => ?_))
  refine Sn (wpAny_updateSeq (kp S _ HY hs) rfl (Sn (wpAny_letGo (So ?_))))
  refine fin x _ t1 (by rw [<- en]; exact hx) fun a u e => ?_
  have na : a ≠ S := fun z => by rw [z, Gv] at e; cases e
  have ni : a ∉ [I] := fun z => by rw [S7.mp z, hI] at e; cases e
  exact (Heap.get?_update_other _ _ na.symm).trans (kp a u ni (old a u e))
 | succ k ih =>
  intro j s x c ek ej st hx hs old fin
  have lt : j + 1 < au.size := by omega
  have le := jX less j
  refine codeAny_builtin F.entry_min_loop ?_
  rw [Around.under_plainId F.plain_min_loop]
  show wpAny _ _ (seqItems? (Value.ref S) >>= _) _ _ _
  refine Sn (Ul hs rfl ?_)
  show wpAny _ _ (tryCatch (pyNext (Value.ref I)) _ >>= _) _ _ _
  refine Sn (wpAny_tryCatch (W.item (j + 1) s _ _ lt st fun y h1 t1 hy JF kp => ?_))
  have KB := kp S _ HY hs
  have Ag : ∀ a u, h.get? a = some u -> h1.get? a = some u := fun a u e => kp a u (fun z => by rw [S7.mp z, hI] at e; cases e) (old a u e)
  show wpAny _ _ (tryCatch (holding [y, y] (richCompare .Lt y x >>= _)) _ >>= _) _ _ _
  refine Sn (wpAny_tryCatch (TV (Sn (ask (j + 1) (argBest less j) y x _ _ _ hy hx (by omega) Ag ?_))))
  refine Sn (TV (TD (Sn (wpAny_letGo (So ?_)))))
  cases q : less (j + 1) (argBest less j) with
  | true =>
   have eb : argBest less (j + 1) = j + 1 := by unfold argBest; rw [if_pos q]
   simp only [T9]
   refine Sn (wpAny_updateSeq KB rfl (Sn (wpAny_letGo ?_)))
   refine So ⟨plainId_quiet F.plain_min_loop _, ?_⟩
   refine ih (j + 1) _ y _ (by omega) lt (W.frame _ _ _ JF fun b hb u e => (Heap.get?_update_other _ _ (outF b hb)).trans e) (by rw [eb]; exact hy) (Heap.get?_update_self _ KB rfl) (fun a u e => ?_) fun x' h' t' a1 a2 => fin x' h' t' a1 a2
   exact (Heap.get?_update_other _ _ (fun z => by rw [<- z, Gv] at e; cases e)).trans (Ag a u e)
  | false =>
   have eb : argBest less (j + 1) = argBest less j := by
    show (if less (j + 1) (argBest less j) = true then _ else _) = _
    rw [if_neg (by rw [q]; simp)]
   simp only [SU, Tr]
   refine Sn (wpAny_letGo ?_)
   exact So ⟨plainId_quiet F.plain_min_loop _, ih (j + 1) _ x c (by omega) lt JF (by rw [eb]; exact hx) KB Ag fun x' h' t' a1 a2 => fin x' h' t' a1 a2⟩
end
section
variable {prog : Program} {w : World} {A : Around} {E : Value -> Shared -> Prop} {s : Shared}
def gS (h : Heap) (v : Value) (k : Int × List Int) : Prop := ∃ a c t au, v = .ref a /\ IsTup h a (Value.int k.1 t :: .ref c :: au).toArray /\ fH h c k.2
theorem gS.old {h : Heap} {s : Shared} {v : Value} {k : Int × List Int} (x : gS h v k) (e : Old h s) : gS s.heap v k := by
 obtain ⟨a, c, t, au, rfl, ⟨o, ho, hc, n, hd⟩, Kh, rv, o2, tq, Bu, n2, hd2⟩ := x
 exact ⟨a, c, t, au, rfl, ⟨o, e _ _ ho, hc, n, hd⟩, Kh, rv, o2, e _ _ tq, Bu, n2, hd2⟩
theorem nP {x y : Value} {p q : Int × List Int} {R : PySem.Fin -> Shared -> Prop} (hu : A.units < cLine) (hx : gS s.heap x p) (hy : gS s.heap y q) (ne : p.2 ≠ q.2) (h : R (.done (.ret (.bool (aA p q)))) s) :
  wpAny (model prog w) A (Builtin.«tuple.__lt__» ⟨[x, y], []⟩) R E s := by
 obtain ⟨a, c, t, xs, rfl, ⟨oa, yP, FE, na, yW⟩, tc⟩ := hx
 obtain ⟨b, d, t', ys, rfl, ⟨ob, lI, PD, nb, nY⟩, td⟩ := hy
 have GC : s.TypeIs (.ref b) "tuple" := ⟨ob, lI, PD⟩
 show wpAny _ _ (isInstance (.ref b) (.type "tuple") >>= _) _ _ _
 refine Sn (Uh GC isSubtype_tuple_tuple ?_)
 simp only [TC, SU, Tr]
 refine Sn (Vf yP yW (Sn (Vf lI nY ?_)))
 refine Sn ?_
 simp only [UL]
 rw [T3]
 refine Sn (Sn (U1 ?_))
 unfold aA at h
 by_cases e : p.1 = q.1
 ·rw [if_pos e] at h
  rw [show (p.1 == q.1) = true from UC.mpr e]
  simp only [TC, SU, Tr]
  refine So ?_
  dsimp only
  rw [T3]
  refine Sn (Sn (iR hu tc td ?_))
  rw [SW ne]
  simp only [Bool.not_false, T9]
  refine Sn (Ug (Sn (sP hu tc td ?_)))
  exact Sn (So (So (So (So h))))
 ·rw [if_neg e] at h
  rw [show (p.1 == q.1) = false from TN.mpr e]
  simp only [Bool.not_false, T9]
  refine Sn (Ug (Sn (show wpAny (model prog w) A (compareOp .Lt (.int p.1 t) (.int q.1 t')) _ E s from lt_int ?_)))
  exact Sn (So (So (So (So h))))
theorem ym {x y : Value} {p q : Int × List Int} {Q : Value -> Shared -> Prop} (hu : A.units + 8 < cLine) (hx : gS s.heap x p) (hy : gS s.heap y q) (ne : p.2 ≠ q.2) (h : Q (.bool (aA p q)) s) :
  wpAny (model prog w) A (richCompare .Lt x y) Q E s := by
 have tx : s.TypeIs x "tuple" := by
  obtain ⟨a, _, _, _, rfl, ⟨o, ho, hc, _⟩, _⟩ := hx
  exact ⟨o, ho, hc⟩
 have ty : s.TypeIs y "tuple" := by
  obtain ⟨a, _, _, _, rfl, ⟨o, ho, hc, _⟩, _⟩ := hy
  exact ⟨o, ho, hc⟩
 exact wpAny_richCompare_same_room (op := .Lt) tx ty F.slot_tuple_lt
  (Tc F.slot_tuple_lt tx F.entry_tuple_lt (nP (by show A.units + 1 < cLine; omega) hx hy ne ⟨_, rfl, (fun e => nomatch e), h⟩) (F.args_tuple_lt_2 _ _)) (by omega)
theorem AT {l : Addr} {au : Array Value} {less : Nat -> Nat -> Bool} {Q : Value -> Shared -> Prop} (hh : A.handled = none) (hl : s.heap.IsList l au) (h0 : 0 < au.size) (ask : DD prog w A.in1 s.heap au less)
  (h : ∀ x h' t', au[argBest less (au.size - 1)]? = some x -> (∀ a u, s.heap.get? a = some u -> h'.get? a = some u) -> Q x { s with heap := h', toks := t' }) : wpAny (model prog w) A (call (.builtin "min") [.ref l]) Q E s := by
 have lt : l < s.heap.objs.size := let ⟨_, e, _⟩ := hl; SI e
 refine call_function_tree F.kind_min F.plain_min F.entry_min (F.args_min1 _) ?_
 refine Sn (m := Builtin.Builtins.bindParams "min" ["key", "default"] 0 ⟨[], []⟩) (wpAny_of_eq (a := [none, none]) rfl (Sn (So ?_)))
 refine Sn (mf hl fun s2 e2 st ql old => ?_)
 subst e2
 refine Sn (Ti ?_)
 have W := Walks.list (prog := prog) (w := w) (A := A.in1) hh s.heap.objs.size l ql au
 have sz : (s.heap.push { cls := .type "list_iterator", data := .fields #[.ref l, .int 0 0] }).objs.size = s.heap.objs.size + 1 := UG ..
 have nm : (toString "min" ++ toString ".loop" : String) = "min.loop" := by decide
 rw [nm]
 refine So ⟨plainId_quiet F.plain_min_loop _, codeAny_builtin F.entry_min_loop ?_⟩
 rw [Around.under_plainId F.plain_min_loop]
 have hS : ((s.heap.push { cls := .type "list_iterator", data := .fields #[.ref l, .int 0 0] }).push { cls := .type "list", data := .seq #[] }).get? (s.heap.push { cls := .type "list_iterator", data := .fields #[.ref l, .int 0 0] }).objs.size = some { cls := .type "list", data := .seq #[] } := SC _ rfl
 have Jm : (s.heap.push { cls := .type "list_iterator", data := .fields #[.ref l, .int 0 0] }).objs.size ≠ s.heap.objs.size := by rw [sz]; exact Nat.succ_ne_self _
 have IR : (s.heap.push { cls := .type "list_iterator", data := .fields #[.ref l, .int 0 0] }).objs.size ≠ l := by rw [sz]; exact UZ (Nat.lt_succ_of_lt lt)
 have Gv : s.heap.get? (s.heap.push { cls := .type "list_iterator", data := .fields #[.ref l, .int 0 0] }).objs.size = none := UA (by rw [sz]; exact Uy _)
 generalize (s.heap.push { cls := .type "list_iterator", data := .fields #[.ref l, .int 0 0] }).objs.size = S at hS Jm IR Gv ⊢
 show wpAny _ _ (seqItems? (Value.ref S) >>= _) _ _ _
 refine Sn (Ul hS rfl ?_)
 show wpAny _ _ (tryCatch (pyNext (Value.ref s.heap.objs.size)) _ >>= _) _ _ _
 refine Sn (wpAny_tryCatch (W.item 0 _ _ _ h0 (W.frame _ _ _ st fun b _ u e => Sq _ e) fun y h1 t1 hy JF kp => ?_))
 have Mi := kp S _ (fun z => Jm (S7.mp z)) hS
 have Ag : ∀ a u, s.heap.get? a = some u -> h1.get? a = some u := fun a u e => kp a u (fun z => by
  rw [S7.mp z] at e
  exact absurd (SI e) (TM _)) (Sq _ (Sq _ e))
 show wpAny _ _ (updateSeq S (fun _ => #[y, y]) >>= _) _ _ _
 refine Sn ?_
 refine wpAny_updateSeq Mi rfl ?_
 rw [nm]
 refine So ⟨plainId_quiet F.plain_min_loop _, xq (h := s.heap) (l := l) (I := s.heap.objs.size) (S := S) hh ql Jm IR (UA (Ss _)) Gv ask _ 0 _ y _ rfl h0 (W.frame _ _ _ JF fun b hb u e => ?_) hy (Heap.get?_update_self _ Mi rfl) (fun a u e => ?_) fun x' h' t' a1 a2 => h x' h' t' a1 a2⟩
 ·refine (Heap.get?_update_other _ _ fun z => ?_).trans e
  rcases Sx.mp hb with q | q
  ·exact Jm (z.trans q)
  ·exact IR (z.trans (S7.mp q))
 ·exact (Heap.get?_update_other _ _ (fun z => by rw [<- z, Gv] at e; cases e)).trans (Ag a u e)
theorem p8 {α β : Type} {R : α -> β -> Prop} : ∀ {l : List α} {m : List β} {i : Nat} {x : α}, Paired R l m -> l[i]? = some x -> ∃ y, m[i]? = some y /\ R x y
 | [], _, _, _, .nil, e => by simp at e
 | _ :: _, _ :: _, 0, x, .cons h _, e => by simp at e; subst e; exact ⟨_, rfl, h⟩
 | _ :: _, _ :: _, i + 1, x, .cons _ r, e => by
  obtain ⟨y, h1, h2⟩ := p8 (i := i) (x := x) r (by simpa using e)
  exact ⟨y, by simpa using h1, h2⟩
end
theorem mD {ks : List (Int × List Int)} : ∀ (n : Nat), n < ks.length -> ∀ j, j <= n -> (ks.getD (argBest (fun i j => aA (ks.getD i (0, [])) (ks.getD j (0, []))) n) (0, [])).1 <= (ks.getD j (0, [])).1
 | 0, _, j, hj => by
  have : j = 0 := by omega
  subst this; exact Int.le_refl _
 | n + 1, hn, j, hj => by
  have ih := mD (ks := ks) n (by omega)
  unfold argBest
  generalize argBest (fun i j => aA (ks.getD i (0, [])) (ks.getD j (0, []))) n = b at ih ⊢
  have less : ∀ {p q : Int × List Int}, aA p q = true -> p.1 <= q.1 := fun {p q} h => by
   unfold aA at h
   by_cases e : p.1 = q.1
   ·omega
   ·rw [if_neg e] at h; have := S1 h; omega
  have Ik : ∀ {p q : Int × List Int}, aA p q = false -> q.1 <= p.1 := fun {p q} h => by
   unfold aA at h
   by_cases e : p.1 = q.1
   ·omega
   ·rw [if_neg e] at h; have := of_decide_eq_false h; omega
  split
  ·rename_i h
   by_cases e : j = n + 1
   ·subst e; exact Int.le_refl _
   ·have := ih j (by omega)
    have := less h
    omega
  ·rename_i h
   by_cases e : j = n + 1
   ·subst e; exact Ik (by simpa using h)
   ·exact ih j (by omega)
section
variable {X : Cx}
def EV (H : Hp) (v : V) (k : Int × List Int) : Prop := ∃ a b rest, v = .ref a /\ H a = some (.tup (.int k.1 :: .ref b :: rest)) /\ H b = some (.tup (k.2.map V.int))
theorem xw {P : Program} {w : World} {H : Hp} {h : Heap} (ok : iA P w H h) {v : V} {u : Value} {k : Int × List Int} (x : EV H v k) (r : RelV v u) : gS h u k := by
 obtain ⟨a, b, rest, rfl, h1, h2⟩ := x
 cases r
 obtain ⟨_, au, rv, o, ho, hc, n, hd⟩ := ok a _ h1
 obtain ⟨_, Kh, Hd, t2⟩ := ok b _ h2
 cases rv with
 | cons ra rb =>
  obtain ⟨t, rfl⟩ := ra
  cases rb with
  | cons rc rd =>
   cases rc
   exact ⟨a, b, t, _, rfl, ⟨o, ho, hc, n, hd⟩, Kh, Hd, t2⟩
theorem xZ (hc : X.calm = true) (hu : X.A.units + 64 < cLine) : dh X (.builtin "min") (fun xs H Q => ∃ (p : Addr) (vs : List V) (ks : List (Int × List Int)), xs = [.ref p] /\ bz X.K H p vs /\ Paired (EV H) vs ks /\ (ks.map (·.2)).Nodup /\ vs ≠ [] /\
  ∀ (i : Nat) (v : V) (k : Int × List Int), vs[i]? = some v -> ks[i]? = some k -> (∀ k' ∈ ks, k.1 <= k'.1) -> Q v H) := by
 intro pins s σ H xs us Q I r h
 obtain ⟨p, vs, ks, rfl, hp, pr, nd, ne, q⟩ := h
 obtain ⟨u, rfl, ru⟩ := vals1 r
 cases ru
 obtain ⟨au, rv, pl, _⟩ := I.list hp
 have l1 : vs.length = au.length := rv.length
 have l2 : vs.length = ks.length := pr.length
 have lp : 0 < vs.length := U6.mpr ne
 have bg : ∀ (i : Nat) (x : Value), au[i]? = some x -> gS s.heap x (ks.getD i (0, [])) /\ i < ks.length := fun i x hx => by
  have hi : i < au.length := (SR.mp hx).1
  have hv : vs[i]? = some (vs[i]'(by omega)) := Sw (by omega)
  obtain ⟨u', rZ, Lv⟩ := rv.get hv
  rw [hx] at rZ
  cases rZ
  obtain ⟨k, hk, kp⟩ := p8 pr hv
  refine ⟨?_, by omega⟩
  rw [SL, hk]
  exact xw I.aP kp Lv
 have gd : ∀ {i : Nat}, i < ks.length -> ks[i]? = some (ks.getD i (0, [])) := fun {i} hi => by rw [SL, Sw hi]; rfl
 refine AT (less := fun i j => aA (ks.getD i (0, [])) (ks.getD j (0, []))) (I.ok.hd hc) pl.isList (by rw [SG]; omega) (fun i j x y s' Q' E' hx hy yT old hq => ?_) fun x h' t' hx kp => ?_
 ·obtain ⟨b1, i1⟩ := bg i x (by simpa using hx)
  obtain ⟨b2, i2⟩ := bg j y (by simpa using hy)
  refine ym (by show X.A.units + 1 + 8 < cLine; omega) (b1.old old) (b2.old old) (fun e => yT ?_) hq
  refine km nd (by rw [Sr]; exact i1) (by rw [Sr]; exact i2) ?_
  rw [List.getElem_map, List.getElem_map]
  have e1 := gd i1
  have e2 := gd i2
  rw [Sw i1] at e1
  rw [Sw i2] at e2
  rw [Tw e1, Tw e2]
  exact e
 ·rw [SG] at hx
  have pJ : au[argBest (fun i j => aA (ks.getD i (0, [])) (ks.getD j (0, []))) (au.length - 1)]? = some x := by simpa using hx
  have ab := mD (ks := ks) (au.length - 1) (by omega)
  generalize argBest (fun i j => aA (ks.getD i (0, [])) (ks.getD j (0, []))) (au.length - 1) = b at pJ ab
  have hb : b < au.length := (SR.mp pJ).1
  have hv : vs[b]? = some (vs[b]'(by omega)) := Sw (by omega)
  obtain ⟨u', rZ, Lv⟩ := rv.get hv
  rw [pJ] at rZ
  cases rZ
  refine ⟨_, H, I.kept (t' := t') kp, Lv, q b _ _ hv (gd (by omega)) fun k' Kl => ?_⟩
  obtain ⟨j, hj, e⟩ := TU.mp Kl
  have := ab j (by omega)
  rw [SL (i := j), Sw hj, e] at this
  exact this
end
end L2
namespace Sh
section
variable {α : Type} [DecidableEq α]
abbrev Mp (α : Type) := List (α × Int)
def lk (f : Mp α) (k : α) : Option Int := (f.find? fun x => decide (x.1 = k)).map (·.2)
def put (f : Mp α) (k : α) (v : Int) : Mp α := if (lk f k).isSome then f.map (fun x => if x.1 = k then (x.1, v) else x) else f ++ [(k, v)]
def eqB (f g : Mp α) : Bool := f.length == g.length && f.all fun p => decide (lk g p.1 = some p.2)
theorem qW (k : α) : lk [] k = none := rfl
theorem eE (p : α × Int) (f : Mp α) (k : α) : lk (p :: f) k = if p.1 = k then some p.2 else lk f k := by
 unfold lk
 rw [Ur]
 by_cases e : p.1 = k
 ·rw [if_pos e, SE e]; rfl
 ·rw [if_neg e, SW e]
theorem wa {f : Mp α} {k : α} {v : Int} (h : lk f k = some v) : (k, v) ∈ f := by
 induction f with
 | nil => rw [qW] at h; cases h
 | cons p f ih =>
  rw [eE] at h
  by_cases e : p.1 = k
  ·rw [if_pos e] at h
   cases h
   rw [<- e]; exact Sv
  ·rw [if_neg e] at h
   exact Su _ (ih h)
theorem rG {f : Mp α} {k : α} {v : Int} (h : lk f k = some v) : k ∈ f.map (·.1) := Ts (f := fun x : α × Int => x.1) (wa h)
theorem wo {f : Mp α} {k : α} : lk f k = none ↔ k ∉ f.map (·.1) := by
 induction f with
 | nil => simp [qW]
 | cons p f ih =>
  rw [eE, SN, Sx]
  by_cases e : p.1 = k
  ·rw [if_pos e]; simp [e]
  ·rw [if_neg e, ih]
   exact ⟨fun h z => z.elim (fun z => e z.symm) h, fun h z => h (.inr z)⟩
theorem Eh {f : Mp α} (nd : (f.map (·.1)).Nodup) {p : α × Int} (h : p ∈ f) : lk f p.1 = some p.2 := by
 induction f with
 | nil => cases h
 | cons q f ih =>
  rw [SN, TL] at nd
  rw [eE]
  rcases Sx.mp h with e | h
  ·rw [if_pos (by rw [e]), e]
  ·rw [if_neg (fun e => nd.1 (by rw [e]; exact Ts (f := fun x : α × Int => x.1) h))]
   exact ih nd.2 h
theorem FW (f g : Mp α) (k : α) : lk (f ++ g) k = (lk f k).or (lk g k) := by
 induction f with
 | nil => rfl
 | cons p f ih =>
  rw [List.cons_append, eE, eE, ih]
  by_cases e : p.1 = k
  ·rw [if_pos e, if_pos e]; rfl
  ·rw [if_neg e, if_neg e]
theorem Cd (f : Mp α) (k j : α) (v : Int) : lk (f.map fun x => if x.1 = k then (x.1, v) else x) j = if j = k then (lk f j).map (fun _ => v) else lk f j := by
 induction f with
 | nil => by_cases e : j = k <;> simp [e, qW]
 | cons p f ih =>
  rw [SN, eE, eE, ih]
  by_cases e1 : p.1 = k
  ·rw [if_pos e1]
   by_cases e2 : j = k
   ·simp [e2, e1]
   ·have : ¬ p.1 = j := fun z => e2 (z.symm.trans e1)
    simp [this, e2]
  ·rw [if_neg e1]
   by_cases e2 : j = k
   ·have : ¬ p.1 = j := fun z => e1 (z.trans e2)
    rw [if_pos e2, if_neg this, if_pos e2, if_neg this]
   ·simp [e2]
theorem u9 (f : Mp α) (k j : α) (v : Int) : lk (put f k v) j = if j = k then some v else lk f j := by
 unfold put
 by_cases h : (lk f k).isSome = true
 ·rw [if_pos h, Cd]
  by_cases e : j = k
  ·rw [if_pos e, if_pos e, e]
   cases q : lk f k with
   | none => rw [q] at h; cases h
   | some u => rfl
  ·rw [if_neg e, if_neg e]
 ·rw [if_neg h, FW, eE]
  have h' : lk f k = none := by cases q : lk f k with
   | none => rfl
   | some u => rw [q] at h; exact absurd rfl h
  by_cases e : j = k
  ·rw [if_pos e, if_pos e.symm, e, h']; rfl
  ·rw [if_neg e, if_neg (fun z => e z.symm), qW]
   cases lk f j <;> rfl
theorem pX (f : Mp α) (k : α) (v : Int) : (f.map fun x => if x.1 = k then (x.1, v) else x).map (·.1) = f.map (·.1) := by
 rw [Tg]
 refine U5 fun x _ => ?_
 show (if x.1 = k then (x.1, v) else x).1 = x.1
 by_cases e : x.1 = k
 ·rw [if_pos e]
 ·rw [if_neg e]
theorem yq {f : Mp α} {k : α} {v : Int} (nd : (f.map (·.1)).Nodup) : ((put f k v).map (·.1)).Nodup := by
 unfold put
 by_cases h : (lk f k).isSome = true
 ·rw [if_pos h, pX]; exact nd
 ·rw [if_neg h, Sz, List.nodup_append]
  refine ⟨nd, by simp, fun a ha b hb e => ?_⟩
  have e2 : b = k := by simpa using hb
  have h' : lk f k = none := by cases q : lk f k with
   | none => rfl
   | some u => rw [q] at h; exact absurd rfl h
  exact wo.mp h' (by rw [<- e2, <- e]; exact ha)
theorem zU {f : Mp α} {k j : α} {v : Int} (h : j ∈ (put f k v).map (·.1)) : j ∈ f.map (·.1) \/ j = k := by
 unfold put at h
 by_cases h' : (lk f k).isSome = true
 ·rw [if_pos h', pX] at h; exact .inl h
 ·rw [if_neg h', Sz, S0] at h
  exact h.imp id fun z => by simpa using z
theorem sub_len : ∀ {l m : List α}, l.Nodup -> (∀ x ∈ l, x ∈ m) -> l.length <= m.length
 | [], _, _, _ => S4 _
 | a :: l, m, nd, h => by
  rw [TL] at nd
  have ha := h a Sv
  have := sub_len (m := m.erase a) nd.2 fun x hx => (List.mem_erase_of_ne (fun e => nd.1 (by rw [<- e]; exact hx))).mpr (h x (Su _ hx))
  rw [List.length_erase_of_mem ha] at this
  have := List.length_pos_of_mem ha
  simp only [To]
  omega
theorem CT {l m : List α} (nd : l.Nodup) (h : ∀ x ∈ l, x ∈ m) (hl : m.length <= l.length) : ∀ x ∈ m, x ∈ l := by
 intro x hx
 by_cases q : x ∈ l
 ·exact q
 ·have := sub_len (l := l) (m := m.erase x) nd fun y hy => (List.mem_erase_of_ne (fun e => q (by rw [<- e]; exact hy))).mpr (h y hy)
  rw [List.length_erase_of_mem hx] at this
  have := List.length_pos_of_mem hx
  omega
theorem y8 {f g : Mp α} (nf : (f.map (·.1)).Nodup) (h : eqB f g = true) (k : α) : lk f k = lk g k := by
 unfold eqB at h
 rw [Td] at h
 have hl : f.length = g.length := eq_of_beq h.1
 have ha : ∀ p ∈ f, lk g p.1 = some p.2 := fun p hp => S1 (TB.mp h.2 p hp)
 cases q : lk f k with
 | some v => exact (ha _ (wa q)).symm
 | none =>
  cases q2 : lk g k with
  | none => rfl
  | some v =>
   have := CT (l := f.map (·.1)) (m := g.map (·.1)) nf (fun x hx => by
    obtain ⟨p, hp, rfl⟩ := S9.mp hx
    exact rG (ha p hp)) (by rw [Sr, Sr]; omega) k (rG q2)
   exact absurd this (wo.mp q)
theorem zx {f g : Mp α} (nf : (f.map (·.1)).Nodup) (ng : (g.map (·.1)).Nodup) (h : ∀ k, lk f k = lk g k) : eqB f g = true := by
 unfold eqB
 have sub : ∀ {f g : Mp α}, (f.map (·.1)).Nodup -> (∀ k, lk f k = lk g k) -> f.length <= g.length := fun {f g} nf h => by
  have := sub_len (l := f.map (·.1)) (m := g.map (·.1)) nf fun x hx => by
   obtain ⟨p, hp, rfl⟩ := S9.mp hx
   have e := Eh nf hp
   rw [h] at e
   exact rG e
  rwa [Sr, Sr] at this
 rw [Td]
 refine ⟨UC.mpr (Nat.le_antisymm (sub nf h) (sub ng fun k => (h k).symm)), TB.mpr fun p hp => SE ?_⟩
 rw [<- h]; exact Eh nf hp
inductive Walk (E : α -> Int -> α -> Prop) (e : α) : α -> Int -> Prop
 | nil : Walk E e e 0
 | cons {s b : α} {m v : Int} : E s m b -> Walk E e b v -> Walk E e s (m + v)
variable {E : α -> Int -> α -> Prop} {e : α}
def Sound (E : α -> Int -> α -> Prop) (e : α) (f : Mp α) : Prop := ∀ s v, lk f s = some v -> Walk E e s v
def l7 (E : α -> Int -> α -> Prop) (f : Mp α) : Prop := ∀ s m b v, E s m b -> lk f b = some v -> ∃ u, lk f s = some u /\ u <= m + v
def Based (e : α) (f : Mp α) : Prop := ∃ u, lk f e = some u /\ u <= 0
def Later (E : α -> Int -> α -> Prop) : Prop := ∀ s m b, E s m b -> 1 <= m
theorem Walk.nonneg (hE : Later E) {s : α} {v : Int} (w : Walk E e s v) : 0 <= v := by
 induction w with
 | nil => exact Int.le_refl _
 | cons h _ ih => have := hE _ _ _ h; omega
theorem best {f : Mp α} (hc : l7 E f) (hb : Based e f) {s : α} {m : Int} (w : Walk E e s m) : ∃ u, lk f s = some u /\ u <= m := by
 induction w with
 | nil => exact hb
 | cons h _ ih =>
  obtain ⟨u, h1, h2⟩ := ih
  obtain ⟨u', h3, h4⟩ := hc _ _ _ _ h h1
  exact ⟨u', h3, by omega⟩
theorem agree {f g : Mp α} (sf : Sound E e f) (cf : l7 E f) (bf : Based e f) (sg : Sound E e g) (cg : l7 E g) (bg : Based e g) (s : α) : lk f s = lk g s := by
 cases h1 : lk f s with
 | some v =>
  obtain ⟨u, h2, h3⟩ := best cg bg (sf s v h1)
  obtain ⟨v', h4, h5⟩ := best cf bf (sg s u h2)
  rw [h1] at h4
  cases h4
  rw [h2, show u = v by omega]
 | none =>
  cases h2 : lk g s with
  | none => rfl
  | some u =>
   obtain ⟨v', h4, _⟩ := best cf bf (sg s u h2)
   rw [h1] at h4
   cases h4
def it {β : Type} (step : β -> β) : Nat -> β -> β
 | 0, x => x
 | n + 1, x => step (it step n x)
theorem Dx {β : Type} (step : β -> β) : ∀ n x, it step n (step x) = step (it step n x)
 | 0, _ => rfl
 | n + 1, x => by show step (it step n (step x)) = _; rw [Dx step n x]; rfl
theorem GK {β : Type} (m1 m2 : β -> Nat) (step : β -> β) (P : β -> Prop) (stop : β -> Bool) (inv : ∀ x, P x -> P (step x))
  (dec : ∀ x, P x -> stop x = false -> m1 (step x) < m1 x \/ (m1 (step x) <= m1 x /\ m2 (step x) < m2 x)) : ∀ x, P x -> ∃ n, stop (it step n x) = true := by
 have go : ∀ a b x, P x -> m1 x <= a -> m2 x <= b -> ∃ n, stop (it step n x) = true := by
  intro a
  induction a using Nat.strongRecOn with
  | ind a Mj =>
   intro b
   induction b using Nat.strongRecOn with
   | ind b Pu =>
    intro x hx h1 h2
    cases q : stop x with
    | true => exact ⟨0, q⟩
    | false =>
     have : ∃ n, stop (it step n (step x)) = true := by
      rcases dec x hx q with d | ⟨d1, d2⟩
      ·exact Mj (m1 (step x)) (by omega) (m2 (step x)) (step x) (inv x hx) (Ss _) (Ss _)
      ·by_cases hb : m1 (step x) < a
       ·exact Mj (m1 (step x)) hb (m2 (step x)) (step x) (inv x hx) (Ss _) (Ss _)
       ·exact Pu (m2 (step x)) (by omega) (step x) (inv x hx) (by omega) (Ss _)
     obtain ⟨n, hn⟩ := this
     exact ⟨n + 1, by show stop (step (it step n x)) = true; rw [<- Dx step n x]; exact hn⟩
 exact fun x hx => go _ _ x hx (Ss _) (Ss _)
theorem A5 {β : Type} {step : β -> β} {P : β -> Prop} (inv : ∀ x, P x -> P (step x)) : ∀ n x, P x -> P (it step n x)
 | 0, _, h => h
 | n + 1, x, h => inv _ (A5 inv n x h)
def m5 (f g : Mp α) : Prop := ∀ k v, lk f k = some v -> ∃ u, lk g k = some u /\ u <= v
theorem m5.refl (f : Mp α) : m5 f f := fun k v h => ⟨v, h, Int.le_refl _⟩
theorem m5.trans {f g h : Mp α} (a : m5 f g) (b : m5 g h) : m5 f h := fun k v q => by
 obtain ⟨u, h1, h2⟩ := a k v q
 obtain ⟨u', h3, h4⟩ := b k u h1
 exact ⟨u', h3, by omega⟩
def miss (ns : List α) (f : Mp α) : Nat := ns.countP fun n => (lk f n).isNone
def um (ns : List α) (f : Mp α) : Nat := (ns.map fun n => ((lk f n).getD 0).toNat).sum
theorem nq {f g : Mp α} (h : m5 f g) : ∀ ns : List α, miss ns g <= miss ns f
 | [] => Ss _
 | n :: ns => by
  have ih := nq h ns
  unfold miss at *
  rw [T5, T5]
  cases q : lk f n with
  | none => simp only [Option.isNone_none]; split <;> simp <;> omega
  | some v =>
   obtain ⟨u, h1, _⟩ := h n v q
   rw [h1]
   exact ih
theorem u7 {f g : Mp α} (h : m5 f g) : ∀ {ns : List α}, miss ns g = miss ns f -> um ns g <= um ns f
 | [], _ => Ss _
 | n :: ns, e => by
  have ml := nq h ns
  unfold miss um at *
  rw [T5, T5] at e
  rw [SN, List.sum_cons, SN, List.sum_cons]
  cases q : lk f n with
  | none =>
   rw [q] at e
   cases q2 : lk g n with
   | none =>
    rw [q2] at e
    have := u7 h (ns := ns) (by unfold miss; omega)
    unfold um at this
    simp; omega
   | some u => rw [q2] at e; simp at e; omega
  | some v =>
   obtain ⟨u, h1, h2⟩ := h n v q
   rw [q, h1] at e
   have := u7 h (ns := ns) (by unfold miss; simp at e; omega)
   unfold um at this
   rw [h1]
   simp; omega
theorem DO {f g : Mp α} (h : m5 f g) (pos : ∀ k v, lk g k = some v -> 0 <= v) : ∀ {ns : List α} {n : α}, n ∈ ns -> lk f n ≠ lk g n -> miss ns g < miss ns f \/ (miss ns g <= miss ns f /\ um ns g < um ns f)
 | [], _, hn, _ => by cases hn
 | a :: ns, n, hn, ne => by
  have ml := nq h (a :: ns)
  by_cases el : miss (a :: ns) g = miss (a :: ns) f
  ·refine .inr ⟨ml, ?_⟩
   have QO := nq h ns
   have Cc := el
   unfold miss at Cc QO
   rw [T5, T5] at Cc
   have hd : (lk g a).isNone = (lk f a).isNone /\ miss ns g = miss ns f := by
    unfold miss
    cases q : lk f a with
    | none =>
     rw [q] at Cc
     cases q2 : lk g a with
     | none => rw [q2] at Cc; simp at Cc; exact ⟨rfl, by omega⟩
     | some u => rw [q2] at Cc; simp at Cc; omega
    | some v =>
     obtain ⟨u, h1, _⟩ := h a v q
     rw [q, h1] at Cc
     rw [h1]
     simp at Cc
     exact ⟨rfl, by omega⟩
   have hs := u7 h hd.2
   have first : ((lk g a).getD 0).toNat <= ((lk f a).getD 0).toNat := by
    cases q : lk f a with
    | none =>
     have := hd.1
     rw [q] at this
     cases q2 : lk g a with
     | none => exact Ss _
     | some u => rw [q2] at this; cases this
    | some v =>
     obtain ⟨u, h1, h2⟩ := h a v q
     rw [h1]; simp; omega
   show (((a :: ns).map fun n => ((lk g n).getD 0).toNat).sum) < (((a :: ns).map fun n => ((lk f n).getD 0).toNat).sum)
   rw [SN, List.sum_cons, SN, List.sum_cons]
   have Mc : (ns.map fun n => ((lk g n).getD 0).toNat).sum <= (ns.map fun n => ((lk f n).getD 0).toNat).sum := hs
   rcases Sx.mp hn with rfl | hn
   ·cases q : lk f n with
    | none =>
     have := hd.1
     rw [q] at this ne
     cases q2 : lk g n with
     | none => rw [q2] at ne; exact absurd rfl ne
     | some u => rw [q2] at this; cases this
    | some v =>
     obtain ⟨u, h1, h2⟩ := h n v q
     have p := pos _ _ h1
     rw [q, h1] at ne
     have : u ≠ v := fun z => ne (by rw [z])
     rw [h1]; simp; omega
   ·rcases DO h pos hn ne with z | ⟨_, z⟩
    ·rw [hd.2] at z; exact absurd z (TM _)
    ·have z' : (ns.map fun n => ((lk g n).getD 0).toNat).sum < (ns.map fun n => ((lk f n).getD 0).toNat).sum := z
     omega
  ·exact .inl (by omega)
def nG (f g : Mp α) (n : α) : Prop := ∃ v, lk g n = some v /\ ∀ u, lk f n = some u -> v < u
theorem nG.ne {f g : Mp α} {n : α} (h : nG f g n) : lk f n ≠ lk g n := fun z => by
 obtain ⟨v, h1, h2⟩ := h
 rw [h1] at z
 exact absurd (h2 v z) (by omega)
theorem nG.less {f g h : Mp α} {n : α} (a : nG f g n) (b : m5 g h) : nG f h n := by
 obtain ⟨v, h1, h2⟩ := a
 obtain ⟨u, h3, h4⟩ := b n v h1
 exact ⟨u, h3, fun x hx => by have := h2 x hx; omega⟩
structure pH (E : α -> Int -> α -> Prop) (e : α) (ks : List α) (f : Mp α) : Prop where
 sound : Sound E e f
 nd : (f.map (·.1)).Nodup
 base : Based e f
 keys : ∀ k ∈ f.map (·.1), k = e \/ k ∈ ks
theorem Based.less {f g : Mp α} (h : m5 f g) (b : Based e f) : Based e g := by
 obtain ⟨u, h1, h2⟩ := b
 obtain ⟨v, h3, h4⟩ := h _ _ h1
 exact ⟨v, h3, by omega⟩
theorem oK (ks : List α) : pH E e ks [(e, 0)] where
 sound := fun s v h => by
  rw [eE] at h
  by_cases q : e = s
  ·rw [if_pos q] at h; cases h; rw [<- q]; exact .nil
  ·rw [if_neg q] at h; cases h
 nd := by simp
 base := ⟨0, by rw [eE, if_pos rfl], Int.le_refl _⟩
 keys := fun k hk => .inl (by simpa using hk)
section
variable {γ : Type}
abbrev Way (γ α : Type) := γ × Int × α
abbrev B3 (γ α : Type) := List (α × List (Way γ α))
def vx : List Int -> Int
 | [] => 0
 | x :: r => r.foldl min x
theorem FI : ∀ (r : List Int) (x : Int), (r.foldl min x ∈ x :: r) /\ ∀ y ∈ x :: r, r.foldl min x <= y
 | [], x => ⟨Sv, fun y hy => by
   have : y = x := by simpa using hy
   rw [this]; exact Int.le_refl _⟩
 | a :: r, x => by
  rw [Ux]
  obtain ⟨h1, h2⟩ := FI r (min x a)
  constructor
  ·rcases Sx.mp h1 with z | z
   ·rw [z]
    by_cases q : x <= a
    ·rw [Int.min_eq_left q]; exact Sv
    ·rw [Int.min_eq_right (by omega)]; exact Su _ Sv
   ·exact Su _ (Su _ z)
  ·intro y hy
   have h0 := h2 (min x a) Sv
   rcases Sx.mp hy with rfl | hy
   ·have := Int.min_le_left y a; omega
   ·rcases Sx.mp hy with rfl | hy
    ·have := Int.min_le_right x y; omega
    ·exact h2 y (Su _ hy)
theorem sX {l : List Int} (h : l ≠ []) : vx l ∈ l := by
 cases l with
 | nil => exact absurd rfl h
 | cons x r => exact (FI r x).1
theorem rh {l : List Int} {y : Int} (h : y ∈ l) : vx l <= y := by
 cases l with
 | nil => cases h
 | cons x r => exact (FI r x).2 y h
theorem CW {l : List Int} {m : Int} (h1 : m ∈ l) (h2 : ∀ y ∈ l, m <= y) : m = vx l := by
 have := rh h1
 have := h2 _ (sX (List.ne_nil_of_mem h1))
 omega
def yt (f : Mp α) (eK : List (Way γ α)) : List Int := (eK.filter fun x => (lk f x.2.2).isSome).map fun x => x.2.1 + (lk f x.2.2).getD 0
def fI (f : Mp α) (c : α × List (Way γ α)) : List Int := yt f c.2 ++ (lk f c.1).toList
def cN (f : Mp α) (l : Mp α) (c : α × List (Way γ α)) : Mp α := if fI f c = [] then l else put l c.1 (vx (fI f c))
def oneMore (cs : B3 γ α) (f : Mp α) : Mp α := cs.foldl (cN f) f
theorem Ax {f : Mp α} {eK : List (Way γ α)} {t : Int} : t ∈ yt f eK ↔ ∃ x ∈ eK, ∃ v, lk f x.2.2 = some v /\ t = x.2.1 + v := by
 unfold yt
 rw [S9]
 constructor
 ·rintro ⟨x, hx, rfl⟩
  obtain ⟨h1, h2⟩ := Tb.mp hx
  cases q : lk f x.2.2 with
  | none => rw [q] at h2; cases h2
  | some v => exact ⟨x, h1, v, q, rfl⟩
 ·rintro ⟨x, hx, v, q, rfl⟩
  exact ⟨x, Tb.mpr ⟨hx, by rw [q]; rfl⟩, by rw [q]; rfl⟩
theorem ny {f : Mp α} {c : α × List (Way γ α)} {t : Int} : t ∈ fI f c ↔ (∃ x ∈ c.2, ∃ v, lk f x.2.2 = some v /\ t = x.2.1 + v) \/ lk f c.1 = some t := by
 unfold fI
 rw [S0, Ax]
 refine or_congr Iff.rfl ?_
 cases lk f c.1 with
 | none => simp
 | some u => simp; exact eq_comm
theorem jl {f : Mp α} {s : α} : ∀ (cs : B3 γ α) (l : Mp α), (∀ c ∈ cs, c.1 ≠ s) -> lk (cs.foldl (cN f) l) s = lk l s
 | [], _, _ => rfl
 | c :: cs, l, h => by
  rw [Ux, jl cs _ fun c hc => h c (Su _ hc)]
  unfold cN
  by_cases q : fI f c = []
  ·rw [if_pos q]
  ·rw [if_neg q, u9, if_neg (fun z => h c Sv z.symm)]
theorem kG {f : Mp α} : ∀ (cs : B3 γ α) (l : Mp α), (cs.map (·.1)).Nodup -> ∀ c ∈ cs, lk (cs.foldl (cN f) l) c.1 = if fI f c = [] then lk l c.1 else some (vx (fI f c))
 | [], _, _, c, hc => by cases hc
 | d :: cs, l, nd, c, hc => by
  rw [SN, TL] at nd
  rw [Ux]
  rcases Sx.mp hc with rfl | uI
  ·rw [jl cs _ fun c' uI z => nd.1 (by rw [<- z]; exact Ts (f := fun x : α × List (Way γ α) => x.1) uI)]
   unfold cN
   by_cases q : fI f c = []
   ·rw [if_pos q, if_pos q]
   ·rw [if_neg q, if_neg q, u9, if_pos rfl]
  ·rw [kG cs _ nd.2 c uI]
   have ne : ¬ c.1 = d.1 := fun z => nd.1 (by rw [<- z]; exact Ts (f := fun x : α × List (Way γ α) => x.1) uI)
   congr 1
   unfold cN
   by_cases q : fI f d = []
   ·rw [if_pos q]
   ·rw [if_neg q, u9, if_neg ne]
theorem fu {f : Mp α} : ∀ (cs : B3 γ α) (l : Mp α), (l.map (·.1)).Nodup -> ((cs.foldl (cN f) l).map (·.1)).Nodup /\ ∀ k ∈ (cs.foldl (cN f) l).map (·.1), k ∈ l.map (·.1) \/ k ∈ cs.map (·.1)
 | [], l, h => ⟨h, fun k hk => .inl hk⟩
 | c :: cs, l, h => by
  rw [Ux]
  by_cases q : fI f c = []
  ·obtain ⟨a, b⟩ := fu cs l h
   have e : cN f l c = l := by unfold cN; rw [if_pos q]
   rw [e]
   exact ⟨a, fun k hk => (b k hk).imp id fun z => Su _ z⟩
  ·have e : cN f l c = put l c.1 (vx (fI f c)) := by unfold cN; rw [if_neg q]
   rw [e]
   obtain ⟨a, b⟩ := fu cs _ (yq (k := c.1) (v := vx (fI f c)) h)
   refine ⟨a, fun k hk => ?_⟩
   rcases b k hk with z | z
   ·rcases zU z with z | z
    ·exact .inl z
    ·rw [z]; exact .inr Sv
   ·exact .inr (Su _ z)
def Tells (E : α -> Int -> α -> Prop) (cs : B3 γ α) : Prop := ∀ s m b, E s m b ↔ ∃ c ∈ cs, c.1 = s /\ ∃ g, (g, m, b) ∈ c.2
theorem oz {cs : B3 γ α} (nd : (cs.map (·.1)).Nodup) (f : Mp α) : m5 f (oneMore cs f) := fun k v h => by
 unfold oneMore
 by_cases q : ∃ c ∈ cs, c.1 = k
 ·obtain ⟨c, hc, rfl⟩ := q
  rw [kG cs f nd c hc]
  have m : v ∈ fI f c := ny.mpr (.inr h)
  rw [if_neg (List.ne_nil_of_mem m)]
  exact ⟨_, rfl, rh m⟩
 ·rw [jl cs f fun c hc z => q ⟨c, hc, z⟩]
  exact ⟨v, h, Int.le_refl _⟩
theorem kM {cs : B3 γ α} (nd : (cs.map (·.1)).Nodup) (hE : Tells E cs) {f : Mp α} (h : pH E e (cs.map (·.1)) f) : pH E e (cs.map (·.1)) (oneMore cs f) where
 sound := fun s v hv => by
  unfold oneMore at hv
  by_cases q : ∃ c ∈ cs, c.1 = s
  ·obtain ⟨c, hc, rfl⟩ := q
   rw [kG cs f nd c hc] at hv
   by_cases q2 : fI f c = []
   ·rw [if_pos q2] at hv; exact h.sound _ _ hv
   ·rw [if_neg q2] at hv
    cases hv
    rcases ny.mp (sX q2) with ⟨x, hx, u, hu, e⟩ | e
    ·rw [e]
     exact .cons ((hE _ _ _).mpr ⟨c, hc, rfl, x.1, hx⟩) (h.sound _ _ hu)
    ·exact h.sound _ _ e
  ·rw [jl cs f fun c hc z => q ⟨c, hc, z⟩] at hv
   exact h.sound _ _ hv
 nd := (fu cs f h.nd).1
 base := h.base.less (oz nd f)
 keys := fun k hk => by
  rcases (fu cs f h.nd).2 k hk with z | z
  ·exact h.keys k z
  ·exact .inr z
theorem zy {cs : B3 γ α} (nd : (cs.map (·.1)).Nodup) (hE : Tells E cs) (hL : Later E) (he : e ∈ cs.map (·.1)) : ∃ n, eqB (oneMore cs (it (oneMore cs) n [(e, 0)])) (it (oneMore cs) n [(e, 0)]) = true := by
 refine GK (miss (cs.map (·.1))) (um (cs.map (·.1))) (oneMore cs) (pH E e (cs.map (·.1))) (fun f => eqB (oneMore cs f) f) (fun x h => kM nd hE h) (fun f h q => ?_) [(e, 0)] (oK _)
 have fp := kM nd hE h
 have : ∃ k, lk f k ≠ lk (oneMore cs f) k := by
  refine Classical.byContradiction fun z => ?_
  have z' : ∀ k, lk (oneMore cs f) k = lk f k := fun k => Classical.byContradiction fun y => z ⟨k, fun x => y x.symm⟩
  rw [zx fp.nd h.nd z'] at q
  cases q
 obtain ⟨k, hk⟩ := this
 have wT : k ∈ cs.map (·.1) := by
  have : k ∈ (oneMore cs f).map (·.1) := by
   cases q1 : lk (oneMore cs f) k with
   | some v => exact rG q1
   | none =>
    cases q2 : lk f k with
    | none => rw [q1, q2] at hk; exact absurd rfl hk
    | some v =>
     obtain ⟨u, hu, _⟩ := oz nd f k v q2
     rw [q1] at hu; cases hu
  rcases fp.keys k this with z | z
  ·rw [z]; exact he
  ·exact z
 exact DO (oz nd f) (fun k v hk => (fp.sound k v hk).nonneg hL) wT hk
theorem vk {cs : B3 γ α} (nd : (cs.map (·.1)).Nodup) (hE : Tells E cs) {f : Mp α} (h : pH E e (cs.map (·.1)) f) (hq : eqB (oneMore cs f) f = true) : l7 E f := by
 intro s m b v hs hb
 obtain ⟨c, hc, rfl, g, hg⟩ := (hE s m b).mp hs
 have same := y8 (kM nd hE h).nd hq c.1
 have mm : m + v ∈ fI f c := ny.mpr (.inl ⟨_, hg, v, hb, rfl⟩)
 unfold oneMore at same
 rw [kG cs f nd c hc, if_neg (List.ne_nil_of_mem mm)] at same
 exact ⟨_, same.symm, rh mm⟩
end
end
end Sh
namespace FN
open PySem L2 PyProof.Rows
theorem jH : ∀ {l1 l2 : List Int}, l1.Pairwise (· < ·) -> l2.Pairwise (· < ·) -> (∀ x, x ∈ l1 ↔ x ∈ l2) -> l1 = l2
 | [], [], _, _, _ => rfl
 | [], b :: r, _, _, h => absurd ((h b).mpr Sv) (by simp)
 | a :: l, [], _, _, h => absurd ((h a).mp Sv) (by simp)
 | a :: l, b :: r, h1, h2, h => by
  obtain ⟨ha, hl⟩ := Tq.mp h1
  obtain ⟨hb, hr⟩ := Tq.mp h2
  have e : a = b := by
   rcases Sx.mp ((h a).mp Sv) with e | e
   ·exact e
   ·rcases Sx.mp ((h b).mpr Sv) with e' | e'
    ·exact e'.symm
    ·have z1 := hb a e
     have z2 := ha b e'
     omega
  subst e
  have t : l = r := by
   refine jH hl hr fun x => ⟨fun hx => ?_, fun hx => ?_⟩
   ·rcases Sx.mp ((h x).mp (Su _ hx)) with e | e
    ·have := ha x hx; omega
    ·exact e
   ·rcases Sx.mp ((h x).mpr (Su _ hx)) with e | e
    ·have := hb x hx; omega
    ·exact e
  rw [t]
def mI (g : List Int) : Bool := ((g.zip (g.drop 1)).map fun p => decide (p.1 < p.2)).all id
theorem nA (a b : Int) (r : List Int) : mI (a :: b :: r) = (decide (a < b) && mI (b :: r)) := rfl
theorem uk : ∀ {g : List Int}, mI g = true -> g.Pairwise (· < ·)
 | [], _ => .nil
 | [a], _ => by simp
 | a :: b :: r, h => by
  rw [nA, Td] at h
  have Gn : a < b := S1 h.1
  have ih := uk h.2
  refine Tq.mpr ⟨fun x hx => ?_, ih⟩
  rcases Sx.mp hx with e | e
  ·rw [e]; exact Gn
  ·exact Int.lt_trans Gn ((Tq.mp ih).1 x e)
theorem pw_rises : ∀ {g : List Int}, g.Pairwise (· < ·) -> mI g = true
 | [], _ => rfl
 | [a], _ => rfl
 | a :: b :: r, h => by
  obtain ⟨ha, hr⟩ := Tq.mp h
  rw [nA, pw_rises hr, SE (ha b Sv)]
  rfl
theorem ei : ∀ n, (bM n).Pairwise (· < ·)
 | 0 => .nil
 | n + 1 => by
  rw [jm]
  refine SQ.mpr ⟨ei n, by simp, fun a ha b hb => ?_⟩
  rw [S7.mp hb]
  exact (cE.mp ha).2
theorem cJ {l : List Int} (p : Int -> Bool) (h : l.Pairwise (· < ·)) : (l.filter p).Pairwise (· < ·) := List.Pairwise.sublist U7 h
theorem contains_iff {g : List Int} {t : Int} : g.contains t = true ↔ t ∈ g := List.contains_iff_mem
theorem snoc_ind {M : List Int -> Prop} (nil : M []) (snoc : ∀ l t, M l -> M (l ++ [t])) (l : List Int) : M l := by
 have go : ∀ r : List Int, M r.reverse := fun r => by
  induction r with
  | nil => exact nil
  | cons a r ih => rw [List.reverse_cons]; exact snoc _ _ ih
 have := go l.reverse
 rwa [List.reverse_reverse] at this
def iu (jv : List Int) : List (List Int) := jv.foldl (fun gs t => gs ++ gs.map (· ++ [t])) [[]]
theorem fE (l : List Int) (t : Int) : iu (l ++ [t]) = iu l ++ (iu l).map (· ++ [t]) := by
 unfold iu
 rw [List.foldl_append]
 rfl
theorem wj (l : List Int) : [] ∈ iu l := by
 induction l using snoc_ind with
 | nil => exact S7.mpr rfl
 | snoc l t ih => rw [fE]; exact T7 _ ih
theorem ja (l : List Int) : (iu l).length = 2 ^ l.length := by
 induction l using snoc_ind with
 | nil => rfl
 | snoc l t ih => rw [fE, SX, Sr, ih, SX, List.length_singleton, Nat.pow_succ]; omega
theorem fQ {l c : List Int} (h : c ∈ iu l) : c.Sublist l := by
 induction l using snoc_ind generalizing c with
 | nil => rw [S7.mp h]; exact .slnil
 | snoc l t ih =>
  rw [fE] at h
  rcases S0.mp h with z | z
  ·exact (ih z).trans (List.sublist_append_left _ _)
  ·obtain ⟨c', h1, rfl⟩ := S9.mp z
   exact (ih h1).append (List.Sublist.refl _)
theorem gf : ∀ (k : Nat) (t num : Int), cX (k + 1) t num = cX k t num ++ (if num / 2 ^ k % 2 = 1 then [t + k] else [])
 | 0, t, num => by
  show (if num % 2 = 1 then [t] else []) ++ [] = [] ++ (if num / 2 ^ 0 % 2 = 1 then [t + ((0 : Nat) : Int)] else [])
  simp
 | k + 1, t, num => by
  show (if num % 2 = 1 then [t] else []) ++ cX (k + 1) (t + 1) (num / 2) = ((if num % 2 = 1 then [t] else []) ++ cX k (t + 1) (num / 2)) ++ _
  rw [gf k (t + 1) (num / 2), SK]
  have e1 : num / 2 / 2 ^ k = num / 2 ^ (k + 1) := by
   rw [Int.ediv_ediv_of_nonneg (by decide : (0 : Int) <= 2), Int.pow_succ, Int.mul_comm]
  have e2 : t + 1 + (k : Int) = t + ((k + 1 : Nat) : Int) := by omega
  rw [e1, e2]
theorem kU : ∀ (k : Nat) (t num j : Int), cX k t (num + 2 ^ k * j) = cX k t num
 | 0, _, _, _ => rfl
 | k + 1, t, num, j => by
  have e : num + 2 ^ (k + 1) * j = num + 2 * (2 ^ k * j) := by rw [Int.pow_succ, Int.mul_comm (2 ^ k) 2, Int.mul_assoc]
  have e1 : (num + 2 ^ (k + 1) * j) % 2 = num % 2 := by rw [e]; omega
  have e2 : (num + 2 ^ (k + 1) * j) / 2 = num / 2 + 2 ^ k * j := by rw [e]; omega
  show (if (num + 2 ^ (k + 1) * j) % 2 = 1 then [t] else []) ++ cX k (t + 1) ((num + 2 ^ (k + 1) * j) / 2) = (if num % 2 = 1 then [t] else []) ++ cX k (t + 1) (num / 2)
  rw [e1, e2, kU k]
theorem uf (n : Nat) : bM (n + n) = bM n ++ (bM n).map (fun t => (n : Int) + t) := by
 unfold bM
 apply List.ext_getElem?
 intro i
 by_cases h : i < n
 ·rw [TY (by simpa using h)]
  simp [h, show i < n + n by omega]
 ·rw [Tn (by simpa using Nat.le_of_not_lt h)]
  by_cases h2 : i < n + n
  ·simp [h2, show i - n < n by omega]
   omega
  ·simp [h2, show ¬ i - n < n by omega]
theorem uu (n : Nat) : groups (n + 1) = groups n ++ (groups n).map (· ++ [(n : Int)]) := by
 unfold groups
 have e : 2 ^ (n + 1) = 2 ^ n + 2 ^ n := by rw [Nat.pow_succ]; omega
 rw [e, uf, Sz, Tg]
 have pos : (0 : Int) < 2 ^ n := by
  have := Nat.two_pow_pos n
  have e : ((2 ^ n : Nat) : Int) = (2 : Int) ^ n := by simp
  omega
 have ec : ((2 ^ n : Nat) : Int) = (2 : Int) ^ n := by simp
 congr 1
 ·refine U5 fun t ht => ?_
  obtain ⟨h0, h1⟩ := cE.mp ht
  rw [ec] at h1
  unfold bits
  rw [gf, Int.ediv_eq_zero_of_lt h0 h1]
  simp
 ·rw [Tg]
  refine U5 fun t ht => ?_
  obtain ⟨h0, h1⟩ := cE.mp ht
  show bits (n + 1) (((2 ^ n : Nat) : Int) + t) = bits n t ++ [(n : Int)]
  rw [ec] at h1 ⊢
  unfold bits
  have e1 : (2 : Int) ^ n + t = t + 2 ^ n * 1 := by omega
  rw [gf, e1, kU]
  have e2 : (t + 2 ^ n * 1) / 2 ^ n = 1 := by
   rw [Int.add_mul_ediv_left _ _ (by omega), Int.ediv_eq_zero_of_lt h0 h1]
   rfl
  rw [e2]
  simp
theorem fU (p : Int -> Bool) : ∀ n, (groups n).filter (fun c => c.all p) = iu ((bM n).filter p)
 | 0 => rfl
 | n + 1 => by
  rw [uu, S3, fU p n, jm, S3, List.filter_map]
  have key : ∀ (b : Bool), p n = b -> ((groups n).filter ((fun c => c.all p) ∘ (· ++ [(n : Int)]))) = if b then iu ((bM n).filter p) else [] := fun b hb => by
   cases b with
   | true =>
    rw [if_pos rfl, <- fU p n]
    refine List.filter_congr fun c _ => ?_
    show (c ++ [(n : Int)]).all p = c.all p
    simp [hb]
   | false =>
    rw [if_neg (by simp), List.filter_eq_nil_iff]
    intro c _
    show ¬ (c ++ [(n : Int)]).all p = true
    simp [hb]
  cases hb : p n with
  | true =>
   rw [key true hb, if_pos rfl]
   have e : [(n : Int)].filter p = [(n : Int)] := by simp [hb]
   rw [e, fE]
  | false =>
   rw [key false hb, if_neg (by simp)]
   have e : [(n : Int)].filter p = [] := by simp [hb]
   rw [e]
   simp
abbrev aQ := List Int × Int
def IP (n : Nat) (t : Int) : Bool := decide (0 <= t /\ t < (n : Int))
def bQ (n : Nat) (st : aQ) : Bool := (decide (st.2 = 0) || decide (st.2 = 1)) && (mI st.1 && st.1.all (IP n))
def fe (st : aQ) : PyData := .tuple [gg st.1, .int st.2]
def restOf (n : Nat) (g : List Int) : List Int := (bM n).filter fun t => !g.contains t
def aT (qs : List Qu) (n : Nat) (g : List Int) : Bool := iF qs g && iF qs (restOf n g)
def br (n : Nat) (st : aQ) : List Int := if st.2 = 0 then st.1 else restOf n st.1
def re (ts : List Th) (t : Int) : Bool := (ts.getD t.toNat (0, false)).2
def jN (ts : List Th) (t : Int) : Int := (ts.getD t.toNat (0, false)).1
def dk (ts : List Th) (r : Int) (c : List Int) : Bool := decide (1 <= (c.length : Int) /\ (c.length : Int) <= r) && c.any (re ts)
def behind (n : Nat) (st : aQ) (c : List Int) : aQ := if st.2 = 0 then (st.1.filter fun t => !c.contains t, 1) else ((bM n).filter fun t => st.1.contains t || c.contains t, 0)
def fC (ts : List Th) (r : Int) (qs : List Qu) (st : aQ) : List (List Int) := ((iu (br ts.length st)).filter (dk ts r)).filter fun c => aT qs ts.length (behind ts.length st c).1
def aD (ts : List Th) (r : Int) (qs : List Qu) (st : aQ) : List (List Int) := yE (fC ts r qs st)
def aI (ts : List Th) (c : List Int) : Int := vB (c.map (jN ts))
theorem fA {n : Nat} {st : aQ} (h : bQ n st = true) : st.1.Pairwise (· < ·) /\ (∀ t ∈ st.1, 0 <= t /\ t < (n : Int)) /\ (st.2 = 0 \/ st.2 = 1) := by
 unfold bQ at h
 rw [Td, Td, Bool.or_eq_true] at h
 refine ⟨uk h.2.1, fun t ht => S1 (TB.mp h.2.2 t ht), h.1.imp S1 S1⟩
theorem lu {n : Nat} {st : aQ} (h1 : st.1.Pairwise (· < ·)) (h2 : ∀ t ∈ st.1, 0 <= t /\ t < (n : Int)) (h3 : st.2 = 0 \/ st.2 = 1) : bQ n st = true := by
 unfold bQ
 have e : st.1.all (IP n) = true := TB.mpr fun t ht => SE (h2 t ht)
 rw [pw_rises h1, e]
 rcases h3 with e | e <;> simp [e]
theorem fF {n : Nat} {g : List Int} (h1 : g.Pairwise (· < ·)) (h2 : ∀ t ∈ g, 0 <= t /\ t < (n : Int)) : (bM n).filter (fun t => g.contains t) = g := by
 refine jH (cJ _ (ei n)) h1 fun x => ?_
 rw [Tb, contains_iff, cE]
 exact ⟨fun h => h.2, fun h => ⟨h2 x h, h⟩⟩
theorem i5 {n : Nat} {st : aQ} (h : bQ n st = true) : (bM n).filter (fun t => (br n st).contains t) = br n st := by
 obtain ⟨h1, h2, _⟩ := fA h
 unfold br
 split
 ·exact fF h1 h2
 ·exact fF (cJ _ (ei n)) fun t ht => cE.mp (Tb.mp ht).1
theorem gy {n : Nat} {st : aQ} (h : bQ n st = true) {t : Int} (ht : t ∈ br n st) : 0 <= t /\ t < (n : Int) := by
 rw [<- i5 h] at ht
 exact cE.mp (Tb.mp ht).1
theorem CF {n : Nat} {st : aQ} (h : bQ n st = true) : (br n st).Pairwise (· < ·) := by
 rw [<- i5 h]; exact cJ _ (ei n)
theorem dD {n : Nat} {st : aQ} (h : bQ n st = true) : (br n st).length <= n := by
 rw [<- i5 h]
 exact SD (SY _ _) (by rw [bn]; exact Ss _)
theorem lC {ts : List Th} {r : Int} {qs : List Qu} {st : aQ} (h : bQ ts.length st = true) (h6 : ts.length <= 6) : ((iu (br ts.length st)).filter (dk ts r)).length < 64 := by
 have hb := dD h
 have QI : (iu (br ts.length st)).length <= 64 := by
  rw [ja]
  exact SD (Um (by decide) (SD hb h6)) (by decide)
 have fG : ((iu (br ts.length st)).filter (dk ts r)).length < (iu (br ts.length st)).length :=
  List.length_filter_lt_length_iff_exists.mpr ⟨[], wj _, by simp [dk]⟩
 omega
theorem ma {ts : List Th} {r : Int} {c : List Int} (h : dk ts r c = true) : c ≠ [] := by
 intro e
 rw [e] at h
 simp [dk] at h
theorem lT {l : List Int} (h : l.Nodup) : (iu l).Nodup := by
 induction l using snoc_ind with
 | nil => simp [iu]
 | snoc l t ih =>
  rw [List.nodup_append] at h
  rw [fE, List.nodup_append]
  refine ⟨ih h.1, ?_, fun a ha b hb e => ?_⟩
  ·show ((iu l).map (· ++ [t])).Pairwise (· ≠ ·)
   rw [Tu]
   exact (ih h.1).imp fun ne e => ne (List.append_cancel_right e)
  ·obtain ⟨c, hc, rfl⟩ := S9.mp hb
   have : t ∈ a := by rw [e]; simp
   exact h.2.2 t ((fQ ha).subset this) t (by simp) rfl
theorem ou (n : Nat) : (bM n).Nodup := (ei n).imp fun h => Int.ne_of_lt h
theorem vD {n : Nat} {st : aQ} (h : bQ n st = true) : (br n st).Nodup := (CF h).imp fun h => Int.ne_of_lt h
theorem pT {ts : List Th} {r : Int} {qs : List Qu} {st : aQ} (h : bQ ts.length st = true) : (fC ts r qs st).Nodup := ((lT (vD h)).sublist U7).sublist U7
theorem zN {α : Type} {lt : α -> α -> Bool} (Nb : ∀ a, lt a a = false) (tr : ∀ {a b c}, lt a b = true -> lt b c = true -> lt a c = true) : ∀ {l m : List α}, l.Pairwise (fun x y => lt x y = true) -> m.Pairwise (fun x y => lt x y = true) -> (∀ x, x ∈ l ↔ x ∈ m) -> l = m
 | [], [], _, _, _ => rfl
 | [], b :: r, _, _, h => absurd ((h b).mpr Sv) (by simp)
 | a :: l, [], _, _, h => absurd ((h a).mp Sv) (by simp)
 | a :: l, b :: r, h1, h2, h => by
  obtain ⟨ha, hl⟩ := Tq.mp h1
  obtain ⟨hb, hr⟩ := Tq.mp h2
  have no : ∀ {x : α}, lt x x = true -> False := fun z => by rw [Nb] at z; cases z
  have e : a = b := by
   rcases Sx.mp ((h a).mp Sv) with e | e
   ·exact e
   ·rcases Sx.mp ((h b).mpr Sv) with e' | e'
    ·exact e'.symm
    ·exact (no (tr (hb a e) (ha b e'))).elim
  subst e
  have t : l = r := by
   refine zN Nb tr hl hr fun x => ⟨fun hx => ?_, fun hx => ?_⟩
   ·rcases Sx.mp ((h x).mp (Su _ hx)) with e | e
    ·have := ha x hx; rw [e] at this; exact (no this).elim
    ·exact e
   ·rcases Sx.mp ((h x).mpr (Su _ hx)) with e | e
    ·have := hb x hx; rw [e] at this; exact (no this).elim
    ·exact e
  rw [t]
theorem Dp {l c : List Int} (h : c.Sublist l) : c ∈ iu l := by
 induction l using snoc_ind generalizing c with
 | nil => rw [List.sublist_nil.mp h]; exact S7.mpr rfl
 | snoc l t ih =>
  obtain ⟨c1, c2, rfl, h1, h2⟩ := List.sublist_append_iff.mp h
  rw [fE, S0]
  cases h2 with
  | cons _ z => rw [List.sublist_nil.mp z, Vd]; exact .inl (ih h1)
  | cons_cons _ z => rw [List.sublist_nil.mp z]; exact .inr (S9.mpr ⟨c1, ih h1, rfl⟩)
theorem ie (n : Nat) : groups n = iu (bM n) := by
 have := fU (fun _ => true) n
 rw [List.filter_eq_self.mpr (by intro a _; simp), List.filter_eq_self.mpr (by intro a _; rfl)] at this
 exact this
theorem nU {n : Nat} {g : List Int} : g ∈ groups n ↔ g.Pairwise (· < ·) /\ ∀ t ∈ g, 0 <= t /\ t < (n : Int) := by
 rw [ie]
 constructor
 ·intro h
  have s := fQ h
  exact ⟨List.Pairwise.sublist s (ei n), fun t ht => cE.mp (s.subset ht)⟩
 ·rintro ⟨h1, h2⟩
  refine Dp ?_
  rw [<- fF h1 h2]
  exact U7
theorem qJ (n : Nat) : (groups n).Nodup := by rw [ie]; exact lT (ou n)
def sw (st : aQ) : Int × List Int := (st.2, st.1)
def Fs (qs : List Qu) (n : Nat) : List (List Int) := yE ((groups n).filter (aT qs n))
def bj (qs : List Qu) (n : Nat) : List aQ := (Fs qs n).map (fun g => (g, 0)) ++ (Fs qs n).map fun g => (g, 1)
def oJ (qs : List Qu) (n : Nat) : List aQ := ((iu (bM n)).flatMap fun g => [(g, 0), (g, 1)]).filter fun st => aT qs n st.1
theorem ji {qs : List Qu} {n : Nat} {g : List Int} : g ∈ Fs qs n ↔ g ∈ groups n /\ aT qs n g = true := by
 unfold Fs
 rw [(eW _).mem_iff, Tb]
theorem nE (qs : List Qu) (n : Nat) : (Fs qs n).Pairwise fun g k => HT.lexLt g k = true := tD ((qJ n).sublist U7)
theorem oR {qs : List Qu} {n : Nat} {st : aQ} : st ∈ bj qs n ↔ st.1 ∈ groups n /\ aT qs n st.1 = true /\ (st.2 = 0 \/ st.2 = 1) := by
 unfold bj
 rw [S0, S9, S9]
 constructor
 ·rintro (⟨g, hg, rfl⟩ | ⟨g, hg, rfl⟩)
  ·exact ⟨(ji.mp hg).1, (ji.mp hg).2, .inl rfl⟩
  ·exact ⟨(ji.mp hg).1, (ji.mp hg).2, .inr rfl⟩
 ·obtain ⟨g, sd⟩ := st
  rintro ⟨h1, h2, h3 | h3⟩
  ·have h3 : sd = 0 := h3
   subst h3; exact .inl ⟨g, ji.mpr ⟨h1, h2⟩, rfl⟩
  ·have h3 : sd = 1 := h3
   subst h3; exact .inr ⟨g, ji.mpr ⟨h1, h2⟩, rfl⟩
theorem xU {qs : List Qu} {n : Nat} {st : aQ} : st ∈ oJ qs n ↔ st.1 ∈ groups n /\ aT qs n st.1 = true /\ (st.2 = 0 \/ st.2 = 1) := by
 unfold oJ
 rw [Tb, List.mem_flatMap, ie]
 constructor
 ·rintro ⟨⟨g, hg, hs⟩, h2⟩
  rcases Sx.mp hs with rfl | hs
  ·exact ⟨hg, h2, .inl rfl⟩
  ·rw [S7.mp hs] at h2 ⊢
   exact ⟨hg, h2, .inr rfl⟩
 ·obtain ⟨g, sd⟩ := st
  rintro ⟨h1, h2, h3⟩
  refine ⟨⟨g, h1, ?_⟩, h2⟩
  rcases h3 with h3 | h3
  ·have h3 : sd = 0 := h3
   subst h3; exact Sv
  ·have h3 : sd = 1 := h3
   subst h3; exact Su _ Sv
theorem mG (qs : List Qu) (n : Nat) : (bj qs n).Pairwise fun a b => aA (sw a) (sw b) = true := by
 unfold bj
 rw [SQ, Tu, Tu]
 refine ⟨(nE qs n).imp fun h => ?_, (nE qs n).imp fun h => ?_, fun a ha b hb => ?_⟩
 ·unfold aA sw; rw [if_pos rfl]; exact h
 ·unfold aA sw; rw [if_pos rfl]; exact h
 ·obtain ⟨g, _, rfl⟩ := S9.mp ha
  obtain ⟨k, _, rfl⟩ := S9.mp hb
  rfl
theorem j4 (qs : List Qu) (n : Nat) : (bj qs n).Nodup := (mG qs n).imp fun h e => by rw [e, lY] at h; cases h
theorem zp {a b : aQ} (h : sw a = sw b) : a = b := by
 unfold sw at h
 injection h with h1 h2
 exact Prod.ext h2 h1
theorem r0 (qs : List Qu) (n : Nat) : ((oJ qs n).map sw).Nodup := by
 have nd : (oJ qs n).Nodup := by
  unfold oJ
  refine List.Nodup.sublist U7 ?_
  show List.Pairwise _ _
  rw [List.pairwise_flatMap]
  refine ⟨fun g _ => ?_, (lT (ou n)).imp fun {a b} ne x hx y hy e => ne ?_⟩
  ·simp
  ·have e1 : x.1 = a := by
    rcases Sx.mp hx with rfl | hx
    ·rfl
    ·rw [S7.mp hx]
   have e2 : y.1 = b := by
     rcases Sx.mp hy with rfl | hy
     ·rfl
     ·rw [S7.mp hy]
   rw [<- e1, <- e2, e]
 show List.Pairwise _ _
 rw [Tu]
 exact nd.imp fun ne e => ne (zp e)
theorem sE {qs : List Qu} {n : Nat} {l : List aQ} (hp : l.Perm (oJ qs n)) (hs : l.Pairwise fun a b => aA (sw a) (sw b) = true) : l = bj qs n :=
 zN (lt := fun a b => aA (sw a) (sw b)) (fun a => lY _) (fun h1 h2 => oS h1 h2) hs (mG qs n) fun x => by rw [hp.mem_iff, xU, oR]
theorem dG {qs : List Qu} {n : Nat} {st : aQ} (h : st ∈ bj qs n) : bQ n st = true /\ aT qs n st.1 = true := by
 obtain ⟨h1, h2, h3⟩ := oR.mp h
 obtain ⟨h4, h5⟩ := nU.mp h1
 exact ⟨lu h4 h5 h3, h2⟩
theorem wl {qs : List Qu} {n : Nat} {st : aQ} (h : bQ n st = true) (hg : aT qs n st.1 = true) : st ∈ bj qs n := by
 obtain ⟨h1, h2, h3⟩ := fA h
 exact oR.mpr ⟨nU.mpr ⟨h1, h2⟩, hg, h3⟩
theorem gA (qs : List Qu) {n : Nat} (h6 : n <= 6) : (bj qs n).length <= 128 := by
 unfold bj
 rw [SX, Sr, Sr]
 have : (Fs qs n).length <= 64 := by
  unfold Fs
  rw [(eW _).length_eq]
  refine SD (SY _ _) ?_
  rw [ie, ja, bn]
  exact SD (Um (by decide) h6) (by decide)
 omega
theorem xm (qs : List Qu) {n : Nat} (h6 : n <= 6) : ((iu (bM n)).flatMap fun g => [((g, 0) : aQ), (g, 1)]).length <= 128 := by
 have l : (iu (bM n)).length <= 64 := by
  rw [ja, bn]
  exact SD (Um (by decide) h6) (by decide)
 have : ∀ gs : List (List Int), (gs.flatMap fun g => [((g, 0) : aQ), (g, 1)]).length = 2 * gs.length := fun gs => by
  induction gs with
  | nil => rfl
  | cons g gs ih => rw [List.flatMap_cons, SX, ih]; simp; omega
 rw [this]; omega
theorem kX : ∀ (k m : Nat) {g : List Int}, g.Pairwise (· < ·) -> (∀ t ∈ g, (m : Int) <= t /\ t < (m : Int) + k) -> g ∈ subs k m
 | 0, m, g, _, h => by
  cases g with
  | nil => exact S7.mpr rfl
  | cons a g => have := h a Sv; omega
 | k + 1, m, g, hp, h => by
  show g ∈ subs k (m + 1) ++ (subs k (m + 1)).map fun g => (m : Int) :: g
  rw [S0]
  cases g with
  | nil => exact .inl (kX k (m + 1) .nil (fun t ht => by cases ht))
  | cons a g =>
   obtain ⟨h1, h2⟩ := Tq.mp hp
   by_cases e : a = (m : Int)
   ·refine .inr (S9.mpr ⟨g, kX k (m + 1) h2 fun t ht => ?_, by rw [e]⟩)
    have := h1 t ht
    have := h t (Su _ ht)
    omega
   ·refine .inl (kX k (m + 1) hp fun t ht => ?_)
    have ha := h a Sv
    have Na := h t ht
    rcases Sx.mp ht with rfl | ht
    ·omega
    ·have := h1 t ht; omega
theorem AX {n : Nat} {st : aQ} (h : bQ n st = true) (h6 : n <= 6) : st ∈ eO := by
 obtain ⟨h1, h2, h3⟩ := fA h
 refine List.mem_flatMap.mpr ⟨st.1, kX 6 0 h1 fun t ht => ?_, ?_⟩
 ·have := h2 t ht; omega
 ·obtain ⟨g, sd⟩ := st
  rcases h3 with h3 | h3
  ·have h3 : sd = 0 := h3
   subst h3; exact Sv
  ·have h3 : sd = 1 := h3
   subst h3; exact Su _ Sv
abbrev Wy := List Int × Int × aQ
def bP (ts : List Th) (r : Int) (qs : List Qu) (st : aQ) : List Wy := (aD ts r qs st).map fun c => (c, aI ts c, behind ts.length st c)
def bH (ts : List Th) (r : Int) (qs : List Qu) : List (aQ × List Wy) := (bj qs ts.length).map fun st => (st, bP ts r qs st)
def rN (ts : List Th) (r : Int) (qs : List Qu) (s : aQ) (m : Int) (b : aQ) : Prop := s ∈ bj qs ts.length /\ ∃ c ∈ aD ts r qs s, m = aI ts c /\ b = behind ts.length s c
def bu : aQ := ([], 1)
theorem gx {ts : List Th} {r : Int} {qs : List Qu} {st : aQ} {c : List Int} (h : c ∈ aD ts r qs st) : c.Sublist (br ts.length st) /\ c ≠ [] /\ aT qs ts.length (behind ts.length st c).1 = true := by
 have h1 := (eW (fC ts r qs st)).mem_iff.mp h
 obtain ⟨h2, h3⟩ := Tb.mp h1
 obtain ⟨h4, h5⟩ := Tb.mp h2
 exact ⟨fQ h4, ma h5, h3⟩
theorem uE {n : Nat} {st : aQ} {c : List Int} (h : bQ n st = true) : bQ n (behind n st c) = true := by
 obtain ⟨h1, h2, _⟩ := fA h
 unfold behind
 split
 ·exact lu (cJ _ h1) (fun t ht => h2 t (Tb.mp ht).1) (.inr rfl)
 ·exact lu (cJ _ (ei n)) (fun t ht => cE.mp (Tb.mp ht).1) (.inl rfl)
section
variable {ts : List Th} {r : Int} {qs : List Qu}
theorem iS {st : aQ} {c : List Int} (h : st ∈ bj qs ts.length) (hc : c ∈ aD ts r qs st) : behind ts.length st c ∈ bj qs ts.length := wl (uE (dG h).1) (gx hc).2.2
theorem tells : Sh.Tells (rN ts r qs) (bH ts r qs) := by
 intro s m b
 constructor
 ·rintro ⟨h1, c, h2, rfl, rfl⟩
  exact ⟨(s, bP ts r qs s), S9.mpr ⟨s, h1, rfl⟩, rfl, c, S9.mpr ⟨c, h2, rfl⟩⟩
 ·rintro ⟨c, hc, rfl, g, hg⟩
  obtain ⟨st, h1, rfl⟩ := S9.mp hc
  obtain ⟨c, h2, e⟩ := S9.mp hg
  injection e with e1 e2
  injection e2 with e2 e3
  exact ⟨h1, c, h2, e2.symm, e3.symm⟩
theorem dA : (bH ts r qs).map (·.1) = bj qs ts.length := by
 unfold bH
 rw [Tg]
 exact List.map_id' _
theorem mF (ok : uM ts) {c : List Int} (hc : c ≠ []) (sS : ∀ t ∈ c, 0 <= t /\ t < (ts.length : Int)) : 1 <= aI ts c /\ aI ts c <= 1000000000 := by
 have m := Bk (ns := c.map (jN ts)) (fun z => hc (List.map_eq_nil_iff.mp z))
 obtain ⟨t, ht, e⟩ := S9.mp m
 obtain ⟨h0, h1⟩ := sS t ht
 have hj : t.toNat < ts.length := by omega
 have e2 : jN ts t = ts[t.toNat].1 := by
  unfold jN
  rw [SL, Sw hj]
  rfl
 have := ok.p _ (Ui hj)
 show 1 <= vB _ /\ vB _ <= 1000000000
 rw [<- e, e2]
 exact this
theorem later (ok : uM ts) : Sh.Later (rN ts r qs) := by
 rintro s m b ⟨h1, c, h2, rfl, rfl⟩
 obtain ⟨h3, h4, _⟩ := gx h2
 exact (mF ok h4 fun t ht => gy (dG h1).1 (h3.subset ht)).1
structure yu (ts : List Th) (r : Int) (qs : List Qu) (f : Sh.Mp aQ) : Prop where
 yes : bu ∈ bj qs ts.length -> Sh.pH (rN ts r qs) bu (bj qs ts.length) f /\ Sh.l7 (rN ts r qs) f
 no : bu ∉ bj qs ts.length -> f = []
theorem wu {f g : Sh.Mp aQ} (hf : yu ts r qs f) (hg : yu ts r qs g) (s : aQ) : Sh.lk f s = Sh.lk g s := by
 by_cases e : bu ∈ bj qs ts.length
 ·obtain ⟨h1, h2⟩ := hf.yes e
  obtain ⟨h3, h4⟩ := hg.yes e
  exact Sh.agree h1.sound h2 h1.base h3.sound h4 h3.base s
 ·rw [hf.no e, hg.no e]
end
def vA (ts : List Th) (r : Int) (qs : List Qu) : aQ -> Int -> List (List Int) -> Option Int
 | st, wY, [] => if st = ([], 1) then some wY else none
 | st, wY, c :: cs => if c ∈ aD ts r qs st then vA ts r qs (behind ts.length st c) (wY + aI ts c) cs else none
section
variable {ts : List Th} {r : Int} {qs : List Qu}
theorem ly {f : Sh.Mp aQ} (ok : uM ts) (h : yu ts r qs f) {s : aQ} {v : Int} (hs : Sh.lk f s = some v) : Sh.pH (rN ts r qs) bu (bj qs ts.length) f /\ Sh.l7 (rN ts r qs) f := by
 by_cases e : bu ∈ bj qs ts.length
 ·exact h.yes e
 ·rw [h.no e] at hs; cases hs
theorem Fv {f : Sh.Mp aQ} (ok : uM ts) (h : yu ts r qs f) {s : aQ} {v : Int} (hs : Sh.lk f s = some v) (ne : s ≠ bu) : ∃ c ∈ aD ts r qs s, ∃ u, Sh.lk f (behind ts.length s c) = some u /\ aI ts c + u <= v := by
 obtain ⟨fi, cl⟩ := ly ok h hs
 have w := fi.sound s v hs
 cases w with
 | nil => exact absurd rfl ne
 | cons e w' =>
  obtain ⟨u, h1, h2⟩ := Sh.best cl fi.base w'
  obtain ⟨_, c, hc, rfl, rfl⟩ := e
  exact ⟨c, hc, u, h1, by omega⟩
theorem Em {f : Sh.Mp aQ} (ok : uM ts) (h : yu ts r qs f) {s : aQ} {v u : Int} (hs : Sh.lk f s = some v) (hm : s ∈ bj qs ts.length) {c : List Int} (hc : c ∈ aD ts r qs s) (hu : Sh.lk f (behind ts.length s c) = some u) : v <= aI ts c + u := by
 obtain ⟨fi, cl⟩ := ly ok h hs
 obtain ⟨v', h1, h2⟩ := cl s _ _ u ⟨hm, c, hc, rfl, rfl⟩ hu
 rw [hs] at h1
 cases h1
 exact h2
theorem wU {f : Sh.Mp aQ} (ok : uM ts) (h : yu ts r qs f) {s : aQ} {v : Int} (hs : Sh.lk f s = some v) : 0 <= v := ((ly ok h hs).1.sound s v hs).nonneg (later ok)
theorem tS {f : Sh.Mp aQ} (ok : uM ts) (h : yu ts r qs f) {v : Int} (hs : Sh.lk f bu = some v) : v = 0 := by
 have := wU ok h hs
 obtain ⟨u, h1, h2⟩ := (ly ok h hs).1.base
 rw [hs] at h1
 cases h1
 omega
inductive Reach (ts : List Th) (r : Int) (qs : List Qu) (s : aQ) : aQ -> Prop
 | refl : Reach ts r qs s s
 | step {b : aQ} {c : List Int} : Reach ts r qs s b -> c ∈ aD ts r qs b -> Reach ts r qs s (behind ts.length b c)
theorem nW {s b : aQ} (hs : s ∈ bj qs ts.length) (h : Reach ts r qs s b) : b ∈ bj qs ts.length := by
 induction h with
 | refl => exact hs
 | step _ hc ih => exact iS ih hc
theorem AH {s : aQ} {fl : List aQ} (hs : s ∈ fl) (hc : ∀ b ∈ fl, ∀ c ∈ aD ts r qs b, behind ts.length b c ∈ fl) {b : aQ} (h : Reach ts r qs s b) : b ∈ fl := by
 induction h with
 | refl => exact hs
 | step _ uI ih => exact hc _ ih _ uI
theorem ur {st : aQ} (h : bQ ts.length st = true) : (aD ts r qs st).Nodup := (eW _).nodup_iff.mpr (pT h)
end
def top (i : Nat) : Stmt := PySem.Challenge.pw_ferrynight_k07_whole_heights_and_plans_a.main.body.getD i (.Pass ⟨0, 0, 0, 0⟩)
abbrev cG : Stmt := top 14
abbrev dC : Stmt := top 15
abbrev ck : Stmt := top 16
abbrev eZ : Stmt := top 17
abbrev di : Stmt := top 18
abbrev bY : Stmt := top 19
abbrev cI : Stmt := inClass (top 20) 0
abbrev bp : Stmt := inClass (top 20) 1
abbrev eT : Stmt := inClass (top 20) 2
abbrev cF : Stmt := inClass (top 20) 4
abbrev dB : Stmt := inClass (top 20) 5
abbrev cQ : Stmt := inClass (top 20) 6
abbrev kW : Stmt := top 23
abbrev eu : Stmt := top 24
abbrev dE : Stmt := top 25
abbrev jo : Stmt := top 26
abbrev dN : Stmt := top 27
abbrev fY : Stmt := top 28
abbrev fP : Stmt := top 29
abbrev fb : Stmt := top 30
abbrev iP : Stmt := top 31
abbrev jk : Stmt := top 32
abbrev qH : Stmt := top 33
abbrev lr : Stmt := top 34
abbrev gI : Stmt := top 35
abbrev nv : Stmt := top 37
abbrev eY : Stmt := top 38
abbrev cL : Stmt := top 39
abbrev eP : Stmt := top 40
abbrev dY : Stmt := top 41
abbrev c6 : Stmt := top 42
abbrev b8 : Stmt := top 43
abbrev jc : Stmt := top 44
abbrev eG : Stmt := top 45
abbrev gG : Stmt := top 46
abbrev gY : Stmt := top 47
abbrev bJ : Stmt := top 49
abbrev bZ : Stmt := top 50
abbrev cr : Stmt := top 51
abbrev cW : Stmt := top 52
abbrev cM : Stmt := top 53
abbrev cZ : Stmt := top 54
abbrev sQ : Stmt := top 55
structure Ad where
 k1 : Tok
 k2 : Tok
 k3 : Tok
 k4 : Tok
 k5 : Tok
 oN : Addr
 j0 : Addr
 zV : Addr
 Cf : Addr
 vL : Addr
 ce : Addr
 eI : Addr
 rK : Addr
 JH : Addr
abbrev HG : List Value := [.type "ValueError", .type "Exception", .type "BaseException", .type "object"]
structure Ref (K : Vj) (mg : Str -> Option Value) (Z : Ad) (x : Str) (D : Addr) : Prop where
 g : mg x = some (.ref D)
 x : PySem.W.excIn K D HG "ValueError.__new__" = true
 k : PySem.W.Eo K D
 m : PySem.W.exmOne K (.ref D) (.ref Z.j0) = some true
 v : PySem.W.kitOne K (.ref D) (.type "ValueError") = some true
structure Txt (K : Vj) (mg : Str -> Option Value) (C : Addr) (Z : Ad) : Prop where
 iI : mg "len" = none
 vo : mg "list" = none
 jh : mg "tuple" = none
 lm : mg "range" = none
 Df : mg "isinstance" = none
 Nt : mg "int" = none
 K1 : mg "bool" = none
 GW : mg "zip" = none
 DT : mg "all" = none
 GD : mg "any" = none
 G7 : mg "max" = none
 kZ : mg "sorted" = none
 B8 : mg "ValueError" = none
 Fh : mg "reversed" = none
 DZ : mg "min" = none
 FC : mg "dict" = none
 pE : mg "MOST_THINGS" = some (.int 6 Z.k1)
 og : mg "MOST_MINUTES" = some (.int 1000000000 Z.k2)
 uc : mg "MOST_ROOM" = some (.int 3 Z.k3)
 mW : mg "MOST_QUARRELS" = some (.int 30 Z.k4)
 tI : mg "NO_KEEPER" = some (.int (-1) Z.k5)
 CI : mg "Night" = some (.ref C)
 aS : Aj K C
 nS : fZ K C "kept_things"
 ze : fZ K C "kept_room"
 oZ : fZ K C "kept_quarrels"
 wL : mg "SIDES" = some (.ref Z.oN)
 rA : ∀ H, bR K H Z.oN [.int 0, .int 1]
 B6 : mg "FerryError" = some (.ref Z.j0)
 ER : mg "BadThing" = some (.ref Z.zV)
 Gp : mg "BadRoom" = some (.ref Z.Cf)
 CM : mg "BadQuarrel" = some (.ref Z.vL)
 kq : Ref K mg Z "NoStanding" Z.ce
 oj : Ref K mg Z "BadStart" Z.eI
 uw : Ref K mg Z "NoCrew" Z.rK
section
variable {K : Vj} {mg : Str -> Option Value} {C : Addr} {Z : Ad}
theorem Txt.rn (T : Txt K mg C Z) : mg "NoStanding" = some (.ref Z.ce) := T.kq.g
theorem Txt.vi (T : Txt K mg C Z) : mg "BadStart" = some (.ref Z.eI) := T.oj.g
theorem Txt.AB (T : Txt K mg C Z) : mg "NoCrew" = some (.ref Z.rK) := T.uw.g
theorem Txt.rT (T : Txt K mg C Z) : PySem.W.excIn K Z.ce HG "ValueError.__new__" = true := T.kq.x
theorem Txt.uS (T : Txt K mg C Z) : PySem.W.excIn K Z.eI HG "ValueError.__new__" = true := T.oj.x
theorem Txt.Aa (T : Txt K mg C Z) : PySem.W.excIn K Z.rK HG "ValueError.__new__" = true := T.uw.x
end
def kO (t : Addr) (r : Int) (q : Addr) : List (Str × V) := de "kept_quarrels" (.ref q) (de "kept_room" (.int r) (de "kept_things" (.ref t) []))
theorem J6 : ¬ (("kept_room" : Str) = "kept_things") := by decide +kernel
theorem Le : ¬ (("kept_quarrels" : Str) = "kept_things") := by decide +kernel
theorem LO : ¬ (("kept_quarrels" : Str) = "kept_room") := by decide +kernel
theorem Ai (t : Addr) (r : Int) (q : Addr) : (kO t r q).lookup ("kept_things" : Str) = some (.ref t) := by
 unfold kO
 rw [bi, if_neg (UT Le), bi, if_neg (UT J6), bi, if_pos rfl]
theorem Fx (t : Addr) (r : Int) (q : Addr) : (kO t r q).lookup ("kept_room" : Str) = some (.int r) := by
 unfold kO
 rw [bi, if_neg (UT LO), bi, if_pos rfl]
theorem Fe (t : Addr) (r : Int) (q : Addr) : (kO t r q).lookup ("kept_quarrels" : Str) = some (.ref q) := by
 unfold kO
 rw [bi, if_pos rfl]
theorem qT (t : Addr) (r : Int) (q : Addr) {m : Str} (h1 : ¬ m = "kept_quarrels") (h2 : ¬ m = "kept_room") (h3 : ¬ m = "kept_things") : (kO t r q).lookup m = none := by
 unfold kO
 rw [bi, if_neg h1, bi, if_neg h2, bi, if_neg h3]
 all_goals rfl
structure aM (C : Addr) (H : Hp) (p : Addr) (ts : List Th) (r : Int) (qs : List Qu) : Prop where
 ex : ∃ dx t q, H p = some (.ins C dx (kO t r q)) /\ TupAt yU H t ts /\ TupAt CJ H q qs
theorem aM.mono {C : Addr} {H H' : Hp} {p : Addr} {ts : List Th} {r : Int} {qs : List Qu} (h : aM C H p ts r qs) (e : am H H') : aM C H' p ts r qs :=
 let ⟨dx, t, q, h1, h2, h3⟩ := h.ex
 ⟨dx, t, q, e _ _ h1, h2.mono e, h3.mono e⟩
theorem aM.upd {C : Addr} {H : Hp} {p : Addr} {ts : List Th} {r : Int} {qs : List Qu} {D : Addr} {o : HO} {ys : List V} (h : aM C H p ts r qs) (hD : H D = some (.lst ys)) : aM C (L2.upd H D o) p ts r qs := by
 obtain ⟨dx, t, q, h1, ⟨vt, h2, jq⟩, ⟨vq, h3, CA⟩⟩ := h.ex
 refine ⟨dx, t, q, ?_, ⟨vt, ?_, bN hD jq (aF tT ts)⟩, ⟨vq, ?_, bN hD CA (aF sJ qs)⟩⟩
 ·rw [ak (cR h1 hD (by intro z; cases z))]; exact h1
 ·rw [ak (cR h2 hD (by intro z; cases z))]; exact h2
 ·rw [ak (cR h3 hD (by intro z; cases z))]; exact h3
section
variable {P : Program} {w : World} {K : Vj} {mg : Str -> Option Value} {base : Heap} {C : Addr} {Z : Ad}
def gZ (K : Vj) : Sp := fun vs H Q _ => ∃ (a : Addr) (ns : List Int) (k : Nat), vs = [.ref a, .int k] /\ bz K H a (ns.map V.int) /\ Q (.int (ns.getD k 0)) H
theorem mV : av ["script", "k"] ["script", "k"] (aj bJ) := ge
theorem jV {f : Addr} {fd : FuncData} (F : Fn K mg "_law_cell_at" bJ f fd ["script", "k"]) (T : Txt K mg C Z) : aq P w K mg base bA 1 f fd ["script", "k"] (gZ K) := by
 refine F.fn.ok mV (fun vs H Q E h => ?_) (fun cm A outer s H vs Q E hr h => ?_)
 ·obtain ⟨a, ns, k, rfl, _⟩ := h
  rfl
 ·obtain ⟨a, ns, k, rfl, hS, q⟩ := h
  refine ⟨_, (ag (bV (aE sW (pv 1) (a8 a6 (by rfl) T.iI Te (aa (pv 0) af)) (aY _))
   (ah (aB (aW jp (pv 0) (pv 1) (fun _ _ => rfl))))
   aO)
   (ah (aB ao))), ?_⟩
  refine ⟨_, rfl, _, rfl, a, _, rfl, .inl hS, _, _, rfl, rfl, _, rfl, ?_⟩
  refine Ds (fun h => ?_) (fun h => ?_)
  ·have hk : k < ns.length := by
    have := S1 h
    rw [Sr] at this
    omega
   refine ⟨_, rfl, _, rfl, a, _, _, _, rfl, rfl, hS, gR (v := V.int (ns.getD k 0)) ?_, q⟩
   rw [SH, SL, Sw hk]
   rfl
  ·have hk : ¬ k < ns.length := fun z => h (SE (by rw [Sr]; omega))
   have e : ns.getD k 0 = 0 := by
    rw [SL, List.getElem?_eq_none_iff.mpr (by omega)]
    rfl
   rw [e] at q
   exact q
theorem AN {qs : List Qu} {g : List Int} {q : Qu} {i : Nat} (h : qs[i]? = some q) (hb : bad g q = true) : iF qs g = false := by
 unfold iF
 rw [List.any_eq_true.mpr ⟨q, S5 h, hb⟩]
 rfl
theorem xD {qs : List Qu} {g : List Int} (h : ∀ (i : Nat) q, i < qs.length -> qs[i]? = some q -> bad g q = false) : iF qs g = true := by
 unfold iF
 have e : qs.any (bad g) = false := by
  rw [List.any_eq_false]
  intro q hq
  obtain ⟨i, hi⟩ := US.mp hq
  rw [h i q (SR.mp hi).1 hi]
  exact Sy
 rw [e]
 rfl
def pR (C : Addr) : Sp := fun vs H Q _ => ∃ (p b : Addr) (ts : List Th) (r : Int) (qs : List Qu) (g : List Int), vs = [.ref p, .ref b] /\ aM C H p ts r qs /\ H b = some (.tup (g.map V.int)) /\ Q (.bl (iF qs g)) H
theorem dF : av ["self", "group", "one", "other", "keeper"] ["self", "group"] (aj cQ) := ge
theorem xE {f : Addr} {fd : FuncData} (F : Mt K "peace" "Night.peace" cQ f fd ["self", "group"]) (T : Txt K mg C Z) : aq P w K mg base bA 1 f fd ["self", "group"] (pR C) := by
 refine F.fn.ok dF (fun vs H Q E h => ?_) (fun cm A outer s H vs Q E hr h => ?_)
 ·obtain ⟨p, b, ts, r, qs, g, rfl, _⟩ := h
  rfl
 ·obtain ⟨p, b, ts, r, qs, g, rfl, N, hb, k⟩ := h
  obtain ⟨dx, t, a, hp, _, ⟨vq, ha, hq⟩⟩ := N.ex
  refine ⟨_, (ag (dZ Tj rfl (jI (qZ (pv 0) rfl)) (lK rfl (aV (gn 2 dF.nd) (aV (gn 3 dF.nd) (aV (gn 4 dF.nd) fO))))
   (ah (bV (PW.pt (pw_and (aE l8 (pv 2) (pv 1) (by with_unfolding_all rfl)) (pw_and (aE l8 (pv 3) (pv 1) (by with_unfolding_all rfl)) (pw_and1 (aE ki (pv 4) (pv 1) (by with_unfolding_all rfl))))))
   (ah (aB iB))
   aO)))
   (ah (aB iB))), ?_⟩
  have hl := aK hq
  refine ⟨_, rfl, p, C, dx, _, _, rfl, hp, T.aS, T.oZ, Fe _ _ _, a, rfl, ⟨_, bR.of ha⟩, xf (K := K) (a := a) (xs := vq) (fun i σ H' => H' = H /\ (∃ v1 v2 v3, σ = [some (.ref p), some (.ref b), v1, v2, v3]) /\ ∀ (j : Nat) q, j < i -> qs[j]? = some q -> bad g q = false)
   ⟨rfl, ⟨_, _, _, rfl⟩, fun j q hj => absurd hj (Nat.not_lt_zero _)⟩ (fun i σ H' _ ⟨e, _⟩ => by rw [e]; exact bR.of ha) ?_ ?_⟩
  ·rintro i x σ H' hi ⟨rfl, ⟨v1, v2, v3, rfl⟩, hn⟩
   obtain ⟨q, MQ, dq⟩ := bG hq hi
   obtain ⟨c, rfl, hc⟩ := z9 dq
   have next : bad g q = false -> ∀ (j : Nat) q', j < i + 1 -> qs[j]? = some q' -> bad g q' = false := fun h0 j q' hj Jh => by
    by_cases e : j = i
    ·subst e; rw [MQ] at Jh; cases Jh; exact h0
    ·exact hn j q' (by omega) Jh
   refine ⟨c, _, rfl, bR.of hc, rfl, _, _, rfl, _, _, rfl, _, _, rfl, rfl, ?_⟩
   refine ⟨_, rfl, _, rfl, b, _, rfl, .inr (bR.of hb), rfl, gE g, _, rfl, ?_⟩
   refine cq (fun h1 => ?_) (fun h1 => ?_)
   ·refine ⟨_, rfl, _, rfl, b, _, rfl, .inr (bR.of hb), rfl, gE g, _, rfl, ?_⟩
    refine cq (fun h2 => ?_) (fun h2 => ?_)
    ·refine ⟨_, rfl, _, rfl, b, _, rfl, .inr (bR.of hb), rfl, gE g, _, rfl, ?_⟩
     refine cq (fun h3 => ?_) (fun h3 => ?_)
     ·have e : bad g q = true := by
       have cB : AQ (.int q.1) (g.map V.int) = true := h1
       have jq : AQ (.int q.2.1) (g.map V.int) = true := h2
       have CA : (!AQ (.int q.2.2) (g.map V.int)) = true := h3
       rw [gu] at cB jq CA
       unfold bad
       rw [cB, jq, CA]
       rfl
      have k' := k
      rw [AN MQ e] at k'
      exact k'
     ·have e : bad g q = false := by
       have CA : (!AQ (.int q.2.2) (g.map V.int)) = false := h3
       rw [gu] at CA
       unfold bad
       rw [CA, Uc]
      exact ⟨rfl, ⟨_, _, _, rfl⟩, next e⟩
    ·have e : bad g q = false := by
      have jq : AQ (.int q.2.1) (g.map V.int) = false := h2
      rw [gu] at jq
      unfold bad
      rw [jq, Uc, Tf]
     exact fV ⟨rfl, ⟨_, _, _, rfl⟩, next e⟩
   ·have e : bad g q = false := by
     have cB : AQ (.int q.1) (g.map V.int) = false := h1
     rw [gu] at cB
     unfold bad
     rw [cB, Tf, Tf]
    exact fV ⟨rfl, ⟨_, _, _, rfl⟩, next e⟩
  ·rintro σ H' ⟨rfl, ⟨v1, v2, v3, rfl⟩, hn⟩
   have k' := k
   rw [xD (qs := qs) (g := g) fun i q hi hq => hn i q (by omega) hq] at k'
   exact k'
end
section
variable {P : Program} {w : World} {K : Vj} {mg : Str -> Option Value} {base : Heap} {C : Addr} {Z : Ad}
def nZ : Sp := fun vs H Q _ => ∃ (cell : Int) (n : Nat), vs = [.int cell, .int n] /\ 2 <= n /\ n <= 6 /\ ∀ (q : Qu) (p : Addr) (H' : Hp), Gu n q -> am H H' -> H' p = some (.tup [.int q.1, .int q.2.1, .int q.2.2]) -> Q (.ref p) H'
theorem bx : av ["cell", "many", "one", "other", "left", "keeper"] ["cell", "many"] (aj bZ) := ge
theorem uR {f : Addr} {fd : FuncData} (F : Fn K mg "_law_quarrel" bZ f fd ["cell", "many"]) (T : Txt K mg C Z) : aq P w K mg base bA 1 f fd ["cell", "many"] nZ := by
 refine F.fn.ok bx (fun vs H Q E h => ?_) (fun cm A outer s H vs Q E hr h => ?_)
 ·obtain ⟨cell, n, rfl, _⟩ := h
  rfl
 ·obtain ⟨cell, n, rfl, h2, h6, k⟩ := h
  refine ⟨_, (ag (sn 2 bx.nd (bb dQ (pv 0) (pv 1)))
   (ag (sn 3 bx.nd (bb dQ (bb fX (bb fX (pv 2) ao) (bb dQ (bb lA (pv 0) (pv 1)) (bb yX (pv 1) ao))) (pv 1)))
   (ag (rS (j := 4) rfl (N' := ["thing", "one", "other"]) (cap := [none, some 2, some 3]) ⟨rfl, by with_unfolding_all rfl⟩ (i9 (by rfl) T.lm (aa (pv 1) af)) (fun _ => (gn 0 (show (["thing", "one", "other"] : List Str).Nodup by decide +kernel))) (fun _ => (fz (PW.pt (pw_and (aE mE (pv 0) (pv 1) (aY _)) (pw_and1 (aE mE (pv 0) (pv 2) (aY _))))))) (fun _ => (pv 0)) bx.nd (by rfl) (by rfl) (by with_unfolding_all rfl))
   (ag (sn 0 bx.nd (bb lA (pv 0) (bb Fw (pv 1) (bb yX (pv 1) ao))))
   (ag (sn 5 bx.nd (Ij EI ao))
   (ag (bV (PW.pt (pw_and (aE wg (bb dQ (pv 0) ao) ao (aY _)) (pw_and1 (aE wg (a8 a6 (by rfl) T.iI Te (aa (pv 4) af)) ao (aY _)))))
   (ah (sn 5 bx.nd (aW jp (pv 4) (bb dQ (bb lA (pv 0) ao) (a8 a6 (by rfl) T.iI Te (aa (pv 4) af))) (fun _ _ => rfl))))
   aO)
   (ah (aB (cD (aa (pv 2) (aa (pv 3) (aa (pv 5) af)))))))))))), ?_⟩
  have hn : (0 : Int) < n := by omega
  have Jl : (0 : Int) < (n : Int) - 1 := by omega
  obtain ⟨p1, p2⟩ := Cm n h2 h6
  obtain ⟨o1, o2, o3, o4, o5⟩ := zF cell n h2 h6
  refine ⟨_, rfl, _, rfl, _, _, rfl, rfl, hn, ?_⟩
  refine ⟨_, rfl, _, _, rfl, rfl, _, rfl, _, rfl, _, _, rfl, rfl, ⟨hn, by omega⟩, _, rfl, _, _, rfl, rfl, _, _, rfl, rfl, Jl, _, _, rfl, rfl, _, rfl, _, _, rfl, rfl, hn, ?_⟩
  dsimp only
  generalize cell % (n : Int) = one at o1 o2 o3 o4 o5 ⊢
  generalize (one + 1 + cell / (n : Int) % ((n : Int) - 1)) % (n : Int) = other at o3 o4 o5 ⊢
  refine ⟨_, rfl, (n : Int), rfl, by omega, by omega, fun D hD => ?_⟩
  refine jP (fun i xs H' => ∃ L : List Int, xs = L.map V.int /\ L.length <= i /\ (∀ t ∈ L, 0 <= t /\ t < n /\ t ≠ one /\ t ≠ other) /\ am H H' /\ H' D = some (.lst xs))
   ⟨[], rfl, Ss _, (fun t ht => by cases ht), ai hD, ae⟩ (fun i xs H' _ ⟨L, _, _, _, _, h⟩ => h) ?_ ?_
  ·rintro i xs H' hi ⟨L, rfl, hL, hm, sm, ju⟩
   have go : ∀ {H5 : Hp}, H5 = H' -> (((0 : Int) + i) ≠ one /\ ((0 : Int) + i) ≠ other) -> ∃ L' : List Int, (L.map V.int ++ [V.int ((0 : Int) + i)]) = L'.map V.int /\ L'.length <= i + 1 /\ (∀ t ∈ L', 0 <= t /\ t < n /\ t ≠ one /\ t ≠ other) /\ am H (L2.upd H5 D (.lst (L.map V.int ++ [V.int ((0 : Int) + i)]))) /\ (L2.upd H5 D (.lst (L.map V.int ++ [V.int ((0 : Int) + i)]))) D = some (.lst (L.map V.int ++ [V.int ((0 : Int) + i)])) := by
    rintro H5 rfl ⟨e1, e2⟩
    refine ⟨L ++ [(0 : Int) + i], by simp, by simp; omega, fun t ht => ?_, az sm hD, ae⟩
    rcases S0.mp ht with z | z
    ·exact hm t z
    ·rw [S7.mp z]
     exact ⟨by omega, by omega, e1, e2⟩
   have j6 : ∃ L' : List Int, L.map V.int = L'.map V.int /\ L'.length <= i + 1 /\ (∀ t ∈ L', 0 <= t /\ t < n /\ t ≠ one /\ t ≠ other) /\ am H H' /\ H' D = some (.lst (L.map V.int)) := ⟨L, rfl, by omega, hm, sm, ju⟩
   refine ⟨cx.set rfl, ?_⟩
   refine ⟨_, rfl, _, rfl, rfl, _, rfl, ?_⟩
   refine cq (fun h1 => ?_) (fun h1 => ?_)
   ·refine ⟨_, rfl, _, rfl, rfl, _, rfl, ?_⟩
    refine cq (fun h2 => ?_) (fun h2 => ?_)
    ·refine ⟨_, rfl, ju, ?_, go rfl ⟨fun z => ?_, fun z => ?_⟩⟩
     ·rw [Sr]; exact aX (by omega)
     ·rw [z] at h1; simp at h1
     ·rw [z] at h2; simp at h2
    ·exact j6
   ·exact fV j6
  ·rintro xs H1 ⟨L, rfl, hL, hm, sm, wN⟩
   refine ⟨_, rfl, _, rfl, _, rfl, _, _, rfl, rfl, _, _, rfl, rfl, .inl ⟨by omega, by omega⟩, _, _, rfl, rfl, ⟨p1, p2⟩, ?_⟩
   dsimp only
   generalize cell / ((n : Int) * ((n : Int) - 1)) = c2
   refine ⟨_, rfl, ?_⟩
   have fin : ∀ kp : Int, (kp = -1 \/ (0 <= kp /\ kp < n /\ kp ≠ one /\ kp ≠ other)) -> ∀ p, H1 p = none -> Q (.ref p) (L2.upd H1 p (.tup [.int one, .int other, .int kp])) := fun kp hk p hp =>
    k (one, other, kp) p _ ⟨o1, o2, o3, o4, o5, hk⟩ (az sm (sm.free hp)) ae
   refine ⟨_, rfl, _, _, rfl, rfl, (by show (0 : Int) < 3; decide), _, _, rfl, rfl, _, rfl, ?_⟩
   refine cq (fun h1 => ?_) (fun h1 => ?_)
   ·refine ⟨_, rfl, D, _, rfl, .inl (bz.of wN), _, _, rfl, rfl, _, rfl, ?_⟩
    refine cq (fun h2 => ?_) (fun h2 => ?_)
    ·have hl : 0 < (L.map V.int).length := by
      have := S1 h2
      omega
     have rm : (0 : Int) < ((L.map V.int).length : Int) := by omega
     obtain ⟨v, hv, HV⟩ := vV (xs := L.map V.int) (i := c2 / 3 % ((L.map V.int).length : Int)) (Ve _ (by omega)) (UM _ rm)
     obtain ⟨kp, NC, rfl⟩ := S9.mp hv
     refine ⟨_, rfl, _, rfl, _, _, rfl, rfl, ⟨by decide, by decide⟩, _, rfl, D, _, rfl, .inl (bz.of wN), _, _, rfl, rfl, rm, D, _, _, _, rfl, rfl, bz.of wN, HV, ?_⟩
     refine ⟨_, rfl, _, rfl, _, rfl, aJ (by show 3 <= _; decide), fin kp (.inr (hm kp NC))⟩
    ·refine ⟨_, rfl, _, rfl, _, rfl, aJ (by show 3 <= _; decide), fin (-1) (.inl rfl)⟩
   ·refine fV ?_
    refine ⟨_, rfl, _, rfl, _, rfl, aJ (by show 3 <= _; decide), fin (-1) (.inl rfl)⟩
def mJ (K : Vj) : Sp := fun vs H Q _ => ∃ (a : Addr) (ns : List Int) (st n : Nat), vs = [.ref a, .int st, .int n] /\ bz K H a (ns.map V.int) /\ 1 <= n /\ n <= 6 /\
 ∀ (qs : List Qu) (p : Addr) (H' : Hp), qs.length <= 4 -> (∀ q ∈ qs, Gu n q) -> am H H' -> LstAt CJ H' p qs -> Q (.ref p) H'
theorem gD : av ["script", "start", "many", "count"] ["script", "start", "many"] (aj cr) := ge
theorem sj {f f1 f2 : Addr} {fd eR m9 : FuncData} (F : Fn K mg "_law_quarrels" cr f fd ["script", "start", "many"]) (T : Txt K mg C Z)
  (aG : Fn K mg "_law_cell_at" bJ f1 eR ["script", "k"]) (dm : Fn K mg "_law_quarrel" bZ f2 m9 ["cell", "many"]) : aq P w K mg base bA 2 f fd ["script", "start", "many"] (mJ K) := by
 have a7 : aq P w K mg base bA 1 f1 eR ["script", "k"] (gZ K) := jV aG T
 have nH : aq P w K mg base bA 1 f2 m9 ["cell", "many"] nZ := uR dm T
 refine F.fn.ok gD (fun vs H Q E h => ?_) (fun cm A outer s H vs Q E hr h => ?_)
 ·obtain ⟨a, ns, st, n, rfl, _⟩ := h
  rfl
 ·obtain ⟨a, ns, st, n, rfl, hS, h1, h6, k⟩ := h
  refine ⟨_, (ag (bV (aE oH (pv 2) ao (aY _))
   (ah (aB (iH af)))
   aO)
   (ag (sn 3 gD.nd (bb dQ (cl a7 aG hr aC (aa (pv 0) (aa (pv 1) af))) ao))
   (ah (aB (cv rfl (N' := ["k", "script", "start", "many"]) (cap := [none, some 0, some 1, some 2]) ⟨rfl, by with_unfolding_all rfl⟩ (i9 (by rfl) T.lm (aa (pv 3) af)) (fun _ => (gn 0 (show (["k", "script", "start", "many"] : List Str).Nodup by decide +kernel))) (fun _ => cT) (fun _ => (cl nH dm hr aC (aa (bb dQ (cl a7 aG hr aC (aa (pv 1) (aa (bb fX (bb fX (pv 2) ao) (pv 0)) af))) (bb zS ao ao)) (aa (pv 3) af))))))))), ?_⟩
  refine ⟨_, rfl, rfl, _, rfl, ?_⟩
  refine Ds (fun h => ?_) (fun h => ?_)
  ·exact ⟨S4 _, fun l hl => k [] l _ (S4 _) (fun q hq => by cases hq) (ai hl) ⟨[], ae, .nil⟩⟩
  ·have h2 : 2 <= n := by
    have z : ¬ V.int (n : Int) = V.int 1 := fun z => h (SE z)
    have : n ≠ 1 := fun e => z (by rw [e]; rfl)
    omega
   refine ⟨_, rfl, _, rfl, a, ns, st, rfl, hS, _, _, rfl, rfl, (by show (0 : Int) < 5; decide), ?_⟩
   have c0 : 0 <= ns.getD st 0 % 5 := Ve _ (by decide)
   have c5 : ns.getD st 0 % 5 < 5 := UM _ (by decide)
   dsimp only
   generalize ns.getD st 0 % 5 = cnt at c0 c5 ⊢
   refine ⟨_, rfl, cnt, rfl, by omega, by omega, fun D hD => ?_⟩
   refine jP (fun i xs H' => ∃ qs : List Qu, qs.length = i /\ (∀ q ∈ qs, Gu n q) /\ am H H' /\ H' D = some (.lst xs) /\ bK H' (qs.map CJ) xs)
    ⟨[], rfl, (fun q hq => by cases hq), ai hD, ae, .nil⟩ (fun i xs H' _ ⟨_, _, _, _, h, _⟩ => h) ?_ ?_
   ·rintro i xs H' hi ⟨qs, hq, ok, sm, ju, dv⟩
    refine ⟨cx.set rfl, ?_⟩
    have e1 : (st : Int) + 1 + (0 + (i : Int)) = ((st + 1 + i : Nat) : Int) := by omega
    refine ⟨_, rfl, _, rfl, _, _, rfl, rfl, _, rfl, _, _, rfl, rfl, a, ns, st + 1 + i, (by show [V.ref a, V.int ((st : Int) + 1 + (0 + (i : Int)))] = _; rw [e1]), sm.seq hS, ?_⟩
    refine ⟨_, _, rfl, rfl, ⟨by decide, by decide, by decide⟩, _, _, rfl, rfl, (by show (0 : Int) < (10 : Int) ^ (9 : Int).toNat; decide), _, rfl, _, n, rfl, h2, h6, fun q p H2 Hr Lq hp => ?_⟩
    have pF := Lq _ _ ju
    have dl : xs.length = qs.length := aK dv
    refine ⟨pF, aX (by omega), qs ++ [q], by simp [hq], fun q' uG => ?_, az (sm.trans Lq) hD, ae, ?_⟩
    ·rcases S0.mp uG with z | z
     ·exact ok q' z
     ·rw [S7.mp z]; exact Hr
    ·rw [Sz]
     exact (bN pF (dv.mono Lq) (aF sJ qs)).snoc (dO pF (Gz hp) (sJ q))
   ·rintro xs H1 ⟨qs, hq, ok, sm, wN, dv⟩
    exact k qs D H1 (by omega) ok sm ⟨xs, wN, dv⟩
def p6 (K : Vj) : Sp := fun vs H Q _ => ∃ (a : Addr) (ns : List Int) (st n : Nat), vs = [.ref a, .int st, .int n] /\ bz K H a (ns.map V.int) /\ n <= 6 /\
 ∀ (ts : List Th) (p : Addr) (H' : Hp), ts.length = n -> (∀ t ∈ ts, 1 <= t.1 /\ t.1 <= 1000000000) -> am H H' -> LstAt yU H' p ts -> Q (.ref p) H'
theorem cA : av ["script", "start", "many", "most", "things", "k", "cell"] ["script", "start", "many"] (aj cW) := ge
theorem xl {f f1 : Addr} {fd eR : FuncData} (F : Fn K mg "_law_things" cW f fd ["script", "start", "many"]) (T : Txt K mg C Z)
  (aG : Fn K mg "_law_cell_at" bJ f1 eR ["script", "k"]) : aq P w K mg base bA 2 f fd ["script", "start", "many"] (p6 K) := by
 have a7 : aq P w K mg base bA 1 f1 eR ["script", "k"] (gZ K) := jV aG T
 refine F.fn.ok cA (fun vs H Q E h => ?_) (fun cm A outer s H vs Q E hr h => ?_)
 ·obtain ⟨a, ns, st, n, rfl, _⟩ := h
  rfl
 ·obtain ⟨a, ns, st, n, rfl, hS, h6, k⟩ := h
  refine ⟨_, (ag (sn 3 cA.nd (aW jp (iH (aa ao (aa ao (aa (bb zS ao ao) af)))) (bb dQ (cl a7 aG hr aC (aa (pv 0) (aa (pv 1) af))) ao) (fun _ _ => rfl)))
   (ag (sn 4 cA.nd (iH af))
   (ag (dZ Tj rfl (i9 (by rfl) T.lm (aa (pv 2) af)) (gn 5 cA.nd)
   (ag (sn 6 cA.nd (cl a7 aG hr aC (aa (pv 0) (aa (bb fX (bb fX (pv 1) ao) (pv 5)) af))))
   (ah (c7 (tE T8 UF UE gH (pv 4) (aa (cD (aa (bb fX ao (bb dQ (bb lA (pv 6) ao) (pv 3))) (aa (fT sW (bb dQ (pv 6) ao) ao (aY _)) af))) af))))))
   (ah (aB (pv 4)))))), ?_⟩
  refine ⟨_, _, rfl, rfl, ⟨by decide, by decide, by decide⟩, aJ (by show 3 <= _; decide), fun l0 ww => ?_⟩
  have s0 : am H (L2.upd H l0 (.lst [V.int 20, V.int 4, V.int ((10 : Int) ^ (9 : Int).toNat)])) := ai ww
  have c0 : 0 <= ns.getD st 0 % 3 := Ve _ (by decide)
  have c3 : ns.getD st 0 % 3 < 3 := UM _ (by decide)
  obtain ⟨v, hv, HV⟩ := vV (xs := [V.int 20, V.int 4, V.int ((10 : Int) ^ (9 : Int).toNat)]) c0 (by show _ < ((3 : Nat) : Int); omega)
  obtain ⟨most, rfl, m1, m2⟩ : ∃ most : Int, v = V.int most /\ 1 <= most /\ most <= 1000000000 := by
   rcases Sx.mp hv with rfl | hv
   ·exact ⟨20, rfl, by decide, by decide⟩
   rcases Sx.mp hv with rfl | hv
   ·exact ⟨4, rfl, by decide, by decide⟩
   rw [S7.mp hv]
   exact ⟨_, rfl, by decide, by decide⟩
  refine ⟨_, rfl, _, rfl, a, ns, st, rfl, s0.seq hS, _, _, rfl, rfl, (by show (0 : Int) < 3; decide), l0, _, _, _, rfl, rfl, bz.of ae, HV, ?_⟩
  refine ⟨S4 _, fun l hl => ?_⟩
  have MA : H l = none := s0.free hl
  refine ⟨_, rfl, (n : Int), rfl, by omega, by omega, yx (fun i σ H' => ∃ (ts : List Th) (vs : List V) (v5 v6 : Option V), σ = [some (.ref a), some (.int st), some (.int n), some (.int most), some (.ref l), v5, v6] /\ ts.length = i /\ (∀ t ∈ ts, 1 <= t.1 /\ t.1 <= 1000000000) /\ am H H' /\ H' l = some (.lst vs) /\ bK H' (ts.map yU) vs)
   ⟨[], [], _, _, rfl, rfl, (fun t ht => by cases ht), az s0 MA, ae, .nil⟩ ?_ ?_⟩
  ·rintro i σ H' hi ⟨ts, vs, v5, v6, rfl, ht, ok, sm, rm, dv⟩
   have e1 : (st : Int) + 1 + (0 + (i : Int)) = ((st + 1 + i : Nat) : Int) := by omega
   refine ⟨_, rfl, _, rfl, _, _, rfl, rfl, _, rfl, _, _, rfl, rfl, a, ns, st + 1 + i, (by show [V.ref a, V.int ((st : Int) + 1 + (0 + (i : Int)))] = _; rw [e1]), sm.seq hS, ?_⟩
   generalize ns.getD (st + 1 + i) 0 = cell
   refine ⟨_, rfl, .inl ⟨rfl, _, bz.of rm⟩, _, rfl, _, _, rfl, rfl, ⟨by decide, by decide⟩, _, rfl, _, _, rfl, rfl, (by show (0 : Int) < most; omega), _, _, rfl, rfl, _, rfl, _, _, rfl, rfl, (by show (0 : Int) < 3; decide), _, _, rfl, rfl, aJ (by show 2 <= _; decide), fun p hp => ?_⟩
   have NY : l ≠ p := ay rm hp
   have rV : (L2.upd H' p (.tup [V.int (1 + cell / 3 % most), V.bl (decide (cell % 3 < 2))])) l = some (.lst vs) := by rw [ak NY]; exact rm
   have dl : vs.length = ts.length := aK dv
   refine ⟨l, vs, _, rfl, rfl, rV, aX (by omega), ?_⟩
   refine ⟨ts ++ [(1 + cell / 3 % most, decide (cell % 3 < 2))], _, _, _, rfl, by simp [ht], fun t Na => ?_, az (az sm (sm.free hp)) MA, ae, ?_⟩
   ·rcases S0.mp Na with z | z
    ·exact ok t z
    ·rw [S7.mp z]
     have q0 : 0 <= cell / 3 % most := Ve _ (by omega)
     have q1 : cell / 3 % most < most := UM _ (by omega)
     exact ⟨by show 1 <= 1 + cell / 3 % most; omega, by show 1 + cell / 3 % most <= 1000000000; omega⟩
   ·rw [Sz]
    exact (bN rV (dv.mono (ai hp)) (aF tT ts)).snoc (dO rV (IK ae) (tT _))
  ·rintro σ H' ⟨ts, vs, v5, v6, rfl, ht, ok, sm, rm, dv⟩
   exact ⟨_, rfl, k ts l H' (by omega) ok sm ⟨vs, rm, dv⟩⟩
structure rP (H : Hp) (p : Addr) (m : Nat) (ts : List Th) (r : Int) (qs : List Qu) : Prop where
 t : uM ts
 m : ts.length <= m
 r1 : 1 <= r
 r3 : r <= 3
 q : ∀ q ∈ qs, Gu ts.length q
 ex : ∃ a b, H p = some (.tup [.ref a, .int r, .ref b]) /\ LstAt yU H a ts /\ LstAt CJ H b qs
theorem rP.mono {H H' : Hp} {p : Addr} {m : Nat} {ts : List Th} {r : Int} {qs : List Qu} (h : rP H p m ts r qs) (e : am H H') : rP H' p m ts r qs :=
 let ⟨a, b, h1, h2, h3⟩ := h.ex
 ⟨h.t, h.m, h.r1, h.r3, h.q, a, b, e _ _ h1, h2.mono e, h3.mono e⟩
def sO (K : Vj) : Sp := fun vs H Q _ => ∃ (a : Addr) (ns : List Int) (m : Nat), vs = [.ref a, .int m] /\ bz K H a (ns.map V.int) /\ 1 <= m /\ m <= 6 /\
 ∀ (ts : List Th) (r : Int) (qs : List Qu) (p : Addr) (H' : Hp), rP H' p m ts r qs -> qs.length <= 4 -> am H H' -> Q (.ref p) H'
theorem eD : av ["script", "most", "many", "room"] ["script", "most"] (aj cM) := ge
theorem zJ {f f1 f2 f3 f4 : Addr} {fd eR m9 xN GI : FuncData} (F : Fn K mg "_law_night" cM f fd ["script", "most"]) (T : Txt K mg C Z)
  (aG : Fn K mg "_law_cell_at" bJ f1 eR ["script", "k"]) (dm : Fn K mg "_law_quarrel" bZ f2 m9 ["cell", "many"])
  (iq : Fn K mg "_law_quarrels" cr f3 xN ["script", "start", "many"]) (jE : Fn K mg "_law_things" cW f4 GI ["script", "start", "many"]) : aq P w K mg base bA 3 f fd ["script", "most"] (sO K) := by
 have a7 : aq P w K mg base bA 1 f1 eR ["script", "k"] (gZ K) := jV aG T
 have m3 : aq P w K mg base bA 2 f3 xN ["script", "start", "many"] (mJ K) := sj iq T aG dm
 have pG : aq P w K mg base bA 2 f4 GI ["script", "start", "many"] (p6 K) := xl jE T aG
 refine F.fn.ok eD (fun vs H Q E h => ?_) (fun cm A outer s H vs Q E hr h => ?_)
 ·obtain ⟨a, ns, m, rfl, _⟩ := h
  rfl
 ·obtain ⟨a, ns, m, rfl, hS, h1, h6, k⟩ := h
  have hm : (0 : Int) < m := by omega
  obtain ⟨tl, Oc, M7⟩ : ∃ t, uv (bX P w K mg base ["script", "most", "many", "room"] "_law_night" cM f cm A outer s H E) ((ci cM).drop 2) t /\ ∀ n : Nat, 1 <= n -> n <= m -> t (bD Q) [some (.ref a), some (.int m), some (.int n), none] H := by
   refine ⟨_, (ag (sn 3 eD.nd (aW jp (iH (aa ao (aa ao (aa ao (aa ao af))))) (bb dQ (cl a7 aG hr aC (aa (pv 0) (aa ao af))) ao) (fun _ _ => rfl)))
   (ah (aB (cD (aa (cl pG jE hr aC (aa (pv 0) (aa ao (aa (pv 2) af)))) (aa (pv 3) (aa (cl m3 iq hr aC (aa (pv 0) (aa ao (aa (pv 2) af)))) af))))))), fun n n1 nm => ?_⟩
   have d0 : 0 <= ns.getD 1 0 % 4 := Ve _ (by decide)
   have d4 : ns.getD 1 0 % 4 < 4 := UM _ (by decide)
   obtain ⟨v, hv, HV⟩ := vV (xs := [V.int 2, V.int 3, V.int 2, V.int 1]) d0 (by show _ < ((4 : Nat) : Int); omega)
   obtain ⟨r, rfl, r1, r3⟩ : ∃ r : Int, v = V.int r /\ 1 <= r /\ r <= 3 := by
    rcases Sx.mp hv with rfl | hv
    ·exact ⟨2, rfl, by decide, by decide⟩
    rcases Sx.mp hv with rfl | hv
    ·exact ⟨3, rfl, by decide, by decide⟩
    rcases Sx.mp hv with rfl | hv
    ·exact ⟨2, rfl, by decide, by decide⟩
    rw [S7.mp hv]
    exact ⟨1, rfl, by decide, by decide⟩
   refine ⟨aJ (by show 4 <= _; decide), fun l0 ww => ?_⟩
   have s0 : am H (L2.upd H l0 (.lst [V.int 2, V.int 3, V.int 2, V.int 1])) := ai ww
   refine ⟨_, rfl, a, ns, 1, rfl, s0.seq hS, _, _, rfl, rfl, (by show (0 : Int) < 4; decide), l0, _, _, _, rfl, rfl, bz.of ae, HV, ?_⟩
   refine ⟨_, rfl, _, rfl, a, ns, 2, n, rfl, s0.seq hS, by omega, fun ts pt H1 ht Km s1 lt => ?_⟩
   refine ⟨_, rfl, _, rfl, _, rfl, a, ns, 10, n, rfl, (s0.trans s1).seq hS, n1, by omega, fun qs pq H2 hq Hr s2 lq => ?_⟩
   refine ⟨aJ (by show 3 <= _; decide), fun p hp => ?_⟩
   exact k ts r qs p _ ⟨⟨by omega, by omega, Km⟩, by omega, r1, r3, by rw [ht]; exact Hr, pt, pq, ae, (lt.mono s2).mono (ai hp), lq.mono (ai hp)⟩ hq ((s0.trans s1).trans (s2.trans (ai hp)))
  refine ⟨_, (ag (sn 2 eD.nd (bb fX ao (bb dQ (cl a7 aG hr aC (aa (pv 0) (aa ao af))) (pv 1))))
   (ag (bV (aE oH (bb dQ (bb lA (cl a7 aG hr aC (aa (pv 0) (aa ao af))) ao) ao) ao (aY _))
   (ah (sn 2 eD.nd (pv 1)))
   aO)
   Oc)), ?_⟩
  refine ⟨_, rfl, a, ns, 0, rfl, hS, _, rfl, _, _, rfl, rfl, hm, _, _, rfl, rfl, ?_⟩
  have c0 : 0 <= ns.getD 0 0 % (m : Int) := Ve _ (by omega)
  have c1 : ns.getD 0 0 % (m : Int) < m := UM _ hm
  refine ⟨_, rfl, a, ns, 0, rfl, hS, _, _, rfl, rfl, ⟨by decide, by decide⟩, _, _, rfl, rfl, (by show (0 : Int) < 2; decide), rfl, _, rfl, ?_⟩
  refine Ds (fun h => ?_) (fun h => ?_)
  ·refine ⟨_, rfl, ?_⟩
   exact M7 m h1 (Ss _)
  ·have e : (1 : Int) + ns.getD 0 0 % (m : Int) = (((1 + ns.getD 0 0 % (m : Int)).toNat : Nat) : Int) := by omega
   have z := M7 (1 + ns.getD 0 0 % (m : Int)).toNat (by omega) (by omega)
   rw [<- e] at z
   exact z
end
section
variable {P : Program} {w : World} {K : Vj} {mg : Str -> Option Value} {base : Heap} {C : Addr} {Z : Ad}
def ir : Sp := fun vs H Q _ => ∃ (a : Addr) (ts : List Th), vs = [.ref a] /\ LstAt yU H a ts /\ uM ts /\ Q .cc H
theorem eL : av ["things", "pace", "rows"] ["things"] (aj cG) := ge
theorem mQ {f : Addr} {fd : FuncData} (F : Fn K mg "check_things" cG f fd ["things"]) (T : Txt K mg C Z) : aq P w K mg base bA 1 f fd ["things"] ir := by
 refine F.fn.ok eL (fun vs H Q E h => ?_) (fun cm A outer s H vs Q E hr h => ?_)
 ·obtain ⟨a, ts, rfl, _⟩ := h
  rfl
 ·obtain ⟨a, ts, rfl, ⟨va, ha, dv⟩, ok, k⟩ := h
  refine ⟨_, (ag (bV (i0 (oW kJ kJ ao (a8 a6 (by rfl) T.iI Te (aa (pv 0) af)) (ii (v := .int (6)) (by rfl) T.pE ⟨_, rfl⟩)))
   (ah gK)
   aO)
   (ah (dZ Tj rfl (cj (pv 0)) (lK rfl (aV (gn 1 eL.nd) (aV (gn 2 eL.nd) fO)))
   (ah (bV (i0 (oW kJ kJ ao (pv 1) (ii (v := .int (1000000000)) (by rfl) T.og ⟨_, rfl⟩)))
   (ah gK)
   aO))))), ?_⟩
  have hl := aK dv
  have l1 := ok.l1
  have l6 := ok.l6
  refine ⟨_, rfl, a, _, rfl, .inl (bz.of ha), _, _, rfl, rfl, _, rfl, ?_⟩
  rw [SE (show (1 : Int) <= (va.length : Int) by omega)]
  refine yb ⟨_, _, rfl, rfl, _, rfl, ?_⟩
  rw [SE (show (va.length : Int) <= 6 by omega)]
  refine fV ?_
  refine ⟨_, rfl, a, rfl, ⟨_, bz.of ha⟩, eH (K := K) (a := a) (xs := va) (fun i σ H' => H' = H /\ ∃ v1 v2, σ = [some (.ref a), v1, v2]) ⟨rfl, _, _, rfl⟩ (fun i σ H' _ ⟨e, _⟩ => by rw [e]; exact bz.of ha) ?_ ?_⟩
  ·rintro i x σ H' hi ⟨rfl, v1, v2, rfl⟩
   obtain ⟨t, ht, dt⟩ := bG dv hi
   obtain ⟨b, rfl, hb⟩ := zI dt
   obtain ⟨p1, p2⟩ := ok.p t (S5 ht)
   refine ⟨b, _, rfl, bR.of hb, rfl, _, _, rfl, _, _, rfl, rfl, ?_⟩
   refine ⟨_, rfl, _, _, rfl, rfl, _, rfl, ?_⟩
   rw [SE (show (1 : Int) <= t.1 from p1)]
   refine yb ⟨_, _, rfl, rfl, _, rfl, ?_⟩
   rw [SE (show t.1 <= (1000000000 : Int) from p2)]
   exact fV ⟨rfl, _, _, rfl⟩
  ·rintro σ H' ⟨rfl, v1, v2, rfl⟩
   exact k
def jz : Sp := fun vs H Q _ => ∃ (r : Int), vs = [.int r] /\ 1 <= r /\ r <= 3 /\ Q .cc H
theorem pI : av ["room"] ["room"] (aj dC) := ge
theorem ph {f : Addr} {fd : FuncData} (F : Fn K mg "check_room" dC f fd ["room"]) (T : Txt K mg C Z) : aq P w K mg base bA 1 f fd ["room"] jz := by
 refine F.fn.ok pI (fun vs H Q E h => ?_) (fun cm A outer s H vs Q E hr h => ?_)
 ·obtain ⟨r, rfl, _⟩ := h
  rfl
 ·obtain ⟨r, rfl, r1, r3, k⟩ := h
  refine ⟨_, (ah (bV (i0 (oW kJ kJ ao (pv 0) (ii (v := .int (3)) (by rfl) T.uc ⟨_, rfl⟩)))
   (ah gK)
   aO)), ?_⟩
  refine ⟨_, rfl, _, _, rfl, rfl, _, rfl, ?_⟩
  rw [SE (show (1 : Int) <= r from r1)]
  refine yb ⟨_, _, rfl, rfl, _, rfl, ?_⟩
  rw [SE (show r <= (3 : Int) from r3)]
  exact fV k
def fJ : Sp := fun vs H Q _ => ∃ (n c : Int), vs = [.int n, .int c] /\ Q (.bl (decide (0 <= n /\ n < c))) H
theorem r8 : av ["number", "count"] ["number", "count"] (aj ck) := ge
theorem iU {f : Addr} {fd : FuncData} (F : Fn K mg "is_thing" ck f fd ["number", "count"]) : aq P w K mg base bA 1 f fd ["number", "count"] fJ := by
 refine F.fn.ok r8 (fun vs H Q E h => ?_) (fun cm A outer s H vs Q E hr h => ?_)
 ·obtain ⟨n, c, rfl, _⟩ := h
  rfl
 ·obtain ⟨n, c, rfl, k⟩ := h
  refine ⟨_, (ah (aB (sL kJ sW ao (pv 0) (pv 1)))), ?_⟩
  refine ⟨_, rfl, _, _, rfl, rfl, _, rfl, ?_⟩
  refine Ds (fun h => ?_) (fun h => ?_)
  ·have h0 : 0 <= n := S1 h
   refine ⟨_, rfl, _, _, rfl, rfl, ?_⟩
   have e : decide (n < c) = decide (0 <= n /\ n < c) := by rw [UQ]; simp [h0]
   show Q (V.bl (decide (n < c))) H
   rw [e]
   exact k
  ·have h0 : ¬ 0 <= n := fun z => h (SE z)
   have e : decide (0 <= n /\ n < c) = false := SW (fun z => h0 z.1)
   rw [e] at k
   exact k
def n6 : Sp := fun vs H Q _ => ∃ (a b c : Int), vs = [.int a, .int b, .int c] /\ Q (.bl (decide (0 <= a /\ a < c) && (decide (0 <= b /\ b < c) && !decide (V.int a = V.int b)))) H
theorem vI : av ["one", "other", "count"] ["one", "other", "count"] (aj eZ) := ge
theorem vK {f f1 : Addr} {fd eR : FuncData} (F : Fn K mg "is_pair" eZ f fd ["one", "other", "count"]) (aZ : Fn K mg "is_thing" ck f1 eR ["number", "count"]) : aq P w K mg base bA 2 f fd ["one", "other", "count"] n6 := by
 have dL : aq P w K mg base bA 1 f1 eR ["number", "count"] fJ := iU aZ
 refine F.fn.ok vI (fun vs H Q E h => ?_) (fun cm A outer s H vs Q E hr h => ?_)
 ·obtain ⟨a, b, c, rfl, _⟩ := h
  rfl
 ·obtain ⟨a, b, c, rfl, k⟩ := h
  refine ⟨_, (ah (aB (i6 (cl dL aZ hr aC (aa (pv 0) (aa (pv 2) af))) (i6 (cl dL aZ hr aC (aa (pv 1) (aa (pv 2) af))) (oB (fT mE (pv 0) (pv 1) (aY _))))))), ?_⟩
  refine ⟨_, rfl, _, rfl, _, _, rfl, _, rfl, ?_⟩
  refine cq (fun h1 => ?_) (fun h1 => ?_)
  ·refine ⟨_, rfl, _, rfl, _, _, rfl, _, rfl, ?_⟩
   refine cq (fun h2 => ?_) (fun h2 => ?_)
   ·refine ⟨_, rfl, _, rfl, rfl, ?_⟩
    rw [h1, h2] at k
    exact k
   ·rw [h1, h2] at k
    exact k
  ·rw [h1] at k
   exact k
def kQ : Sp := fun vs H Q _ => ∃ (kp a b c : Int), vs = [.int kp, .int a, .int b, .int c] /\ Q (.bl (decide (V.int kp = V.int (-1)) || (decide (0 <= kp /\ kp < c) && (!decide (V.int kp = V.int a) && !decide (V.int kp = V.int b))))) H
theorem rE : av ["keeper", "one", "other", "count"] ["keeper", "one", "other", "count"] (aj di) := ge
theorem qU {f f1 : Addr} {fd eR : FuncData} (F : Fn K mg "is_keeper" di f fd ["keeper", "one", "other", "count"]) (T : Txt K mg C Z) (aZ : Fn K mg "is_thing" ck f1 eR ["number", "count"]) : aq P w K mg base bA 2 f fd ["keeper", "one", "other", "count"] kQ := by
 have dL : aq P w K mg base bA 1 f1 eR ["number", "count"] fJ := iU aZ
 refine F.fn.ok rE (fun vs H Q E h => ?_) (fun cm A outer s H vs Q E hr h => ?_)
 ·obtain ⟨kp, a, b, c, rfl, _⟩ := h
  rfl
 ·obtain ⟨kp, a, b, c, rfl, k⟩ := h
  refine ⟨_, (ag (bV (aE oH (pv 0) (ii (v := .int (-1)) (by rfl) T.tI ⟨_, rfl⟩) (aY _))
   (ah (aB iB))
   aO)
   (ah (aB (i6 (cl dL aZ hr aC (aa (pv 0) (aa (pv 3) af))) (i6 (fT mE (pv 0) (pv 1) (aY _)) (oB (fT mE (pv 0) (pv 2) (aY _)))))))), ?_⟩
  refine ⟨_, rfl, rfl, _, rfl, ?_⟩
  refine cq (fun h0 => ?_) (fun h0 => ?_)
  ·rw [h0] at k
   exact k
  ·rw [h0] at k
   refine ⟨_, rfl, _, rfl, _, _, rfl, _, rfl, ?_⟩
   refine cq (fun h1 => ?_) (fun h1 => ?_)
   ·rw [h1] at k
    refine ⟨_, rfl, _, rfl, rfl, _, rfl, ?_⟩
    refine cq (fun h2 => ?_) (fun h2 => ?_)
    ·rw [h2] at k
     refine ⟨_, rfl, _, rfl, rfl, ?_⟩
     exact k
    ·rw [h2] at k
     exact k
   ·rw [h1] at k
    exact k
def fR : Sp := fun vs H Q _ => ∃ (a : Addr) (n : Nat) (qs : List Qu), vs = [.ref a, .int n] /\ LstAt CJ H a qs /\ qs.length <= 30 /\ (∀ q ∈ qs, Gu n q) /\ Q .cc H
theorem cw : av ["quarrels", "count", "one", "other", "keeper"] ["quarrels", "count"] (aj bY) := ge
theorem k9 {f f1 f2 f3 : Addr} {fd eR m9 xN : FuncData} (F : Fn K mg "check_quarrels" bY f fd ["quarrels", "count"]) (T : Txt K mg C Z) (aZ : Fn K mg "is_thing" ck f1 eR ["number", "count"])
  (jf : Fn K mg "is_pair" eZ f2 m9 ["one", "other", "count"]) (fK : Fn K mg "is_keeper" di f3 xN ["keeper", "one", "other", "count"]) : aq P w K mg base bA 3 f fd ["quarrels", "count"] fR := by
 have yi : aq P w K mg base bA 2 f2 m9 ["one", "other", "count"] n6 := vK jf aZ
 have tQ : aq P w K mg base bA 2 f3 xN ["keeper", "one", "other", "count"] kQ := qU fK T aZ
 refine F.fn.ok cw (fun vs H Q E h => ?_) (fun cm A outer s H vs Q E hr h => ?_)
 ·obtain ⟨a, n, qs, rfl, _⟩ := h
  rfl
 ·obtain ⟨a, n, qs, rfl, ⟨va, ha, dv⟩, O6, ok, k⟩ := h
  refine ⟨_, (ag (bV (aE wg (a8 a6 (by rfl) T.iI Te (aa (pv 0) af)) (ii (v := .int (30)) (by rfl) T.mW ⟨_, rfl⟩) (aY _))
   (ah gK)
   aO)
   (ah (dZ Tj rfl (cj (pv 0)) (lK rfl (aV (gn 2 cw.nd) (aV (gn 3 cw.nd) (aV (gn 4 cw.nd) fO))))
   (ag (bV (i0 (iN (cl yi jf hr aC (aa (pv 2) (aa (pv 3) (aa (pv 1) af))))))
   (ah gK)
   aO)
   (ah (bV (i0 (iN (cl tQ fK hr aC (aa (pv 4) (aa (pv 2) (aa (pv 3) (aa (pv 1) af)))))))
   (ah gK)
   aO)))))), ?_⟩
  have hl := aK dv
  refine ⟨_, rfl, a, _, rfl, .inl (bz.of ha), _, _, rfl, rfl, _, rfl, ?_⟩
  rw [SW (show ¬ (30 : Int) < (va.length : Int) by omega)]
  refine fV ?_
  refine ⟨_, rfl, a, rfl, ⟨_, bz.of ha⟩, eH (K := K) (a := a) (xs := va) (fun i σ H' => H' = H /\ ∃ v1 v2 v3, σ = [some (.ref a), some (.int n), v1, v2, v3]) ⟨rfl, _, _, _, rfl⟩ (fun i σ H' _ ⟨e, _⟩ => by rw [e]; exact bz.of ha) ?_ ?_⟩
  ·rintro i x σ H' hi ⟨rfl, v1, v2, v3, rfl⟩
   obtain ⟨q, hq, dq⟩ := bG dv hi
   obtain ⟨b, rfl, hb⟩ := z9 dq
   have o := ok q (S5 hq)
   refine ⟨b, _, rfl, bR.of hb, rfl, _, _, rfl, _, _, rfl, _, _, rfl, rfl, ?_⟩
   refine ⟨_, rfl, _, rfl, _, rfl, _, _, _, rfl, _, rfl, ?_⟩
   have e1 : decide (0 <= q.1 /\ q.1 < (n : Int)) = true := SE ⟨o.a0, o.a1⟩
   have e2 : decide (0 <= q.2.1 /\ q.2.1 < (n : Int)) = true := SE ⟨o.b0, o.b1⟩
   have e3 : decide (V.int q.1 = V.int q.2.1) = false := SW fun z => o.ab (by injection z)
   rw [e1, e2, e3]
   refine fV ?_
   refine ⟨_, rfl, _, rfl, _, rfl, _, rfl, _, _, _, _, rfl, _, rfl, ?_⟩
   have e4 : (decide (V.int q.2.2 = V.int (-1)) || (decide (0 <= q.2.2 /\ q.2.2 < (n : Int)) && (!decide (V.int q.2.2 = V.int q.1) && !decide (V.int q.2.2 = V.int q.2.1)))) = true := by
    rcases o.k with z | ⟨z1, z2, z3, z4⟩
    ·rw [SE (show V.int q.2.2 = V.int (-1) by rw [z])]
     rfl
    ·rw [SE (show 0 <= q.2.2 /\ q.2.2 < (n : Int) from ⟨z1, z2⟩), SW (show ¬ V.int q.2.2 = V.int q.1 from fun z => z3 (by injection z)), SW (show ¬ V.int q.2.2 = V.int q.2.1 from fun z => z4 (by injection z))]
     simp
   rw [e4]
   exact fV ⟨rfl, _, _, _, rfl⟩
  ·rintro σ H' ⟨rfl, v1, v2, v3, rfl⟩
   exact k
def wA (C : Addr) : Sp := fun vs H Q _ => ∃ (p dx a b : Addr) (ts : List Th) (r : Int) (qs : List Qu), vs = [.ref p, .ref a, .int r, .ref b] /\ H p = some (.ins C dx []) /\ LstAt yU H a ts /\ uM ts /\ 1 <= r /\ r <= 3 /\ LstAt CJ H b qs /\ qs.length <= 30 /\ (∀ q ∈ qs, Gu ts.length q) /\
 ∀ H', aM C H' p ts r qs -> (∀ b o, H b = some o -> b ≠ p -> H' b = some o) -> Q .cc H'
theorem kP : av ["self", "things", "room", "quarrels"] ["self", "things", "room", "quarrels"] (aj cI) := ge
theorem Cj {f f1 f2 f3 f4 f5 f6 : Addr} {fd eR m9 xN GI Mv Mz : FuncData} (F : Mt K "__init__" "Night.__init__" cI f fd ["self", "things", "room", "quarrels"]) (T : Txt K mg C Z) (aZ : Fn K mg "is_thing" ck f1 eR ["number", "count"])
  (jf : Fn K mg "is_pair" eZ f2 m9 ["one", "other", "count"]) (fK : Fn K mg "is_keeper" di f3 xN ["keeper", "one", "other", "count"])
  (iW : Fn K mg "check_things" cG f4 GI ["things"]) (lH : Fn K mg "check_room" dC f5 Mv ["room"]) (gM : Fn K mg "check_quarrels" bY f6 Mz ["quarrels", "count"]) :
  aq P w K mg base bA 4 f fd ["self", "things", "room", "quarrels"] (wA C) := by
 have oy : aq P w K mg base bA 1 f4 GI ["things"] ir := mQ iW T
 have rQ : aq P w K mg base bA 1 f5 Mv ["room"] jz := ph lH T
 have mh : aq P w K mg base bA 3 f6 Mz ["quarrels", "count"] fR := k9 gM T aZ jf fK
 refine F.fn.ok kP (fun vs H Q E h => ?_) (fun cm A outer s H vs Q E hr h => ?_)
 ·obtain ⟨p, dx, a, b, ts, r, qs, rfl, _⟩ := h
  rfl
 ·obtain ⟨p, dx, a, b, ts, r, qs, rfl, hp, lt, Km, r1, r3, lq, hq, Hr, k⟩ := h
  refine ⟨_, (ag (c7 (cl oy iW hr aC (aa (pv 1) af)))
   (ag (c7 (cl rQ lH hr aC (aa (pv 2) af)))
   (ag (c7 (cl mh gM hr aC (aa (pv 3) (aa (a8 a6 (by rfl) T.iI Te (aa (pv 1) af)) af))))
   (ag (vP (pv 0) (b7 cY (by rfl) T.jh boot_tuple (aa (pv 1) af)) rfl)
   (ag (vP (pv 0) (pv 2) rfl)
   (ah (vP (pv 0) (b7 cY (by rfl) T.jh boot_tuple (aa (pv 3) af)) rfl))))))), ?_⟩
  obtain ⟨va, ha, Ms⟩ := id lt
  obtain ⟨vb, hb, Qx⟩ := id lq
  have hl := aK Ms
  refine ⟨_, rfl, a, ts, rfl, lt, Km, ?_⟩
  refine ⟨_, rfl, r, rfl, r1, r3, ?_⟩
  refine ⟨_, rfl, _, rfl, a, _, rfl, .inl (bz.of ha), b, va.length, qs, rfl, lq, hq, by rw [hl]; exact Hr, ?_⟩
  refine ⟨_, rfl, a, _, rfl, .inl ⟨bz.of ha, fun t ht => ?_⟩⟩
  have Ml : p ≠ t := ay hp ht
  have Ob : b ≠ t := ay hb ht
  refine ⟨_, rfl, p, C, dx, [], rfl, (by rw [ak Ml]; exact hp), T.aS, T.nS, (by show 0 < 1000; decide), ?_⟩
  refine ⟨_, rfl, _, rfl, p, C, dx, _, rfl, ae, T.aS, T.ze, (by show 1 < 1000; decide), ?_⟩
  have M8 : b ≠ p := cR hb hp (by intro z; cases z)
  have IX : ∀ o o', (L2.upd (L2.upd (L2.upd H t (.tup va)) p o) p o') b = some (.lst vb) := fun o o' => by rw [ak M8, ak M8, ak Ob]; exact hb
  refine ⟨_, rfl, b, _, rfl, .inl ⟨bz.of (IX _ _), fun q uG => ?_⟩⟩
  have MF : p ≠ q := ay (H := L2.upd (L2.upd (L2.upd H t (.tup va)) p _) p _) ae uG
  refine ⟨_, rfl, p, C, dx, _, rfl, (by rw [ak MF]; exact ae), T.aS, T.oZ, (by show 2 < 1000; decide), ?_⟩
  have old : ∀ b o, H b = some o -> b ≠ p -> (L2.upd (L2.upd (L2.upd (L2.upd (L2.upd H t (.tup va)) p (.ins C dx (de "kept_things" (.ref t) []))) p (.ins C dx (de "kept_room" (.int r) (de "kept_things" (.ref t) [])))) q (.tup vb)) p (.ins C dx (kO t r q))) b = some o := fun c o hc Hu => by
   have Qs : c ≠ t := ay hc ht
   have h1 : (L2.upd (L2.upd (L2.upd H t (.tup va)) p (.ins C dx (de "kept_things" (.ref t) []))) p (.ins C dx (de "kept_room" (.int r) (de "kept_things" (.ref t) [])))) c = some o := by rw [ak Hu, ak Hu, ak Qs]; exact hc
   have P8 : c ≠ q := ay h1 uG
   rw [ak Hu, ak P8]
   exact h1
  have Kt : t ≠ p := fun e => Ml e.symm
  have Mm : (L2.upd (L2.upd (L2.upd H t (.tup va)) p (.ins C dx (de "kept_things" (.ref t) []))) p (.ins C dx (de "kept_room" (.int r) (de "kept_things" (.ref t) [])))) t = some (.tup va) := by rw [ak Kt, ak Kt]; exact ae
  have O7 : t ≠ q := ay Mm uG
  have sm : ∀ {α : Type} {f : α -> PyData} {l : List α} {vs : List V}, (∀ x, eF (f x) = true) -> bK H (l.map f) vs -> bK (L2.upd (L2.upd (L2.upd (L2.upd (L2.upd H t (.tup va)) p (.ins C dx (de "kept_things" (.ref t) []))) p (.ins C dx (de "kept_room" (.int r) (de "kept_things" (.ref t) [])))) q (.tup vb)) p (.ins C dx (kO t r q))) (l.map f) vs := fun {α f l vs} hf h => i8 (fun b ws hb => old b _ hb (by
    intro z
    rw [z, hp] at hb
    cases hb)) h (aF hf l)
  refine k _ ⟨dx, t, q, ae, ⟨va, ?_, sm tT Ms⟩, ⟨vb, ?_, sm sJ Qx⟩⟩ old
  ·rw [ak Kt, ak O7]; exact Mm
  ·rw [ak (fun e => MF e.symm)]; exact ae
def fh (C : Addr) : Sp := fun vs H Q _ => ∃ (p : Addr) (ts : List Th) (r : Int) (qs : List Qu), vs = [.ref p] /\ aM C H p ts r qs /\ ∀ l vs, H l = none -> bK H (ts.map yU) vs -> Q (.ref l) (L2.upd H l (.lst vs))
theorem mY : av ["self"] ["self"] (aj bp) := ge
theorem gQ {f : Addr} {fd : FuncData} (F : Mt K "things" "Night.things" bp f fd ["self"]) (T : Txt K mg C Z) : aq P w K mg base bA 1 f fd ["self"] (fh C) := by
 refine F.fn.ok mY (fun vs H Q E h => ?_) (fun cm A outer s H vs Q E hr h => ?_)
 ·obtain ⟨p, ts, r, qs, rfl, _⟩ := h
  rfl
 ·obtain ⟨p, ts, r, qs, rfl, N, k⟩ := h
  obtain ⟨dx, t, q, hp, ⟨vt, ht, dt⟩, _⟩ := N.ex
  refine ⟨_, (ah (aB (b7 ij (by rfl) T.vo boot_list (aa (qZ (pv 0) rfl) af)))), ?_⟩
  exact ⟨_, rfl, p, C, dx, _, _, rfl, hp, T.aS, T.nS, Ai _ _ _, t, _, rfl, .inr (bR.of ht), fun l hl => k l vt hl dt⟩
def tN (C : Addr) : Sp := fun vs H Q _ => ∃ (p : Addr) (ts : List Th) (r : Int) (qs : List Qu), vs = [.ref p] /\ aM C H p ts r qs /\ Q (.int r) H
theorem pd : av ["self"] ["self"] (aj eT) := ge
theorem zT {f : Addr} {fd : FuncData} (F : Mt K "room" "Night.room" eT f fd ["self"]) (T : Txt K mg C Z) : aq P w K mg base bA 1 f fd ["self"] (tN C) := by
 refine F.fn.ok pd (fun vs H Q E h => ?_) (fun cm A outer s H vs Q E hr h => ?_)
 ·obtain ⟨p, ts, r, qs, rfl, _⟩ := h
  rfl
 ·obtain ⟨p, ts, r, qs, rfl, N, k⟩ := h
  obtain ⟨dx, t, q, hp, _, _⟩ := N.ex
  refine ⟨_, (ah (aB (qZ (pv 0) rfl))), ?_⟩
  exact ⟨_, rfl, p, C, dx, _, _, rfl, hp, T.aS, T.ze, Fx _ _ _, k⟩
def Ej (n : Nat) : PyData := .tuple [gg (bM n), .int 0]
def oi (C : Addr) : Sp := fun vs H Q _ => ∃ (p : Addr) (ts : List Th) (r : Int) (qs : List Qu), vs = [.ref p] /\ aM C H p ts r qs /\ ts.length <= 6 /\ ∀ l H', am H H' -> DV H' (Ej ts.length) (.ref l) -> Q (.ref l) H'
theorem m4 : av ["self"] ["self"] (aj cF) := ge
theorem uY {f : Addr} {fd : FuncData} (F : Mt K "begins" "Night.begins" cF f fd ["self"]) (T : Txt K mg C Z) : aq P w K mg base bA 1 f fd ["self"] (oi C) := by
 refine F.fn.ok m4 (fun vs H Q E h => ?_) (fun cm A outer s H vs Q E hr h => ?_)
 ·obtain ⟨p, ts, r, qs, rfl, _⟩ := h
  rfl
 ·obtain ⟨p, ts, r, qs, rfl, N, h6, k⟩ := h
  obtain ⟨dx, t, q, hp, ⟨vt, ht, dt⟩, _⟩ := N.ex
  have hl := aK dt
  refine ⟨_, (ah (aB (cD (aa (b7 (l3 rfl) (by rfl) T.jh boot_tuple (aa (b7 tL (by rfl) T.lm boot_range (aa (a8 a6 (by rfl) T.iI Te (aa (qZ (pv 0) rfl) af)) af)) af)) (aa ao af))))), ?_⟩
  refine ⟨_, rfl, p, C, dx, _, _, rfl, hp, T.aS, T.nS, Ai _ _ _, t, _, rfl, .inr (bR.of ht), _, rfl, fun l rm => ?_⟩
  refine ⟨l, ts.length, rfl, by rw [hl]; exact ae, by omega, fun g hg => ?_⟩
  refine ⟨aJ (by show 2 <= _; decide), fun o ho => ?_⟩
  have sg : am H (L2.upd (L2.upd H l (.Dj 0 (vt.length : Nat))) g (.tup ((bM ts.length).map V.int))) := az (ai rm) ((ai rm).free hg)
  refine k o _ (az sg (sg.free ho)) (.tup ae (.cons (iZ ?_) (.cons (.int 0) .nil)))
  rw [ak (ay (H := L2.upd (L2.upd H l (.Dj 0 (vt.length : Nat))) g (.tup ((bM ts.length).map V.int))) ae ho)]
  exact ae
def KY : PyData := .tuple [.tuple [], .int 1]
def i7 : Sp := fun vs H Q _ => ∃ (p : Addr), vs = [.ref p] /\ ∀ l H', am H H' -> DV H' KY (.ref l) -> Q (.ref l) H'
theorem pk : av ["self"] ["self"] (aj dB) := ge
theorem kF {f : Addr} {fd : FuncData} (F : Mt K "ends" "Night.ends" dB f fd ["self"]) : aq P w K mg base bA 1 f fd ["self"] i7 := by
 refine F.fn.ok pk (fun vs H Q E h => ?_) (fun cm A outer s H vs Q E hr h => ?_)
 ·obtain ⟨p, rfl, _⟩ := h
  rfl
 ·obtain ⟨p, rfl, k⟩ := h
  refine ⟨_, (ah (aB (cD (aa (cD af) (aa ao af))))), ?_⟩
  refine ⟨S4 _, fun g hg => ⟨aJ (by show 2 <= _; decide), fun o ho => ?_⟩⟩
  have sg : am H (L2.upd H g (.tup [])) := ai hg
  refine k o _ (az sg (sg.free ho)) (.tup ae (.cons (.tup ?_ .nil) (.cons (.int 1) .nil)))
  rw [ak (ay (H := L2.upd H g (.tup [])) ae ho)]
  exact ae
end
theorem bS (t : Addr) (r : Int) (q : Addr) : (kO t r q).lookup ("things" : Str) = none := qT _ _ _ (by decide +kernel) (by decide +kernel) (by decide +kernel)
theorem uQ (t : Addr) (r : Int) (q : Addr) : (kO t r q).lookup ("room" : Str) = none := qT _ _ _ (by decide +kernel) (by decide +kernel) (by decide +kernel)
theorem jg (t : Addr) (r : Int) (q : Addr) : (kO t r q).lookup ("peace" : Str) = none := qT _ _ _ (by decide +kernel) (by decide +kernel) (by decide +kernel)
def b9 (H : Hp) (a : Addr) (st : aQ) : Prop := ∃ b, H a = some (.tup [.ref b, .int st.2]) /\ H b = some (.tup (st.1.map V.int))
theorem b9.mono {H H' : Hp} {a : Addr} {st : aQ} (h : b9 H a st) (e : am H H') : b9 H' a st := let ⟨b, h1, h2⟩ := h; ⟨b, e _ _ h1, e _ _ h2⟩
theorem b9.dv {H : Hp} {a : Addr} {st : aQ} (h : b9 H a st) : DV H (fe st) (.ref a) := let ⟨_, h1, h2⟩ := h; .tup h1 (.cons (iZ h2) (.cons (.int _) .nil))
section
variable {P : Program} {w : World} {K : Vj} {mg : Str -> Option Value} {base : Heap} {C : Addr} {Z : Ad}
def tO : Sp := fun vs H Q _ => ∃ (a : Addr) (g : List Int), vs = [.ref a] /\ H a = some (.tup (g.map V.int)) /\ g.length <= 1000 /\ ∀ H', am H H' -> Q (.bl (mI g)) H'
theorem A8 : av ["group"] ["group"] (aj kW) := ge
theorem zf {f : Addr} {fd : FuncData} (F : Fn K mg "rises" kW f fd ["group"]) (T : Txt K mg C Z) : aq P w K mg base bA 1 f fd ["group"] tO := by
 refine F.fn.ok A8 (fun vs H Q E h => ?_) (fun cm A outer s H vs Q E hr h => ?_)
 ·obtain ⟨a, g, rfl, _⟩ := h
  rfl
 ·obtain ⟨a, g, rfl, ha, hl, k⟩ := h
  refine ⟨_, (ah (aB (a8 (sN rfl) (by rfl) T.DT boot_all (aa (cv rfl (N' := ["one", "other"]) (cap := [none, none]) ⟨rfl, by with_unfolding_all rfl⟩ (FZ (by rfl) T.GW boot_zip (aa (pv 0) (aa (zM Di (pv 0) (Dc ao) CD) af))) (fun _ => (tupK (K := K) (n := 2) rfl rfl (aV (gn 0 (show (["one", "other"] : List Str).Nodup by decide +kernel)) (aV (gn 1 (show (["one", "other"] : List Str).Nodup by decide +kernel)) fO)))) (fun _ => cT) (fun _ => (fT sW (pv 0) (pv 1) (aY _)))) af)))), ?_⟩
  refine ⟨_, rfl, _, rfl, 1, rfl, ?_⟩
  by_cases hg : g = []
  ·subst hg
   refine .inr ⟨a, _, rfl, bR.of ha, ⟨rfl, rfl⟩, a, a, _, _, rfl, ha, ha, fun D hD => ?_⟩
   refine tU (n := 0) (fun i xs H' => am H H' /\ H' D = some (.lst xs) /\ xs = [] /\ H' a = some (.tup [])) ⟨ai hD, ae, rfl, (ai hD) _ _ ha⟩ rfl (fun i xs H' _ ⟨_, h, _, h2⟩ => ⟨h, h2, h2⟩) ?_ ?_
   ·rintro i x y xs H' p hx
    simp at hx
   ·rintro xs H' ⟨sm, ju, rfl, _⟩
    exact ⟨D, [], rfl, bz.of ju, k H' sm⟩
  ·have h1 : 1 <= g.length := U6.mpr hg
   have e1 : HT.c8 (g.map V.int).length 0 (some ((1 : Nat) : Int)) = 1 := by rw [HT.BY, Sr]; omega
   refine .inl ⟨a, _, rfl, bR.of ha, (fun z => by have z1 := z.1; rw [show (1 : Int) = ((1 : Nat) : Int) from rfl, e1] at z1; cases z1), fun p hp => ?_⟩
   have ec : ud (g.map V.int) (some 1) none = (g.drop 1).map V.int := by
    unfold ud
    rw [show (1 : Int) = ((1 : Nat) : Int) from rfl, e1]
    show List.take ((g.map V.int).length - 1) _ = _
    rw [<- List.map_drop, SF (by simp)]
   rw [ec]
   have s1 : am H (L2.upd H p (.tup ((g.drop 1).map V.int))) := ai hp
   refine ⟨a, p, _, _, rfl, s1 _ _ ha, ae, fun D hD => ?_⟩
   have OJ := s1.free hD
   refine tU (as := g.map V.int) (bs := (g.drop 1).map V.int) (n := g.length - 1) (fun i xs H' => am (L2.upd H p (.tup ((g.drop 1).map V.int))) H' /\ H' D = some (.lst xs) /\ xs = ((g.zip (g.drop 1)).take i).map fun q => V.bl (decide (q.1 < q.2)))
    ⟨ai hD, ae, by simp⟩ (by simp) (fun i xs H' _ ⟨sm, h, _⟩ => ⟨h, sm _ _ (s1 _ _ ha), sm _ _ ae⟩) ?_ ?_
   ·rintro i x y xs H' q hx hy hq ⟨sm, ju, rfl⟩
    rw [SH, Tl] at hx hy
    obtain ⟨x', pJ, rfl⟩ := hx
    obtain ⟨y', fm, rfl⟩ := hy
    refine ⟨q, _, rfl, bR.of ae, rfl, _, _, rfl, _, _, rfl, rfl, (cx.set rfl).trans (cx.set rfl), ?_⟩
    have sq : am H' (L2.upd H' q (.tup [V.int x', V.int y'])) := ai hq
    have NQ := sq _ _ ju
    refine ⟨_, rfl, _, rfl, _, _, rfl, rfl, NQ, aX (by rw [Sr, SS]; simp; omega), az (sm.trans sq) hD, ae, ?_⟩
    have ez : (g.zip (g.drop 1))[i]? = some (x', y') := by rw [List.getElem?_zip_eq_some]; exact ⟨pJ, fm⟩
    rw [SV, ez]
    simp
   ·rintro xs H' ⟨sm, ju, rfl⟩
    refine ⟨D, (g.zip (g.drop 1)).map (fun q : Int × Int => decide (q.1 < q.2)), rfl, bz.of ?_, k H' (s1.trans sm)⟩
    rw [ju, Tg, SF (by simp)]
    rfl
def gc (C : Addr) : Sp := fun vs H Q _ => ∃ (p b : Addr) (ts : List Th) (r : Int) (qs : List Qu) (g : List Int), vs = [.ref p, .ref b] /\ aM C H p ts r qs /\ ts.length <= 6 /\ H b = some (.tup (g.map V.int)) /\
 ∀ l H', am H H' -> H' l = some (.tup ((restOf ts.length g).map V.int)) -> Q (.ref l) H'
theorem pi : av ["night", "group"] ["night", "group"] (aj dE) := ge
theorem jD {f f1 : Addr} {fd eR : FuncData} (F : Fn K mg "other_bank" dE f fd ["night", "group"]) (T : Txt K mg C Z) (a9 : Meth K C "things" f1) (aL : Mt K "things" "Night.things" bp f1 eR ["self"]) :
  aq P w K mg base bA 2 f fd ["night", "group"] (gc C) := by
 have bL : aq P w K mg base bA 1 f1 eR ["self"] (fh C) := gQ aL T
 refine F.fn.ok pi (fun vs H Q E h => ?_) (fun cm A outer s H vs Q E hr h => ?_)
 ·obtain ⟨p, b, ts, r, qs, g, rfl, _⟩ := h
  rfl
 ·obtain ⟨p, b, ts, r, qs, g, rfl, N, h6, hb, k⟩ := h
  obtain ⟨dx, t, q, hp, _, _⟩ := id N.ex
  refine ⟨_, (ah (aB (b7 cY (by rfl) T.jh boot_tuple (aa (cv rfl (N' := ["thing", "group"]) (cap := [none, some 1]) ⟨rfl, by with_unfolding_all rfl⟩ (i9 (by rfl) T.lm (aa (a8 a6 (by rfl) T.iI Te (aa (cn (pv 0) T.aS a9 bL (hr.mono (by decide)) aL.b .nil aC) af)) af)) (fun _ => (gn 0 (show (["thing", "group"] : List Str).Nodup by decide +kernel))) (fun _ => (fz (aE (zn (K := K) rfl) (pv 0) (pv 1) (by with_unfolding_all rfl)))) (fun _ => (pv 0))) af)))), ?_⟩
  refine ⟨_, rfl, p, dx, _, rfl, hp, bS _ _ _, p, ts, r, qs, rfl, N, fun l vs hl dv => ?_⟩
  have s1 : am H (L2.upd H l (.lst vs)) := ai hl
  have lv := aK dv
  refine ⟨l, _, rfl, .inl (bz.of ae), _, rfl, by omega, by omega, fun D hD => ?_⟩
  have OJ := s1.free hD
  rw [TF, lv]
  refine jP (n := ts.length) (fun i xs H' => am (L2.upd H l (.lst vs)) H' /\ H' D = some (.lst xs) /\ xs = ((bM i).filter fun t => !g.contains t).map V.int)
   ⟨ai hD, ae, rfl⟩ (fun i xs H' _ ⟨_, h, _⟩ => h) ?_ ?_
  ·rintro i xs H' hi ⟨sm, ju, rfl⟩
   have e1 : ((0 : Int) + (i : Int)) = (i : Int) := by omega
   refine ⟨cx.set rfl, ?_⟩
   refine ⟨_, rfl, _, rfl, b, _, rfl, .inr (bR.of (sm _ _ (s1 _ _ hb))), rfl, gE g, _, rfl, ?_⟩
   rw [gu, e1]
   have sl : ((bM i).filter fun t => !g.contains t).length <= i := SD (SY _ _) (by rw [bn]; exact Ss _)
   refine cq (fun h1 => ?_) (fun h1 => ?_)
   ·refine ⟨_, rfl, ju, aX (by rw [Sr]; omega), az sm hD, ae, ?_⟩
    rw [jm, S3, Sz]
    have cB : (!g.contains (i : Int)) = true := h1
    have ef : [(i : Int)].filter (fun t => !g.contains t) = [(i : Int)] := by rw [Ta, if_pos cB]; rfl
    rw [ef]
    rfl
   ·refine ⟨sm, ju, ?_⟩
    have cB : (!g.contains (i : Int)) = false := h1
    have ef : [(i : Int)].filter (fun t => !g.contains t) = [] := by rw [Ta, if_neg (by rw [cB]; simp)]; rfl
    rw [jm, S3, Sz, ef]
    simp
  ·rintro xs H' ⟨sm, ju, rfl⟩
   have sH := s1.trans sm
   exact ⟨D, _, rfl, .inl ⟨bz.of ju, fun o ho => k o _ (az sH (sH.free ho)) ae⟩⟩
def g9 (C : Addr) : Sp := fun vs H Q _ => ∃ (p a : Addr) (ts : List Th) (r : Int) (qs : List Qu) (st : aQ), vs = [.ref p, .ref a] /\ aM C H p ts r qs /\ ts.length <= 6 /\ b9 H a st /\ ∀ H', am H H' -> Q (.bl (aT qs ts.length st.1)) H'
theorem vY : av ["night", "standing"] ["night", "standing"] (aj jo) := ge
theorem jM {f f1 f2 f3 : Addr} {fd eR m9 xN : FuncData} (F : Fn K mg "is_good" jo f fd ["night", "standing"]) (T : Txt K mg C Z) (a9 : Meth K C "things" f1) (aL : Mt K "things" "Night.things" bp f1 eR ["self"])
  (jB : Meth K C "peace" f2) (gh : Mt K "peace" "Night.peace" cQ f2 m9 ["self", "group"]) (eS : Fn K mg "other_bank" dE f3 xN ["night", "group"]) : aq P w K mg base bA 3 f fd ["night", "standing"] (g9 C) := by
 have jy : aq P w K mg base bA 1 f2 m9 ["self", "group"] (pR C) := xE gh T
 have gX : aq P w K mg base bA 2 f3 xN ["night", "group"] (gc C) := jD eS T a9 aL
 refine F.fn.ok vY (fun vs H Q E h => ?_) (fun cm A outer s H vs Q E hr h => ?_)
 ·obtain ⟨p, a, ts, r, qs, st, rfl, _⟩ := h
  rfl
 ·obtain ⟨p, a, ts, r, qs, st, rfl, N, h6, ⟨b, ha, hb⟩, k⟩ := h
  obtain ⟨dx, t, q, hp, _, _⟩ := id N.ex
  refine ⟨_, (ah (aB (i6 (we (pv 0) T.aS jB jy (hr.mono (by decide)) gh.b .nil aC (aa (aW bC (pv 1) ao (fun _ _ => rfl)) af)) (oB (we (pv 0) T.aS jB jy (hr.mono (by decide)) gh.b .nil aC (aa (cl gX eS hr aC (aa (pv 0) (aa (aW bC (pv 1) ao (fun _ _ => rfl)) af))) af)))))), ?_⟩
  refine ⟨_, rfl, p, dx, _, rfl, hp, jg _ _ _, _, rfl, a, _, _, _, rfl, rfl, bR.of ha, uK, p, b, ts, r, qs, st.1, rfl, N, hb, _, rfl, ?_⟩
  refine cq (fun h1 => ?_) (fun h1 => ?_)
  ·refine ⟨_, rfl, p, dx, _, rfl, hp, jg _ _ _, _, rfl, _, rfl, a, _, _, _, rfl, rfl, bR.of ha, uK, p, b, ts, r, qs, st.1, rfl, N, h6, hb, fun l H' sm hl => ?_⟩
   refine ⟨p, l, ts, r, qs, _, rfl, N.mono sm, hl, ?_⟩
   have k' := k H' sm
   unfold aT at k'
   rw [h1, Va] at k'
   exact k'
  ·have k' := k H (am.refl H)
   unfold aT at k'
   rw [h1, Tf] at k'
   exact k'
theorem Gy (i : Int) : AQ (.int i) [V.int 0, V.int 1] = (decide (i = 0) || decide (i = 1)) := by
 show ((0 == i) || ((1 == i) || false)) = _
 rw [Bool.or_false, Bool.beq_eq_decide_eq, Bool.beq_eq_decide_eq]
 congr 1
 ·exact decide_eq_decide.mpr ⟨fun h => h.symm, fun h => h.symm⟩
 ·exact decide_eq_decide.mpr ⟨fun h => h.symm, fun h => h.symm⟩
def i4 (C : Addr) : Sp := fun vs H Q _ => ∃ (p a : Addr) (ts : List Th) (r : Int) (qs : List Qu) (st : aQ), vs = [.ref p, .ref a] /\ aM C H p ts r qs /\ ts.length <= 6 /\ b9 H a st /\ st.1.length <= 1000 /\ ∀ H', am H H' -> Q (.bl (bQ ts.length st)) H'
theorem ft : av ["night", "standing", "group", "count"] ["night", "standing"] (aj eu) := ge
theorem nL {f f1 f2 f3 : Addr} {fd eR m9 xN : FuncData} (F : Fn K mg "is_standing" eu f fd ["night", "standing"]) (T : Txt K mg C Z) (a9 : Meth K C "things" f1) (aL : Mt K "things" "Night.things" bp f1 eR ["self"])
  (wP : Fn K mg "rises" kW f2 m9 ["group"]) (aZ : Fn K mg "is_thing" ck f3 xN ["number", "count"]) : aq P w K mg base bA 2 f fd ["night", "standing"] (i4 C) := by
 have bL : aq P w K mg base bA 1 f1 eR ["self"] (fh C) := gQ aL T
 have CL : aq P w K mg base bA 1 f2 m9 ["group"] tO := zf wP T
 have dL : aq P w K mg base bA 1 f3 xN ["number", "count"] fJ := iU aZ
 refine F.fn.ok ft (fun vs H Q E h => ?_) (fun cm A outer s H vs Q E hr h => ?_)
 ·obtain ⟨p, a, ts, r, qs, st, rfl, _⟩ := h
  rfl
 ·obtain ⟨p, a, ts, r, qs, st, rfl, N, h6, ⟨b, ha, hb⟩, hl, k⟩ := h
  obtain ⟨dx, t, q, hp, _, _⟩ := id N.ex
  refine ⟨_, (ag (sn 2 ft.nd (aW bC (pv 1) ao (fun _ _ => rfl)))
   (ag (sn 3 ft.nd (a8 a6 (by rfl) T.iI Te (aa (cn (pv 0) T.aS a9 bL (hr.mono (by decide)) aL.b .nil aC) af)))
   (ah (aB (i6 (fT l8 (aW bC (pv 1) ao (fun _ _ => rfl)) (ii (v := .ref Z.oN) (by rfl) T.wL rfl) (by with_unfolding_all rfl)) (i6 (cl CL wP hr aC (aa (pv 2) af)) (oB (a8 (sN rfl) (by rfl) T.DT boot_all (aa (cv rfl (N' := ["thing", "count"]) (cap := [none, some 3]) ⟨rfl, by with_unfolding_all rfl⟩ (jI (pv 2)) (fun _ => (gn 0 (show (["thing", "count"] : List Str).Nodup by decide +kernel))) (fun _ => cT) (fun _ => (cl dL aZ hr aC (aa (pv 0) (aa (pv 1) af))))) af))))))))), ?_⟩
  refine ⟨_, rfl, a, _, _, _, rfl, rfl, bR.of ha, uK, ?_⟩
  refine ⟨_, rfl, p, dx, _, rfl, hp, bS _ _ _, p, ts, r, qs, rfl, N, fun l vs rm dv => ?_⟩
  have s1 : am H (L2.upd H l (.lst vs)) := ai rm
  have lv := aK dv
  refine ⟨l, _, rfl, .inl (bz.of ae), ?_⟩
  rw [lv]
  refine ⟨_, rfl, a, _, _, _, rfl, rfl, bR.of (s1 _ _ ha), qd, Z.oN, _, rfl, .inr (T.rA _), rfl, rfl, _, rfl, ?_⟩
  refine cq (fun h1 => ?_) (fun h1 => ?_)
  ·have cB : (decide (st.2 = 0) || decide (st.2 = 1)) = true := by rw [<- Gy]; exact h1
   refine ⟨_, rfl, b, st.1, rfl, s1 _ _ hb, hl, fun H2 s2 => ⟨_, rfl, ?_⟩⟩
   refine cq (fun h2 => ?_) (fun h2 => ?_)
   ·refine ⟨_, rfl, b, rfl, ⟨_, bR.of (s2 _ _ (s1 _ _ hb))⟩, fun D hD => ?_⟩
    refine iE (K := K) (a := b) (ys := st.1.map V.int) (fun i xs H' => am H2 H' /\ H' D = some (.lst xs) /\ xs = (st.1.take i).map fun t => V.bl (IP ts.length t))
     ⟨ai hD, ae, rfl⟩ (fun i xs H' _ ⟨sm, h, _⟩ => ⟨h, bR.of (sm _ _ (s2 _ _ (s1 _ _ hb)))⟩) ?_ ?_
    ·rintro i x xs H' hi ⟨sm, ju, rfl⟩
     rw [SH, Tl] at hi
     obtain ⟨x', pJ, rfl⟩ := hi
     refine ⟨cx.set rfl, ?_⟩
     refine ⟨_, rfl, _, rfl, _, _, rfl, ju, aX (by rw [Sr, SS]; omega), az sm hD, ae, ?_⟩
     rw [SV, pJ]
     simp [IP]
    ·rintro xs H' ⟨sm, ju, rfl⟩
     refine ⟨D, st.1.map (IP ts.length), rfl, bz.of ?_, ?_⟩
     ·rw [ju, Sr, T4, Tg]
      rfl
     ·have k' := k H' (s1.trans (s2.trans sm))
      unfold bQ at k'
      rw [cB, h2, Va, Va] at k'
      rw [List.all_map]
      exact k'
   ·have k' := k H2 (s1.trans s2)
    unfold bQ at k'
    rw [h2, Tf, Uc] at k'
    exact k'
  ·have cB : (decide (st.2 = 0) || decide (st.2 = 1)) = false := by rw [<- Gy]; exact h1
   have k' := k _ s1
   unfold bQ at k'
   rw [cB, Tf] at k'
   exact k'
def fM (C : Addr) (Z : Ad) : Sp := fun vs H Q E => ∃ (p a : Addr) (ts : List Th) (r : Int) (qs : List Qu) (st : aQ), vs = [.ref p, .ref a] /\ aM C H p ts r qs /\ ts.length <= 6 /\ b9 H a st /\ st.1.length <= 1000 /\
 (bQ ts.length st = true -> ∀ H', am H H' -> Q .cc H') /\ (bQ ts.length st = false -> ∀ H', am H H' -> E (.ref Z.ce) none H')
structure Lk (K : Vj) (mg : Str -> Option Value) (C : Addr) (fs : Nat -> Addr) (ds : Nat -> FuncData) : Prop where
 bS : Meth K C "things" (fs 1)
 things : Mt K "things" "Night.things" bp (fs 1) (ds 1) ["self"]
 uQ : Meth K C "room" (fs 2)
 room : Mt K "room" "Night.room" eT (fs 2) (ds 2) ["self"]
 jg : Meth K C "peace" (fs 3)
 iF : Mt K "peace" "Night.peace" cQ (fs 3) (ds 3) ["self", "group"]
 su : Fn K mg "is_thing" ck (fs 4) (ds 4) ["number", "count"]
 mI : Fn K mg "rises" kW (fs 5) (ds 5) ["group"]
 mv : Fn K mg "is_standing" eu (fs 6) (ds 6) ["night", "standing"]
 fj : Fn K mg "other_bank" dE (fs 7) (ds 7) ["night", "group"]
 jj : Fn K mg "is_good" jo (fs 8) (ds 8) ["night", "standing"]
 iC : Fn K mg "check_standing" dN (fs 9) (ds 9) ["night", "standing"]
 fL : Fn K mg "check_start" fY (fs 10) (ds 10) ["night", "standing"]
 je : Fn K mg "groups_of" fP (fs 11) (ds 11) ["bank"]
 kK : Fn K mg "bank_of_boat" fb (fs 12) (ds 12) ["night", "standing"]
 qg : Fn K mg "is_manned" iP (fs 13) (ds 13) ["night", "crew"]
 fN : Fn K mg "crossed" jk (fs 14) (ds 14) ["standing", "crew"]
 tW : Fn K mg "crews" qH (fs 15) (ds 15) ["night", "standing"]
variable {fs : Nat -> Addr} {ds : Nat -> FuncData}
theorem lG : av ["night", "standing"] ["night", "standing"] (aj dN) := ge
theorem lE (L : Lk K mg C fs ds) (T : Txt K mg C Z) : aq P w K mg base (o9 P w) 3 (fs 9) (ds 9) ["night", "standing"] (fM C Z) := by
 have pb := L.mv
 have pK : aq P w K mg base bA 2 (fs 6) (ds 6) ["night", "standing"] (i4 C) := nL L.mv T L.bS L.things L.mI L.su
 refine L.iC.fn.Gf lG (fun vs H Q E h => ?_) (fun cm A outer s H vs Q E hr h => ?_)
 ·obtain ⟨p, a, ts, r, qs, st, rfl, _⟩ := h
  rfl
 ·obtain ⟨p, a, ts, r, qs, st, rfl, N, h6, io, hl, k1, k2⟩ := h
  refine ⟨_, (ah (bV (i0 (iN (cl pK pb hr aC (aa (pv 0) (aa (pv 1) af)))))
   (ah (nQ nF rfl (by rfl) T.rn T.rT PySem.F.excBase_ValueError (aa jU af)))
   aO)), ?_⟩
  refine ⟨_, rfl, _, rfl, p, a, ts, r, qs, st, rfl, N, h6, io, hl, fun H' sm => ⟨_, rfl, ?_⟩⟩
  refine cq (fun h1 => ?_) (fun h1 => ?_)
  ·exact ⟨aJ (by show 1 <= _; decide), k2 (by simpa using h1) H' sm⟩
  ·exact k1 (by simpa using h1) H' sm
def du (C : Addr) (Z : Ad) : Sp := fun vs H Q E => ∃ (p a : Addr) (ts : List Th) (r : Int) (qs : List Qu) (st : aQ), vs = [.ref p, .ref a] /\ aM C H p ts r qs /\ ts.length <= 6 /\ b9 H a st /\ st.1.length <= 1000 /\
 (bQ ts.length st = true -> aT qs ts.length st.1 = true -> ∀ H', am H H' -> Q .cc H') /\ (bQ ts.length st = false -> ∀ H', am H H' -> E (.ref Z.ce) none H') /\
 (bQ ts.length st = true -> aT qs ts.length st.1 = false -> ∀ H', am H H' -> E (.ref Z.eI) none H')
theorem oF : av ["night", "standing"] ["night", "standing"] (aj fY) := ge
theorem fv (L : Lk K mg C fs ds) (T : Txt K mg C Z) : aq P w K mg base (o9 P w) 4 (fs 10) (ds 10) ["night", "standing"] (du C Z) := by
 have lU := L.iC
 have gr := L.jj
 have mk : aq P w K mg base (o9 P w) 3 (fs 9) (ds 9) ["night", "standing"] (fM C Z) := lE L T
 have gj : aq P w K mg base bA 3 (fs 8) (ds 8) ["night", "standing"] (g9 C) := jM L.jj T L.bS L.things L.jg L.iF L.fj
 refine L.fL.fn.Gf oF (fun vs H Q E h => ?_) (fun cm A outer s H vs Q E hr h => ?_)
 ·obtain ⟨p, a, ts, r, qs, st, rfl, _⟩ := h
  rfl
 ·obtain ⟨p, a, ts, r, qs, st, rfl, N, h6, io, hl, k1, k2, k3⟩ := h
  refine ⟨_, (ag (c7 (cl mk lU hr dP (aa (pv 0) (aa (pv 1) af))))
   (ah (bV (i0 (iN (cl gj gr hr aC (aa (pv 0) (aa (pv 1) af)))))
   (ah (nQ nF rfl (by rfl) T.vi T.uS PySem.F.excBase_ValueError (aa jU af)))
   aO))), ?_⟩
  refine ⟨_, rfl, _, rfl, p, a, ts, r, qs, st, rfl, N, h6, io, hl, fun hS H1 s1 => ?_, k2⟩
  refine ⟨_, rfl, _, rfl, p, a, ts, r, qs, st, rfl, N.mono s1, h6, io.mono s1, fun H2 s2 => ⟨_, rfl, ?_⟩⟩
  refine cq (fun h1 => ?_) (fun h1 => ?_)
  ·exact ⟨aJ (by show 1 <= _; decide), k3 hS (by simpa using h1) H2 (s1.trans s2)⟩
  ·exact k1 hS (by simpa using h1) H2 (s1.trans s2)
def ic : Sp := fun vs H Q _ => ∃ (b : Addr) (jv : List Int), vs = [.ref b] /\ H b = some (.tup (jv.map V.int)) /\ jv.length <= 6 /\ ∀ l H', am H H' -> LstAt gg H' l (iu jv) -> Q (.ref l) H'
theorem eU : av ["bank", "groups", "thing"] ["bank"] (aj fP) := ge
theorem kj {f : Addr} {fd : FuncData} (F : Fn K mg "groups_of" fP f fd ["bank"]) : aq P w K mg base bA 1 f fd ["bank"] ic := by
 refine F.fn.ok eU (fun vs H Q E h => ?_) (fun cm A outer s H vs Q E hr h => ?_)
 ·obtain ⟨b, jv, rfl, _⟩ := h
  rfl
 ·obtain ⟨b, jv, rfl, hb, h6, k⟩ := h
  refine ⟨_, (ag (sn 1 eU.nd (iH (aa (cD af) af)))
   (ag (dZ Tj rfl (jI (pv 0)) (gn 2 eU.nd)
   (ah (sn 1 eU.nd (bb Ff (pv 1) (cv rfl (N' := ["group", "thing"]) (cap := [none, some 2]) ⟨rfl, by with_unfolding_all rfl⟩ (cj (pv 1)) (fun _ => (gn 0 (show (["group", "thing"] : List Str).Nodup by decide +kernel))) (fun _ => cT) (fun _ => (bb (Ie (K := K) rfl) (pv 0) (cD (aa (pv 1) af)))))))))
   (ah (aB (pv 1))))), ?_⟩
  refine ⟨aJ (by show 0 <= _; decide), fun e he => ?_⟩
  have s1 : am H (L2.upd H e (.tup [])) := ai he
  refine ⟨aJ (by show 1 <= _; decide), fun l0 ww => ?_⟩
  have s2 : am (L2.upd H e (.tup [])) (L2.upd (L2.upd H e (.tup [])) l0 (.lst [.ref e])) := ai ww
  refine ⟨_, rfl, b, rfl, ⟨_, bR.of (s2 _ _ (s1 _ _ hb))⟩, xf (K := K) (a := b) (xs := jv.map V.int) (fun i σ H' => am H H' /\ ∃ l v, σ = [some (.ref b), some (.ref l), v] /\ LstAt gg H' l (iu (jv.take i)))
   ⟨s1.trans s2, l0, _, rfl, [.ref e], ae, .cons (.tup (s2 _ _ ae) .nil) .nil⟩ (fun i σ H' _ ⟨sm, _⟩ => bR.of (sm _ _ hb)) ?_ ?_⟩
  ·rintro i x σ H1 hi ⟨sm, l, v, rfl, vs, hl, dv⟩
   rw [SH, Tl] at hi
   obtain ⟨t, ht, rfl⟩ := hi
   have ib : i < jv.length := (SR.mp ht).1
   have lg : (iu (jv.take i)).length <= 64 := by
    rw [ja, SS]
    exact SD (Um (by decide) (show min i jv.length <= 6 by omega)) (by decide)
   have lv := aK dv
   refine ⟨_, rfl, _, rfl, l, rfl, ⟨_, bz.of hl⟩, fun D hD => ?_⟩
   refine dR (K := K) (a := l) (ys := vs) (fun j xs H' => am H1 H' /\ H' D = some (.lst xs) /\ xs.length = j /\ bK H' (((iu (jv.take i)).take j).map (fun g => gg (g ++ [t]))) xs)
    ⟨ai hD, ae, rfl, .nil⟩ (fun j xs H' _ ⟨s3, h, _⟩ => ⟨h, bz.of (s3 _ _ hl)⟩) ?_ ?_
   ·rintro j y xs H2 hj ⟨s3, pF, lx, dx⟩
    obtain ⟨g, hg, dg⟩ := bG dv hj
    obtain ⟨c, rfl, hc⟩ := gU dg
    have Bu := s3 _ _ hc
    have Jh := (SR.mp hj).1
    have gl : g.length <= 6 := by
     have := (fQ (S5 hg)).length_le
     rw [SS] at this
     omega
    refine ⟨cx.set rfl, ?_⟩
    refine ⟨_, rfl, _, rfl, aJ (by show 1 <= _; decide), fun o ho => ?_⟩
    have s4 : am H2 (L2.upd H2 o (.tup [.int t])) := ai ho
    have fin : ∀ (H3 : Hp) (y : V), am H2 H3 -> DV H3 (gg (g ++ [t])) y -> H3 D = some (.lst xs) /\ xs.length < sizeLine /\ (am H1 (L2.upd H3 D (.lst (xs ++ [y]))) /\ (L2.upd H3 D (.lst (xs ++ [y]))) D = some (.lst (xs ++ [y])) /\ (xs ++ [y]).length = j + 1 /\
      bK (L2.upd H3 D (.lst (xs ++ [y]))) (((iu (jv.take i)).take (j + 1)).map (fun g => gg (g ++ [t]))) (xs ++ [y])) := by
     intro H3 y s5 dy
     have Ko := s5 _ _ pF
     refine ⟨Ko, aX (by omega), az (s3.trans s5) hD, ae, by simp [lx], ?_⟩
     rw [SV, hg, Sz]
     exact (bN Ko (dx.mono s5) (aF (fun g => iT _) _)).snoc (dO Ko dy (iT _))
    refine ⟨c, o, _, _, rfl, rfl, bR.of (s4 _ _ Bu), bR.of ae, aJ (by simp; omega), fun z => ?_, (fun _ z => by cases z), fun z _ o2 tq => ?_⟩
    ·have gz : g = [] := by simpa using z
     refine fin _ _ s4 (iZ ?_)
     rw [gz]; exact ae
    ·refine fin _ _ (s4.trans (ai tq)) (iZ ?_)
     rw [Sz]; exact ae
   ·rintro xs H2 ⟨s3, pF, lx, dx⟩
    rw [SF (by omega)] at dx
    refine ⟨l, D, vs, xs, rfl, rfl, s3 _ _ hl, pF, aJ (by omega), fun l2 rV => ?_⟩
    have s4 : am H2 (L2.upd H2 l2 (.lst (vs ++ xs))) := ai rV
    refine ⟨sm.trans (s3.trans s4), l2, _, rfl, vs ++ xs, ae, ?_⟩
    have eb : jv.take (i + 1) = jv.take i ++ [t] := by rw [SV, ht]; rfl
    rw [eb, fE, Sz, Tg]
    exact (dv.mono (s3.trans s4)).append (dx.mono s4)
  ·rintro σ H1 ⟨sm, l, v, rfl, hL⟩
   rw [Sr, T4] at hL
   exact ⟨_, rfl, k l H1 sm hL⟩
def wx (C : Addr) : Sp := fun vs H Q _ => ∃ (p a : Addr) (ts : List Th) (r : Int) (qs : List Qu) (st : aQ), vs = [.ref p, .ref a] /\ aM C H p ts r qs /\ ts.length <= 6 /\ b9 H a st /\ ∀ l H', am H H' -> H' l = some (.tup ((br ts.length st).map V.int)) -> Q (.ref l) H'
theorem mX : av ["night", "standing"] ["night", "standing"] (aj fb) := ge
theorem Dm (L : Lk K mg C fs ds) (T : Txt K mg C Z) : aq P w K mg base bA 3 (fs 12) (ds 12) ["night", "standing"] (wx C) := by
 have eS := L.fj
 have gX : aq P w K mg base bA 2 (fs 7) (ds 7) ["night", "group"] (gc C) := jD L.fj T L.bS L.things
 refine L.kK.fn.ok mX (fun vs H Q E h => ?_) (fun cm A outer s H vs Q E hr h => ?_)
 ·obtain ⟨p, a, ts, r, qs, st, rfl, _⟩ := h
  rfl
 ·obtain ⟨p, a, ts, r, qs, st, rfl, N, h6, ⟨b, ha, hb⟩, k⟩ := h
  refine ⟨_, (ag (bV (aE oH (aW bC (pv 1) ao (fun _ _ => rfl)) ao (aY _))
   (ah (aB (aW bC (pv 1) ao (fun _ _ => rfl))))
   aO)
   (ah (aB (cl gX eS hr aC (aa (pv 0) (aa (aW bC (pv 1) ao (fun _ _ => rfl)) af)))))), ?_⟩
  refine ⟨_, rfl, a, _, _, _, rfl, rfl, bR.of ha, qd, rfl, _, rfl, ?_⟩
  refine cq (fun h1 => ?_) (fun h1 => ?_)
  ·have e : st.2 = 0 := by have := S1 h1; injection this
   refine ⟨_, rfl, a, _, _, _, rfl, rfl, bR.of ha, uK, k b H (am.refl H) ?_⟩
   unfold br
   rw [if_pos e]; exact hb
  ·have e : ¬ st.2 = 0 := fun z => by rw [z] at h1; exact absurd h1 (by simp)
   refine ⟨_, rfl, _, rfl, a, _, _, _, rfl, rfl, bR.of ha, uK, p, b, ts, r, qs, st.1, rfl, N, h6, hb, fun l H' sm hl => k l H' sm ?_⟩
   unfold br
   rw [if_neg e]; exact hl
def qz (C : Addr) : Sp := fun vs H Q _ => ∃ (p b : Addr) (ts : List Th) (r : Int) (qs : List Qu) (c : List Int), vs = [.ref p, .ref b] /\ aM C H p ts r qs /\ ts.length <= 6 /\ H b = some (.tup (c.map V.int)) /\ c.length <= 1000 /\ (∀ t ∈ c, 0 <= t /\ t < (ts.length : Int)) /\
 ∀ H', am H H' -> Q (.bl (dk ts r c)) H'
theorem Ef {H : Hp} {ts : List Th} {vs : List V} {t : Int} (dv : bK H (ts.map yU) vs) (h0 : 0 <= t) (h1 : t < (ts.length : Int)) : ∃ b, AJ vs t = some (.ref b) /\ H b = some (.tup [.int (jN ts t), .bl (re ts t)]) := by
 have hj : t.toNat < ts.length := by omega
 have e : ts[t.toNat]? = some (ts.getD t.toNat (0, false)) := by simp [hj]
 obtain ⟨v, hv, d⟩ := dv.get (i := t.toNat) (d := yU (ts.getD t.toNat (0, false))) (by rw [SH, e]; rfl)
 obtain ⟨b, rfl, hb⟩ := zI d
 refine ⟨b, ?_, hb⟩
 have q := gR hv
 rwa [show ((t.toNat : Nat) : Int) = t by omega] at q
theorem kL : av ["night", "crew", "things"] ["night", "crew"] (aj iP) := ge
theorem xx (L : Lk K mg C fs ds) (T : Txt K mg C Z) : aq P w K mg base bA 2 (fs 13) (ds 13) ["night", "crew"] (qz C) := by
 have aL := L.things
 have qQ := L.room
 have a9 := L.bS
 have qD := L.uQ
 have bL : aq P w K mg base bA 1 (fs 1) (ds 1) ["self"] (fh C) := gQ L.things T
 have qM : aq P w K mg base bA 1 (fs 2) (ds 2) ["self"] (tN C) := zT L.room T
 refine L.qg.fn.ok kL (fun vs H Q E h => ?_) (fun cm A outer s H vs Q E hr h => ?_)
 ·obtain ⟨p, b, ts, r, qs, c, rfl, _⟩ := h
  rfl
 ·obtain ⟨p, b, ts, r, qs, c, rfl, N, h6, hb, hc, sS, k⟩ := h
  obtain ⟨dx, t, q, hp, _, _⟩ := id N.ex
  refine ⟨_, (ag (sn 2 kL.nd (cn (pv 0) T.aS a9 bL (hr.mono (by decide)) aL.b .nil aC))
   (ah (aB (i6 (sL kJ kJ ao (a8 a6 (by rfl) T.iI Te (aa (pv 1) af)) (cn (pv 0) T.aS qD qM (hr.mono (by decide)) qQ.b .nil aC)) (oB (a8 (Bq rfl) (by rfl) T.GD boot_any (aa (cv rfl (N' := ["thing", "things"]) (cap := [none, some 2]) ⟨rfl, by with_unfolding_all rfl⟩ (jI (pv 1)) (fun _ => (gn 0 (show (["thing", "things"] : List Str).Nodup by decide +kernel))) (fun _ => cT) (fun _ => (aW (GL (K := K) rfl) (aW (HX (K := K) rfl) (pv 1) (pv 0) (fun _ _ => rfl)) ao (fun _ _ => rfl)))) af))))))), ?_⟩
  refine ⟨_, rfl, p, dx, _, rfl, hp, bS _ _ _, p, ts, r, qs, rfl, N, fun l vs hl dv => ?_⟩
  have s1 : am H (L2.upd H l (.lst vs)) := ai hl
  have GF := dv.mono s1
  have N1 := N.mono s1
  have AI := s1 _ _ hb
  have yI : (L2.upd H l (.lst vs)) l = some (.lst vs) := ae
  have Ee := s1 _ _ hp
  generalize L2.upd H l (.lst vs) = H1 at s1 GF N1 AI yI Ee ⊢
  refine ⟨_, rfl, b, _, rfl, .inr (bR.of AI), _, _, rfl, rfl, _, rfl, ?_⟩
  rw [Sr]
  refine cq (fun h1 => ?_) (fun h1 => ?_)
  ·refine ⟨_, rfl, p, dx, _, rfl, Ee, uQ _ _ _, p, ts, r, qs, rfl, N1, _, _, rfl, rfl, _, rfl, ?_⟩
   refine cq (fun h2 => ?_) (fun h2 => ?_)
   ·have hm : decide (1 <= (c.length : Int) /\ (c.length : Int) <= r) = true := SE ⟨S1 h1, S1 h2⟩
    refine ⟨_, rfl, b, rfl, ⟨_, bR.of AI⟩, fun D hD => ?_⟩
    refine iE (K := K) (a := b) (ys := c.map V.int) (fun i xs H' => am H1 H' /\ H' D = some (.lst xs) /\ xs = (c.take i).map fun t => V.bl (re ts t))
     ⟨ai hD, ae, rfl⟩ (fun i xs H' _ ⟨sm, h, _⟩ => ⟨h, bR.of (sm _ _ AI)⟩) ?_ ?_
    ·rintro i x xs H' hi ⟨sm, ju, rfl⟩
     rw [SH, Tl] at hi
     obtain ⟨x', pJ, rfl⟩ := hi
     obtain ⟨x0, x1⟩ := sS x' (S5 pJ)
     obtain ⟨o, uo, tq⟩ := Ef GF x0 x1
     refine ⟨cx.set rfl, ?_⟩
     refine ⟨_, rfl, _, rfl, l, _, _, _, rfl, rfl, bz.of (sm _ _ yI), uo, o, _, _, _, rfl, rfl, bR.of (sm _ _ tq), qd, ju, aX (by rw [Sr, SS]; omega), az sm hD, ae, ?_⟩
     rw [SV, pJ]
     simp
    ·rintro xs H' ⟨sm, ju, rfl⟩
     refine ⟨D, c.map (re ts), rfl, bz.of ?_, ?_⟩
     ·rw [ju, Sr, T4, Tg]
      rfl
     ·have k' := k H' (s1.trans sm)
      unfold dk at k'
      rw [hm, Va] at k'
      rw [List.any_map]
      exact k'
   ·have hm : decide (1 <= (c.length : Int) /\ (c.length : Int) <= r) = false := SW fun z => by rw [SE z.2] at h2; cases h2
    have k' := k _ s1
    unfold dk at k'
    rw [hm, Tf] at k'
    exact k'
  ·have hm : decide (1 <= (c.length : Int) /\ (c.length : Int) <= r) = false := SW fun z => by rw [SE z.1] at h1; cases h1
   have k' := k _ s1
   unfold dk at k'
   rw [hm, Tf] at k'
   exact ⟨_, rfl, fV k'⟩
end
theorem merged {n : Nat} {g c ns : List Int} (hg : g.Pairwise (· < ·)) (QF : ∀ t ∈ g, 0 <= t /\ t < (n : Int)) (hc : c.Pairwise (· < ·)) (JU : ∀ t ∈ c, (0 <= t /\ t < (n : Int)) /\ t ∉ g) (hp : ns.Perm (g ++ c)) (hs : ns.Pairwise (· <= ·)) :
  ns = (bM n).filter fun t => g.contains t || c.contains t := by
 have nd : (g ++ c).Nodup := by
  rw [List.nodup_append]
  refine ⟨hg.imp (fun h => Int.ne_of_lt h), hc.imp (fun h => Int.ne_of_lt h), fun a ha b hb e => ?_⟩
  exact (JU b hb).2 (by rw [<- e]; exact ha)
 have zL : ns.Nodup := hp.nodup_iff.mpr nd
 have pw : ns.Pairwise (· < ·) := by
  have := hs.and zL
  exact this.imp fun h => by have h1 := h.1; have h2 := h.2; omega
 refine jH pw (cJ _ (ei n)) fun x => ?_
 rw [hp.mem_iff, S0, Tb, Bool.or_eq_true, contains_iff, contains_iff, cE]
 constructor
 ·rintro (h | h)
  ·exact ⟨QF x h, .inl h⟩
  ·exact ⟨(JU x h).1, .inr h⟩
 ·rintro ⟨_, h⟩
  exact h
section
variable {P : Program} {w : World} {K : Vj} {mg : Str -> Option Value} {base : Heap} {C : Addr} {Z : Ad} {fs : Nat -> Addr} {ds : Nat -> FuncData}
def fq : Sp := fun vs H Q _ => ∃ (a b : Addr) (st : aQ) (c : List Int) (n : Nat), vs = [.ref a, .ref b] /\ b9 H a st /\ H b = some (.tup (c.map V.int)) /\ bQ n st = true /\ n <= 6 /\ c.Sublist (br n st) /\
 ∀ l H', am H H' -> b9 H' l (behind n st c) -> Q (.ref l) H'
theorem vj : av ["standing", "crew"] ["standing", "crew"] (aj jk) := ge
theorem gP {f : Addr} {fd : FuncData} (F : Fn K mg "crossed" jk f fd ["standing", "crew"]) (T : Txt K mg C Z) : aq P w K mg base bA 1 f fd ["standing", "crew"] fq := by
 refine F.fn.ok vj (fun vs H Q E h => ?_) (fun cm A outer s H vs Q E hr h => ?_)
 ·obtain ⟨a, b, st, c, n, rfl, _⟩ := h
  rfl
 ·obtain ⟨a, b, st, c, n, rfl, ⟨g0, ha, Gs⟩, hb, hS, h6, yh, k⟩ := h
  obtain ⟨Nl, sS, Si⟩ := fA hS
  have lg : st.1.length <= 6 := by
   have e := fF Nl sS
   have : ((bM n).filter fun t => st.1.contains t).length <= n := SD (SY _ _) (by rw [bn]; exact Ss _)
   rw [e] at this
   omega
  have lc : c.length <= 6 := SD yh.length_le (SD (dD hS) h6)
  refine ⟨_, (ag (bV (aE oH (aW bC (pv 0) ao (fun _ _ => rfl)) ao (aY _))
   (ah (aB (cD (aa (b7 cY (by rfl) T.jh boot_tuple (aa (cv rfl (N' := ["thing", "crew"]) (cap := [none, some 1]) ⟨rfl, by with_unfolding_all rfl⟩ (jI (aW bC (pv 0) ao (fun _ _ => rfl))) (fun _ => (gn 0 (show (["thing", "crew"] : List Str).Nodup by decide +kernel))) (fun _ => (fz (aE (zn (K := K) rfl) (pv 0) (pv 1) (by with_unfolding_all rfl)))) (fun _ => (pv 0))) af)) (aa ao af)))))
   aO)
   (ah (aB (cD (aa (b7 cY (by rfl) T.jh boot_tuple (aa (a8 qV (by rfl) T.kZ boot_sorted (aa (bb xb (aW bC (pv 0) ao (fun _ _ => rfl)) (pv 1)) af)) af)) (aa ao af)))))), ?_⟩
  refine ⟨_, rfl, a, _, _, _, rfl, rfl, bR.of ha, qd, rfl, _, rfl, ?_⟩
  refine cq (fun h1 => ?_) (fun h1 => ?_)
  ·have e : st.2 = 0 := by have := S1 h1; injection this
   refine ⟨_, rfl, a, _, _, _, rfl, rfl, bR.of ha, uK, g0, rfl, ⟨_, bR.of Gs⟩, fun D hD => ?_⟩
   refine iE (K := K) (a := g0) (ys := st.1.map V.int) (fun i xs H' => am H H' /\ H' D = some (.lst xs) /\ xs = ((st.1.take i).filter fun t => !c.contains t).map V.int)
    ⟨ai hD, ae, rfl⟩ (fun i xs H' _ ⟨sm, h, _⟩ => ⟨h, bR.of (sm _ _ Gs)⟩) ?_ ?_
   ·rintro i x xs H' hi ⟨sm, ju, rfl⟩
    rw [SH, Tl] at hi
    obtain ⟨t, ht, rfl⟩ := hi
    have sl : ((st.1.take i).filter fun t => !c.contains t).length <= 6 := SD (SY _ _) (by rw [SS]; omega)
    refine ⟨cx.set rfl, ?_⟩
    refine ⟨_, rfl, _, rfl, b, _, rfl, .inr (bR.of (sm _ _ hb)), rfl, gE c, _, rfl, ?_⟩
    rw [gu]
    have et : st.1.take (i + 1) = st.1.take i ++ [t] := by rw [SV, ht]; rfl
    refine cq (fun h2 => ?_) (fun h2 => ?_)
    ·have jq : (!c.contains t) = true := h2
     refine ⟨_, rfl, ju, aX (by rw [Sr]; omega), az sm hD, ae, ?_⟩
     have ef : [t].filter (fun t => !c.contains t) = [t] := by rw [Ta, if_pos jq]; rfl
     rw [et, S3, Sz, ef]
     rfl
    ·have jq : (!c.contains t) = false := h2
     refine ⟨sm, ju, ?_⟩
     have ef : [t].filter (fun t => !c.contains t) = [] := by rw [Ta, if_neg (by rw [jq]; simp)]; rfl
     rw [et, S3, Sz, ef]
     simp
   ·rintro xs H' ⟨sm, ju, rfl⟩
    rw [Sr, T4] at ju
    refine ⟨D, _, rfl, .inl ⟨bz.of ju, fun o ho => ?_⟩⟩
    have s2 : am H' (L2.upd H' o (.tup ((st.1.filter fun t => !c.contains t).map V.int))) := ai ho
    refine ⟨aJ (by show 2 <= _; decide), fun o2 tq => ?_⟩
    have s3 := ai (o := .tup [.ref o, .int 1]) tq
    refine k o2 _ (sm.trans (s2.trans s3)) ?_
    unfold behind
    rw [if_pos e]
    exact ⟨o, ae, s3 _ _ ae⟩
  ·have e : ¬ st.2 = 0 := fun z => by rw [z] at h1; exact absurd h1 (by simp)
   have Py : br n st = restOf n st.1 := by unfold br; rw [if_neg e]
   rw [Py] at yh
   have JU : ∀ t ∈ c, (0 <= t /\ t < (n : Int)) /\ t ∉ st.1 := fun t ht => by
    obtain ⟨z1, z2⟩ := Tb.mp (yh.subset ht)
    refine ⟨cE.mp z1, fun z => ?_⟩
    rw [contains_iff.mpr z] at z2
    cases z2
   have Hu : c.Pairwise (· < ·) := List.Pairwise.sublist yh (cJ _ (ei n))
   have tail : ∀ (x : Addr) (H1 : Hp), am H H1 -> H1 x = some (.tup ((st.1 ++ c).map V.int)) -> ∃ (p : Addr) (ns : List Int), [V.ref x] = [V.ref p] /\ bR K H1 p (ns.map V.int) /\ ns.length < 64 /\ ∀ (l : Addr) (qF : List Int), H1 l = none -> qF.Perm ns -> qF.Pairwise (· <= ·) ->
     ∃ (p' : Addr) (ys : List V), [V.ref l] = [V.ref p'] /\ ((bz K (L2.upd H1 l (.lst (qF.map V.int))) p' ys /\ ∀ l2 : Addr, (L2.upd H1 l (.lst (qF.map V.int))) l2 = none -> [V.ref l2, V.int 0].length <= sizeLine /\ ∀ o : Addr, (L2.upd (L2.upd H1 l (.lst (qF.map V.int))) l2 (.tup ys)) o = none ->
      Q (.ref o) (L2.upd (L2.upd (L2.upd H1 l (.lst (qF.map V.int))) l2 (.tup ys)) o (.tup [.ref l2, .int 0]))) \/ (bR K (L2.upd H1 l (.lst (qF.map V.int))) p' ys /\ [V.ref p', V.int 0].length <= sizeLine /\ ∀ o : Addr, (L2.upd H1 l (.lst (qF.map V.int))) o = none ->
      Q (.ref o) (L2.upd (L2.upd H1 l (.lst (qF.map V.int))) o (.tup [.ref p', .int 0])))) := by
    intro x H1 s1 hx
    refine ⟨x, st.1 ++ c, rfl, bR.of hx, by rw [SX]; omega, fun l qF hl hp hs => ⟨l, _, rfl, .inl ⟨bz.of ae, fun l2 rV => ⟨aJ (by show 2 <= _; decide), fun o ho => ?_⟩⟩⟩⟩
    have s2 : am H1 (L2.upd H1 l (.lst (qF.map V.int))) := ai hl
    have s3 := ai (o := .tup (qF.map V.int)) rV
    have s4 := ai (o := .tup [.ref l2, .int 0]) ho
    refine k o _ (s1.trans (s2.trans (s3.trans s4))) ?_
    unfold behind
    rw [if_neg e, <- merged Nl sS Hu JU hp hs]
    exact ⟨l2, ae, s4 _ _ ae⟩
   refine ⟨_, rfl, a, _, _, _, rfl, rfl, bR.of ha, uK, _, rfl, g0, b, _, _, rfl, rfl, bR.of Gs, bR.of hb, aJ (by simp; omega), fun z => ?_, fun z z2 => ?_, fun z z2 o ho => ?_⟩
   ·have gz : st.1 = [] := by simpa using z
    exact tail b H (am.refl H) (by rw [gz]; exact hb)
   ·have cz : c = [] := by simpa using z2
    exact tail g0 H (am.refl H) (by rw [cz, Vd]; exact Gs)
   ·exact tail o _ (ai ho) (by rw [Sz]; exact ae)
theorem il {H : Hp} {gs : List (List Int)} {xs : List V} {i : Nat} {g : List Int} {q : List Int -> Bool} (hg : gs[i]? = some g) (hq : q g = false) (dx : bK H (((gs.take i).filter q).map gg) xs) : bK H (((gs.take (i + 1)).filter q).map gg) xs := by
 have e : gs.take (i + 1) = gs.take i ++ [g] := by rw [SV, hg]; rfl
 have ef : [g].filter q = [] := by rw [Ta, if_neg (by rw [hq]; simp)]; rfl
 rw [e, S3, ef, Vd]
 exact dx
theorem mC {gs : List (List Int)} {i : Nat} {g : List Int} {q : List Int -> Bool} (hg : gs[i]? = some g) (hq : q g = true) : (gs.take (i + 1)).filter q = (gs.take i).filter q ++ [g] := by
 have e : gs.take (i + 1) = gs.take i ++ [g] := by rw [SV, hg]; rfl
 have ef : [g].filter q = [g] := by rw [Ta, if_pos hq]; rfl
 rw [e, S3, ef]
def iD (C : Addr) (Z : Ad) : Sp := fun vs H Q E => ∃ (p a : Addr) (ts : List Th) (r : Int) (qs : List Qu) (st : aQ), vs = [.ref p, .ref a] /\ aM C H p ts r qs /\ ts.length <= 6 /\ b9 H a st /\ st.1.length <= 1000 /\
 (bQ ts.length st = true -> aT qs ts.length st.1 = true -> ∀ l H', H l = none -> am H H' -> LstAt gg H' l (aD ts r qs st) -> Q (.ref l) H') /\ (bQ ts.length st = false -> ∀ H', am H H' -> E (.ref Z.ce) none H') /\
 (bQ ts.length st = true -> aT qs ts.length st.1 = false -> ∀ H', am H H' -> E (.ref Z.eI) none H')
theorem sC : av ["night", "standing", "manned"] ["night", "standing"] (aj qH) := ge
theorem kz (L : Lk K mg C fs ds) (T : Txt K mg C Z) : aq P w K mg base (o9 P w) 5 (fs 15) (ds 15) ["night", "standing"] (iD C Z) := by
 have cS := L.fL
 have gr := L.jj
 have iV := L.je
 have nN := L.kK
 have sM := L.qg
 have dS := L.fN
 have cU : aq P w K mg base (o9 P w) 4 (fs 10) (ds 10) ["night", "standing"] (du C Z) := fv L T
 have gj : aq P w K mg base bA 3 (fs 8) (ds 8) ["night", "standing"] (g9 C) := jM L.jj T L.bS L.things L.jg L.iF L.fj
 have iJ : aq P w K mg base bA 1 (fs 11) (ds 11) ["bank"] ic := kj L.je
 have oq : aq P w K mg base bA 3 (fs 12) (ds 12) ["night", "standing"] (wx C) := Dm L T
 have sF : aq P w K mg base bA 2 (fs 13) (ds 13) ["night", "crew"] (qz C) := xx L T
 have eg : aq P w K mg base bA 1 (fs 14) (ds 14) ["standing", "crew"] fq := gP L.fN T
 refine L.tW.fn.Gf sC (fun vs H Q E h => ?_) (fun cm A outer s H vs Q E hr h => ?_)
 ·obtain ⟨p, a, ts, r, qs, st, rfl, _⟩ := h
  rfl
 ·obtain ⟨p, a, ts, r, qs, st, rfl, N, h6, io, hl, k1, k2, k3⟩ := h
  have hu := hr.units
  refine ⟨_, (ag (c7 (cl cU cS hr dP (aa (pv 0) (aa (pv 1) af))))
   (ag (rS (j := 2) rfl (N' := ["crew", "night"]) (cap := [none, some 0]) ⟨rfl, by with_unfolding_all rfl⟩ (cj (cl iJ iV hr aC (aa (cl oq nN hr aC (aa (pv 0) (aa (pv 1) af))) af))) (fun _ => (gn 0 (show (["crew", "night"] : List Str).Nodup by decide +kernel))) (fun _ => (fz (iN (cl sF sM hr aC (aa (pv 1) (aa (pv 0) af)))))) (fun _ => (pv 0)) sC.nd (by rfl) (by rfl) (by with_unfolding_all rfl))
   (ah (aB (a8 (rO hu) (by rfl) T.kZ boot_sorted (aa (cv rfl (N' := ["crew", "night", "standing"]) (cap := [none, some 0, some 1]) ⟨rfl, by with_unfolding_all rfl⟩ (cj (pv 2)) (fun _ => (gn 0 (show (["crew", "night", "standing"] : List Str).Nodup by decide +kernel))) (fun _ => (fz (iN (cl gj gr hr aC (aa (pv 1) (aa (cl eg dS hr aC (aa (pv 2) (aa (pv 0) af))) af)))))) (fun _ => (pv 0))) af)))))), ?_⟩
  refine ⟨_, rfl, _, rfl, p, a, ts, r, qs, st, rfl, N, h6, io, hl, fun hS hG H1 s1 => ?_, k2, k3⟩
  have N1 := N.mono s1
  have Ig := io.mono s1
  refine ⟨_, rfl, _, rfl, p, a, ts, r, qs, st, rfl, N1, h6, Ig, fun lb H2 s2 Cs => ?_⟩
  have N2 := N1.mono s2
  have K2 := Ig.mono s2
  refine ⟨lb, _, rfl, Cs, SD (dD hS) h6, fun lg H3 s3 Ry => ?_⟩
  have N3 := N2.mono s3
  have La := K2.mono s3
  obtain ⟨vg, xn, dg⟩ := Ry
  have FV := aK dg
  have Qt : (iu (br ts.length st)).length <= 64 := by
   rw [ja]
   exact SD (Um (by decide) (SD (dD hS) h6)) (by decide)
  refine ⟨lg, rfl, ⟨_, bz.of xn⟩, fun D hD => ?_⟩
  refine dR (K := K) (a := lg) (ys := vg) (fun j xs H' => am H3 H' /\ H' D = some (.lst xs) /\ bK H' ((((iu (br ts.length st)).take j).filter (dk ts r)).map gg) xs)
   ⟨ai hD, ae, .nil⟩ (fun j xs H' _ ⟨sm, h, _⟩ => ⟨h, bz.of (sm _ _ xn)⟩) ?_ ?_
  ·rintro j y xs H4 hj ⟨s4, DJ, dx⟩
   obtain ⟨g, hg, Lb⟩ := bG dg hj
   obtain ⟨c, rfl, hc⟩ := gU Lb
   have sub := fQ (S5 hg)
   have QS : ∀ t ∈ g, 0 <= t /\ t < (ts.length : Int) := fun t ht => gy hS (sub.subset ht)
   have gl : g.length <= 6 := SD sub.length_le (SD (dD hS) h6)
   refine ⟨cx.set rfl, ?_⟩
   refine ⟨_, rfl, _, rfl, p, c, ts, r, qs, g, rfl, N3.mono s4, h6, s4 _ _ hc, by omega, QS, fun H5 s5 => ⟨_, rfl, ?_⟩⟩
   have Md := dx.mono s5
   have lB := s5 _ _ DJ
   have lx : xs.length <= 64 := by
    rw [aK dx]
    exact SD (SY _ _) (by rw [SS]; omega)
   refine cq (fun h1 => ?_) (fun h1 => ?_)
   ·refine ⟨_, rfl, lB, aX (by omega), az (s4.trans s5) hD, ae, ?_⟩
    rw [mC hg h1, Sz]
    exact (bN lB Md (aF iT _)).snoc (dO lB (iZ (s5 _ _ (s4 _ _ hc))) (iT _))
   ·exact ⟨s4.trans s5, lB, il hg h1 Md⟩
  ·rintro xs H4 ⟨s4, DJ, dx⟩
   rw [SF (by omega)] at dx
   have N4 := N3.mono s4
   have A0 := La.mono s4
   have lx : xs.length < 64 := by
    rw [aK dx]
    exact lC (qs := qs) hS h6
   have e0 : (iu (br ts.length st)).filter (dk ts r) = (iu (br ts.length st)).filter (dk ts r) := rfl
   generalize hM : (iu (br ts.length st)).filter (dk ts r) = M at dx e0
   have mem : ∀ g ∈ M, g.Sublist (br ts.length st) /\ g ≠ [] := fun g hg => by
    rw [<- hM] at hg
    obtain ⟨z1, z2⟩ := Tb.mp hg
    exact ⟨fQ z1, ma z2⟩
   refine ⟨_, rfl, D, rfl, ⟨_, bz.of DJ⟩, fun D2 pF => ?_⟩
   refine dR (K := K) (a := D) (ys := xs) (fun j zs H' => am H4 H' /\ H' D2 = some (.lst zs) /\ bK H' (((M.take j).filter fun c => aT qs ts.length (behind ts.length st c).1).map gg) zs)
    ⟨ai pF, ae, .nil⟩ (fun j zs H' _ ⟨sm, h, _⟩ => ⟨h, bz.of (sm _ _ DJ)⟩) ?_ ?_
   ·rintro j y zs H5 hj ⟨s5, lB, dz⟩
    obtain ⟨g, hg, Lb⟩ := bG dx hj
    obtain ⟨c, rfl, hc⟩ := gU Lb
    obtain ⟨sub, _⟩ := mem g (S5 hg)
    refine ⟨cx.set rfl, ?_⟩
    refine ⟨_, rfl, _, rfl, _, rfl, a, c, st, g, ts.length, rfl, A0.mono s5, s5 _ _ hc, hS, h6, sub, fun l H6 s6 LB => ?_⟩
    refine ⟨p, l, ts, r, qs, _, rfl, (N4.mono s5).mono s6, h6, LB, fun H7 s7 => ⟨_, rfl, ?_⟩⟩
    have Cz := s6.trans s7
    have Nm := dz.mono Cz
    have Jy := Cz _ _ lB
    have lz : zs.length <= 64 := by
     rw [aK dz]
     exact SD (SY _ _) (by rw [SS]; have := aK dx; omega)
    refine cq (fun h1 => ?_) (fun h1 => ?_)
    ·refine ⟨_, rfl, Jy, aX (by omega), az (s5.trans Cz) pF, ae, ?_⟩
     rw [mC hg h1, Sz]
     exact (bN Jy Nm (aF iT _)).snoc (dO Jy (iZ (Cz _ _ (s5 _ _ hc))) (iT _))
    ·exact ⟨s5.trans Cz, Jy, il hg h1 Nm⟩
   ·rintro zs H5 ⟨s5, lB, dz⟩
    have lM : xs.length = M.length := aK dx
    rw [SF (by omega)] at dz
    have O4 : (M.filter fun c => aT qs ts.length (behind ts.length st c).1).Nodup := by rw [<- hM]; exact pT hS
    refine ⟨D2, _, zs, rfl, lB, dz, O4, fun l At rm P5 => ?_⟩
    have EF := s1.trans (s2.trans (s3.trans (s4.trans s5)))
    refine k1 hS hG l _ (EF.free rm) (az EF (EF.free rm)) ⟨At, ae, ?_⟩
    unfold aD fC
    rw [hM]
    exact P5.mono (ai rm)
end
theorem qK {n : Nat} {st : aQ} (h : bQ n st = true) (h6 : n <= 6) : st.1.length <= 6 := by
 obtain ⟨h1, h2, _⟩ := fA h
 have e := fF h1 h2
 have l : ((bM n).filter fun t => st.1.contains t).length <= n := SD (SY _ _) (by rw [bn]; exact Ss _)
 rw [e] at l
 omega
section
variable {P : Program} {w : World} {K : Vj} {mg : Str -> Option Value} {base : Heap} {C : Addr} {Z : Ad} {fs : Nat -> Addr} {ds : Nat -> FuncData}
theorem nM (g : List Int) : (gg g).canLay0 = true := by simp [gg, PyData.canLay0, Bo]
theorem AK (g : List Int) : (gg g).depth <= 6 := by
 have h := la (f := PyData.int) (n := 5) (fun i => by simp [PyData.depth]) g
 simp only [gg, PyData.depth]
 omega
end
theorem vf (g c : List Int) : PyData.eqv (gg g) (gg c) = decide (g = c) := by
 show PyData.eqv (.tuple (g.map PyData.int)) (.tuple (c.map PyData.int)) = _
 rw [PyData.eqv]
 exact PySem.W.ked_eqvAll g c
theorem zu (l : List (List Int)) (c : List Int) : ((l.map gg).any fun e => PyData.eqv e (gg c)) = decide (c ∈ l) := by
 rw [List.any_map, UQ, decide_eq_true_eq, List.any_eq_true]
 constructor
 ·rintro ⟨x, hx, h⟩
  have h' : PyData.eqv (gg x) (gg c) = true := h
  rw [vf] at h'
  rw [<- S1 h']; exact hx
 ·intro h
  refine ⟨c, h, ?_⟩
  show PyData.eqv (gg c) (gg c) = true
  rw [vf]; exact SE rfl
theorem tK {ts : List Th} {r : Int} {qs : List Qu} {st : aQ} {c : List Int} (h : c ∈ aD ts r qs st) : c.Sublist (br ts.length st) /\ c ≠ [] /\ aT qs ts.length (behind ts.length st c).1 = true := by
 have h1 := (eW (fC ts r qs st)).mem_iff.mp h
 obtain ⟨h2, h3⟩ := Tb.mp h1
 obtain ⟨h4, h5⟩ := Tb.mp h2
 exact ⟨fQ h4, ma h5, h3⟩
theorem xt {n : Nat} {st : aQ} {c : List Int} (h : bQ n st = true) : bQ n (behind n st c) = true := by
 obtain ⟨h1, h2, _⟩ := fA h
 unfold behind
 split
 ·exact lu (cJ _ h1) (fun t ht => h2 t (Tb.mp ht).1) (.inr rfl)
 ·exact lu (cJ _ (ei n)) (fun t ht => cE.mp (Tb.mp ht).1) (.inl rfl)
section
variable {P : Program} {w : World} {K : Vj} {mg : Str -> Option Value} {base : Heap} {C : Addr} {Z : Ad} {fs gs : Nat -> Addr} {ds es : Nat -> FuncData}
def hJ (C : Addr) : Sp := fun vs H Q _ => ∃ (p b : Addr) (ts : List Th) (r : Int) (qs : List Qu) (c : List Int), vs = [.ref p, .ref b] /\ aM C H p ts r qs /\ ts.length <= 6 /\ H b = some (.tup (c.map V.int)) /\ c.length <= 1000 /\ c ≠ [] /\ (∀ t ∈ c, 0 <= t /\ t < (ts.length : Int)) /\
 ∀ H', am H H' -> Q (.int (aI ts c)) H'
theorem nK : av ["night", "crew", "things"] ["night", "crew"] (aj gI) := ge
theorem jQ {f f1 : Addr} {fd eR : FuncData} (F : Fn K mg "minutes" gI f fd ["night", "crew"]) (T : Txt K mg C Z) (a9 : Meth K C "things" f1) (aL : Mt K "things" "Night.things" bp f1 eR ["self"]) :
  aq P w K mg base bA 2 f fd ["night", "crew"] (hJ C) := by
 have bL : aq P w K mg base bA 1 f1 eR ["self"] (fh C) := gQ aL T
 refine F.fn.ok nK (fun vs H Q E h => ?_) (fun cm A outer s H vs Q E hr h => ?_)
 ·obtain ⟨p, b, ts, r, qs, c, rfl, _⟩ := h
  rfl
 ·obtain ⟨p, b, ts, r, qs, c, rfl, N, h6, hb, hc, ql, sS, k⟩ := h
  obtain ⟨dx, t, q, hp, _, _⟩ := id N.ex
  refine ⟨_, (ag (sn 2 nK.nd (cn (pv 0) T.aS a9 bL (hr.mono (by decide)) aL.b .nil aC))
   (ah (aB (a8 (yY rfl) (by rfl) T.G7 boot_max (aa (cv rfl (N' := ["thing", "things"]) (cap := [none, some 2]) ⟨rfl, by with_unfolding_all rfl⟩ (jI (pv 1)) (fun _ => (gn 0 (show (["thing", "things"] : List Str).Nodup by decide +kernel))) (fun _ => cT) (fun _ => (aW (GL (K := K) rfl) (aW (HX (K := K) rfl) (pv 1) (pv 0) (fun _ _ => rfl)) ao (fun _ _ => rfl)))) af))))), ?_⟩
  refine ⟨_, rfl, p, dx, _, rfl, hp, bS _ _ _, p, ts, r, qs, rfl, N, fun l vs hl dv => ?_⟩
  have s1 : am H (L2.upd H l (.lst vs)) := ai hl
  have GF := dv.mono s1
  have AI := s1 _ _ hb
  have yI : (L2.upd H l (.lst vs)) l = some (.lst vs) := ae
  generalize L2.upd H l (.lst vs) = H1 at s1 GF AI yI ⊢
  refine ⟨_, rfl, b, rfl, ⟨_, bR.of AI⟩, fun D hD => ?_⟩
  refine iE (K := K) (a := b) (ys := c.map V.int) (fun i xs H' => am H1 H' /\ H' D = some (.lst xs) /\ xs = (c.take i).map fun t => V.int (jN ts t))
   ⟨ai hD, ae, rfl⟩ (fun i xs H' _ ⟨sm, h, _⟩ => ⟨h, bR.of (sm _ _ AI)⟩) ?_ ?_
  ·rintro i x xs H' hi ⟨sm, ju, rfl⟩
   rw [SH, Tl] at hi
   obtain ⟨x', pJ, rfl⟩ := hi
   obtain ⟨x0, x1⟩ := sS x' (S5 pJ)
   obtain ⟨o, uo, tq⟩ := Ef GF x0 x1
   refine ⟨cx.set rfl, ?_⟩
   refine ⟨_, rfl, _, rfl, l, _, _, _, rfl, rfl, bz.of (sm _ _ yI), uo, o, _, _, _, rfl, rfl, bR.of (sm _ _ tq), uK, ju, aX (by rw [Sr, SS]; omega), az sm hD, ae, ?_⟩
   rw [SV, pJ]
   simp
  ·rintro xs H' ⟨sm, ju, rfl⟩
   refine ⟨D, c.map (jN ts), rfl, bz.of ?_, ?_, k H' (s1.trans sm)⟩
   ·rw [ju, Sr, T4, Tg]
    rfl
   ·simpa using ql
def tP (C : Addr) (Z : Ad) : Sp := fun vs H Q E => ∃ (p a b : Addr) (ts : List Th) (r : Int) (qs : List Qu) (st : aQ) (c : List Int), vs = [.ref p, .ref a, .ref b] /\ aM C H p ts r qs /\ ts.length <= 6 /\ b9 H a st /\ st.1.length <= 1000 /\ H b = some (.tup (c.map V.int)) /\
 (bQ ts.length st = true -> aT qs ts.length st.1 = true -> c ∈ aD ts r qs st -> ∀ l H', am H H' -> b9 H' l (behind ts.length st c) -> Q (.ref l) H') /\ (bQ ts.length st = false -> ∀ H', am H H' -> E (.ref Z.ce) none H') /\
 (bQ ts.length st = true -> aT qs ts.length st.1 = false -> ∀ H', am H H' -> E (.ref Z.eI) none H') /\ (bQ ts.length st = true -> aT qs ts.length st.1 = true -> c ∉ aD ts r qs st -> ∀ H', am H H' -> E (.ref Z.rK) none H')
theorem A9 : av ["night", "standing", "crew"] ["night", "standing", "crew"] (aj lr) := ge
theorem Au {f : Addr} {fd : FuncData} (F : Fn K mg "after" lr f fd ["night", "standing", "crew"]) (L : Lk K mg C fs ds) (T : Txt K mg C Z) : aq P w K mg base (o9 P w) 6 f fd ["night", "standing", "crew"] (tP C Z) := by
 have hX := L.tW
 have dS := L.fN
 have h9 : aq P w K mg base (o9 P w) 5 (fs 15) (ds 15) ["night", "standing"] (iD C Z) := kz L T
 have eg : aq P w K mg base bA 1 (fs 14) (ds 14) ["standing", "crew"] fq := gP L.fN T
 refine F.fn.Gf A9 (fun vs H Q E h => ?_) (fun cm A outer s H vs Q E hr h => ?_)
 ·obtain ⟨p, a, b, ts, r, qs, st, c, rfl, _⟩ := h
  rfl
 ·obtain ⟨p, a, b, ts, r, qs, st, c, rfl, N, h6, io, hl, hb, k1, k2, k3, k4⟩ := h
  have hu := hr.units
  have dp := AK c
  refine ⟨_, (ag (bV (aE (lP hu) (pv 2) (cl h9 hX hr dP (aa (pv 0) (aa (pv 1) af))) (by with_unfolding_all rfl))
   (ah (nQ nF rfl (by rfl) T.AB T.Aa PySem.F.excBase_ValueError (aa jU af)))
   aO)
   (ah (aB (cl eg dS hr aC (aa (pv 1) (aa (pv 2) af)))))), ?_⟩
  refine ⟨_, rfl, _, rfl, _, rfl, p, a, ts, r, qs, st, rfl, N, h6, io, hl, fun hS hG l H1 yI s1 hL => ?_, k2, k3⟩
  obtain ⟨vl, xK, dl⟩ := hL
  refine ⟨gg c, (aD ts r qs st).map gg, iZ (s1 _ _ hb), .inl (.lst xK dl), nM c, fD nM _, by omega, _, rfl, ?_⟩
  rw [zu]
  refine cq (fun h1 => ?_) (fun h1 => ?_)
  ·have hn : c ∉ aD ts r qs st := fun z => by
    have cB : (!decide (c ∈ aD ts r qs st)) = true := h1
    rw [SE z] at cB
    cases cB
   exact ⟨aJ (by show 1 <= _; decide), k4 hS hG hn H1 s1⟩
  ·have hy : c ∈ aD ts r qs st := by
    have cB : (!decide (c ∈ aD ts r qs st)) = false := h1
    by_cases z : c ∈ aD ts r qs st
    ·exact z
    ·rw [SW z] at cB; cases cB
   exact ⟨_, rfl, _, rfl, a, b, st, c, ts.length, rfl, io.mono s1, s1 _ _ hb, hS, h6, (tK hy).1, fun l2 H2 s2 h2 => k1 hS hG hy l2 H2 (s1.trans s2) h2⟩
end
def J5 : Option Int -> V
 | none => .cc
 | some i => .int i
theorem qX (a b : aQ) : PyData.eqv (fe a) (fe b) = decide (a = b) := by
 obtain ⟨g, i⟩ := a
 obtain ⟨g', i'⟩ := b
 show PyData.eqv (.tuple [gg g, .int i]) (.tuple [gg g', .int i']) = _
 rw [PyData.eqv, PyData.eqvAll, PyData.eqvAll, PyData.eqvAll, vf, UQ]
 simp [PyData.eqv, Prod.ext_iff]
theorem me (st : aQ) : (fe st).canLay0 = true := by
 simp [fe, PyData.canLay0, PyData.canLayAll0, nM]
theorem AY (st : aQ) : (fe st).depth <= 8 := by
 have := AK st.1
 simp [fe, PyData.depth, PyData.depthAll]
 omega
section
variable {P : Program} {w : World} {K : Vj} {mg : Str -> Option Value} {base : Heap} {C : Addr} {Z : Ad} {fs gs : Nat -> Addr} {ds es : Nat -> FuncData}
def tj (C : Addr) (Z : Ad) : Sp := fun vs H Q E => ∃ (p a b : Addr) (ts : List Th) (r : Int) (qs : List Qu) (st : aQ) (iw : List (List Int)), vs = [.ref p, .ref a, .ref b] /\ aM C H p ts r qs /\ ts.length <= 6 /\ b9 H a st /\ st.1.length <= 1000 /\ LstAt gg H b iw /\
 (bQ ts.length st = true -> aT qs ts.length st.1 = true -> ∀ H', am H H' -> Q (J5 (vA ts r qs st 0 iw)) H') /\ (bQ ts.length st = false -> ∀ H', am H H' -> E (.ref Z.ce) none H') /\
 (bQ ts.length st = true -> aT qs ts.length st.1 = false -> ∀ H', am H H' -> E (.ref Z.eI) none H')
theorem gJ : av ["night", "standing", "plan", "here", "total", "crew"] ["night", "standing", "plan"] (aj nv) := ge
theorem Ba {f f1 f2 : Addr} {fd eR m9 : FuncData} (F : Fn K mg "takes" nv f fd ["night", "standing", "plan"]) (L : Lk K mg C fs ds) (T : Txt K mg C Z) (eX : Fn K mg "minutes" gI f1 eR ["night", "crew"])
  (bF : Meth K C "ends" f2) (be : Mt K "ends" "Night.ends" dB f2 m9 ["self"]) : aq P w K mg base (o9 P w) 6 f fd ["night", "standing", "plan"] (tj C Z) := by
 have cS := L.fL
 have hX := L.tW
 have dS := L.fN
 have cU : aq P w K mg base (o9 P w) 4 (fs 10) (ds 10) ["night", "standing"] (du C Z) := fv L T
 have h9 : aq P w K mg base (o9 P w) 5 (fs 15) (ds 15) ["night", "standing"] (iD C Z) := kz L T
 have eg : aq P w K mg base bA 1 (fs 14) (ds 14) ["standing", "crew"] fq := gP L.fN T
 have gp : aq P w K mg base bA 2 f1 eR ["night", "crew"] (hJ C) := jQ eX T L.bS L.things
 have bE : aq P w K mg base bA 1 f2 m9 ["self"] i7 := kF be
 refine F.fn.Gf gJ (fun vs H Q E h => ?_) (fun cm A outer s H vs Q E hr h => ?_)
 ·obtain ⟨p, a, b, ts, r, qs, st, iw, rfl, _⟩ := h
  rfl
 ·obtain ⟨p, a, b, ts, r, qs, st, iw, rfl, N, h6, io, hl, ⟨vp, hb, dp⟩, k1, k2, k3⟩ := h
  have hu := hr.units
  have lp := aK dp
  refine ⟨_, (ag (c7 (cl cU cS hr dP (aa (pv 0) (aa (pv 1) af))))
   (ag (sn 3 gJ.nd (pv 1))
   (ag (sn 4 gJ.nd ao)
   (ag (dZ CY rfl (cj (pv 2)) (gn 5 gJ.nd)
   (ag (bV (aE (lP hu) (pv 5) (cl h9 hX hr dP (aa (pv 0) (aa (pv 3) af))) (by with_unfolding_all rfl))
   (ah (aB nV))
   aO)
   (ag (sn 3 gJ.nd (cl eg dS hr aC (aa (pv 3) (aa (pv 5) af))))
   (ah (Am (i := 4) gJ.nd (by rfl) (by first | exact Or.inl rfl | exact Or.inr rfl) (cl gp eX hr aC (aa (pv 0) (aa (pv 5) af))) yZ)))))
   (ah (aB (tF (aE (Ft hu) (pv 3) (cn (pv 0) T.aS bF bE (hr.mono (by decide)) be.b .nil aC) (aY _)) (pv 4) nV))))))), ?_⟩
  refine ⟨_, rfl, _, rfl, p, a, ts, r, qs, st, rfl, N, h6, io, hl, fun hS hG H1 s1 => ?_, k2, k3⟩
  refine ⟨_, rfl, _, rfl, b, rfl, ⟨_, bz.of (s1 _ _ hb)⟩, eH (K := K) (a := b) (xs := vp) (fun i σ H' => am H H' /\ ∃ l ax wY v5, σ = [some (.ref p), some (.ref a), some (.ref b), some (.ref l), some (.int wY), v5] /\ b9 H' l ax /\ bQ ts.length ax = true /\ aT qs ts.length ax.1 = true /\
    vA ts r qs ax wY (iw.drop i) = vA ts r qs st 0 iw)
   ⟨s1, a, st, 0, _, rfl, io.mono s1, hS, hG, rfl⟩ (fun i σ H' _ ⟨sm, _⟩ => bz.of (sm _ _ hb)) ?_ ?_⟩
  ·rintro i x σ H2 hi ⟨s2, l, ax, wY, v5, rfl, BF, pW, MD, rX⟩
   obtain ⟨c, hc, dc⟩ := bG (dp.mono s2) hi
   obtain ⟨o, rfl, ho⟩ := gU dc
   have lst := qK pW h6
   have RU := AK c
   have OQ : iw.drop i = c :: iw.drop (i + 1) := by
    rw [U4 (SR.mp hc).1, (SR.mp hc).2]
   rw [OQ, vA] at rX
   refine ⟨_, rfl, _, rfl, _, rfl, p, l, ts, r, qs, ax, rfl, N.mono s2, h6, BF, by omega, fun _ _ lc H3 Sd s3 hL => ?_, (fun hn => by rw [pW] at hn; cases hn), (fun _ hn => by rw [MD] at hn; cases hn)⟩
   have JA := s2.trans s3
   obtain ⟨vl, xK, dl⟩ := hL
   refine ⟨gg c, (aD ts r qs ax).map gg, iZ (s3 _ _ ho), .inl (.lst xK dl), nM c, fD nM _, by omega, _, rfl, ?_⟩
   rw [zu]
   refine cq (fun h1 => ?_) (fun h1 => ?_)
   ·have hn : c ∉ aD ts r qs ax := fun z => by
     have cB : (!decide (c ∈ aD ts r qs ax)) = true := h1
     rw [SE z] at cB
     cases cB
    rw [if_neg hn] at rX
    have := k1 hS hG H3 JA
    rw [<- rX] at this
    exact this
   ·have hy : c ∈ aD ts r qs ax := by
     have cB : (!decide (c ∈ aD ts r qs ax)) = false := h1
     by_cases z : c ∈ aD ts r qs ax
     ·exact z
     ·rw [SW z] at cB; cases cB
    rw [if_pos hy] at rX
    obtain ⟨mP, vQ, cg⟩ := tK hy
    have cl : c.length <= 6 := SD mP.length_le (SD (dD pW) h6)
    refine ⟨_, rfl, _, rfl, l, o, ax, c, ts.length, rfl, BF.mono s3, s3 _ _ ho, pW, h6, mP, fun l2 H4 s4 h4 => ?_⟩
    have Gg := JA.trans s4
    refine ⟨_, rfl, _, rfl, _, rfl, p, o, ts, r, qs, c, rfl, N.mono Gg, h6, s4 _ _ (s3 _ _ ho), by omega, vQ, (fun t ht => gy pW (mP.subset ht)), fun H5 s5 => ?_⟩
    exact ⟨_, _, rfl, rfl, Gg.trans s5, l2, _, _, _, rfl, h4.mono s5, xt pW, cg, rX⟩
  ·rintro σ H2 ⟨s2, l, ax, wY, v5, rfl, BF, pW, MD, rX⟩
   rw [lp, List.drop_of_length_le (Ss _), vA] at rX
   obtain ⟨dx, t, q, hp, _, _⟩ := id (N.mono s2).ex
   refine ⟨_, rfl, _, rfl, p, dx, _, rfl, hp, rfl, p, rfl, fun le H3 s3 he => ?_⟩
   have JA := s2.trans s3
   have RX := AY ax
   refine ⟨fe ax, fe ([], 1), (BF.mono s3).dv, he, me _, me _, by omega, _, rfl, ?_⟩
   rw [qX]
   have kk := k1 hS hG H3 JA
   refine cq (fun h1 => ?_) (fun h1 => ?_)
   ·rw [if_pos (S1 h1)] at rX
    rw [<- rX] at kk
    exact ⟨_, rfl, kk⟩
   ·rw [if_neg (of_decide_eq_false h1)] at rX
    rw [<- rX] at kk
    exact kk
end
def qr (H : Hp) (D : Addr) (H' : Hp) : Prop := ∀ b u, b ≠ D -> H b = some u -> H' b = some u
theorem qr.of {H H' : Hp} {D : Addr} (h : am H H') : qr H D H' := fun b u _ e => h b u e
theorem qr.next {H H' DG : Hp} {D : Addr} (h : qr H D H') (g : am H' DG) : qr H D DG := fun b u n e => g b u (h b u n e)
theorem qr.upd {H H' : Hp} {D : Addr} {o : HO} (h : qr H D H') : qr H D (L2.upd H' D o) := fun b u n e => by rw [ak n]; exact h b u n e
theorem qr.same {H H' : Hp} {D : Addr} (h : qr H D H') (n : H D = none) : am H H' := fun b u e => h b u (ay e n) e
theorem qr.fB {H H' : Hp} {D : Addr} {ys : List V} (h : qr H D H') (n : H D = some (.lst ys)) : ∀ b vs, H b = some (.tup vs) -> H' b = some (.tup vs) := fun b vs e => h b _ (fun z => by rw [z, n] at e; cases e) e
theorem jA.st {H : Hp} {a : Addr} {st : aQ} (h : b9 H a st) : jA H st a := h
theorem St.ka {H : Hp} {a : Addr} {st : aQ} (h : jA H st a) : b9 H a st := h
theorem ip (st : aQ) : eF (fe st) = true := by
 show cC [gg st.1, .int st.2] = true
 simp only [cC, Bool.and_true, iT]
 rfl
theorem cO {H : Hp} {st : aQ} {v : V} (h : DV H (fe st) v) : ∃ a, v = .ref a /\ b9 H a st := jA.of h
theorem ES {H : Hp} {st ax : aQ} {v : V} (h : DV H (fe st) v) (h' : DV H (fe ax) v) : st = ax := by
 obtain ⟨a, e, b, h1, h2⟩ := cO h
 obtain ⟨a', e', b', cB, jq⟩ := cO h'
 rw [e] at e'; cases e'
 rw [h1] at cB
 injection cB with e
 injection e with e
 injection e with e1 e2
 injection e1 with e1
 injection e2 with e2 _
 injection e2 with e2
 subst e1
 rw [h2] at jq
 injection jq with e
 injection e with e
 refine Prod.ext ?_ e2
 exact List.map_inj_right (fun x y z => by injection z) |>.mp e
theorem xH (gs : List (List Int)) : (gs.flatMap fun g => [((g, 0) : aQ), (g, 1)]).length = 2 * gs.length := by
 induction gs with
 | nil => rfl
 | cons g gs ih => rw [List.flatMap_cons, SX, ih]; simp; omega
theorem sB {α : Type} {f : α -> PyData} {H : Hp} : ∀ {vs At : List V}, At.Perm vs -> ∀ {l : List α}, bK H (l.map f) vs -> ∃ l' : List α, l'.Perm l /\ bK H (l'.map f) At := by
 intro vs At hp
 induction hp with
 | nil => exact fun {l} h => ⟨l, List.Perm.refl _, h⟩
 | cons x _ ih =>
  intro l h
  cases l with
  | nil => cases h
  | cons a l =>
   cases h with
   | cons h1 h2 =>
    obtain ⟨l', h3, h4⟩ := ih h2
    exact ⟨a :: l', h3.cons a, .cons h1 h4⟩
 | swap x y l0 =>
  intro l h
  cases l with
  | nil => cases h
  | cons a l =>
   cases h with
   | cons h1 h2 =>
    cases l with
    | nil => cases h2
    | cons b l =>
     cases h2 with
     | cons h3 h4 => exact ⟨b :: a :: l, List.Perm.swap _ _ _, .cons h3 (.cons h1 h4)⟩
 | trans _ _ L4 LF =>
  intro l h
  obtain ⟨l1, h1, h2⟩ := LF h
  obtain ⟨l2, h3, h4⟩ := L4 h2
  exact ⟨l2, h3.trans h1, h4⟩
open Classical in
noncomputable def ut (H : Hp) (v : V) : Int × List Int := if e : ∃ st : aQ, DV H (fe st) v then sw (Classical.choose e) else (0, [])
theorem qG {H : Hp} {v : V} {st : aQ} (h : DV H (fe st) v) : ut H v = sw st := by
 unfold ut
 rw [dif_pos ⟨st, h⟩]
 rw [ES (Classical.choose_spec (⟨st, h⟩ : ∃ st : aQ, DV H (fe st) v)) h]
theorem rq {H : Hp} : ∀ {l : List aQ} {vs : List V}, bK H (l.map fe) vs -> vs.map (ut H) = l.map sw
 | [], _, .nil => rfl
 | _ :: _, _ :: _, .cons h t => by rw [SN, SN, qG h, rq t]
theorem D5 {H : Hp} {l : List aQ} {vs : List V} (h : bK H (l.map fe) vs) (hp : vs.Pairwise fun x y => aA (ut H x) (ut H y) = true) : l.Pairwise fun a b => aA (sw a) (sw b) = true := by
 have h1 : (vs.map (ut H)).Pairwise fun a b => aA a b = true := by rw [Tu]; exact hp
 rw [rq h, Tu] at h1
 exact h1
theorem l9 {ts : List Th} {r : Int} {qs : List Qu} {st : aQ} (h : bQ ts.length st = true) (h6 : ts.length <= 6) : (aD ts r qs st).length <= 1000 /\ ∀ g ∈ aD ts r qs st, g.length <= 1000 := by
 have pm := eW (fC ts r qs st)
 constructor
 ·rw [show (aD ts r qs st).length = _ from pm.length_eq]
  have : (fC ts r qs st).length < 64 := Nat.lt_of_le_of_lt (SY _ _) (lC (qs := qs) h h6)
  omega
 ·intro g hg
  have Lz := pm.mem_iff.mp hg
  have := (fQ (Tb.mp (Tb.mp Lz).1).1).length_le
  have := dD h
  omega
section
variable {P : Program} {w : World} {K : Vj} {mg : Str -> Option Value} {base : Heap} {C : Addr} {Z : Ad} {fs : Nat -> Addr} {ds : Nat -> FuncData}
def jJ : Sp := fun vs H Q _ => ∃ (a b : Addr) (sd : Int), vs = [.ref a] /\ H a = some (.tup [.ref b, .int sd]) /\ ∀ q, H q = none -> Q (.ref q) (L2.upd H q (.tup [.int sd, .ref b]))
theorem vh : av ["standing"] ["standing"] (aj eY) := ge
theorem nO {f : Addr} {fd : FuncData} (F : Fn K mg "by_side" eY f fd ["standing"]) : aq P w K mg base bA 1 f fd ["standing"] jJ := by
 refine F.fn.ok vh (fun vs H Q E h => ?_) (fun cm A outer s H vs Q E hr h => ?_)
 ·obtain ⟨a, b, sd, rfl, _⟩ := h
  rfl
 ·obtain ⟨a, b, sd, rfl, ha, k⟩ := h
  refine ⟨_, (ah (aB (cD (aa (aW bC (pv 0) ao (fun _ _ => rfl)) (aa (aW bC (pv 0) ao (fun _ _ => rfl)) af))))), ?_⟩
  exact ⟨_, rfl, a, _, _, _, rfl, rfl, bR.of ha, qd, _, rfl, a, _, _, _, rfl, rfl, bR.of ha, uK, aJ (by show 2 <= _; decide), fun o ho => k o ho⟩
def Aq (C : Addr) : Sp := fun vs H Q _ => ∃ (p : Addr) (ts : List Th) (r : Int) (qs : List Qu), vs = [.ref p] /\ aM C H p ts r qs /\ ts.length <= 6 /\ ∀ l H', am H H' -> LstAt fe H' l (bj qs ts.length) -> Q (.ref l) H'
theorem dH : av ["night", "standings", "group"] ["night"] (aj cL) := ge
theorem EZ {f f1 f2 : Addr} {fd eR m9 : FuncData} (F : Fn K mg "good_standings" cL f fd ["night"]) (L : Lk K mg C fs ds) (T : Txt K mg C Z) (dM : Fn K mg "by_side" eY f1 eR ["standing"])
  (oQ : Meth K C "begins" f2) (iX : Mt K "begins" "Night.begins" cF f2 m9 ["self"]) : aq P w K mg base bA 4 f fd ["night"] (Aq C) := by
 have iV := L.je
 have gr := L.jj
 have oG : aq P w K mg base bA 1 f2 m9 ["self"] (oi C) := uY iX T
 have iJ : aq P w K mg base bA 1 (fs 11) (ds 11) ["bank"] ic := kj L.je
 have gj : aq P w K mg base bA 3 (fs 8) (ds 8) ["night", "standing"] (g9 C) := jM L.jj T L.bS L.things L.jg L.iF L.fj
 refine F.fn.ok dH (fun vs H Q E h => ?_) (fun cm A outer s H vs Q E hr h => ?_)
 ·obtain ⟨p, ts, r, qs, rfl, _⟩ := h
  rfl
 ·obtain ⟨p, ts, r, qs, rfl, N, h6, k⟩ := h
  have hu := hr.units
  obtain ⟨dx, t, q, hp, _, _⟩ := id N.ex
  refine ⟨_, (ag (sn 1 dH.nd (iH af))
   (ag (dZ Tj rfl (cj (cl iJ iV hr aC (aa (aW bC (cn (pv 0) T.aS oQ oG (hr.mono (by decide)) iX.b .nil aC) ao (fun _ _ => rfl)) af))) (gn 2 dH.nd)
   (ah (c7 (tE T8 PySem.F.slot_list_extend PySem.F.type_list_extend xI (pv 1) (aa (cv rfl (N' := ["side", "group"]) (cap := [none, some 2]) ⟨rfl, by with_unfolding_all rfl⟩ (jI (ii (v := .ref Z.oN) (by rfl) T.wL rfl)) (fun _ => (gn 0 (show (["side", "group"] : List Str).Nodup by decide +kernel))) (fun _ => cT) (fun _ => (cD (aa (pv 1) (aa (pv 0) af))))) af)))))
   (ah (aB (pO hu (by rfl) T.kZ (by rfl) dM.g (aa (cv rfl (N' := ["standing", "night"]) (cap := [none, some 0]) ⟨rfl, by with_unfolding_all rfl⟩ (cj (pv 1)) (fun _ => (gn 0 (show (["standing", "night"] : List Str).Nodup by decide +kernel))) (fun _ => (fz (iN (cl gj gr hr aC (aa (pv 1) (aa (pv 0) af)))))) (fun _ => (pv 0))) af)))))), ?_⟩
  refine ⟨aJ (by show 0 <= _; decide), fun l0 ww => ?_⟩
  have s1 : am H (L2.upd H l0 (.lst [])) := ai ww
  have e1 : (L2.upd H l0 (.lst [])) l0 = some (.lst []) := ae
  generalize L2.upd H l0 (.lst []) = H1 at s1 e1 ⊢
  refine ⟨_, rfl, p, dx, _, rfl, s1 _ _ hp, rfl, p, ts, r, qs, rfl, N.mono s1, h6, fun lb H2 s2 hb => ?_⟩
  obtain ⟨_, e, Cs⟩ := cO (st := (bM ts.length, 0)) hb
  cases e
  obtain ⟨g0, Cs, Gs⟩ := Cs
  refine ⟨lb, _, _, _, rfl, rfl, bR.of Cs, uK, g0, bM ts.length, rfl, Gs, by rw [bn]; exact h6, fun lg H3 s3 hG => ?_⟩
  obtain ⟨vg, xn, dg⟩ := hG
  have FV := aK dg
  have Qt : (iu (bM ts.length)).length <= 64 := by
   rw [ja, bn]
   exact SD (Um (by decide) h6) (by decide)
  have qY := s2.trans s3
  have e3 : H3 l0 = some (.lst []) := qY _ _ e1
  have Kj : lg ≠ l0 := fun z => by
   rw [z, e3] at xn
   cases xn
   have := List.length_pos_of_mem (wj (bM ts.length))
   simp at FV; omega
  have OM := s1.trans qY
  refine ⟨lg, rfl, ⟨_, bz.of xn⟩, eH (K := K) (a := lg) (xs := vg) (fun i σ H' => am H H' /\ qr H3 l0 H' /\ (∃ v2, σ = [some (.ref p), some (.ref l0), v2]) /\ ∃ xs, H' l0 = some (.lst xs) /\ bK H' ((((iu (bM ts.length)).take i).flatMap fun g => [((g, 0) : aQ), (g, 1)]).map fe) xs)
   ⟨OM, qr.of (am.refl _), ⟨_, rfl⟩, [], e3, .nil⟩ (fun i σ H' _ ⟨_, bt, _⟩ => bz.of (bt _ _ Kj xn)) ?_ ?_⟩
  ·rintro i x σ H4 hi ⟨s4, bt, ⟨v2, rfl⟩, xs, hx, dx⟩
   obtain ⟨g, hg, QU⟩ := bG dg hi
   obtain ⟨c, rfl, hc⟩ := gU QU
   have PZ := bt.fB e3 _ _ hc
   have et : ((iu (bM ts.length)).take (i + 1)).flatMap (fun g => [((g, 0) : aQ), (g, 1)]) = ((iu (bM ts.length)).take i).flatMap (fun g => [((g, 0) : aQ), (g, 1)]) ++ [(g, 0), (g, 1)] := by
    rw [SV, hg, List.flatMap_append]; rfl
   have lx : xs.length <= 128 := by
    rw [aK dx, xH, SS]
    omega
   refine ⟨_, rfl, .inl ⟨rfl, _, bz.of hx⟩, Z.oN, rfl, ⟨_, T.rA _⟩, fun D hD => ?_⟩
   refine iE (K := K) (a := Z.oN) (ys := [.int 0, .int 1]) (fun j zs H' => am H4 H' /\ H' D = some (.lst zs) /\ zs.length = j /\ bK H' (([((g, 0) : aQ), (g, 1)].take j).map fe) zs)
    ⟨ai hD, ae, rfl, .nil⟩ (fun j zs H' _ ⟨_, h, _⟩ => ⟨h, T.rA _⟩) ?_ ?_
   ·rintro j y zs H5 hj ⟨s5, lB, lz, dz⟩
    obtain ⟨sd, rfl, Q2⟩ : ∃ sd : Int, y = .int sd /\ [((g, 0) : aQ), (g, 1)][j]? = some (g, sd) := by
     match j, hj with
     | 0, hj => exact ⟨0, by simpa using hj.symm, rfl⟩
     | 1, hj => exact ⟨1, by simpa using hj.symm, rfl⟩
     | j + 2, hj => simp at hj
    have LA : j < 2 := (SR.mp hj).1
    refine ⟨cx.set rfl, ?_⟩
    refine ⟨_, rfl, _, rfl, aJ (by show 2 <= _; decide), fun o ho => ?_⟩
    have s6 : am H5 (L2.upd H5 o (.tup [.ref c, .int sd])) := ai ho
    have vm := s6 _ _ lB
    have OB : b9 (L2.upd H5 o (.tup [.ref c, .int sd])) o (g, sd) := ⟨c, ae, s6 _ _ (s5 _ _ PZ)⟩
    refine ⟨vm, aX (by omega), az (s5.trans s6) hD, ae, by simp [lz], ?_⟩
    rw [SV, Q2, Sz]
    exact (bN vm (dz.mono s6) (aF ip _)).snoc (dO vm OB.dv (ip _))
   ·rintro zs H5 ⟨s5, lB, lz, dz⟩
    have RF : zs.length = 2 := lz
    refine ⟨l0, D, xs, zs, rfl, rfl, s5 _ _ hx, lB, aJ (by omega), ?_⟩
    refine ⟨az (s4.trans s5) ww, (bt.next s5).upd, ⟨_, rfl⟩, _, ae, ?_⟩
    rw [et, Sz]
    exact (bN (s5 _ _ hx) (dx.mono s5) (aF ip _)).append (bN (s5 _ _ hx) dz (aF ip _))
  ·rintro σ H4 ⟨s4, bt, ⟨v2, rfl⟩, xs, hx, dx⟩
   rw [SF (by omega)] at dx
   have lx := aK dx
   have zb := xm qs h6
   generalize hM : (iu (bM ts.length)).flatMap (fun g => [((g, 0) : aQ), (g, 1)]) = M at dx lx zb
   refine ⟨_, rfl, l0, rfl, ⟨_, bz.of hx⟩, fun D hD => ?_⟩
   refine dR (K := K) (a := l0) (ys := xs) (fun j zs H' => am H4 H' /\ H' D = some (.lst zs) /\ bK H' (((M.take j).filter fun st => aT qs ts.length st.1).map fe) zs)
    ⟨ai hD, ae, .nil⟩ (fun j zs H' _ ⟨sm, h, _⟩ => ⟨h, bz.of (sm _ _ hx)⟩) ?_ ?_
   ·rintro j y zs H5 hj ⟨s5, lB, dz⟩
    obtain ⟨st, io, dst⟩ := bG dx hj
    obtain ⟨a, rfl, GQ⟩ := cO dst
    refine ⟨cx.set rfl, ?_⟩
    refine ⟨_, rfl, _, rfl, p, a, ts, r, qs, st, rfl, N.mono (s4.trans s5), h6, GQ.mono s5, fun H6 s6 => ⟨_, rfl, ?_⟩⟩
    have vm := s6 _ _ lB
    have Nr := dz.mono s6
    have lz : zs.length <= 128 := by
     rw [aK dz]
     exact SD (SY _ _) (by rw [SS]; omega)
    have et : M.take (j + 1) = M.take j ++ [st] := by rw [SV, io]; rfl
    refine cq (fun h1 => ?_) (fun h1 => ?_)
    ·refine ⟨_, rfl, vm, aX (by omega), az (s5.trans s6) hD, ae, ?_⟩
     have ef : [st].filter (fun st => aT qs ts.length st.1) = [st] := by rw [Ta, if_pos h1]; rfl
     rw [et, S3, ef, Sz]
     exact (bN vm Nr (aF ip _)).snoc (dO vm (GQ.mono (s5.trans s6)).dv (ip _))
    ·refine ⟨s5.trans s6, vm, ?_⟩
     have cB : aT qs ts.length st.1 = false := h1
     have ef : [st].filter (fun st => aT qs ts.length st.1) = [] := by rw [Ta, if_neg (by rw [cB]; simp)]; rfl
     rw [et, S3, ef, Vd]
     exact Nr
   ·rintro zs H5 ⟨s5, lB, dz⟩
    rw [lx, T4] at dz
    have eM : M.filter (fun st => aT qs ts.length st.1) = oJ qs ts.length := by rw [<- hM]; rfl
    rw [eM] at dz
    have l4 : aq P w K mg base bA 1 f1 eR ["standing"] jJ := nO dM
    refine ⟨D, zs, ut H5, rfl, bz.of lB, n0.of l4 (hr.mono (by decide)) dM.b (fun _ _ _ _ _ z => z) (fun y hy => ?_), by rw [rq dz]; exact r0 _ _, fun H6 l NV s6 hl hp hs => ?_⟩
    ·obtain ⟨i, hi⟩ := US.mp hy
     obtain ⟨st, _, dst⟩ := bG dz hi
     have ek := qG dst
     obtain ⟨a, rfl, b, ha, hb⟩ := cO dst
     refine ⟨b, by rw [ek]; exact hb, fun H' sm Q hq => ⟨a, b, st.2, rfl, sm _ _ ha, fun q hn => ?_⟩⟩
     have := hq q hn
     rw [ek] at this
     exact this
    ·obtain ⟨l', h1, h2⟩ := sB hp dz
     have e := sE h1 (D5 h2 hs)
     rw [e] at h2
     have s7 := s4.trans (s5.trans s6)
     exact k l _ (az s7 (s7.free hl)) ⟨NV, ae, (h2.mono s6).mono (ai hl)⟩
end
def Cr (x : Wy) : PyData := .tuple [gg x.1, .int x.2.1, fe x.2.2]
theorem r9 (x : Wy) : eF (Cr x) = true := by
 show cC [gg x.1, .int x.2.1, fe x.2.2] = true
 simp only [cC, Bool.and_true, iT, ip]
 rfl
theorem AG {H : Hp} {x : Wy} {v : V} (h : DV H (Cr x) v) : ∃ a b c, v = .ref a /\ H a = some (.tup [.ref b, .int x.2.1, .ref c]) /\ H b = some (.tup (x.1.map V.int)) /\ b9 H c x.2.2 := by
 obtain ⟨a, vs, rfl, e, q⟩ := h.eV
 obtain ⟨v, w, u, rfl, h1, h2, h3⟩ := q.lQ
 obtain ⟨b, rfl, hb⟩ := gU h1
 cases h2.int_inv
 obtain ⟨c, rfl, hc⟩ := cO h3
 exact ⟨a, b, c, rfl, e, hb, hc⟩
theorem Hb {H : Hp} {x : Wy} {a b c : Addr} (h : H a = some (.tup [.ref b, .int x.2.1, .ref c])) (hb : H b = some (.tup (x.1.map V.int))) (hc : b9 H c x.2.2) : DV H (Cr x) (.ref a) := .tup h (.cons (iZ hb) (.cons (.int _) (.cons hc.dv .nil)))
theorem LstAt.keep {α : Type} {f : α -> PyData} {H H' : Hp} {a : Addr} {l : List α} (h : LstAt f H a l) (kl : ∀ b vs, H b = some (.lst vs) -> H' b = some (.lst vs)) (kt : ∀ b vs, H b = some (.tup vs) -> H' b = some (.tup vs)) (no : ∀ x, eF (f x) = true) : LstAt f H' a l :=
 let ⟨vs, h1, h2⟩ := h
 ⟨vs, kl _ _ h1, i8 kt h2 (aF no l)⟩
abbrev qe (H : Hp) : bv × V -> aQ × List Wy -> Prop := fun kv c => kv.1 = c.1 /\ ∃ a, kv.2 = .ref a /\ LstAt Cr H a c.2
def tz (P : Program) (w : World) (H : Hp) (p : Addr) (cs : List (aQ × List Wy)) : Prop := ∃ kvs, DF P w H p kvs /\ Paired (qe H) kvs cs
theorem qe.mono {H H' : Hp} {kvs : List (bv × V)} {cs : List (aQ × List Wy)} (h : Paired (qe H) kvs cs) (e : am H H') : Paired (qe H') kvs cs := Paired.u5 h fun _ _ ⟨h1, a, h2, h3⟩ => ⟨h1, a, h2, h3.mono e⟩
theorem tz.mono {P : Program} {w : World} {H H' : Hp} {p : Addr} {cs : List (aQ × List Wy)} (h : tz P w H p cs) (e : am H H') : tz P w H' p cs := let ⟨kvs, h1, h2⟩ := h; ⟨kvs, h1.mono e, qe.mono h2 e⟩
theorem qe.keys {H : Hp} : ∀ {kvs : List (bv × V)} {cs : List (aQ × List Wy)}, Paired (qe H) kvs cs -> kvs.map (·.1) = cs.map (·.1)
 | [], _, .nil => rfl
 | _ :: _, _ :: _, .cons h r => by rw [SN, SN, h.1, qe.keys r]
theorem qe.at {H : Hp} : ∀ {kvs : List (bv × V)} {cs : List (aQ × List Wy)} {i : Nat} {k : bv} {y : V}, Paired (qe H) kvs cs -> kvs[i]? = some (k, y) -> ∃ wy a, cs[i]? = some (k, wy) /\ y = .ref a /\ LstAt Cr H a wy
 | [], _, _, _, _, .nil, e => by simp at e
 | p :: _, c :: _, 0, k, y, .cons h _, e => by
  simp at e; subst e
  obtain ⟨h1, a, h2, h3⟩ := h
  obtain ⟨c1, c2⟩ := c
  have h1 : k = c1 := h1
  subst h1
  exact ⟨c2, a, rfl, h2, h3⟩
 | _ :: _, _ :: _, i + 1, k, y, .cons _ r, e => by
  obtain ⟨wy, a, h1, h2⟩ := qe.at (i := i) (k := k) (y := y) r (by simpa using e)
  exact ⟨wy, a, by simpa using h1, h2⟩
theorem lZ {kvs : List (bv × V)} {k : bv} (h : k ∉ kvs.map (·.1)) : cu kvs k = none := by
 unfold cu
 rw [List.find?_eq_none.mpr]
 ·rfl
 ·intro x hx z
  exact h (by rw [<- S1 z]; exact Ts (f := fun x : bv × V => x.1) hx)
theorem qq {kvs : List (bv × V)} {k : bv} (h : k ∈ kvs.map (·.1)) : (cu kvs k).isSome = true := by
 unfold cu
 rw [T0, List.find?_isSome]
 obtain ⟨p, hp, rfl⟩ := S9.mp h
 exact ⟨p, hp, SE rfl⟩
theorem sy {kvs : List (bv × V)} {k : bv} {v : V} (h : k ∉ kvs.map (·.1)) : pC kvs k v = kvs ++ [(k, v)] := by
 unfold pC
 rw [lZ h, if_neg (by simp)]
theorem o8 {α : Type} {l : List α} {i : Nat} {x : α} (nd : l.Nodup) (h : l[i]? = some x) : x ∉ l.take i := by
 intro hm
 obtain ⟨j, hj, e⟩ := List.mem_take_iff_getElem.mp hm
 obtain ⟨hi, e2⟩ := SR.mp h
 rw [<- e2] at e
 have := km nd _ _ e
 omega
abbrev Bg := Int × List Int × aQ
def Ew (x : Bg) : PyData := .tuple [.int x.1, gg x.2.1, fe x.2.2]
theorem DC (x : Bg) : eF (Ew x) = true := by
 show cC [.int x.1, gg x.2.1, fe x.2.2] = true
 simp only [cC, Bool.and_true, iT, ip]
 rfl
theorem vF {H : Hp} {x : Bg} {v : V} (h : DV H (Ew x) v) : ∃ a b c, v = .ref a /\ H a = some (.tup [.int x.1, .ref b, .ref c]) /\ H b = some (.tup (x.2.1.map V.int)) /\ b9 H c x.2.2 := by
 obtain ⟨a, vs, rfl, e, q⟩ := h.eV
 obtain ⟨v, w, u, rfl, h1, h2, h3⟩ := q.lQ
 cases h1.int_inv
 obtain ⟨b, rfl, hb⟩ := gU h2
 obtain ⟨c, rfl, hc⟩ := cO h3
 exact ⟨a, b, c, rfl, e, hb, hc⟩
theorem HN {H : Hp} {x : Bg} {a b c : Addr} (h : H a = some (.tup [.int x.1, .ref b, .ref c])) (hb : H b = some (.tup (x.2.1.map V.int))) (hc : b9 H c x.2.2) : DV H (Ew x) (.ref a) := .tup h (.cons (.int _) (.cons (iZ hb) (.cons hc.dv .nil)))
def bT (f : Sh.Mp aQ) (eK : List Wy) : List Bg := (eK.filter fun x => (Sh.lk f x.2.2).isSome).map fun x => (x.2.1 + (Sh.lk f x.2.2).getD 0, x.1, x.2.2)
theorem n5 (f : Sh.Mp aQ) (eK : List Wy) : (bT f eK).map (·.1) = Sh.yt f eK := by
 unfold bT Sh.yt
 rw [Tg]
 rfl
theorem gT (f : Sh.Mp aQ) (k : bv) : cu (iv f) k = (Sh.lk f k).map V.int := qI f k
theorem Bx (f : Sh.Mp aQ) (k : bv) (v : Int) : pC (iv f) k (.int v) = iv (Sh.put f k v) := by
 unfold pC Sh.put
 rw [gT, T0]
 by_cases h : (Sh.lk f k).isSome = true
 ·rw [if_pos h, if_pos h]
  unfold iv
  rw [Tg, Tg]
  refine U5 fun x _ => ?_
  show (if x.1 = k then (x.1, V.int v) else (x.1, V.int x.2)) = ((if x.1 = k then (x.1, v) else x).1, V.int (if x.1 = k then (x.1, v) else x).2)
  by_cases e : x.1 = k
  ·rw [if_pos e, if_pos e]
  ·rw [if_neg e, if_neg e]
 ·rw [if_neg h, if_neg h]
  unfold iv
  rw [Sz]
  rfl
section
variable {P : Program} {w : World} {K : Vj} {mg : Str -> Option Value} {base : Heap} {C : Addr} {Z : Ad} {fs : Nat -> Addr} {ds : Nat -> FuncData}
def rf (P : Program) (w : World) (C : Addr) : Sp := fun vs H Q _ => ∃ (p : Addr) (ts : List Th) (r : Int) (qs : List Qu), vs = [.ref p] /\ aM C H p ts r qs /\ ts.length <= 6 /\ ∀ l H', am H H' -> tz P w H' l (bH ts r qs) -> Q (.ref l) H'
structure Lp (K : Vj) (mg : Str -> Option Value) (C : Addr) (fs : Nat -> Addr) (ds : Nat -> FuncData) : Prop where
 AZ : Meth K C "begins" (fs 60)
 FR : Mt K "begins" "Night.begins" cF (fs 60) (ds 60) ["self"]
 rR : Meth K C "ends" (fs 61)
 ends : Mt K "ends" "Night.ends" dB (fs 61) (ds 61) ["self"]
 k7 : Fn K mg "minutes" gI (fs 62) (ds 62) ["night", "crew"]
 wR : Fn K mg "by_side" eY (fs 63) (ds 63) ["standing"]
 iK : Fn K mg "good_standings" cL (fs 64) (ds 64) ["night"]
 fW : Fn K mg "all_crossings" eP (fs 65) (ds 65) ["night"]
 sY : Fn K mg "begun_by" dY (fs 66) (ds 66) ["ways", "fewest"]
 jG : Fn K mg "with_one_more" c6 (fs 67) (ds 67) ["crossings", "fewest"]
 fg : Fn K mg "fewest_minutes" b8 (fs 68) (ds 68) ["crossings", "end"]
theorem cK : av ["night", "crossings", "standing", "let"] ["night"] (aj eP) := ge
theorem wQ (L : Lk K mg C fs ds) (B : Lp K mg C fs ds) (T : Txt K mg C Z) : aq P w K mg base bA 6 (fs 65) (ds 65) ["night"] (rf P w C) := by
 have md := B.iK
 have hX := L.tW
 have dS := L.fN
 have eX := B.k7
 have l5 : aq P w K mg base bA 4 (fs 64) (ds 64) ["night"] (Aq C) := EZ B.iK L T B.wR B.AZ B.FR
 have h9 : aq P w K mg base (o9 P w) 5 (fs 15) (ds 15) ["night", "standing"] (iD C Z) := kz L T
 have eg : aq P w K mg base bA 1 (fs 14) (ds 14) ["standing", "crew"] fq := gP L.fN T
 have gp : aq P w K mg base bA 2 (fs 62) (ds 62) ["night", "crew"] (hJ C) := jQ B.k7 T L.bS L.things
 refine B.fW.fn.ok cK (fun vs H Q E h => ?_) (fun cm A outer s H vs Q E hr h => ?_)
 ·obtain ⟨p, ts, r, qs, rfl, _⟩ := h
  rfl
 ·obtain ⟨p, ts, r, qs, rfl, N, h6, k⟩ := h
  have hu := hr.units
  refine ⟨_, (ag (sn 1 cK.nd (kg (P := P) (w := w) rfl rfl))
   (ag (dZ Tj rfl (cj (cl l5 md hr aC (aa (pv 0) af))) (gn 2 cK.nd)
   (ag (sn 3 cK.nd (cl h9 hX hr tZ (aa (pv 0) (aa (pv 2) af))))
   (ah (uU (cv rfl (N' := ["crew", "night", "standing"]) (cap := [none, some 0, some 2]) ⟨rfl, by with_unfolding_all rfl⟩ (cj (pv 3)) (fun _ => (gn 0 (show (["crew", "night", "standing"] : List Str).Nodup by decide +kernel))) (fun _ => cT) (fun _ => (cD (aa (pv 0) (aa (cl gp eX hr aC (aa (pv 1) (aa (pv 0) af))) (aa (cl eg dS hr aC (aa (pv 2) (aa (pv 0) af))) af)))))) (uO (pv 1) (pv 2) (EE (P := P) (w := w) rfl rfl hu))))))
   (ah (aB (wS (P := P) (w := w) rfl rfl (pv 1)))))), ?_⟩
  refine fun D0 o0 Ii BR => ?_
  have s1 : am H (L2.upd H D0 o0) := ai Ii
  generalize L2.upd H D0 o0 = H1 at s1 BR ⊢
  refine ⟨_, rfl, p, ts, r, qs, rfl, N.mono s1, h6, fun lg H2 s2 hG => ?_⟩
  obtain ⟨vg, xn, dg⟩ := hG
  have FV := aK dg
  have zb := gA qs h6
  obtain ⟨x0, e0⟩ := (BR.mono s2).at
  have Kj : lg ≠ D0 := cR xn e0 (by intro z; cases z)
  have DP := s1.trans s2
  have fB : ∀ {H' : Hp}, qr H2 D0 H' -> ∀ b vs, H2 b = some (.tup vs) -> H' b = some (.tup vs) := fun bt b vs e => bt b _ (cR e e0 (by intro z; cases z)) e
  refine ⟨lg, rfl, ⟨_, bz.of xn⟩, eH (K := K) (a := lg) (xs := vg) (fun i σ H' => am H H' /\ qr H2 D0 H' /\ (∃ v2 v3, σ = [some (.ref p), some (.ref D0), v2, v3]) /\ ∃ kvs, DW P w H' D0 kvs /\ Paired (qe H') kvs ((bH ts r qs).take i))
   ⟨DP, qr.of (am.refl _), ⟨_, _, rfl⟩, [], BR.mono s2, .nil⟩ (fun i σ H' _ ⟨_, bt, _⟩ => bz.of (bt _ _ Kj xn)) ?_ ?_⟩
  ·rintro i x σ H4 hi ⟨s4, bt, ⟨v2, v3, rfl⟩, kvs, dw, pr⟩
   obtain ⟨st, io, dst⟩ := bG dg hi
   obtain ⟨a, rfl, GQ⟩ := cO (uP (fB bt) dst (ip _))
   obtain ⟨hS, hG⟩ := dG (S5 io)
   have lst := qK hS h6
   refine ⟨_, rfl, _, rfl, p, a, ts, r, qs, st, rfl, N.mono s4, h6, GQ, by omega, fun _ _ l H5 hl s5 hL => ?_, (fun hn => by rw [hS] at hn; cases hn), (fun _ hn => by rw [hG] at hn; cases hn)⟩
   have A4 := s4.trans s5
   have Hv := GQ.mono s5
   obtain ⟨vl, xK, dl⟩ := hL
   have lvl := aK dl
   have cl := (l9 (r := r) (qs := qs) hS h6).1
   refine ⟨_, rfl, l, rfl, ⟨_, bz.of xK⟩, fun D hD => ?_⟩
   refine dR (K := K) (a := l) (ys := vl) (fun j zs H' => am H5 H' /\ H' D = some (.lst zs) /\ zs.length = j /\ bK H' (((bP ts r qs st).take j).map Cr) zs)
    ⟨ai hD, ae, rfl, .nil⟩ (fun j zs H' _ ⟨sm, h, _⟩ => ⟨h, bz.of (sm _ _ xK)⟩) ?_ ?_
   ·rintro j y zs H6 hj ⟨s6, vm, lz, dz⟩
    obtain ⟨c, hc, dc⟩ := bG dl hj
    obtain ⟨o, rfl, ho⟩ := gU dc
    have LA := (SR.mp hj).1
    obtain ⟨mP, vQ, cg⟩ := gx (S5 hc)
    have Ls : c.length <= 6 := SD mP.length_le (SD (dD hS) h6)
    refine ⟨cx.set rfl, ?_⟩
    refine ⟨_, rfl, _, rfl, _, rfl, p, o, ts, r, qs, c, rfl, N.mono (A4.trans s6), h6, s6 _ _ ho, by omega, vQ, (fun t ht => gy hS (mP.subset ht)), fun H7 s7 => ?_⟩
    have Cz := s6.trans s7
    refine ⟨_, rfl, _, rfl, a, o, st, c, ts.length, rfl, Hv.mono Cz, Cz _ _ ho, hS, h6, mP, fun l2 H8 s8 h8 => ?_⟩
    have Ru := Cz.trans s8
    refine ⟨aJ (by show 3 <= _; decide), fun o3 G1 => ?_⟩
    have s9 : am H8 (L2.upd H8 o3 (.tup [.ref o, .int (aI ts c), .ref l2])) := ai G1
    have Ju := (s7.trans s8).trans s9
    have dy : DV (L2.upd H8 o3 (.tup [.ref o, .int (aI ts c), .ref l2])) (Cr (c, aI ts c, behind ts.length st c)) (.ref o3) := Hb ae (s9 _ _ (Ru _ _ ho)) (h8.mono s9)
    generalize L2.upd H8 o3 (.tup [.ref o, .int (aI ts c), .ref l2]) = H9 at Ju dy ⊢
    have Kn := Ju _ _ vm
    refine ⟨Kn, aX (by omega), az (s6.trans Ju) hD, ae, by simp [lz], ?_⟩
    have ew : (bP ts r qs st)[j]? = some (c, aI ts c, behind ts.length st c) := by unfold bP; rw [SH, hc]; rfl
    rw [SV, ew, Sz]
    exact (bN Kn (dz.mono Ju) (aF r9 _)).snoc (dO Kn dy (r9 _))
   ·rintro zs H6 ⟨s6, vm, lz, dz⟩
    have lw : (bP ts r qs st).length = vl.length := by unfold bP; rw [Sr, lvl]
    rw [SF (by omega)] at dz
    have JQ := s5.trans s6
    have Ei := dw.mono JQ
    have hk : kvs.length <= 128 := by
     rw [TW pr, SS]
     unfold bH
     rw [Sr]; omega
    have nk : st ∉ kvs.map (·.1) := by
     rw [qe.keys pr, List.map_take, dA]
     exact o8 (j4 _ _) io
    refine ⟨_, rfl, _, rfl, D0, a, st, kvs, rfl, rfl, Hv.mono s6, Ei, aX (by omega), fun o' BC => ?_⟩
    rw [sy nk] at BC
    obtain ⟨kl, kt⟩ := Ei.nl (o := o')
    refine ⟨az (s4.trans JQ) Ii, (bt.next JQ).upd, ⟨_, _, rfl⟩, _, BC, ?_⟩
    have ec : (bH ts r qs)[i]? = some (st, bP ts r qs st) := by unfold bH; rw [SH, io]; rfl
    rw [SV, ec]
    refine Paired.snoc (Paired.u5 (qe.mono pr JQ) fun _ _ ⟨h1, a', h2, h3⟩ => ⟨h1, a', h2, h3.keep kl kt r9⟩) ⟨rfl, D, rfl, LstAt.keep ⟨zs, vm, dz⟩ kl kt r9⟩
  ·rintro σ H4 ⟨s4, bt, ⟨v2, v3, rfl⟩, kvs, dw, pr⟩
   have lc : (bH ts r qs).length = vg.length := by unfold bH; rw [Sr, FV]
   rw [SF (by omega)] at pr
   refine ⟨_, rfl, D0, kvs, rfl, dw, fun o df => k D0 _ (az s4 Ii) ⟨kvs, df, ?_⟩⟩
   obtain ⟨kl, kt⟩ := dw.nl (o := o)
   exact Paired.u5 pr fun _ _ ⟨h1, a', h2, h3⟩ => ⟨h1, a', h2, h3.keep kl kt r9⟩
def oT (P : Program) (w : World) : Sp := fun vs H Q _ => ∃ (a d : Addr) (eK : List Wy) (f : Sh.Mp aQ), vs = [.ref a, .ref d] /\ LstAt Cr H a eK /\ eK.length <= 1000 /\ DS P w H d (iv f) /\ ∀ l H', H l = none -> am H H' -> LstAt Ew H' l (bT f eK) -> Q (.ref l) H'
theorem sk : av ["ways", "fewest"] ["ways", "fewest"] (aj dY) := ge
theorem tJ {f : Addr} {fd : FuncData} (F : Fn K mg "begun_by" dY f fd ["ways", "fewest"]) : aq P w K mg base bA 1 f fd ["ways", "fewest"] (oT P w) := by
 refine F.fn.ok sk (fun vs H Q E h => ?_) (fun cm A outer s H vs Q E hr h => ?_)
 ·obtain ⟨a, d, eK, f, rfl, _⟩ := h
  rfl
 ·obtain ⟨a, d, eK, f, rfl, ⟨vw, ha, dv⟩, hl, hd, k⟩ := h
  have hu := hr.units
  have lw := aK dv
  refine ⟨_, (ah (aB (cv rfl (N' := ["crew", "lasts", "behind", "fewest"]) (cap := [none, none, none, some 1]) ⟨rfl, by with_unfolding_all rfl⟩ (cj (pv 0)) (fun _ => (tupK (K := K) (n := 3) rfl rfl (aV (gn 0 (show (["crew", "lasts", "behind", "fewest"] : List Str).Nodup by decide +kernel)) (aV (gn 1 (show (["crew", "lasts", "behind", "fewest"] : List Str).Nodup by decide +kernel)) (aV (gn 2 (show (["crew", "lasts", "behind", "fewest"] : List Str).Nodup by decide +kernel)) fO))))) (fun _ => (fz (aE (GU (P := P) (w := w) rfl rfl hu) (pv 2) (pv 3) (by with_unfolding_all rfl)))) (fun _ => (cD (aa (bb fX (pv 1) (aW (Bs (P := P) (w := w) rfl rfl hu) (pv 3) (pv 2) (fun _ _ => rfl))) (aa (pv 0) (aa (pv 2) af)))))))), ?_⟩
  refine ⟨_, rfl, a, rfl, ⟨_, bz.of ha⟩, fun D hD => ?_⟩
  refine dR (K := K) (a := a) (ys := vw) (fun j zs H' => am H H' /\ H' D = some (.lst zs) /\ zs.length <= j /\ bK H' ((bT f (eK.take j)).map Ew) zs)
   ⟨ai hD, ae, S4 _, .nil⟩ (fun j zs H' _ ⟨sm, h, _⟩ => ⟨h, bz.of (sm _ _ ha)⟩) ?_ ?_
  ·rintro j y zs H1 hj ⟨s1, wN, lz, dz⟩
   obtain ⟨x, hx, dx⟩ := bG (dv.mono s1) hj
   have LA := (SR.mp hj).1
   obtain ⟨o, b, c, rfl, ho, hb, hc⟩ := AG dx
   refine ⟨o, _, rfl, bR.of ho, rfl, _, _, rfl, _, _, rfl, _, _, rfl, rfl, (cx.set rfl).trans ((cx.set rfl).trans (cx.set rfl)), ?_⟩
   refine ⟨_, rfl, _, rfl, d, c, x.2.2, iv f, rfl, rfl, hc, hd.mono s1, _, rfl, ?_⟩
   rw [gT, T0]
   have et : eK.take (j + 1) = eK.take j ++ [x] := by rw [SV, hx]; rfl
   refine cq (fun h1 => ?_) (fun h1 => ?_)
   ·have cB : (Sh.lk f x.2.2).isSome = true := h1
    obtain ⟨v, hv⟩ := Uj.mp cB
    refine ⟨_, rfl, _, rfl, _, rfl, d, c, x.2.2, iv f, .int v, rfl, rfl, hc, hd.mono s1, by rw [gT, hv]; rfl, _, _, rfl, rfl, _, rfl, _, rfl, aJ (by show 3 <= _; decide), fun o3 G1 => ?_⟩
    have s2 : am H1 (L2.upd H1 o3 (.tup [.int (x.2.1 + v), .ref b, .ref c])) := ai G1
    have pF := s2 _ _ wN
    have dy : DV (L2.upd H1 o3 (.tup [.int (x.2.1 + v), .ref b, .ref c])) (Ew (x.2.1 + v, x.1, x.2.2)) (.ref o3) := HN ae (s2 _ _ hb) (hc.mono s2)
    refine ⟨pF, aX (by omega), az (s1.trans s2) hD, ae, by simp; omega, ?_⟩
    have eb : bT f (eK.take (j + 1)) = bT f (eK.take j) ++ [(x.2.1 + v, x.1, x.2.2)] := by
     unfold bT
     rw [et, S3, Ta, if_pos cB, Sz]
     simp [hv]
    rw [eb, Sz]
    exact (bN pF (dz.mono s2) (aF DC _)).snoc (dO pF dy (DC _))
   ·have cB : (Sh.lk f x.2.2).isSome = false := h1
    refine ⟨s1, wN, by omega, ?_⟩
    have eb : bT f (eK.take (j + 1)) = bT f (eK.take j) := by
     unfold bT
     rw [et, S3, Ta, if_neg (by rw [cB]; simp)]
     simp
    rw [eb]
    exact dz
  ·rintro zs H1 ⟨s1, wN, lz, dz⟩
   rw [SF (by omega)] at dz
   exact k D H1 hD s1 ⟨zs, wN, dz⟩
end
theorem yC {b : Bool} {D : Ends} {t1 t2 : TS} {σ : L2.St} {H : Hp} (M : L2.St -> Hp -> Prop) (hM : ∀ σ H, M σ H -> D.nx σ H) (h : (∀ σ H, M σ H -> D.nx σ H) -> if b = true then t1 D σ H else t2 D σ H) : if b = true then t1 D σ H else t2 D σ H := h hM
structure Gw (f : Sh.Mp aQ) : Prop where
 nd : (f.map (·.1)).Nodup
 all : ∀ k ∈ f.map (·.1), k ∈ eO
 len : f.length <= 1000
theorem Gw.hash {P : Program} {w : World} {f : Sh.Mp aQ} (h : Gw f) : nX P w (iv f) := by
 have e : (iv f).map (·.1) = f.map (·.1) := by unfold iv; rw [Tg]; rfl
 refine yk (by rw [e]; exact h.nd) fun p hp => h.all _ ?_
 rw [<- e]; exact Ts (f := fun x : bv × V => x.1) hp
structure Kk (cs : List (aQ × List Wy)) : Prop where
 all : ∀ k ∈ cs.map (·.1), k ∈ eO
 len : cs.length <= 200
 eK : ∀ c ∈ cs, c.2.length <= 1000
theorem CU {cs us : List (aQ × List Wy)} {f : Sh.Mp aQ} (hs : ∀ c ∈ us, c ∈ cs) (hc : Kk cs) (hf : (f.map (·.1)).Nodup) (ha : ∀ k ∈ f.map (·.1), k ∈ eO) : Gw (us.foldl (Sh.cN f) f) := by
 obtain ⟨h1, h2⟩ := Sh.fu us f hf
 have all : ∀ k ∈ (us.foldl (Sh.cN f) f).map (·.1), k ∈ eO := fun k hk => by
  rcases h2 k hk with z | z
  ·exact ha k z
  ·obtain ⟨c, uI, rfl⟩ := S9.mp z
   exact hc.all _ (Ts (f := fun x : aQ × List Wy => x.1) (hs c uI))
 refine ⟨h1, all, ?_⟩
 have := Sh.sub_len h1 all
 rw [Sr] at this
 have e : eO.length = 128 := by decide +kernel
 omega
theorem Iy {ts : List Th} {r : Int} {qs : List Qu} (h6 : ts.length <= 6) : Kk (bH ts r qs) where
 all := by rw [dA]; exact fun k hk => AX (dG hk).1 h6
 len := by unfold bH; rw [Sr]; have := gA qs h6; omega
 eK := fun c hc => by
  unfold bH at hc
  obtain ⟨st, h1, rfl⟩ := S9.mp hc
  show (bP ts r qs st).length <= 1000
  unfold bP
  rw [Sr]
  exact (l9 (dG h1).1 h6).1
theorem sx {ts : List Th} {r : Int} {qs : List Qu} {f : Sh.Mp aQ} (h6 : ts.length <= 6) (h : Sh.pH (rN ts r qs) bu (bj qs ts.length) f) : Gw f := by
 have all : ∀ k ∈ f.map (·.1), k ∈ eO := fun k hk => by
  rcases h.keys k hk with z | z
  ·rw [z]; decide +kernel
  ·exact AX (dG z).1 h6
 refine ⟨h.nd, all, ?_⟩
 have := Sh.sub_len h.nd all
 rw [Sr] at this
 have e : eO.length = 128 := by decide +kernel
 omega
section
variable {P : Program} {w : World} {K : Vj} {mg : Str -> Option Value} {base : Heap} {C : Addr} {Z : Ad} {fs : Nat -> Addr} {ds : Nat -> FuncData}
def wE (P : Program) (w : World) : Sp := fun vs H Q _ => ∃ (a d : Addr) (cs : List (aQ × List Wy)) (f : Sh.Mp aQ), vs = [.ref a, .ref d] /\ tz P w H a cs /\ DS P w H d (iv f) /\ Gw f /\ Kk cs /\ ∀ l H', H l = none -> am H H' -> DW P w H' l (iv (Sh.oneMore cs f)) -> Q (.ref l) H'
theorem b6 : av ["crossings", "fewest", "longer", "standing", "ways", "totals"] ["crossings", "fewest"] (aj c6) := ge
theorem BD {f f1 : Addr} {fd eR : FuncData} (F : Fn K mg "with_one_more" c6 f fd ["crossings", "fewest"]) (fc : Fn K mg "begun_by" dY f1 eR ["ways", "fewest"]) (T : Txt K mg C Z) : aq P w K mg base bA 2 f fd ["crossings", "fewest"] (wE P w) := by
 have j7 : aq P w K mg base bA 1 f1 eR ["ways", "fewest"] (oT P w) := tJ fc
 refine F.fn.ok b6 (fun vs H Q E h => ?_) (fun cm A outer s H vs Q E hr h => ?_)
 ·obtain ⟨a, d, cs, f, rfl, _⟩ := h
  rfl
 ·obtain ⟨a, d, cs, f, rfl, ⟨kvs, ⟨hz, Hc, ob, xs, lI, ks⟩, pr⟩, hd, om, oc, k⟩ := h
  have hu := hr.units
  have lk := TW pr
  refine ⟨_, (ag (sn 2 b6.nd (b7 (vG (P := P) (w := w) rfl rfl) (by rfl) T.FC boot_dict (aa (pv 1) af)))
   (ag (dZ Tj rfl (yg (P := P) (w := w) rfl rfl (pv 0)) (lK rfl (aV (gn 3 b6.nd) (aV (gn 4 b6.nd) fO)))
   (ag (rS (j := 5) rfl (N' := ["total", "crew", "behind"]) (cap := [none, none, none]) ⟨rfl, by with_unfolding_all rfl⟩ (cj (cl j7 fc hr aC (aa (pv 4) (aa (pv 1) af)))) (fun _ => (tupK (K := K) (n := 3) rfl rfl (aV (gn 0 (show (["total", "crew", "behind"] : List Str).Nodup by decide +kernel)) (aV (gn 1 (show (["total", "crew", "behind"] : List Str).Nodup by decide +kernel)) (aV (gn 2 (show (["total", "crew", "behind"] : List Str).Nodup by decide +kernel)) fO))))) (fun _ => cT) (fun _ => (pv 0)) b6.nd (by rfl) (by rfl) (by with_unfolding_all rfl))
   (ag (bV (aE (GU (P := P) (w := w) rfl rfl hu) (pv 3) (pv 1) (by with_unfolding_all rfl))
   (ah (c7 (tE T8 UF UE gH (pv 5) (aa (aW (Bs (P := P) (w := w) rfl rfl hu) (pv 1) (pv 3) (fun _ _ => rfl)) af))))
   aO)
   (ah (bV (Ao (pv 5) (by intro _; rfl))
   (ah (uU (a8 (xL rfl) (by rfl) T.DZ boot_min (aa (pv 5) af)) (uO (pv 2) (pv 3) (EE (P := P) (w := w) rfl rfl hu))))
   aO)))))
   (ah (aB (pv 2))))), ?_⟩
  refine ⟨_, rfl, d, iv f, rfl, hd, om.hash, fun l0 o0 ww BR => ?_⟩
  have s1 : am H (L2.upd H l0 o0) := ai ww
  generalize L2.upd H l0 o0 = H1 at s1 BR ⊢
  refine ⟨_, rfl, a, ob, xs, kvs.map (·.2), rfl, Hc, s1 _ _ lI, ks.vals, ya (P := P) (w := w) (o := ob) (d := a) (xs := xs) (kvs := kvs) (fun i σ H' => am H H' /\ (∃ v3 v4 v5, σ = [some (.ref a), some (.ref d), some (.ref l0), v3, v4, v5]) /\ DW P w H' l0 (iv ((cs.take i).foldl (Sh.cN f) f)))
   ⟨s1, ⟨_, _, _, rfl⟩, BR⟩ (fun i σ H' _ ⟨sm, _⟩ => ⟨sm _ _ lI, ks.mono fun _ _ => sm _ _⟩) ?_ ?_⟩
  ·rintro i key y b p σ H2 hi kb hp ⟨s2, ⟨v3, v4, v5, rfl⟩, dw⟩
   obtain ⟨wy, aw, hc, rfl, hL⟩ := qe.at pr hi
   have ow := oc.eK _ (S5 hc)
   have s3 : am H2 (L2.upd H2 p (.tup [.ref b, .ref aw])) := ai hp
   have e3 : (L2.upd H2 p (.tup [.ref b, .ref aw])) p = some (.tup [.ref b, .ref aw]) := ae
   generalize L2.upd H2 p (.tup [.ref b, .ref aw]) = H3 at s3 e3 ⊢
   have qY := s2.trans s3
   refine ⟨p, _, rfl, bR.of e3, rfl, _, _, rfl, _, _, rfl, rfl, ?_⟩
   refine ⟨_, rfl, _, rfl, aw, d, wy, f, rfl, hL.mono qY, ow, hd.mono qY, fun lb H4 Cs s4 hB => ?_⟩
   obtain ⟨vb, Nx, db⟩ := hB
   have Sg := aK db
   have Rh : (bT f wy).length <= 1000 := by
    unfold bT
    rw [Sr]
    exact SD (SY _ _) ow
   refine ⟨lb, rfl, ⟨_, bz.of Nx⟩, fun D hD => ?_⟩
   refine dR (K := K) (a := lb) (ys := vb) (fun j zs H' => am H4 H' /\ H' D = some (.lst zs) /\ zs = (((bT f wy).take j).map (·.1)).map V.int)
    ⟨ai hD, ae, rfl⟩ (fun j zs H' _ ⟨sm, h, _⟩ => ⟨h, bz.of (sm _ _ Nx)⟩) ?_ ?_
   ·rintro j y zs H5 hj ⟨s5, lB, rfl⟩
    obtain ⟨x, hx, dx⟩ := bG (db.mono s5) hj
    obtain ⟨o, b1, c1, rfl, ho, AI, Sj⟩ := vF dx
    refine ⟨o, _, rfl, bR.of ho, rfl, _, _, rfl, _, _, rfl, _, _, rfl, rfl, (cx.set rfl).trans ((cx.set rfl).trans (cx.set rfl)), ?_⟩
    refine ⟨_, rfl, lB, aX (by simp; omega), az s5 hD, ae, ?_⟩
    rw [SV, hx, Sz, Sz]
    rfl
   ·rintro zs H5 ⟨s5, lB, rfl⟩
    rw [SF (by omega), n5] at lB
    have Bt := s3.trans (s4.trans s5)
    have A4 := s2.trans Bt
    have Jv : jA H5 key b := kb.mono fun _ _ => Bt _ _
    have Ii : H D = none := (qY.trans s4).free hD
    have R9 : (Sh.yt f wy).length <= 1000 := by rw [<- n5, Sr]; exact Rh
    have fo : (cs.take (i + 1)).foldl (Sh.cN f) f = Sh.cN f ((cs.take i).foldl (Sh.cN f) f) (key, wy) := by
     rw [SV, hc, List.foldl_append]; rfl
    have lL : (iv ((cs.take i).foldl (Sh.cN f) f)).length <= 1000 := by
     unfold iv
     rw [Sr]
     exact (CU (fun c hc => T6 hc) oc om.nd om.all).len
    refine ⟨_, rfl, _, rfl, d, b, key, iv f, rfl, rfl, Jv, hd.mono A4, _, rfl, ?_⟩
    rw [gT, T0]
    refine yC (fun σ H' => σ = [some (.ref a), some (.ref d), some (.ref l0), some (.ref b), some (.ref aw), some (.ref D)] /\ am H H' /\ DW P w H' l0 (iv ((cs.take i).foldl (Sh.cN f) f)) /\ jA H' key b /\ H' D = some (.lst ((Sh.fI f (key, wy)).map V.int))) ?_ (fun fin => ?_)
    ·rintro σ H6 ⟨rfl, s6, Ei, NM, vm⟩
     refine ⟨_, rfl, _, .inl ⟨_, bz.of vm, rfl⟩, ?_⟩
     refine cq (fun h2 => ?_) (fun h2 => ?_)
     ·have ne : Sh.fI f (key, wy) ≠ [] := fun z => by rw [z] at h2; cases h2
      refine ⟨_, rfl, D, Sh.fI f (key, wy), rfl, bz.of vm, ne, fun m hm hle => ⟨_, rfl, _, rfl, l0, b, key, _, rfl, rfl, NM, Ei, aX (by omega), fun o' BC => ?_⟩⟩
      refine ⟨az s6 ww, ⟨_, _, _, rfl⟩, ?_⟩
      rw [fo]
      unfold Sh.cN
      rw [if_neg ne, <- Sh.CW hm hle, <- Bx]
      exact BC
     ·have ez : Sh.fI f (key, wy) = [] := by
       cases q : Sh.fI f (key, wy) with
       | nil => rfl
       | cons x l => rw [q] at h2; cases h2
      refine ⟨s6, ⟨_, _, _, rfl⟩, ?_⟩
      rw [fo]
      unfold Sh.cN
      rw [if_pos ez]
      exact Ei
    ·refine cq (fun h1 => ?_) (fun h1 => ?_)
     ·have cB : (Sh.lk f key).isSome = true := h1
      obtain ⟨v, hv⟩ := Uj.mp cB
      refine ⟨_, rfl, .inl ⟨rfl, _, bz.of lB⟩, _, rfl, _, rfl, d, b, key, iv f, .int v, rfl, rfl, Jv, hd.mono A4, by rw [gT, hv]; rfl, D, _, _, rfl, rfl, lB, aX (by rw [Sr]; omega), ?_⟩
      refine fin _ _ ⟨rfl, az A4 Ii, (dw.mono Bt).F0 lB, Jv.mono (fun b' At e => by rw [ak (cR e lB (by intro z; cases z))]; exact e), ?_⟩
      rw [ae]
      unfold Sh.fI
      rw [hv, Sz]
      rfl
     ·have cB : Sh.lk f key = none := by
       cases q : Sh.lk f key with
       | none => rfl
       | some v => rw [q] at h1; cases h1
      refine fin _ _ ⟨rfl, A4, dw.mono Bt, Jv, ?_⟩
      unfold Sh.fI
      rw [cB, lB]
      simp
  ·rintro σ H2 ⟨s2, ⟨v3, v4, v5, rfl⟩, dw⟩
   rw [SF (by omega)] at dw
   exact ⟨_, rfl, k l0 H2 ww s2 dw⟩
def vz (P : Program) (w : World) : Sp := fun vs H Q _ => ∃ (a b : Addr) (ts : List Th) (r : Int) (qs : List Qu), vs = [.ref a, .ref b] /\ tz P w H a (bH ts r qs) /\ b9 H b bu /\ uM ts /\ ∀ l H' f, H l = none -> am H H' -> yu ts r qs f -> DW P w H' l (iv f) -> Q (.ref l) H'
theorem bU : av ["crossings", "end", "fewest", "longer"] ["crossings", "end"] (aj b8) := ge
theorem Ap (B : Lp K mg C fs ds) (T : Txt K mg C Z) : aq P w K mg base bA 3 (fs 68) (ds 68) ["crossings", "end"] (vz P w) := by
 have mR := B.jG
 have mM : aq P w K mg base bA 2 (fs 67) (ds 67) ["crossings", "fewest"] (wE P w) := BD B.jG B.sY T
 refine B.fg.fn.ok bU (fun vs H Q E h => ?_) (fun cm A outer s H vs Q E hr h => ?_)
 ·obtain ⟨a, b, ts, r, qs, rfl, _⟩ := h
  rfl
 ·obtain ⟨a, b, ts, r, qs, rfl, hC, he, ok, k⟩ := h
  have hu := hr.units
  have h6 := ok.l6
  have nd : ((bH ts r qs).map (·.1)).Nodup := by rw [dA]; exact j4 _ _
  have oc := Iy (r := r) (qs := qs) h6
  obtain ⟨tC, PQ, rC⟩ : ∃ t0, uv (bX P w K mg base ["crossings", "end", "fewest", "longer"] "fewest_minutes" b8 (fs 68) cm A outer s H E) ((ci b8).drop 2) t0 /\ ∀ (H2 : Hp) (D1 D2 : Addr) (lg : Sh.Mp aQ), am H H2 -> DW P w H2 D1 (iv []) -> DW P w H2 D2 (iv lg) -> H D1 = none -> H D2 = none ->
    ((bu ∈ bj qs ts.length /\ lg = [(bu, 0)]) \/ (bu ∉ bj qs ts.length /\ lg = [])) -> t0 (bD Q) [some (.ref a), some (.ref b), some (.ref D1), some (.ref D2)] H2 := by
   refine ⟨_, (ag (oC Tj (aE (NZ (P := P) (w := w) rfl rfl hu) (pv 3) (pv 2) (aY _))
   (ag (sn 2 bU.nd (pv 3))
   (ah (sn 3 bU.nd (cl mM mR hr aC (aa (pv 0) (aa (pv 2) af)))))))
   (ah (aB (pv 2)))), fun H2 D1 D2 lg s2 DI Bv n1 n2 RA => ?_⟩
   obtain ⟨n, hn⟩ : ∃ n, bu ∈ bj qs ts.length -> Sh.eqB (Sh.oneMore (bH ts r qs) (Sh.it (Sh.oneMore (bH ts r qs)) n [(bu, 0)])) (Sh.it (Sh.oneMore (bH ts r qs)) n [(bu, 0)]) = true := by
    by_cases e : bu ∈ bj qs ts.length
    ·obtain ⟨n, hn⟩ := Sh.zy (e := bu) nd tells (later ok) (by rw [dA]; exact e)
     exact ⟨n, fun _ => hn⟩
    ·exact ⟨0, fun z => absurd z e⟩
   have CV : ∀ i, Sh.pH (rN ts r qs) bu (bj qs ts.length) (Sh.it (Sh.oneMore (bH ts r qs)) i [(bu, 0)]) := fun i => by
    have := Sh.A5 (P := Sh.pH (rN ts r qs) bu ((bH ts r qs).map (·.1))) (fun x h => Sh.kM nd tells h) i [(bu, 0)] (Sh.oK _)
    rwa [dA] at this
   refine ⟨fun m σ H' => am H H' /\ ∃ d1 d2 fw lw, σ = [some (.ref a), some (.ref b), some (.ref d1), some (.ref d2)] /\ H d1 = none /\ H d2 = none /\ DW P w H' d1 (iv fw) /\ DW P w H' d2 (iv lw) /\
     ((bu ∈ bj qs ts.length /\ ((fw = [] /\ lw = [(bu, 0)] /\ m = n + 1) \/ ∃ i, i + m = n /\ fw = Sh.it (Sh.oneMore (bH ts r qs)) i [(bu, 0)] /\ lw = Sh.it (Sh.oneMore (bH ts r qs)) (i + 1) [(bu, 0)])) \/ (bu ∉ bj qs ts.length /\ fw = [] /\ lw = [])),
    ⟨n + 1, s2, D1, D2, [], lg, rfl, n1, n2, DI, Bv, ?_⟩, ?_⟩
   ·rcases RA with ⟨e1, e2⟩ | ⟨e1, e2⟩
    ·exact .inl ⟨e1, .inl ⟨rfl, e2, rfl⟩⟩
    ·exact .inr ⟨e1, rfl, e2⟩
   rintro m σ H3 ⟨s3, d1, d2, fw, lw, rfl, n1, n2, DI, Bv, hc⟩
   refine ⟨_, rfl, _, rfl, d2, d1, lw, fw, rfl, rfl, Bv.ds, DI.ds, _, rfl, ?_⟩
   refine cq (fun h1 => ?_) (fun h1 => ?_)
   ·have cB : Sh.eqB lw fw = false := by
     have : (!Sh.eqB lw fw) = true := h1
     simpa using this
    have om : Gw lw := by
     rcases hc with ⟨_, ⟨_, e, _⟩ | ⟨i, _, _, e⟩⟩ | ⟨_, e1, e2⟩
     ·rw [e]; exact sx h6 (CV 0)
     ·rw [e]; exact sx h6 (CV (i + 1))
     ·rw [e1, e2] at cB; cases cB
    refine ⟨fun σ' H' => am H H' /\ ∃ d3, σ' = [some (.ref a), some (.ref b), some (.ref d2), some (.ref d3)] /\ H d3 = none /\ DW P w H' d2 (iv lw) /\ DW P w H' d3 (iv (Sh.oneMore (bH ts r qs) lw)), ?_, ?_⟩
    ·rintro σ' H' ⟨s', d3, rfl, n3, GA, Hk⟩
     rcases hc with ⟨e, ⟨_, e2, em⟩ | ⟨i, P4, e1, e2⟩⟩ | ⟨_, e1, e2⟩
     ·exact ⟨n, by omega, s', d2, d3, lw, _, rfl, n2, n3, GA, Hk, .inl ⟨e, .inr ⟨0, Nat.zero_add _, e2, by rw [e2]; rfl⟩⟩⟩
     ·have ne : i ≠ n := fun z => by
       have := hn e
       rw [<- z] at this
       have Lh : lw = Sh.oneMore (bH ts r qs) (Sh.it (Sh.oneMore (bH ts r qs)) i [(bu, 0)]) := e2
       rw [e1, Lh, this] at cB
       cases cB
      exact ⟨m - 1, by omega, s', d2, d3, lw, _, rfl, n2, n3, GA, Hk, .inl ⟨e, .inr ⟨i + 1, by omega, e2, by rw [e2]; rfl⟩⟩⟩
     ·rw [e1, e2] at cB; cases cB
    ·refine ⟨_, rfl, _, rfl, _, rfl, a, d2, bH ts r qs, lw, rfl, hC.mono s3, Bv.ds, om, oc, fun l H4 hl s4 PL => ?_⟩
     exact ⟨s3.trans s4, l, rfl, s3.free hl, Bv.mono s4, PL⟩
   ·have cB : Sh.eqB lw fw = true := by
     have : (!Sh.eqB lw fw) = false := h1
     simpa using this
    refine ⟨_, rfl, k d1 H3 fw n1 s3 ?_ DI⟩
    rcases hc with ⟨e, ⟨e1, e2, em⟩ | ⟨i, P4, e1, e2⟩⟩ | ⟨e, e1, e2⟩
    ·rw [e1, e2] at cB; cases cB
    ·refine ⟨fun _ => ⟨by rw [e1]; exact CV i, ?_⟩, fun z => absurd e z⟩
     have Lh : lw = Sh.oneMore (bH ts r qs) (Sh.it (Sh.oneMore (bH ts r qs)) i [(bu, 0)]) := e2
     rw [e1, Lh] at cB
     rw [e1]
     exact Sh.vk (e := bu) nd tells (by rw [dA]; exact CV i) cB
    ·exact ⟨fun z => absurd z e, fun _ => e1⟩
  refine ⟨_, (ag (sn 2 bU.nd (kg (P := P) (w := w) rfl rfl))
   (ag (sn 3 bU.nd (tF (aE (GU (P := P) (w := w) rfl rfl hu) (pv 1) (pv 0) (by with_unfolding_all rfl)) (yJ (P := P) (w := w) rfl rfl hu (pv 1) ao) (kg (P := P) (w := w) rfl rfl)))
   PQ)), ?_⟩
  refine fun D1 o1 wN DI => ?_
  have s1 : am H (L2.upd H D1 o1) := ai wN
  generalize L2.upd H D1 o1 = H1 at s1 DI ⊢
  obtain ⟨kvs, df, pr⟩ := id (hC.mono s1)
  have ek := qe.keys pr
  rw [dA] at ek
  refine ⟨_, rfl, _, rfl, a, b, bu, kvs, rfl, rfl, he.mono s1, df.ds, _, rfl, ?_⟩
  refine cq (fun h1 => ?_) (fun h1 => ?_)
  ·have e : bu ∈ bj qs ts.length := by
    rw [<- ek]
    refine Classical.byContradiction fun z => ?_
    have cB : (cu kvs bu).isSome = true := h1
    rw [lZ z] at cB
    cases cB
   refine fun D2 o2 pF Bv => ?_
   have s2 : am H1 (L2.upd H1 D2 o2) := ai pF
   generalize L2.upd H1 D2 o2 = H2 at s2 Bv ⊢
   refine ⟨_, rfl, b, bu, rfl, (he.mono s1).mono s2, Bv, fun o' BC => ?_⟩
   have s3 : am H1 (L2.upd H2 D2 o') := az s2 pF
   exact rC _ D1 D2 [(bu, 0)] (s1.trans s3) (DI.mono s3) BC wN (s1.free pF) (.inl ⟨e, rfl⟩)
  ·have e : bu ∉ bj qs ts.length := fun z => by
    rw [<- ek] at z
    have cB : (cu kvs bu).isSome = false := h1
    rw [qq z] at cB
    cases cB
   refine fun D2 o2 pF Bv => ?_
   have s2 : am H1 (L2.upd H1 D2 o2) := ai pF
   exact rC _ D1 D2 [] (s1.trans s2) (DI.mono s2) Bv wN (s1.free pF) (.inr ⟨e, rfl⟩)
end
def Dn : Option Int -> PyData
 | none => .none
 | some i => .int i
def oV : Option Int -> V
 | none => .cc
 | some i => .int i
theorem L8 {H : Hp} (x : Option Int) : DV H (Dn x) (oV x) := by cases x with
 | none => exact .cc
 | some i => exact .int i
theorem GJ {H : Hp} {x : Option Int} {v : V} (h : DV H (Dn x) v) : v = oV x := by
 cases x with
 | none => cases h; rfl
 | some i => exact h.int_inv
theorem GR {f : Sh.Mp aQ} {k : bv} : (cu (iv f) k).getD .cc = oV (Sh.lk f k) := by
 rw [gT]
 cases Sh.lk f k <;> rfl
abbrev Hg := aQ × Option Int
def Gi (x : Hg) : PyData := .tuple [fe x.1, Dn x.2]
theorem A3 (x : Hg) : eF (Gi x) = true := by
 obtain ⟨s, o⟩ := x
 show cC [fe s, Dn o] = true
 simp only [cC, Bool.and_true, ip]
 cases o <;> rfl
theorem FF {H : Hp} {x : Hg} {v : V} (h : DV H (Gi x) v) : ∃ a b, v = .ref a /\ H a = some (.tup [.ref b, oV x.2]) /\ b9 H b x.1 := by
 obtain ⟨a, vs, rfl, e, q⟩ := h.eV
 obtain ⟨v, w, rfl, h1, h2⟩ := q.nh
 obtain ⟨b, rfl, hb⟩ := cO h1
 cases GJ h2
 exact ⟨a, b, rfl, e, hb⟩
theorem Ib {H : Hp} {x : Hg} {a b : Addr} (h : H a = some (.tup [.ref b, oV x.2])) (hb : b9 H b x.1) : DV H (Gi x) (.ref a) := .tup h (.cons hb.dv (.cons (L8 _) .nil))
def tf (ts : List Th) (qs : List Qu) (f : Sh.Mp aQ) : List Hg := (bj qs ts.length).map fun st => (st, Sh.lk f st)
section
variable {P : Program} {w : World} {K : Vj} {mg : Str -> Option Value} {base : Heap} {C : Addr} {Z : Ad} {fs : Nat -> Addr} {ds : Nat -> FuncData}
def oU (C : Addr) : Sp := fun vs H Q _ => ∃ (p : Addr) (ts : List Th) (r : Int) (qs : List Qu), vs = [.ref p] /\ aM C H p ts r qs /\ uM ts /\ ∀ l H' f, H l = none -> am H H' -> yu ts r qs f -> LstAt Gi H' l (tf ts qs f) -> Q (.ref l) H'
theorem jW : av ["night", "crossings", "fewest"] ["night"] (aj jc) := ge
theorem vd {f : Addr} {fd : FuncData} (F : Fn K mg "heights" jc f fd ["night"]) (L : Lk K mg C fs ds) (B : Lp K mg C fs ds) (T : Txt K mg C Z) : aq P w K mg base bA 7 f fd ["night"] (oU C) := by
 have eN := B.fW
 have dU := B.fg
 have be := B.ends
 have bF := B.rR
 have eQ : aq P w K mg base bA 6 (fs 65) (ds 65) ["night"] (rf P w C) := wQ L B T
 have dX : aq P w K mg base bA 3 (fs 68) (ds 68) ["crossings", "end"] (vz P w) := Ap B T
 have bE : aq P w K mg base bA 1 (fs 61) (ds 61) ["self"] i7 := kF B.ends
 refine F.fn.ok jW (fun vs H Q E h => ?_) (fun cm A outer s H vs Q E hr h => ?_)
 ·obtain ⟨p, ts, r, qs, rfl, _⟩ := h
  rfl
 ·obtain ⟨p, ts, r, qs, rfl, N, ok, k⟩ := h
  have hu := hr.units
  have h6 := ok.l6
  obtain ⟨dx, t, q, hp, _, _⟩ := id N.ex
  refine ⟨_, (ag (sn 1 jW.nd (cl eQ eN hr aC (aa (pv 0) af)))
   (ag (sn 2 jW.nd (cl dX dU hr aC (aa (pv 1) (aa (cn (pv 0) T.aS bF bE (hr.mono (by decide)) be.b .nil aC) af))))
   (ah (aB (cv rfl (N' := ["standing", "fewest"]) (cap := [none, some 2]) ⟨rfl, by with_unfolding_all rfl⟩ (t9 (P := P) (w := w) rfl rfl (pv 1)) (fun _ => (gn 0 (show (["standing", "fewest"] : List Str).Nodup by decide +kernel))) (fun _ => cT) (fun _ => (cD (aa (pv 0) (aa (Cn (P := P) (w := w) rfl rfl hu (pv 1) (aa (pv 0) af)) af))))))))), ?_⟩
  refine ⟨_, rfl, p, ts, r, qs, rfl, N, h6, fun lc H1 s1 hC => ?_⟩
  refine ⟨_, rfl, _, rfl, p, dx, _, rfl, s1 _ _ hp, rfl, p, rfl, fun le H2 s2 he => ?_⟩
  obtain ⟨_, e, he⟩ := cO (st := bu) he
  cases e
  refine ⟨lc, le, ts, r, qs, rfl, hC.mono s2, he, ok, fun lf H3 f Jw s3 fw dw => ?_⟩
  have Qa := (hC.mono s2).mono s3
  obtain ⟨kvs, ⟨hz, Hc, ob, xs, lI, ks⟩, pr⟩ := id Qa
  have lk := TW pr
  have ek := qe.keys pr
  rw [dA] at ek
  have zb := gA qs h6
  have RQ : kvs.length = (bj qs ts.length).length := by rw [<- ek, Sr]
  refine ⟨_, rfl, lc, ob, xs, rfl, Hc, lI, fun D hD => ?_⟩
  refine xF (P := P) (w := w) (o := ob) (d := lc) (kxs := xs) (kvs := kvs) (fun j zs H' => am H3 H' /\ H' D = some (.lst zs) /\ zs.length = j /\ bK H' (((tf ts qs f).take j).map Gi) zs)
   ⟨ai hD, ae, rfl, .nil⟩ (fun j zs H' _ ⟨sm, h, _⟩ => ⟨h, sm _ _ lI, ks.mono fun _ _ => sm _ _⟩) ?_ ?_
  ·rintro j key y b zs H4 hj kb ⟨s4, DJ, lz, dz⟩
   have LA := (SR.mp hj).1
   refine ⟨cx.set rfl, ?_⟩
   refine ⟨_, rfl, _, rfl, ⟨lf, _, rfl, (dw.mono s4).ds⟩, _, rfl, lf, b, key, _, rfl, rfl, kb, (dw.mono s4).ds, ?_⟩
   rw [GR]
   refine ⟨aJ (by show 2 <= _; decide), fun o ho => ?_⟩
   have s5 : am H4 (L2.upd H4 o (.tup [.ref b, oV (Sh.lk f key)])) := ai ho
   have lB := s5 _ _ DJ
   have dy : DV (L2.upd H4 o (.tup [.ref b, oV (Sh.lk f key)])) (Gi (key, Sh.lk f key)) (.ref o) := Ib ae (b9.mono kb s5)
   refine ⟨lB, aX (by omega), az (s4.trans s5) hD, ae, by simp [lz], ?_⟩
   have eh : (tf ts qs f)[j]? = some (key, Sh.lk f key) := by
    unfold tf
    rw [SH, <- ek, SH, hj]
    rfl
   rw [SV, eh, Sz]
   exact (bN lB (dz.mono s5) (aF A3 _)).snoc (dO lB dy (A3 _))
  ·rintro zs H4 ⟨s4, DJ, lz, dz⟩
   rw [SF (by unfold tf; rw [Sr]; omega)] at dz
   have DX := s1.trans (s2.trans s3)
   exact k D H4 f (DX.free hD) (DX.trans s4) fw ⟨zs, DJ, dz⟩
end
theorem b9.F0 {H : Hp} {a D : Addr} {st : aQ} {o : HO} {ys : List V} (h : b9 H a st) (hD : H D = some (.lst ys)) : b9 (L2.upd H D o) a st := by
 obtain ⟨b, h1, h2⟩ := h
 exact ⟨b, by rw [ak (cR h1 hD (by intro z; cases z))]; exact h1, by rw [ak (cR h2 hD (by intro z; cases z))]; exact h2⟩
theorem En (l : List aQ) (s : aQ) : ((l.map fe).any fun e => PyData.eqv e (fe s)) = decide (s ∈ l) := by
 rw [List.any_map, UQ, decide_eq_true_eq, List.any_eq_true]
 constructor
 ·rintro ⟨x, hx, h⟩
  have h' : PyData.eqv (fe x) (fe s) = true := h
  rw [qX] at h'
  rw [<- S1 h']; exact hx
 ·intro h
  refine ⟨s, h, ?_⟩
  show PyData.eqv (fe s) (fe s) = true
  rw [qX]; exact SE rfl
theorem zj {H : Hp} {kvs : List (bv × V)} {ts : List Th} {r : Int} {qs : List Qu} (pr : Paired (qe H) kvs (bH ts r qs)) {b : aQ} (hb : b ∈ bj qs ts.length) : ∃ aw, cu kvs b = some (.ref aw) /\ LstAt Cr H aw (bP ts r qs b) := by
 have ek := qe.keys pr
 rw [dA] at ek
 have hs : (cu kvs b).isSome = true := qq (by rw [ek]; exact hb)
 obtain ⟨y, hy⟩ := Uj.mp hs
 have fm := hy
 unfold cu at fm
 obtain ⟨p, hp, e⟩ := Tl.mp fm
 have hk : p.1 = b := by have := List.find?_some hp; simpa using this
 obtain ⟨i, hi⟩ := US.mp (List.mem_of_find?_eq_some hp)
 obtain ⟨p1, p2⟩ := p
 have hk : p1 = b := hk
 subst hk
 obtain ⟨wy, aw, h1, h2, h3⟩ := qe.at pr hi
 have e : p2 = y := e
 subst e
 refine ⟨aw, by rw [hy, h2], ?_⟩
 unfold bH at h1
 rw [SH, Tl] at h1
 obtain ⟨st, _, e2⟩ := h1
 injection e2 with e3 e4
 rw [<- e4, e3] at h3
 exact h3
theorem p0 {ts : List Th} {r : Int} {qs : List Qu} {f : Sh.Mp aQ} {b : aQ} {x : Bg} : x ∈ bT f (bP ts r qs b) ↔ ∃ c ∈ aD ts r qs b, ∃ u, Sh.lk f (behind ts.length b c) = some u /\ x = (aI ts c + u, c, behind ts.length b c) := by
 unfold bT bP
 rw [S9]
 constructor
 ·rintro ⟨y, hy, rfl⟩
  obtain ⟨h1, h2⟩ := Tb.mp hy
  obtain ⟨c, hc, rfl⟩ := S9.mp h1
  obtain ⟨u, hu⟩ := Uj.mp h2
  have hu : Sh.lk f (behind ts.length b c) = some u := hu
  exact ⟨c, hc, u, hu, by rw [hu]; rfl⟩
 ·rintro ⟨c, hc, u, hu, rfl⟩
  refine ⟨(c, aI ts c, behind ts.length b c), Tb.mpr ⟨S9.mpr ⟨c, hc, rfl⟩, ?_⟩, ?_⟩
  ·show (Sh.lk f (behind ts.length b c)).isSome = true
   rw [hu]; rfl
  ·show (aI ts c + (Sh.lk f (behind ts.length b c)).getD 0, c, behind ts.length b c) = _
   rw [hu]; rfl
theorem ul (ts : List Th) (r : Int) (qs : List Qu) (f : Sh.Mp aQ) (b : aQ) : ((bT f (bP ts r qs b)).map fun x => x.2.1).Sublist (aD ts r qs b) := by
 unfold bT bP
 rw [Tg]
 have e : (aD ts r qs b) = ((aD ts r qs b).map fun c => (c, aI ts c, behind ts.length b c)).map fun x => x.1 := by rw [Tg]; exact (List.map_id' _).symm
 conv => rhs; rw [e]
 exact (U7).map _
theorem wW {H : Hp} : ∀ {l : List Bg} {vs : List V}, bK H (l.map Ew) vs -> Paired (EV H) vs (l.map fun x => (x.1, x.2.1))
 | [], _, .nil => .nil
 | x :: l, _, .cons h t => by
  obtain ⟨a, b, c, rfl, h1, h2, h3⟩ := vF h
  exact .cons ⟨a, b, [.ref c], rfl, h1, h2⟩ (wW t)
section
variable {P : Program} {w : World} {K : Vj} {mg : Str -> Option Value} {base : Heap} {C : Addr} {Z : Ad} {fs : Nat -> Addr} {ds : Nat -> FuncData}
def uD (P : Program) (w : World) : Sp := fun vs H Q _ => ∃ (a d s e : Addr) (ts : List Th) (r : Int) (qs : List Qu) (f : Sh.Mp aQ) (st : aQ) (v : Int), vs = [.ref a, .ref d, .ref s, .ref e] /\ tz P w H a (bH ts r qs) /\ DS P w H d (iv f) /\ yu ts r qs f /\ b9 H s st /\ b9 H e bu /\ uM ts /\
 st ∈ bj qs ts.length /\ Sh.lk f st = some v /\ ∀ l H' iw, H l = none -> am H H' -> LstAt gg H' l iw -> vA ts r qs st 0 iw = some v -> Q (.ref l) H'
theorem dn : av ["crossings", "fewest", "standing", "end", "plan", "here", "best"] ["crossings", "fewest", "standing", "end"] (aj eG) := ge
theorem zO {f f1 : Addr} {fd eR : FuncData} (F : Fn K mg "plan_from" eG f fd ["crossings", "fewest", "standing", "end"]) (T : Txt K mg C Z) (fc : Fn K mg "begun_by" dY f1 eR ["ways", "fewest"]) : aq P w K mg base bA 2 f fd ["crossings", "fewest", "standing", "end"] (uD P w) := by
 have j7 : aq P w K mg base bA 1 f1 eR ["ways", "fewest"] (oT P w) := tJ fc
 refine F.fn.ok dn (fun vs H Q E h => ?_) (fun cm A outer s H vs Q E hr h => ?_)
 ·obtain ⟨a, d, s, e, ts, r, qs, f, st, v, rfl, _⟩ := h
  rfl
 ·obtain ⟨a, d, s, e, ts, r, qs, f, st, v, rfl, hC, hd, fw, hs, he, ok, io, hv, k⟩ := h
  have hu := hr.units
  have h6 := ok.l6
  refine ⟨_, (ag (sn 4 dn.nd (iH af))
   (ag (sn 5 dn.nd (pv 2))
   (ag (oC Tj (aE (Ep hu) (pv 5) (pv 3) (aY _))
   (ag (sn 6 dn.nd (a8 (xZ rfl hu) (by rfl) T.DZ boot_min (aa (cl j7 fc hr aC (aa (aW (Bs (P := P) (w := w) rfl rfl hu) (pv 0) (pv 5) (fun _ _ => rfl)) (aa (pv 1) af))) af)))
   (ag (c7 (tE T8 UF UE gH (pv 4) (aa (aW bC (pv 6) ao (fun _ _ => rfl)) af)))
   (ah (sn 5 dn.nd (aW bC (pv 6) ao (fun _ _ => rfl)))))))
   (ah (aB (pv 4)))))), ?_⟩
  refine ⟨aJ (by show 0 <= _; decide), fun lp LS => ?_⟩
  have s1 : am H (L2.upd H lp (.lst [])) := ai LS
  have e1 : (L2.upd H lp (.lst [])) lp = some (.lst []) := ae
  generalize L2.upd H lp (.lst []) = H1 at s1 e1 ⊢
  refine ⟨_, rfl, fun m σ H' => am H H' /\ ∃ o b v' vb pl wY Es vs, σ = [some (.ref a), some (.ref d), some (.ref s), some (.ref e), some (.ref lp), some (.ref o), vb] /\ b9 H' o b /\ b ∈ bj qs ts.length /\ Sh.lk f b = some v' /\ m = v'.toNat /\
    H' lp = some (.lst vs) /\ bK H' (pl.map gg) vs /\ (∀ rest, vA ts r qs st 0 (pl ++ rest) = vA ts r qs b wY rest) /\ wY + v' = v /\ Es.length = pl.length /\ Es.Nodup /\ ∀ x ∈ Es, x ∈ bj qs ts.length /\ ∃ u, Sh.lk f x = some u /\ v' < u,
   ⟨_, s1, s, st, v, _, [], 0, [], [], rfl, hs.mono s1, io, hv, rfl, e1, .nil, fun _ => rfl, by omega, rfl, .nil, (fun x hx => by cases hx)⟩, ?_⟩
  rintro m σ H2 ⟨s2, o, b, v', vb, pl, wY, Es, vs, rfl, ho, hb, Eu, rfl, Fy, js, rX, Pr, HU, Im, Ek⟩
  have Sm := AY b
  have RP : pl.length <= 128 := by
   rw [<- HU]
   exact SD (Sh.sub_len Im fun x hx => (Ek x hx).1) (gA qs h6)
  refine ⟨_, rfl, _, rfl, fe b, fe bu, ho.dv, (he.mono s2).dv, me _, me _, by omega, _, rfl, ?_⟩
  rw [qX]
  refine cq (fun h1 => ?_) (fun h1 => ?_)
  ·have ne : b ≠ bu := fun z => by
    have cB : (!decide (b = bu)) = true := h1
    rw [SE z] at cB
    cases cB
   obtain ⟨c0, Pm, u0, JX, R0⟩ := Fv ok fw Eu ne
   obtain ⟨kvs, df, pr⟩ := id (hC.mono s2)
   obtain ⟨aw, Ga, hL⟩ := zj pr hb
   have lw : (bP ts r qs b).length <= 1000 := by unfold bP; rw [Sr]; exact (l9 (dG hb).1 h6).1
   refine ⟨fun σ' H' => am H H' /\ ∃ (o : Addr) (b2 : aQ) (v2 : Int) (vb : Option V) (IH : List (List Int)) (Cv : Int) (zw : List aQ) (ug : List V), σ' = [some (.ref a), some (.ref d), some (.ref s), some (.ref e), some (.ref lp), some (.ref o), vb] /\ b9 H' o b2 /\ b2 ∈ bj qs ts.length /\ Sh.lk f b2 = some v2 /\ v2 < v' /\ 0 <= v2 /\
     H' lp = some (.lst ug) /\ bK H' (IH.map gg) ug /\ (∀ rest, vA ts r qs st 0 (IH ++ rest) = vA ts r qs b2 Cv rest) /\ Cv + v2 = v /\ zw.length = IH.length /\ zw.Nodup /\ ∀ x ∈ zw, x ∈ bj qs ts.length /\ ∃ u, Sh.lk f x = some u /\ v2 < u, ?_, ?_⟩
   ·rintro σ' H' ⟨s', o2, b2, v2, QJ, IH, Cv, zw, ug, rfl, q1, q2, q3, lt, pos, q4, q5, q6, q7, q8, q9, NK⟩
    exact ⟨v2.toNat, by omega, s', o2, b2, v2, QJ, IH, Cv, zw, ug, rfl, q1, q2, q3, rfl, q4, q5, q6, q7, q8, q9, NK⟩
   ·refine ⟨_, rfl, _, rfl, a, o, b, kvs, .ref aw, rfl, rfl, ho, df.ds, Ga, _, rfl, aw, d, bP ts r qs b, f, rfl, hL, lw, hd.mono s2, fun lb H3 Cs s3 hB => ?_⟩
    obtain ⟨vg, xn, dg⟩ := hB
    have FV := aK dg
    have qY := s2.trans s3
    have m0 := (p0 (ts := ts) (r := r) (qs := qs) (f := f) (b := b)).mpr ⟨c0, Pm, u0, JX, rfl⟩
    refine ⟨lb, vg, _, rfl, bz.of xn, wW dg, ?_, fun z => ?_, fun i y ky hy JV Kd => ?_⟩
    ·rw [Tg]
     exact (ur (dG hb).1).sublist (ul ts r qs f b)
    ·have := List.length_pos_of_mem m0
     rw [z] at FV
     simp at FV; omega
    obtain ⟨x, hx, dx⟩ := bG dg hy
    obtain ⟨bo, bc, bs, rfl, KJ, Pe, Oj⟩ := vF dx
    rw [SH, hx] at JV
    have JV : (x.1, x.2.1) = ky := by simpa using JV
    have Me : x.1 <= aI ts c0 + u0 := by
     have := Kd _ (S9.mpr ⟨_, m0, rfl⟩)
     rw [<- JV] at this
     exact this
    obtain ⟨c, hc, u, rZ, rfl⟩ := p0.mp (S5 hx)
    have Jc := Em ok fw Eu hb hc rZ
    obtain ⟨mP, vQ, _⟩ := gx hc
    have mp := (mF ok vQ fun t ht => gy (dG hb).1 (mP.subset ht)).1
    have up := wU ok fw rZ
    have Me : aI ts c + u <= aI ts c0 + u0 := Me
    have xQ := s3 _ _ Fy
    refine ⟨_, rfl, .inl ⟨rfl, _, bz.of xQ⟩, _, rfl, bo, _, _, _, rfl, rfl, bR.of KJ, qd, lp, vs, _, rfl, rfl, xQ, aX (by rw [aK js]; omega), ?_⟩
    have J1 : (L2.upd H3 lp (.lst (vs ++ [.ref bc]))) bo = some (.tup [.int (aI ts c + u), .ref bc, .ref bs]) := by rw [ak (cR KJ xQ (by intro z; cases z))]; exact KJ
    refine ⟨_, rfl, bo, _, _, _, rfl, rfl, bR.of J1, at2, az qY LS, bs, behind ts.length b c, u, _, pl ++ [c], wY + aI ts c, b :: Es, vs ++ [.ref bc], rfl, Oj.F0 xQ, iS hb hc, rZ, by omega, up, ae, ?_, fun rest => ?_, by omega, by simp [HU], ?_, ?_⟩
    ·rw [Sz]
     exact (bN xQ (js.mono s3) (aF iT _)).snoc (dO xQ (iZ Pe) (iT _))
    ·rw [SK, rX]
     show vA ts r qs b wY (c :: rest) = _
     rw [vA, if_pos hc]
    ·refine TL.mpr ⟨fun z => ?_, Im⟩
     obtain ⟨_, u1, h2, h3⟩ := Ek b z
     rw [Eu] at h2
     cases h2
     omega
    ·intro x hx
     rcases Sx.mp hx with rfl | hx
     ·exact ⟨hb, v', Eu, by omega⟩
     ·obtain ⟨h2, u1, h3, h4⟩ := Ek x hx
      exact ⟨h2, u1, h3, by omega⟩
  ·have eq : b = bu := by
    have cB : (!decide (b = bu)) = false := h1
    by_cases z : b = bu
    ·exact z
    ·rw [SW z] at cB; cases cB
   subst eq
   have v0 := tS ok fw Eu
   refine ⟨_, rfl, k lp H2 pl LS s2 ⟨vs, Fy, js⟩ ?_⟩
   have := rX []
   rw [Vd] at this
   rw [this, vA, if_pos (show bu = ([], 1) from rfl)]
   congr 1
   omega
def wk (P : Program) (w : World) : Sp := fun vs H Q _ => ∃ (a s : Addr) (ts : List Th) (r : Int) (qs : List Qu) (st : aQ), vs = [.ref a, .ref s] /\ tz P w H a (bH ts r qs) /\ b9 H s st /\ ts.length <= 6 /\ st ∈ bj qs ts.length /\
 ∀ l H' L, H l = none -> am H H' -> LstAt fe H' l L -> L.Pairwise (fun x y => aA (sw x) (sw y) = true) -> (∀ x, x ∈ L ↔ Reach ts r qs st x) -> Q (.ref l) H'
theorem cy : av ["crossings", "standing", "found", "place", "here", "crew", "lasts", "behind"] ["crossings", "standing"] (aj gG) := ge
theorem CG {f f1 : Addr} {fd eR : FuncData} (F : Fn K mg "come_to" gG f fd ["crossings", "standing"]) (T : Txt K mg C Z) (dM : Fn K mg "by_side" eY f1 eR ["standing"]) : aq P w K mg base bA 4 f fd ["crossings", "standing"] (wk P w) := by
 refine F.fn.ok cy (fun vs H Q E h => ?_) (fun cm A outer s H vs Q E hr h => ?_)
 ·obtain ⟨a, s, ts, r, qs, st, rfl, _⟩ := h
  rfl
 ·obtain ⟨a, s, ts, r, qs, st, rfl, hC, hs, h6, io, k⟩ := h
  have hu := hr.units
  obtain ⟨kvs, df, pr⟩ := id hC
  refine ⟨_, (ag (sn 2 cy.nd (iH (aa (pv 1) af)))
   (ag (sn 3 cy.nd ao)
   (ag (oC Tj (aE sW (pv 3) (a8 a6 (by rfl) T.iI Te (aa (pv 2) af)) (aY _))
   (ag (sn 4 cy.nd (aW jp (pv 2) (pv 3) (fun _ _ => rfl)))
   (ag (dZ Tj rfl (cj (aW (Bs (P := P) (w := w) rfl rfl hu) (pv 0) (pv 4) (fun _ _ => rfl))) (lK rfl (aV (gn 5 cy.nd) (aV (gn 6 cy.nd) (aV (gn 7 cy.nd) fO))))
   (ah (bV (aE (lP hu) (pv 7) (pv 2) (by with_unfolding_all rfl))
   (ah (c7 (tE T8 UF UE gH (pv 2) (aa (pv 7) af))))
   aO)))
   (ah (Am (i := 3) cy.nd (by rfl) (by first | exact Or.inl rfl | exact Or.inr rfl) ao yZ)))))
   (ah (aB (pO hu (by rfl) T.kZ (by rfl) dM.g (aa (pv 2) af))))))), ?_⟩
  refine ⟨_, rfl, aJ (by show 1 <= _; decide), fun lf Jw => ?_⟩
  have s1 : am H (L2.upd H lf (.lst [.ref s])) := ai Jw
  have e1 : (L2.upd H lf (.lst [.ref s])) lf = some (.lst [.ref s]) := ae
  generalize L2.upd H lf (.lst [.ref s]) = H1 at s1 e1 ⊢
  have short : ∀ {fl : List aQ}, fl.Nodup -> (∀ x ∈ fl, Reach ts r qs st x) -> fl.length <= 128 := fun nd hr => SD (Sh.sub_len nd fun x hx => nW io (hr x hx)) (gA qs h6)
  refine ⟨fun m σ H' => am H H' /\ ∃ (p : Nat) (fl : List aQ) (vs : List V) (v4 v5 v6 v7 : Option V), σ = [some (.ref a), some (.ref s), some (.ref lf), some (.int p), v4, v5, v6, v7] /\ H' lf = some (.lst vs) /\ bK H' (fl.map fe) vs /\ m = 200 - p /\ p <= fl.length /\ fl.Nodup /\ (∀ x ∈ fl, Reach ts r qs st x) /\ st ∈ fl /\
    ∀ (i : Nat) b, i < p -> fl[i]? = some b -> ∀ c ∈ aD ts r qs b, behind ts.length b c ∈ fl,
   ⟨200, s1, 0, [st], [.ref s], _, _, _, _, rfl, e1, .cons (hs.mono s1).dv .nil, rfl, S4 _, by simp, (fun x hx => by rw [S7.mp hx]; exact .refl), S7.mpr rfl, (fun i b hi => absurd hi (Nat.not_lt_zero _))⟩, ?_⟩
  rintro m σ H2 ⟨s2, p, fl, vs, v4, v5, v6, v7, rfl, Fy, js, rfl, hp, nd, B2, sS, Jt⟩
  have Sk := aK js
  have zb := short nd B2
  refine ⟨_, rfl, _, rfl, lf, _, rfl, .inl (bz.of Fy), _, _, rfl, rfl, _, rfl, ?_⟩
  refine cq (fun h1 => ?_) (fun h1 => ?_)
  ·have EH : p < fl.length := by
    have := S1 h1
    omega
   obtain ⟨y, hy, dy⟩ := js.get (i := p) (d := fe fl[p]) (by rw [SH, Sw EH]; rfl)
   have hb : fl[p]? = some fl[p] := Sw EH
   have rb := B2 _ (Ui EH)
   generalize fl[p] = b at dy hb rb
   obtain ⟨o, rfl, ho⟩ := cO dy
   have Q1 := nW io rb
   obtain ⟨aw, Ga, vw, Nd, dw⟩ := zj pr Q1
   have RO := aK dw
   refine ⟨fun σ' H' => am H H' /\ ∃ (j3 : List aQ) (ug : List V) (v4 v5 v6 v7 : Option V), σ' = [some (.ref a), some (.ref s), some (.ref lf), some (.int ((p : Int) + 1)), v4, v5, v6, v7] /\ H' lf = some (.lst ug) /\ bK H' (j3.map fe) ug /\ fl <+: j3 /\ j3.Nodup /\ (∀ x ∈ j3, Reach ts r qs st x) /\ ∀ c ∈ aD ts r qs b, behind ts.length b c ∈ j3, ?_, ?_⟩
   ·rintro σ' H' ⟨s', j3, ug, w4, w5, w6, w7, rfl, q1, q2, ⟨ex, pre⟩, q4, q5, q6⟩
    have le : fl.length <= j3.length := by rw [<- pre, SX]; omega
    refine ⟨200 - (p + 1), by omega, s', p + 1, j3, ug, w4, w5, w6, w7, rfl, q1, q2, rfl, by omega, q4, q5, by rw [<- pre]; exact T7 _ sS, fun i b2 hi IX c hc => ?_⟩
    have EW : fl[i]? = some b2 := by rw [<- pre, TY (by omega)] at IX; exact IX
    by_cases z : i = p
    ·rw [z, hb] at EW
     cases EW
     exact q6 c hc
    ·rw [<- pre]
     exact T7 _ (Jt i b2 (by omega) EW c hc)
   ·refine ⟨_, rfl, _, rfl, lf, _, _, _, rfl, rfl, bz.of Fy, gR hy, ?_⟩
    refine ⟨_, rfl, _, rfl, a, o, b, kvs, .ref aw, rfl, rfl, ho, (df.mono s2).ds, Ga, aw, rfl, ⟨_, bz.of (s2 _ _ Nd)⟩, eH (K := K) (a := aw) (xs := vw) (fun j σ' H' => am H H' /\ ∃ (j3 : List aQ) (ug : List V) (v5 v6 v7 : Option V), σ' = [some (.ref a), some (.ref s), some (.ref lf), some (.int p), some (.ref o), v5, v6, v7] /\ H' lf = some (.lst ug) /\ bK H' (j3.map fe) ug /\ fl <+: j3 /\ j3.Nodup /\ (∀ x ∈ j3, Reach ts r qs st x) /\ ∀ x ∈ (bP ts r qs b).take j, x.2.2 ∈ j3)
     ⟨s2, fl, vs, _, _, _, rfl, Fy, js, List.prefix_refl _, nd, B2, (fun x hx => by cases hx)⟩ (fun j σ' H' _ ⟨sm, _⟩ => bz.of (sm _ _ Nd)) ?_ ?_⟩
    ·rintro j y2 σ' H3 hj ⟨s3, j3, ug, w5, w6, w7, rfl, tR, xJ, pre, zL, AL, hw⟩
     obtain ⟨x, hx, dx⟩ := bG (dw.mono s3) hj
     obtain ⟨o3, b3, c3, rfl, G1, RR, Nh⟩ := AG dx
     have OD := aK xJ
     have l2 := short zL AL
     have RJ := AY x.2.2
     have et : (bP ts r qs b).take (j + 1) = (bP ts r qs b).take j ++ [x] := by rw [SV, hx]; rfl
     refine ⟨o3, _, rfl, bR.of G1, rfl, _, _, rfl, _, _, rfl, _, _, rfl, rfl, ?_⟩
     refine ⟨_, rfl, _, rfl, fe x.2.2, j3.map fe, Nh.dv, .inl (.lst tR xJ), me _, fD me _, by omega, _, rfl, ?_⟩
     rw [En]
     refine cq (fun h2 => ?_) (fun h2 => ?_)
     ·have hn : x.2.2 ∉ j3 := fun z => by
       have jq : (!decide (x.2.2 ∈ j3)) = true := h2
       rw [SE z] at jq
       cases jq
      refine ⟨_, rfl, .inl ⟨rfl, _, bz.of tR⟩, _, rfl, lf, ug, _, rfl, rfl, tR, aX (by omega), ?_⟩
      refine ⟨az s3 Jw, j3 ++ [x.2.2], _, _, _, _, rfl, ae, ?_, pre.trans (List.prefix_append _ _), ?_, fun z hz => ?_, fun z hz => ?_⟩
      ·rw [Sz]
       exact (bN tR xJ (aF ip _)).snoc (dO tR Nh.dv (ip _))
      ·rw [List.nodup_append]
       exact ⟨zL, by simp, fun a1 h3 b1 h4 e => hn (by rw [<- S7.mp h4, <- e]; exact h3)⟩
      ·rcases S0.mp hz with z1 | z1
       ·exact AL z z1
       ·rw [S7.mp z1]
        have pJ := S5 hx
        unfold bP at pJ
        obtain ⟨c, hc, rfl⟩ := S9.mp pJ
        exact .step rb hc
      ·rw [et] at hz
       rcases S0.mp hz with z1 | z1
       ·exact T7 _ (hw z z1)
       ·rw [S7.mp z1]; exact S8 _ (S7.mpr rfl)
     ·have N8 : x.2.2 ∈ j3 := by
       have jq : (!decide (x.2.2 ∈ j3)) = false := h2
       by_cases z : x.2.2 ∈ j3
       ·exact z
       ·rw [SW z] at jq; cases jq
      refine ⟨s3, j3, ug, _, _, _, rfl, tR, xJ, pre, zL, AL, fun z hz => ?_⟩
      rw [et] at hz
      rcases S0.mp hz with z1 | z1
      ·exact hw z z1
      ·rw [S7.mp z1]; exact N8
    ·rintro σ' H3 ⟨s3, j3, ug, w5, w6, w7, rfl, tR, xJ, pre, zL, AL, hw⟩
     rw [SF (by omega)] at hw
     refine ⟨_, rfl, _, _, rfl, rfl, s3, j3, ug, _, _, _, _, rfl, tR, xJ, pre, zL, AL, fun c hc => ?_⟩
     exact hw _ (S9.mpr ⟨c, hc, rfl⟩)
  ·have EH : p = fl.length := by
    have := of_decide_eq_false h1
    omega
   have closed : ∀ b ∈ fl, ∀ c ∈ aD ts r qs b, behind ts.length b c ∈ fl := fun b hb c hc => by
    obtain ⟨i, hi⟩ := US.mp hb
    exact Jt i b (by rw [EH]; exact (SR.mp hi).1) hi c hc
   have l4 : aq P w K mg base bA 1 f1 eR ["standing"] jJ := nO dM
   refine ⟨_, rfl, lf, vs, ut H2, rfl, bz.of Fy, n0.of l4 (hr.mono (by decide)) dM.b (fun _ _ _ _ _ z => z) (fun y hy => ?_), by rw [rq js]; exact List.Pairwise.map _ (fun x y ne e => ne (zp e)) nd, fun H3 l At s3 hl P7 Jd => ?_⟩
   ·obtain ⟨i, hi⟩ := US.mp hy
    obtain ⟨x, _, dx⟩ := bG js hi
    have ek := qG dx
    obtain ⟨c, rfl, b, hc, hb⟩ := cO dx
    refine ⟨b, by rw [ek]; exact hb, fun H' sm Q hq => ⟨c, b, x.2, rfl, sm _ _ hc, fun q hn => ?_⟩⟩
    have := hq q hn
    rw [ek] at this
    exact this
   ·obtain ⟨L, h2, h3⟩ := sB P7 js
    have qY := s2.trans s3
    refine k l _ L (qY.free hl) (az qY (qY.free hl)) ⟨At, ae, (h3.mono s3).mono (ai hl)⟩ (D5 h3 Jd) fun x => ?_
    rw [h2.mem_iff]
    exact ⟨B2 x, fun hx => AH sS closed hx⟩
def tw (C : Addr) (Z : Ad) : Sp := fun vs H Q E => ∃ (p a : Addr) (ts : List Th) (r : Int) (qs : List Qu) (st : aQ), vs = [.ref p, .ref a] /\ aM C H p ts r qs /\ uM ts /\ b9 H a st /\ st.1.length <= 1000 /\
 (bQ ts.length st = true -> aT qs ts.length st.1 = true -> ∀ f, yu ts r qs f -> (∀ o l H' iw v, H l = none -> am H H' -> H' o = some (.tup [.str "plan", .ref l]) -> LstAt gg H' l iw -> Sh.lk f st = some v -> vA ts r qs st 0 iw = some v -> Q (.ref o) H') /\
  ∀ o l H' L, H l = none -> am H H' -> H' o = some (.tup [.str "shut", .ref l]) -> LstAt fe H' l L -> L.Pairwise (fun x y => aA (sw x) (sw y) = true) -> (∀ x, x ∈ L ↔ Reach ts r qs st x) -> Sh.lk f st = none -> Q (.ref o) H') /\
 (bQ ts.length st = false -> ∀ H', am H H' -> E (.ref Z.ce) none H') /\ (bQ ts.length st = true -> aT qs ts.length st.1 = false -> ∀ H', am H H' -> E (.ref Z.eI) none H')
theorem iM : av ["night", "standing", "crossings", "fewest"] ["night", "standing"] (aj gY) := ge
theorem As {f f1 f2 : Addr} {fd eR m9 : FuncData} (F : Fn K mg "shortest" gY f fd ["night", "standing"]) (L : Lk K mg C fs ds) (B : Lp K mg C fs ds) (T : Txt K mg C Z) (my : Fn K mg "plan_from" eG f1 eR ["crossings", "fewest", "standing", "end"])
  (pY : Fn K mg "come_to" gG f2 m9 ["crossings", "standing"]) : aq P w K mg base (o9 P w) 7 f fd ["night", "standing"] (tw C Z) := by
 have cS := L.fL
 have eN := B.fW
 have dU := B.fg
 have be := B.ends
 have bF := B.rR
 have cU : aq P w K mg base (o9 P w) 4 (fs 10) (ds 10) ["night", "standing"] (du C Z) := fv L T
 have eQ : aq P w K mg base bA 6 (fs 65) (ds 65) ["night"] (rf P w C) := wQ L B T
 have dX : aq P w K mg base bA 3 (fs 68) (ds 68) ["crossings", "end"] (vz P w) := Ap B T
 have bE : aq P w K mg base bA 1 (fs 61) (ds 61) ["self"] i7 := kF B.ends
 have uq : aq P w K mg base bA 2 f1 eR ["crossings", "fewest", "standing", "end"] (uD P w) := zO my T B.sY
 have yf : aq P w K mg base bA 4 f2 m9 ["crossings", "standing"] (wk P w) := CG pY T B.wR
 refine F.fn.Gf iM (fun vs H Q E h => ?_) (fun cm A outer s H vs Q E hr h => ?_)
 ·obtain ⟨p, a, ts, r, qs, st, rfl, _⟩ := h
  rfl
 ·obtain ⟨p, a, ts, r, qs, st, rfl, N, ok, io, hl, k1, k2, k3⟩ := h
  have hu := hr.units
  have h6 := ok.l6
  obtain ⟨dx, t, q, hp, _, _⟩ := id N.ex
  refine ⟨_, (ag (c7 (cl cU cS hr dP (aa (pv 0) (aa (pv 1) af))))
   (ag (sn 2 iM.nd (cl eQ eN hr aC (aa (pv 0) af)))
   (ag (sn 3 iM.nd (cl dX dU hr aC (aa (pv 2) (aa (cn (pv 0) T.aS bF bE (hr.mono (by decide)) be.b .nil aC) af))))
   (ag (bV (aE (GU (P := P) (w := w) rfl rfl hu) (pv 1) (pv 3) (by with_unfolding_all rfl))
   (ah (aB (cD (aa jU (aa (cl uq my hr aC (aa (pv 2) (aa (pv 3) (aa (pv 1) (aa (cn (pv 0) T.aS bF bE (hr.mono (by decide)) be.b .nil aC) af))))) af)))))
   aO)
   (ah (aB (cD (aa jU (aa (cl yf pY hr aC (aa (pv 2) (aa (pv 1) af))) af))))))))), ?_⟩
  refine ⟨_, rfl, _, rfl, p, a, ts, r, qs, st, rfl, N, h6, io, hl, fun hS hG H1 s1 => ?_, k2, k3⟩
  have k1 := k1 hS hG
  have hm := wl hS hG
  refine ⟨_, rfl, p, ts, r, qs, rfl, N.mono s1, h6, fun lc H2 s2 hC => ?_⟩
  have DP := s1.trans s2
  refine ⟨_, rfl, _, rfl, p, dx, _, rfl, DP _ _ hp, rfl, p, rfl, fun le H3 s3 he => ?_⟩
  obtain ⟨_, e, he⟩ := cO (st := bu) he
  cases e
  have qY := DP.trans s3
  refine ⟨lc, le, ts, r, qs, rfl, hC.mono s3, he, ok, fun lf H4 f Jw s4 fw dw => ?_⟩
  have DX := qY.trans s4
  have MB := (hC.mono s3).mono s4
  have A0 := io.mono DX
  obtain ⟨k1, k2⟩ := k1 f fw
  refine ⟨_, rfl, _, rfl, lf, a, st, iv f, rfl, rfl, A0, dw.ds, _, rfl, ?_⟩
  rw [gT, T0]
  refine cq (fun h1 => ?_) (fun h1 => ?_)
  ·have cB : (Sh.lk f st).isSome = true := h1
   obtain ⟨v, hv⟩ := Uj.mp cB
   refine ⟨_, rfl, _, rfl, _, rfl, _, rfl, p, dx, _, rfl, DX _ _ hp, rfl, p, rfl, fun Jc H5 s5 E5 => ?_⟩
   obtain ⟨_, e, E5⟩ := cO (st := bu) E5
   cases e
   refine ⟨lc, lf, a, Jc, ts, r, qs, f, st, v, rfl, MB.mono s5, (dw.mono s5).ds, fw, A0.mono s5, E5, ok, hm, hv, fun l H6 iw LB s6 hL rX => ?_⟩
   have A4 := DX.trans s5
   have Oz := A4.trans s6
   refine ⟨aJ (by show 2 <= _; decide), fun o ho => ?_⟩
   have s7 : am H6 (L2.upd H6 o (.tup [.str "plan", .ref l])) := ai ho
   exact k1 o l _ iw v (A4.free LB) (Oz.trans s7) ae (hL.mono s7) hv rX
  ·have cB : Sh.lk f st = none := by
    cases q : Sh.lk f st with
    | none => rfl
    | some v => rw [q] at h1; cases h1
   refine ⟨_, rfl, _, rfl, lc, a, ts, r, qs, st, rfl, MB, A0, h6, hm, fun l H5 L Oy s5 hL Jd MC => ?_⟩
   have A4 := DX.trans s5
   refine ⟨aJ (by show 2 <= _; decide), fun o ho => ?_⟩
   have s7 : am H5 (L2.upd H5 o (.tup [.str "shut", .ref l])) := ai ho
   exact k2 o l _ L (DX.free Oy) (A4.trans s7) ae (hL.mono s7) Jd MC cB
end
structure All (K : Vj) (mg : Str -> Option Value) (C : Addr) (fs : Nat -> Addr) (ds : Nat -> FuncData) : Prop where
 rj : Fn K mg "check_things" cG (fs 21) (ds 21) ["things"]
 vW : Fn K mg "check_room" dC (fs 22) (ds 22) ["room"]
 BV : Fn K mg "is_pair" eZ (fs 23) (ds 23) ["one", "other", "count"]
 yc : Fn K mg "is_keeper" di (fs 24) (ds 24) ["keeper", "one", "other", "count"]
 oA : Fn K mg "check_quarrels" bY (fs 25) (ds 25) ["quarrels", "count"]
 init : Mt K "__init__" "Night.__init__" cI (fs 26) (ds 26) ["self", "things", "room", "quarrels"]
 C5 : Fn K mg "_law_cell_at" bJ (fs 28) (ds 28) ["script", "k"]
 C7 : Fn K mg "_law_quarrel" bZ (fs 30) (ds 30) ["cell", "many"]
 xu : Fn K mg "_law_quarrels" cr (fs 31) (ds 31) ["script", "start", "many"]
 C0 : Fn K mg "_law_things" cW (fs 32) (ds 32) ["script", "start", "many"]
 night : Fn K mg "_law_night" cM (fs 33) (ds 33) ["script", "most"]
 D3 : Fn K mg "_law_no_lower" cZ (fs 34) (ds 34) ["made", "known", "standing"]
 after : Fn K mg "after" lr (fs 35) (ds 35) ["night", "standing", "crew"]
 takes : Fn K mg "takes" nv (fs 36) (ds 36) ["night", "standing", "plan"]
 xr : Fn K mg "plan_from" eG (fs 37) (ds 37) ["crossings", "fewest", "standing", "end"]
 CN : Fn K mg "come_to" gG (fs 38) (ds 38) ["crossings", "standing"]
 wf : Fn K mg "heights" jc (fs 39) (ds 39) ["night"]
 shortest : Fn K mg "shortest" gY (fs 40) (ds 40) ["night", "standing"]
 lk : Lk K mg C fs ds
 lp : Lp K mg C fs ds
 Cu : Mk K C (fs 26)
def ov (ts : List Th) (qs : List Qu) (f : Sh.Mp aQ) : List (bv × V) := (bj qs ts.length).map fun st => (st, oV (Sh.lk f st))
theorem m8 (ts : List Th) (qs : List Qu) (f : Sh.Mp aQ) : (ov ts qs f).map (·.1) = bj qs ts.length := by
 unfold ov
 rw [Tg]
 exact List.map_id' _
theorem gN {ts : List Th} {qs : List Qu} {f : Sh.Mp aQ} {st : aQ} (h : st ∈ bj qs ts.length) : cu (ov ts qs f) st = some (oV (Sh.lk f st)) := by
 unfold ov cu
 generalize bj qs ts.length = l at h
 induction l with
 | nil => cases h
 | cons a l ih =>
  rw [SN, Ur]
  by_cases e : a = st
  ·subst e; simp
  ·rw [SW e]
   rcases Sx.mp h with z | z
   ·exact absurd z.symm e
   ·exact ih z
section
variable {P : Program} {w : World} {K : Vj} {mg : Str -> Option Value} {base : Heap} {C : Addr} {Z : Ad} {fs : Nat -> Addr} {ds : Nat -> FuncData}
def sD (P : Program) (w : World) (C : Addr) : Sp := fun vs H Q _ => ∃ (pm kd a : Addr) (ts : List Th) (r : Int) (qs : List Qu) (f : Sh.Mp aQ) (st : aQ), vs = [.ref pm, .ref kd, .ref a] /\ aM C H pm ts r qs /\ uM ts /\ DS P w H kd (ov ts qs f) /\ yu ts r qs f /\ b9 H a st /\ st ∈ bj qs ts.length /\ ∀ H', am H H' -> Q (.bl true) H'
theorem cH : av ["made", "known", "standing", "height", "crew", "behind"] ["made", "known", "standing"] (aj cZ) := ge
theorem Ah {f f1 : Addr} {fd eR : FuncData} (F : Fn K mg "_law_no_lower" cZ f fd ["made", "known", "standing"]) (L : Lk K mg C fs ds) (B : Lp K mg C fs ds) (T : Txt K mg C Z) (xj : Fn K mg "after" lr f1 eR ["night", "standing", "crew"]) : aq P w K mg base bA 7 f fd ["made", "known", "standing"] (sD P w C) := by
 have hX := L.tW
 have eX := B.k7
 have h9 : aq P w K mg base (o9 P w) 5 (fs 15) (ds 15) ["night", "standing"] (iD C Z) := kz L T
 have Ce : aq P w K mg base (o9 P w) 6 f1 eR ["night", "standing", "crew"] (tP C Z) := Au xj L T
 have gp : aq P w K mg base bA 2 (fs 62) (ds 62) ["night", "crew"] (hJ C) := jQ B.k7 T L.bS L.things
 refine F.fn.ok cH (fun vs H Q E h => ?_) (fun cm A outer s H vs Q E hr h => ?_)
 ·obtain ⟨pm, kd, a, ts, r, qs, f, st, rfl, _⟩ := h
  rfl
 ·obtain ⟨pm, kd, a, ts, r, qs, f, st, rfl, N, ok, hd, fw, io, hm, k⟩ := h
  have hu := hr.units
  have h6 := ok.l6
  obtain ⟨hS, hG⟩ := dG hm
  have lst := qK hS h6
  refine ⟨_, (ag (sn 3 cH.nd (aW (Bs (P := P) (w := w) rfl rfl hu) (pv 1) (pv 2) (fun _ _ => rfl)))
   (ag (dZ Tj rfl (cj (cl h9 hX hr tZ (aa (pv 0) (aa (pv 2) af)))) (gn 4 cH.nd)
   (ag (sn 5 cH.nd (cl Ce xj hr tZ (aa (pv 0) (aa (pv 2) (aa (pv 4) af)))))
   (ag (bV (aE (EK (P := P) (w := w) rfl rfl hu) (pv 5) (pv 1) (by with_unfolding_all rfl))
   (ah (aB iB))
   aO)
   (ah (bV (aE vZ (aW (Bs (P := P) (w := w) rfl rfl hu) (pv 1) (pv 5) (fun _ _ => rfl)) nV (aY _))
   (ah (bV (PW.pt (pw_or (aE FT (pv 3) nV (aY _)) (pw_or1 (aE wg (pv 3) (bb fX (cl gp eX hr aC (aa (pv 0) (aa (pv 4) af))) (aW (Bs (P := P) (w := w) rfl rfl hu) (pv 1) (pv 5) (fun _ _ => rfl))) (aY _)))))
   (ah (aB iB))
   aO))
   aO)))))
   (ah (aB iB)))), ?_⟩
  refine ⟨_, rfl, _, rfl, kd, a, st, _, _, rfl, rfl, io, hd, gN hm, ?_⟩
  refine ⟨_, rfl, _, rfl, pm, a, ts, r, qs, st, rfl, N, h6, io, by omega, fun _ _ l H1 hl s1 hL => ?_, (fun hn => by rw [hS] at hn; cases hn), (fun _ hn => by rw [hG] at hn; cases hn)⟩
  obtain ⟨vl, xK, dl⟩ := hL
  refine ⟨l, rfl, ⟨_, bz.of xK⟩, eH (K := K) (a := l) (xs := vl) (fun i σ H' => am H1 H' /\ ∃ v4 v5, σ = [some (.ref pm), some (.ref kd), some (.ref a), some (oV (Sh.lk f st)), v4, v5])
   ⟨am.refl _, _, _, rfl⟩ (fun i σ H' _ ⟨sm, _⟩ => bz.of (sm _ _ xK)) ?_ ?_⟩
  ·rintro i x σ H2 hi ⟨s2, v4, v5, rfl⟩
   obtain ⟨c, hc, dc⟩ := bG dl hi
   obtain ⟨o, rfl, ho⟩ := gU (dc.mono s2)
   have JD := S5 hc
   obtain ⟨mP, vQ, cg⟩ := gx JD
   have Ls : c.length <= 6 := SD mP.length_le (SD (dD hS) h6)
   have KO := iS hm JD
   have DP := s1.trans s2
   refine ⟨_, rfl, _, rfl, _, rfl, pm, a, o, ts, r, qs, st, c, rfl, N.mono DP, h6, io.mono DP, by omega, ho, fun _ _ _ l2 H3 s3 hb => ?_, (fun hn => by rw [hS] at hn; cases hn), (fun _ hn => by rw [hG] at hn; cases hn), (fun _ _ hn => absurd JD hn)⟩
   have qY := DP.trans s3
   have HP := hd.mono qY
   refine ⟨_, rfl, _, rfl, kd, l2, _, _, rfl, rfl, hb, HP, _, rfl, ?_⟩
   rw [gN KO]
   refine fV ?_
   refine ⟨_, rfl, _, rfl, kd, l2, _, _, _, rfl, rfl, hb, HP, gN KO, rfl, _, rfl, ?_⟩
   cases L9 : Sh.lk f (behind ts.length st c) with
   | none => exact fV ⟨s2.trans s3, _, _, rfl⟩
   | some u =>
    refine yb ?_
    obtain ⟨fi, cl⟩ := ly ok fw L9
    obtain ⟨v, hv, le⟩ := cl st _ _ u ⟨hm, c, JD, rfl, rfl⟩ L9
    rw [hv]
    refine ⟨_, rfl, rfl, _, rfl, fV ?_⟩
    refine ⟨_, rfl, _, rfl, _, rfl, pm, o, ts, r, qs, c, rfl, N.mono qY, h6, s3 _ _ ho, by omega, vQ, (fun t ht => gy hS (mP.subset ht)), fun H4 s4 => ?_⟩
    refine ⟨_, rfl, _, rfl, kd, l2, _, _, _, rfl, rfl, hb.mono s4, HP.mono s4, gN KO, ?_⟩
    rw [L9]
    refine ⟨_, _, rfl, rfl, _, _, rfl, rfl, _, rfl, ?_⟩
    rw [SW (show ¬ (aI ts c + u < v) by omega)]
    exact fV ⟨s2.trans (s3.trans s4), _, _, rfl⟩
  ·rintro σ H2 ⟨s2, v4, v5, rfl⟩
   exact k H2 (s1.trans s2)
def vO (K : Vj) : Sp := fun vs H Q _ => ∃ (a : Addr) (ns : List Int), vs = [.ref a] /\ bz K H a (ns.map V.int) /\ ns.length <= 63 /\ ∀ H', Q (.bl true) H'
theorem jS : av ["script", "night", "made", "known", "pair", "standing", "told"] ["script"] (aj sQ) := ge
theorem Fo {f : Addr} {fd : FuncData} (F : Fn K mg "law" sQ f fd ["script"]) (T : Txt K mg C Z) (L : All K mg C fs ds) : aq P w K mg base bA 8 f fd ["script"] (vO K) := by
 have rF := L.night
 have mT := L.D3
 have xT := L.wf
 have Dd := L.takes
 have vn := L.shortest
 have lX := L.init
 have B5 := L.Cu
 have be := L.lp.ends
 have bF := L.lp.rR
 have rM : aq P w K mg base bA 3 _ _ ["script", "most"] (sO K) := zJ L.night T L.C5 L.C7 L.xu L.C0
 have mS : aq P w K mg base bA 7 _ _ ["made", "known", "standing"] (sD P w C) := Ah L.D3 L.lk L.lp T L.after
 have yj : aq P w K mg base bA 7 _ _ ["night"] (oU C) := vd L.wf L.lk L.lp T
 have BN : aq P w K mg base (o9 P w) 6 _ _ ["night", "standing", "plan"] (tj C Z) := Ba L.takes L.lk T L.lp.k7 L.lp.rR L.lp.ends
 have vC : aq P w K mg base (o9 P w) 7 _ _ ["night", "standing"] (tw C Z) := As L.shortest L.lk L.lp T L.xr L.CN
 have bE : aq P w K mg base bA 1 _ _ ["self"] i7 := kF L.lp.ends
 have mi : aq P w K mg base bA 4 _ _ ["self", "things", "room", "quarrels"] (wA C) := Cj L.init T L.lk.su L.BV L.yc L.rj L.vW L.oA
 refine F.fn.ok jS (fun vs H Q E h => ?_) (fun cm A outer s H vs Q E hr h => ?_)
 ·obtain ⟨a, ns, rfl, _⟩ := h
  rfl
 obtain ⟨a, ns, rfl, hS, hlen, k⟩ := h
 have hu := hr.units
 obtain ⟨tC, hC, rC⟩ : ∃ t, uv (bX P w K mg base ["script", "night", "made", "known", "pair", "standing", "told"] "law" sQ f cm A outer s H E) ((ci sQ).drop 5) t /\ ∀ (H1 : Hp) (p pm kd : Addr) (ts : List Th) (r : Int) (qs : List Qu) (g : Sh.Mp aQ) (v4 : Option V), uM ts -> aM C H1 pm ts r qs -> DW P w H1 kd (ov ts qs g) -> yu ts r qs g ->
   t (bD Q) [some (.ref a), some (.ref p), some (.ref pm), some (.ref kd), v4, none, none] H1 := by
  refine ⟨_, (ag (dZ Tj rfl (Dr (P := P) (w := w) rfl rfl (pv 3)) (gn 5 jS.nd)
   (ag (bV (i0 (iN (cl mS mT hr aC (aa (pv 2) (aa (pv 3) (aa (pv 5) af))))))
   (ah (aB iB))
   aO)
   (ag (sn 6 jS.nd (cl vC vn hr tZ (aa (pv 2) (aa (pv 5) af))))
   (ag (bV (PW.pt (pw_and (aE oH (aW bC (pv 6) ao (fun _ _ => rfl)) jU (aY _)) (pw_and1 (aE mE (cl BN Dd hr tZ (aa (pv 2) (aa (pv 5) (aa (aW bC (pv 6) ao (fun _ _ => rfl)) af)))) (aW (Bs (P := P) (w := w) rfl rfl hu) (pv 3) (pv 5) (fun _ _ => rfl)) (aY _)))))
   (ah (aB iB))
   aO)
   (ah (bV (aE mE (fT oH (aW bC (pv 6) ao (fun _ _ => rfl)) jU (aY _)) (fT vZ (aW (Bs (P := P) (w := w) rfl rfl hu) (pv 3) (pv 5) (fun _ _ => rfl)) nV (aY _)) (aY _))
   (ah (aB iB))
   aO))))))
   (ah (aB iB))), fun H1 p pm kd ts r qs g v4 ok NA dw fw => ?_⟩
  have h6 := ok.l6
  refine ⟨_, rfl, kd, _, rfl, dw, fun o df => ?_⟩
  have JI : aM C (L2.upd H1 kd o) pm ts r qs := by
   obtain ⟨x1, e1⟩ := dw.at
   obtain ⟨dx, t, q, h1, ⟨vt, h2, jq⟩, ⟨vq, h3, CA⟩⟩ := NA.ex
   have kt := (dw.nl (o := o)).2
   refine ⟨dx, t, q, ?_, ⟨vt, kt _ _ h2, i8 kt jq (aF tT ts)⟩, ⟨vq, kt _ _ h3, i8 kt CA (aF sJ qs)⟩⟩
   rw [ak (cR h1 e1 (by intro z; cases z))]; exact h1
  generalize L2.upd H1 kd o = H2 at df JI ⊢
  obtain ⟨hz, Hc, ob, xs, lI, ks⟩ := id df
  refine ⟨kd, ob, xs, rfl, Hc, lI, A7 (P := P) (w := w) (o := ob) (d := kd) (xs := xs) (kvs := ov ts qs g) (fun i σ H' => am H2 H' /\ ∃ v5 v6, σ = [some (.ref a), some (.ref p), some (.ref pm), some (.ref kd), v4, v5, v6])
   ⟨am.refl _, _, _, rfl⟩ (fun i σ H' _ ⟨sm, _⟩ => ⟨sm _ _ lI, ks.mono fun _ _ => sm _ _⟩) ?_ ?_⟩
  ·rintro i st y b σ H3 hi kb ⟨s3, v5, v6, rfl⟩
   have hm : st ∈ bj qs ts.length := by
    rw [<- m8 ts qs g]
    exact Ts (f := fun x : bv × V => x.1) (S5 hi)
   obtain ⟨hS, hG⟩ := dG hm
   have lst := qK hS h6
   have kb : b9 H3 b st := kb
   have HP := (df.mono s3).ds
   refine ⟨_, rfl, _, rfl, _, rfl, pm, kd, b, ts, r, qs, g, st, rfl, JI.mono s3, ok, HP, fw, kb, hm, fun H4 s4 => ⟨_, rfl, fV ?_⟩⟩
   have Gg := s3.trans s4
   refine ⟨_, rfl, _, rfl, pm, b, ts, r, qs, st, rfl, JI.mono Gg, ok, kb.mono s4, by omega, fun _ _ f2 Nc => ⟨fun o l H5 iw v hl s5 ho hL hv rX => ?_, fun o l H5 L hl s5 ho hL Jd MC zA => ?_⟩, (fun hn => by rw [hS] at hn; cases hn), (fun _ hn => by rw [hG] at hn; cases hn)⟩
   ·have Bt := Gg.trans s5
    have JL := s4.trans s5
    have JW : Sh.lk g st = some v := by rw [wu fw Nc st]; exact hv
    refine ⟨_, rfl, o, _, _, _, rfl, rfl, bR.of ho, uK, rfl, _, rfl, yb ?_⟩
    refine ⟨_, rfl, _, rfl, _, rfl, o, _, _, _, rfl, rfl, bR.of ho, qd, pm, b, l, ts, r, qs, st, iw, rfl, JI.mono Bt, h6, kb.mono JL, by omega, hL, fun _ _ H6 s6 => ?_, (fun hn => by rw [hS] at hn; cases hn), (fun _ hn => by rw [hG] at hn; cases hn)⟩
    have Mg := JL.trans s6
    have M0 := Bt.trans s6
    have ME := (df.mono M0).ds
    rw [rX]
    refine ⟨_, rfl, _, rfl, kd, b, st, _, _, rfl, rfl, kb.mono Mg, ME, gN hm, ?_⟩
    rw [JW]
    refine ⟨rfl, _, rfl, wq rfl ?_⟩
    refine ⟨_, rfl, o, _, _, _, rfl, rfl, bR.of (s6 _ _ ho), uK, rfl, ?_⟩
    refine ⟨_, rfl, _, rfl, kd, b, st, _, _, rfl, rfl, kb.mono Mg, ME, gN hm, ?_⟩
    rw [JW]
    refine ⟨rfl, rfl, _, rfl, wq rfl ?_⟩
    exact ⟨M0, _, _, rfl⟩
   ·have Bt := Gg.trans s5
    have JL := s4.trans s5
    have JW : Sh.lk g st = none := by rw [wu fw Nc st]; exact zA
    have PY := (df.mono Bt).ds
    have ns : decide (V.str "shut" = V.str "plan") = false := by decide +kernel
    refine ⟨_, rfl, o, _, _, _, rfl, rfl, bR.of ho, uK, rfl, _, rfl, ?_⟩
    rw [ns]
    refine fV (fV ?_)
    refine ⟨_, rfl, o, _, _, _, rfl, rfl, bR.of ho, uK, rfl, ?_⟩
    rw [ns]
    refine ⟨_, rfl, _, rfl, kd, b, st, _, _, rfl, rfl, kb.mono JL, PY, gN hm, ?_⟩
    rw [JW]
    refine ⟨rfl, rfl, _, rfl, wq rfl ?_⟩
    exact ⟨Bt, _, _, rfl⟩
  ·rintro σ H3 ⟨s3, v5, v6, rfl⟩
   exact k H3
 refine ⟨_, (ag (sn 1 jS.nd (cl rM rF hr aC (aa (pv 0) (aa ao af))))
   (ag (sn 2 jS.nd (BP B5 mi (hr.mono (by decide)) (by rfl) T.CI lX.b .nil aC (aa (b7 ij (by rfl) T.vo boot_list (aa (aW bC (pv 1) ao (fun _ _ => rfl)) af)) (aa (aW bC (pv 1) ao (fun _ _ => rfl)) (aa (b7 ij (by rfl) T.vo boot_list (aa (aW bC (pv 1) ao (fun _ _ => rfl)) af)) af)))))
   (ag (sn 3 jS.nd (kg (P := P) (w := w) rfl rfl))
   (ag (dZ Tj rfl (cj (cl yj xT hr aC (aa (pv 2) af))) (gn 4 jS.nd)
   (ah (uU (aW bC (pv 4) ao (fun _ _ => rfl)) (uO (pv 3) (aW bC (pv 4) ao (fun _ _ => rfl)) (EE (P := P) (w := w) rfl rfl hu)))))
   (ag (bV (PW.pt (pw_and (aE (GU (P := P) (w := w) rfl rfl hu) (cn (pv 2) T.aS bF bE (hr.mono (by decide)) be.b .nil aC) (pv 3) (by with_unfolding_all rfl)) (pw_and1 (aE mE (aW (Bs (P := P) (w := w) rfl rfl hu) (pv 3) (cn (pv 2) T.aS bF bE (hr.mono (by decide)) be.b .nil aC) (fun _ _ => rfl)) ao (aY _)))))
   (ah (aB iB))
   aO)
   hC))))), ?_⟩
 refine ⟨_, rfl, a, ns, 5, rfl, hS, by decide, by decide, fun ts r qs p H1 ND q4 s1 => ?_⟩
 have ok := ND.t
 have l6 := ok.l6
 obtain ⟨ap, bq, hp, N7, QY⟩ := id ND.ex
 obtain ⟨vt, ht, dt⟩ := id N7
 obtain ⟨vq, hq, dq⟩ := id QY
 refine ⟨_, rfl, p, _, _, _, rfl, rfl, bR.of hp, uK, ap, _, rfl, .inl (bz.of ht), fun l0 ww => ?_⟩
 have s2 : am H1 (L2.upd H1 l0 (.lst vt)) := ai ww
 have e0 : (L2.upd H1 l0 (.lst vt)) l0 = some (.lst vt) := ae
 generalize L2.upd H1 l0 (.lst vt) = H2 at s2 e0 ⊢
 refine ⟨_, rfl, p, _, _, _, rfl, rfl, bR.of (s2 _ _ hp), qd, _, rfl, p, _, _, _, rfl, rfl, bR.of (s2 _ _ hp), at2, bq, _, rfl, .inl (bz.of (s2 _ _ hq)), fun l1 yI => ?_⟩
 have s3 : am H2 (L2.upd H2 l1 (.lst vq)) := ai yI
 have e1 : (L2.upd H2 l1 (.lst vq)) l1 = some (.lst vq) := ae
 generalize L2.upd H2 l1 (.lst vq) = H3 at s3 e1 ⊢
 have qY := s2.trans s3
 refine fun pm dx nx Ny RG => ?_
 have Lx : am H3 (L2.upd (L2.upd H3 dx (.own pm)) pm (.ins C dx [])) := az (ai Ny) nx
 have st := qY.trans Lx
 refine ⟨pm, dx, l0, l1, ts, r, qs, rfl, ae, ⟨vt, Lx _ _ (s3 _ _ e0), dt.mono st⟩, ok, ND.r1, ND.r3, ⟨vq, Lx _ _ e1, dq.mono st⟩, by omega, ND.q, fun H4 NA kp => ⟨rfl, ?_⟩⟩
 refine fun kd Mx KF BR => ?_
 have s5 : am H4 (L2.upd H4 kd Mx) := ai KF
 generalize L2.upd H4 kd Mx = H5 at s5 BR ⊢
 refine ⟨_, rfl, pm, ts, r, qs, rfl, NA.mono s5, ok, fun l H6 g hl s6 fw hL => ?_⟩
 have Om := s5.trans s6
 obtain ⟨vl, xK, dl⟩ := hL
 have lvl := aK dl
 have zb := gA qs l6
 have lh : (tf ts qs g).length = (bj qs ts.length).length := by unfold tf; rw [Sr]
 have Ei := BR.mono s6
 obtain ⟨x6, e6⟩ := Ei.at
 have nl : l ≠ kd := cR xK e6 (by intro z; cases z)
 have fB : ∀ {H' : Hp}, qr H6 kd H' -> ∀ b vs, H6 b = some (.tup vs) -> H' b = some (.tup vs) := fun bt b vs e => bt b _ (cR e e6 (by intro z; cases z)) e
 refine ⟨l, rfl, ⟨_, bz.of xK⟩, eH (K := K) (a := l) (xs := vl) (fun i σ H' => am H4 H' /\ qr H6 kd H' /\ (∃ v4, σ = [some (.ref a), some (.ref p), some (.ref pm), some (.ref kd), v4, none, none]) /\ DW P w H' kd ((ov ts qs g).take i))
  ⟨Om, qr.of (am.refl _), ⟨_, rfl⟩, Ei⟩ (fun i σ H' _ ⟨_, bt, _⟩ => bz.of (bt _ _ nl xK)) ?_ ?_⟩
 ·rintro i x σ H7 hi ⟨s7, bt, ⟨v4, rfl⟩, dw⟩
  obtain ⟨y, hy, dy⟩ := bG dl hi
  obtain ⟨c, b, rfl, hc, hb⟩ := FF (uP (fB bt) dy (A3 _))
  have eo : (ov ts qs g)[i]? = some (y.1, oV y.2) := by
   unfold tf at hy
   rw [SH, Tl] at hy
   obtain ⟨ax, h1, rfl⟩ := hy
   unfold ov
   rw [SH, h1]
   rfl
  have nk : y.1 ∉ ((ov ts qs g).take i).map (·.1) := by
   rw [List.map_take, m8]
   refine o8 (j4 _ _) ?_
   rw [<- m8 ts qs g, SH, eo]
   rfl
  have RY := (SR.mp hi).1
  refine ⟨_, rfl, c, _, _, _, rfl, rfl, bR.of hc, qd, _, rfl, _, rfl, c, _, _, _, rfl, rfl, bR.of hc, uK, kd, b, y.1, _, rfl, rfl, hb, dw, aX (by rw [SS]; omega), fun o' BC => ?_⟩
  rw [sy nk] at BC
  refine ⟨az s7 KF, bt.upd, ⟨_, rfl⟩, ?_⟩
  rw [SV, eo]
  exact BC
 ·rintro σ H7 ⟨s7, bt, ⟨v4, rfl⟩, dw⟩
  have lo : (ov ts qs g).length = (bj qs ts.length).length := by unfold ov; rw [Sr]
  rw [SF (by omega)] at dw
  have K5 := NA.mono s7
  obtain ⟨MO, t7, q7, MV, _, _⟩ := id K5.ex
  refine ⟨_, rfl, pm, MO, _, rfl, MV, rfl, pm, rfl, fun le H8 s8 he => ?_⟩
  obtain ⟨_, e, he⟩ := cO (st := bu) he
  cases e
  refine ⟨_, rfl, kd, le, bu, _, rfl, rfl, he, (dw.mono s8).ds, _, rfl, ?_⟩
  by_cases ui : bu ∈ bj qs ts.length
  ·rw [gN ui]
   obtain ⟨fi, _⟩ := fw.yes ui
   obtain ⟨u, JX, _⟩ := fi.base
   have u0 := tS ok fw JX
   subst u0
   refine yb ?_
   refine ⟨_, rfl, _, rfl, pm, MO, _, rfl, s8 _ _ MV, rfl, pm, rfl, fun Jc H9 s9 E5 => ?_⟩
   obtain ⟨_, e, E5⟩ := cO (st := bu) E5
   cases e
   have Ky := s8.trans s9
   refine ⟨kd, Jc, bu, _, _, rfl, rfl, E5, (dw.mono Ky).ds, gN ui, ?_⟩
   rw [JX]
   refine ⟨rfl, _, rfl, wq rfl ?_⟩
   exact rC H9 p pm kd ts r qs g v4 ok (K5.mono Ky) (dw.mono Ky) fw
  ·rw [lZ (by rw [m8]; exact ui)]
   exact fV (fV (rC H8 p pm kd ts r qs g v4 ok (K5.mono s8) (dw.mono s8) fw))
end
open PySem L2
theorem Ey {K : Vj} {D : Addr} {v : Value} (h : PySem.W.mroIn K D v = some true) : (PySem.W.clsIn K D).isSome = true := by
 unfold PySem.W.mroIn at h
 cases e : PySem.W.clsIn K D with
 | none => rw [e] at h; cases h
 | some c => rfl
theorem na {K : Vj} {C : Addr} {x : Str} (a : PySem.W.findIn K (.ref C) x = some none := by k_is) : fZ K C x := a
section
variable {K : Vj} {h : Heap} {mg : Str -> Option Value} (X : K.In h) (G : h.Ns mainGlobals mg)
include X G
abbrev KM {E : Addr} (_ : mg "FerryError" = some (.ref E)) : Addr := E
theorem nn {x : Str} (a : PySem.W.nsIn K mainGlobals x = some none := by k_is) : mg x = none := PySem.W.mg_none_of X G a
theorem gl (x : Str) {D : Addr} (a : PySem.W.nsIn K mainGlobals x = some (some (.ref D)) := by k_is) : mg x = some (.ref D) := U9 X G a
theorem Bi (x : Str) {D : Addr} (a : PySem.W.nsIn K mainGlobals x = some (some (.ref D)) := by k_is) : ∃ D, mg x = some (.ref D) := ⟨D, U9 X G a⟩
theorem sV (x : Str) (i : Int) {k : Tok} (a : PySem.W.nsIn K mainGlobals x = some (some (.int i k)) := by k_is) : ∃ k, mg x = some (.int i k) := ⟨k, U9 X G a⟩
theorem HD (x : Str) {D : Addr} {d : Option Addr} {t0 t1 : Tok} {n : Nat} {sl : Array (Option Value)} (a : PySem.W.nsIn K mainGlobals x = some (some (.ref D)) := by k_is) (l : K.lookup D = some ⟨.type "tuple", d, .seq #[.int 0 t0, .int 1 t1] n, sl⟩ := by k_is) : ∃ D, mg x = some (.ref D) /\ ∀ H, bR K H D [.int 0, .int 1] :=
 ⟨D, U9 X G a, fun H => .inr ⟨_, _, _, l, rfl, rfl, by show 2 <= sizeLine; decide, .cons ⟨_, rfl⟩ (.cons ⟨_, rfl⟩ .nil)⟩⟩
theorem bd (x : Str) (st : Stmt) (ps : List Str) {f : Addr} {oc : Value} {od an : Option Addr} {sl : Array (Option Value)} {kV dc pm cd ct : Value} (a : PySem.W.nsIn K mainGlobals x = some (some (.ref f)) := by k_is)
  (l : K.lookup f = some ⟨oc, od, .func (PySem.W.fnOf x x (eC st) (ci st) (aj st) .none kV dc pm an cd ct), sl⟩ := by k_is) (c : PySem.W.codeIn K cd x = true := by k_is) (k : PySem.W.keepIn K (.ref f) = true := by k_is)
  (b : ∀ (kV dc pm : Value) (an : Option Addr) (cd ct : Value) (us : List Value), us.length = ps.length -> bindArgs (PySem.W.fnOf x x (eC st) (ci st) (aj st) .none kV dc pm an cd ct) ⟨us, []⟩ = pure (ps.zip us) := by
   intro _ _ _ _ _ _ us hl; rcases us with _ | ⟨_, _ | ⟨_, _ | ⟨_, _ | ⟨_, _ | ⟨_, _⟩⟩⟩⟩⟩ <;> first | rfl | cases hl) : ∃ f fd, Fn K mg x st f fd ps := ⟨f, _, lN l c k, (lN l c k).binds b, U9 X G a⟩
omit G in
theorem qw {C : Addr} (_ : mg "Night" = some (.ref C)) (x y : Str) (st : Stmt) (ps : List Str) {f : Addr} {oc : Value} {od an : Option Addr} {sl : Array (Option Value)} {kV dc pm cd ct : Value} (a : PySem.W.findIn K (.ref C) x = some (some (.ref f)) := by k_is) (i : PySem.W.isFn K (.ref f) = true := by k_is)
  (l : K.lookup f = some ⟨oc, od, .func (PySem.W.fnOf x y (eC st) (ci st) (aj st) .none kV dc pm an cd ct), sl⟩ := by k_is) (c : PySem.W.codeIn K cd y = true := by k_is) (k : PySem.W.keepIn K (.ref f) = true := by k_is)
  (b : ∀ (kV dc pm : Value) (an : Option Addr) (cd ct : Value) (us : List Value), us.length = ps.length -> bindArgs (PySem.W.fnOf x y (eC st) (ci st) (aj st) .none kV dc pm an cd ct) ⟨us, []⟩ = pure (ps.zip us) := by
   intro _ _ _ _ _ _ us hl; rcases us with _ | ⟨_, _ | ⟨_, _ | ⟨_, _ | ⟨_, _ | ⟨_, _⟩⟩⟩⟩⟩ <;> first | rfl | cases hl) : ∃ f fd, Mt K x y st f fd ps /\ Meth K C x f := ⟨f, _, ⟨lN l c k, (lN l c k).binds b⟩, a, i, k⟩
theorem Az {E : Addr} (_ : mg "FerryError" = some (.ref E)) (x : Str) {D : Addr} (a : PySem.W.nsIn K mainGlobals x = some (some (.ref D)) := by k_is) (e1 : PySem.W.excIn K D HG "ValueError.__new__" = true := by k_exc) (e2 : PySem.W.findIn K (.ref D) "__getattribute__" = some (some (.builtin "BaseException.__getattribute__")) := by k_is)
  (e3 : PySem.W.findIn K (.ref D) "__getattr__" = some none := by k_is) (e4 : PySem.W.findIn K (.ref D) "__class__" = some (some (.builtin "object.__class__")) := by k_is) (gt : PySem.W.specialIn K (.builtin "object.__class__") "__get__" = some (some (.builtin "getset_descriptor.__get__")) := by k_is)
  (tk : PySem.W.takesIn K (.builtin "object.__class__") = some true := by k_is) (e5 : PySem.W.mroIn K D (.type "object") = some true := by k_is) (e6 : PySem.W.mroIn K D (.type "BaseException") = some true := by k_is) (e8 : PySem.W.exmOne K (.ref D) (.ref E) = some true := by kts_exm)
  (e9 : PySem.W.kitOne K (.ref D) (.type "ValueError") = some true := by kit_is) : ∃ D, ∀ Z : Ad, Z.j0 = E -> Ref K mg Z x D := ⟨D, fun Z hZ => ⟨U9 X G a, e1, ⟨e2, e3, e4, gt, tk, e5, e6, Ey e5⟩, by rw [hZ]; exact e8, e9⟩⟩
theorem GP (x : Str) (st : Stmt) {f : Addr} {oc : Value} {od an : Option Addr} {sl : Array (Option Value)} {kV dc pm cd ct : Value} (a : PySem.W.nsIn K mainGlobals x = some (some (.ref f)) := by k_is)
  (l : K.lookup f = some ⟨oc, od, .func (PySem.W.fnOf x x (eC st) (ci st) (aj st) .none kV dc pm an cd ct), sl⟩ := by k_is) (c : PySem.W.codeIn K cd x = true := by k_is) (k : PySem.W.keepIn K (.ref f) = true := by k_is)
  (b : ∀ (kV dc pm : Value) (an : Option Addr) (cd ct : Value) (us : List Value), us.length = 1 -> bindArgs (PySem.W.fnOf x x (eC st) (ci st) (aj st) .none kV dc pm an cd ct) ⟨us, []⟩ = pure ((["script"] : List Str).zip us) := by
   intro _ _ _ _ _ _ us hl; rcases us with _ | ⟨_, _ | ⟨_, _⟩⟩ <;> first | rfl | cases hl) : ∃ f fd, Fn K mg x st f fd ["script"] /\ ∀ (s : Shared) (v : Value), BindsTo s fd ⟨[v], []⟩ [("script", v)] := ⟨f, _, ⟨lN l c k, (lN l c k).binds b, U9 X G a⟩, fun s v => .of_eq (b _ _ _ _ _ _ [v] rfl)⟩
end
theorem walk {l : PySem.W.OpenLaw} {q : Program} {loose : List Str} {XP : (Str -> Option Value) -> Heap -> Prop} {YP : World -> Heap -> Prop} {d : DefRec} {K : Params -> Vj} (hn : l.most = some 63) (GS : d.params.defaults = [])
  (hY : ∀ (w : World) (h : Heap), YP w h -> (K w.params).In h)
  (F : ∀ (w : World) (mg : Str -> Option Value) (fa : Addr) (h : Heap), (K w.params).In h -> h.Ns mainGlobals mg -> mg d.name = some (.ref fa) ->
   ∃ fd : FuncData, (∀ (s : Shared) (u : Value), BindsTo s fd ⟨[u], []⟩ [("script", u)]) /\ ∀ base : Heap, (K w.params).In base -> base.Ns mainGlobals mg -> aq l.prog w (K w.params) mg base bA 8 fa fd ["script"] (vO (K w.params))) :
  PySem.W.WalkO q loose XP YP l.row.toRowW d [] (fun f vs => PySem.call f vs) :=
 L2.B0 (n := 63) (k := 8) (x := "script") (CX := fun _ => bA) (sp := fun w => vO (K w.params)) hn (by decide) GS ⟨rfl, by decide, by decide⟩ hY F (fun _ _ a ns hl _ hS => ⟨a, ns, rfl, hS, hl, fun _ => rfl⟩) fun _ _ _ _ _ z => z
end FN
def PySem.W.Fast.tw9898812290601216000 : Unit := ()
def PySem.W.Fast.tw6390884414338798528 : Unit := ()
def PySem.W.Fast.tw5675680988097329569 : Unit := ()
def PySem.W.Fast.tw14871454452482124002 : Unit := ()
def PySem.W.Fast.tw17489573026236126978 : Unit := ()
def PySem.W.Fast.tw1742244589713361286 : Unit := ()
def PySem.W.Fast.tw5894782720308127819 : Unit := ()
def PySem.W.Fast.tw2663626161941390924 : Unit := ()
def PySem.W.Fast.tw116032297204460525 : Unit := ()
def PySem.W.Fast.tw5585798373035687282 : Unit := ()
def PySem.W.Fast.tw8298841616980626932 : Unit := ()
def PySem.W.Fast.tw3763800404587768311 : Unit := ()
def PySem.W.Fast.tw4279490586366792312 : Unit := ()
def PySem.W.Fast.tw8611129178365907035 : Unit := ()
def PySem.W.Fast.tw1411451360686945373 : Unit := ()
def PySem.W.Fast.tw3726263621959276254 : Unit := ()
def PySem.W.Fast.tw18184877321975890335 : Unit := ()
def PySem.W.Fast.tw10869231854981243308 : Unit := ()
def PySem.W.Fast.tw7142074407567934148 : Unit := ()
def PySem.W.Fast.tw17616350327514121562 : Unit := ()
def PySem.W.Fast.tw3996136959564796484 : Unit := ()
def PySem.W.Fast.tw10198952838294529045 : Unit := ()
def PySem.W.Fast.tw8336490466282259572 : Unit := ()
def PySem.W.Fast.tw16790515287331273410 : Unit := ()
def PySem.W.Fast.tw7534048639197638165 : Unit := ()
def PySem.W.Fast.tw14876520767108883227 : Unit := ()
def PySem.W.Fast.tw17707773418798469912 : Unit := ()
def PySem.W.Fast.tw16518967391040220502 : Unit := ()
def PySem.W.Fast.tw7563428409057037203 : Unit := ()
def PySem.W.Fast.tw621676561871310570 : Unit := ()
def PySem.W.Fast.tw13064884142953752827 : Unit := ()
def PySem.W.Fast.tw17965975637387604186 : Unit := ()
def PySem.W.Fast.tw12239236065063132161 : Unit := ()
def PySem.W.Fast.tw1073347977584201613 : Unit := ()
def PySem.W.Fast.tw12141731078606623308 : Unit := ()
def PySem.W.Fast.tw1918241950966712064 : Unit := ()
def PySem.W.Fast.tw6756084744898283332 : Unit := ()
def PySem.W.Fast.tw85005664946731665 : Unit := ()
def PySem.W.Fast.tw18432693494173213365 : Unit := ()
def PySem.W.Fast.tw17187254028936745735 : Unit := ()
def PySem.W.Fast.tw9452450212982367806 : Unit := ()
def PySem.W.Fast.tw14745777163972754202 : Unit := ()
def PySem.W.Fast.tw11678999525890281421 : Unit := ()
def PySem.W.Fast.tw12753223177543712348 : Unit := ()
def PySem.W.Fast.tw17885945588615406155 : Unit := ()
def PySem.W.Fast.tw7437781963833970747 : Unit := ()
def PySem.W.Fast.tw15067933065806734576 : Unit := ()
def PySem.W.Fast.tw12534749373473512772 : Unit := ()
def PySem.W.Fast.tw5313772709355954748 : Unit := ()
def PySem.W.Fast.tw5410753431602445752 : Unit := ()
def PySem.W.Fast.tw3735280944940592728 : Unit := ()
def PySem.W.Fast.tw12970052707701537163 : Unit := ()
def PySem.W.Fast.tw5219006133052725636 : Unit := ()
def PySem.W.Fast.tw10702565169646409530 : Unit := ()
def PySem.W.Fast.tw1364428445435018968 : Unit := ()
def PySem.W.Fast.tw14298157338093756766 : Unit := ()
def PySem.W.Fast.tw8808314706792773665 : Unit := ()
def PySem.W.Fast.tw2552119510331079727 : Unit := ()
def PySem.W.Fast.tw17679750915833761148 : Unit := ()
def PySem.W.Fast.tw16461655625934078000 : Unit := ()
def PySem.W.Fast.tw10565281017020950561 : Unit := ()
def PySem.W.Fast.tw7276988258870216984 : Unit := ()
def PySem.W.Fast.tw11881487293265493145 : Unit := ()
def PySem.W.Fast.tw16439238682696655282 : Unit := ()
def PySem.W.Fast.tw17017989688532666352 : Unit := ()
def PySem.W.Fast.tw8304611809785035158 : Unit := ()
def PySem.W.Fast.tw3059971101640251292 : Unit := ()
def PySem.W.Fast.tw3296414024550568587 : Unit := ()
def PySem.W.Fast.tw14905414937862348053 : Unit := ()
def PySem.W.Fast.tw12751065836932633382 : Unit := ()
def PySem.W.Fast.tw18180304465116389827 : Unit := ()
def PySem.W.Fast.tw12950952602926511692 : Unit := ()
def PySem.W.Fast.tw10484988315013226660 : Unit := ()
def PySem.W.Fast.tw17911162134447577713 : Unit := ()
def PySem.W.Fast.tw10153552197986502719 : Unit := ()
def PySem.W.Fast.tw9515921879808619316 : Unit := ()
def PySem.W.Fast.tw3239144447925607447 : Unit := ()
def PySem.W.Fast.tw641057973264868837 : Unit := ()
def PySem.W.Fast.tw3363682183790783649 : Unit := ()
def PySem.W.Fast.tw13398985308693259437 : Unit := ()
def PySem.W.Fast.tw17514898518382963088 : Unit := ()
def PySem.W.Fast.tw9150415467519660477 : Unit := ()
def PySem.W.Fast.tw9314929863000340279 : Unit := ()
def PySem.W.Fast.tw6534785169838059244 : Unit := ()
def PySem.W.Fast.tw15574255645840501365 : Unit := ()
def PySem.W.Fast.tw7547605887317750272 : Unit := ()
def PySem.W.Fast.tw12434583981288353659 : Unit := ()
def PySem.W.Fast.tw16415870291308204033 : Unit := ()
def PySem.W.Fast.tw13649810429816379847 : Unit := ()
def PySem.W.Fast.tw9023329161814417590 : Unit := ()
def PySem.W.Fast.tw3815064100001121580 : Unit := ()
def PySem.W.Fast.tw17891951237726780088 : Unit := ()
def PySem.W.Fast.tw13452817443145421819 : Unit := ()
def PySem.W.Fast.tw16650538523002574802 : Unit := ()
def PySem.W.Fast.tw6573279185011236983 : Unit := ()
def PySem.W.Fast.tw11572167303728513220 : Unit := ()
def PySem.W.Fast.tw2359049975287608174 : Unit := ()
def PySem.W.Fast.tw11210112848975112641 : Unit := ()
def PySem.W.Fast.tw13567753693951163804 : Unit := ()
def PySem.W.Fast.tw1530364468030402044 : Unit := ()
def PySem.W.Fast.tw8798053397376660212 : Unit := ()
def PySem.W.Fast.tw14378809438980254561 : Unit := ()
def PySem.W.Fast.tw5586693684814779885 : Unit := ()
def PySem.W.Fast.tw10888804104838185358 : Unit := ()
def PySem.W.Fast.tw9989964586979424547 : Unit := ()
def PySem.W.Fast.tw6055034339546010387 : Unit := ()
def PySem.W.Fast.tw11416398103588617197 : Unit := ()
def PySem.W.Fast.tw11894902968899771341 : Unit := ()
def PySem.W.Fast.tw18146521529331726875 : Unit := ()
def PySem.W.Fast.tw6293235608353592595 : Unit := ()
def PySem.W.Fast.tw7795850823925294593 : Unit := ()
def PySem.W.Fast.tw9710397260291059954 : Unit := ()
def PySem.W.Fast.tw14985135474488943143 : Unit := ()
def PySem.W.Fast.tw17623312677144131118 : Unit := ()
def PySem.W.Fast.tw10498498031804544895 : Unit := ()
def PySem.W.Fast.tw10303876970541212949 : Unit := ()
def PySem.W.Fast.tw8320879769384505767 : Unit := ()
def PySem.W.Fast.tw8372857402028933413 : Unit := ()
def PySem.W.Fast.tw14499900934254757469 : Unit := ()
def PySem.W.Fast.tw15729868886364251047 : Unit := ()
def PySem.W.Fast.tw1298372170000726012 : Unit := ()
def PySem.W.Fast.tw486740867643409436 : Unit := ()
def PySem.W.Fast.tw13937007050586150220 : Unit := ()
def PySem.W.Fast.tw12399721662254456328 : Unit := ()
def PySem.W.Fast.tw809314089642864310 : Unit := ()
def PySem.W.Fast.tw5577097550275052606 : Unit := ()
def PySem.W.Fast.tw4812444299858714399 : Unit := ()
def PySem.W.Fast.tw4980148682994609552 : Unit := ()
def PySem.W.Fast.tw9487516064881049885 : Unit := ()
def PySem.W.Fast.tw2998277863079291065 : Unit := ()
def PySem.W.Fast.tw5448407834854673677 : Unit := ()
def PySem.W.Fast.tw7837140916320148091 : Unit := ()
def PySem.W.Fast.tw4250834593959164644 : Unit := ()
def PySem.W.Fast.tw4055847857406061476 : Unit := ()
def PySem.W.Fast.tw11748727544795420859 : Unit := ()
def PySem.W.Fast.tw10900110263930966216 : Unit := ()
def PySem.W.Fast.tw2521177918122970605 : Unit := ()
def PySem.W.Fast.tw2461786520355872846 : Unit := ()
def PySem.W.Fast.tw9088329126962979232 : Unit := ()
def PySem.W.Fast.tw16877810809872815878 : Unit := ()
def PySem.W.Fast.tw18222030467845692224 : Unit := ()
def PySem.W.Fast.tw5932000407135167719 : Unit := ()
def PySem.W.Fast.tw4058546080134019522 : Unit := ()
def PySem.W.Fast.tw15445376892596493691 : Unit := ()
def PySem.W.Fast.tw983155995114910230 : Unit := ()
def PySem.W.Fast.tw4843123059969775417 : Unit := ()
def PySem.W.Fast.tw11973780722692785325 : Unit := ()
def PySem.W.Fast.tw6893795354602829736 : Unit := ()
def PySem.W.Fast.tw18379112476379352233 : Unit := ()
def PySem.W.Fast.tw13354915647048833041 : Unit := ()
def PySem.W.Fast.tw8164471741731314154 : Unit := ()
def PySem.W.Fast.tw2491127386058511037 : Unit := ()
def PySem.W.Fast.tw6814199941998855917 : Unit := ()
def PySem.W.Fast.tw408805025078141793 : Unit := ()
def PySem.W.Fast.tw7542442019244471524 : Unit := ()
def PySem.W.Fast.tw2938957993439727709 : Unit := ()
def PySem.W.Fast.tw1442233208472368932 : Unit := ()
def PySem.W.Fast.tw2186239982904697743 : Unit := ()
def PySem.W.Fast.tw16992145026117687755 : Unit := ()
def PySem.W.Fast.tw2750880189451256231 : Unit := ()
def PySem.W.Fast.tw3560555616448539268 : Unit := ()
def PySem.W.Fast.tw12658867498574548810 : Unit := ()
def PySem.W.Fast.tw8310784230488478986 : Unit := ()
def PySem.W.Fast.tw2258980615476370921 : Unit := ()
def PySem.W.Fast.tw8864429487532838411 : Unit := ()
def PySem.W.Fast.tw7551212421471338145 : Unit := ()
def PySem.W.Fast.tw12197531531762507376 : Unit := ()
def PySem.W.Fast.tw5998531777715588644 : Unit := ()
def PySem.W.Fast.tw13938106651426028075 : Unit := ()
def PySem.W.Fast.tw13092919857260824787 : Unit := ()
def PySem.W.Fast.tw17646677961071621237 : Unit := ()
def PySem.W.Fast.tw13193451393534278355 : Unit := ()
def PySem.W.Fast.tw16235323200204456626 : Unit := ()
def PySem.W.Fast.tw3337817131178137050 : Unit := ()
def PySem.W.Fast.tw5193763930098432735 : Unit := ()
def PySem.W.Fast.tw4076852766594570269 : Unit := ()
def PySem.W.Fast.tw7095301397997345195 : Unit := ()
def PySem.W.Fast.tw13777052471571187244 : Unit := ()
def PySem.W.Fast.tw11443119394246060114 : Unit := ()
def PySem.W.Fast.tw17031624171462702138 : Unit := ()
def PySem.W.Fast.tw6869906797230954867 : Unit := ()
def PySem.W.Fast.tw17951822605210679637 : Unit := ()
def PySem.W.Fast.tw1625411392270438012 : Unit := ()
def PySem.W.Fast.tw11498276732478409499 : Unit := ()
def PySem.W.Fast.tw6982384328480846430 : Unit := ()
def PySem.W.Fast.tw3555621126135632783 : Unit := ()
def PySem.W.Fast.tw10584577820071541861 : Unit := ()
def PySem.W.Fast.tw5706781624132270995 : Unit := ()
def PySem.W.Fast.tw6486338081760237200 : Unit := ()
def PySem.W.Fast.tw8660346719266171647 : Unit := ()
def PySem.W.Fast.tw688778385313462886 : Unit := ()
def PySem.W.Fast.tw16838814785085951850 : Unit := ()
def PySem.W.Fast.tw3248823339584591907 : Unit := ()
def PySem.W.Fast.tw15747091525439634381 : Unit := ()
def PySem.W.Fast.tw1239013749997989176 : Unit := ()
def PySem.W.Fast.tw16635714434402487219 : Unit := ()
def PySem.W.Fast.tw10941943804554542971 : Unit := ()
def PySem.W.Fast.tw15667192990697750282 : Unit := ()
def PySem.W.Fast.tw8145961154636324745 : Unit := ()
def PySem.W.Fast.tw17322772352306009844 : Unit := ()
def PySem.W.Fast.tw11620670892853337215 : Unit := ()
def PySem.W.Fast.tw17753332223093137398 : Unit := ()
def PySem.W.Fast.tw8413352981589937313 : Unit := ()
def PySem.W.Fast.tw10482631942240377848 : Unit := ()
def PySem.W.Fast.tw10031794904939767114 : Unit := ()
def PySem.W.Fast.tw2047065045254324884 : Unit := ()
def PySem.W.Fast.tw415249356617185710 : Unit := ()
def PySem.W.Fast.tw17834596622496191556 : Unit := ()
def PySem.W.Fast.tw15826796978440098143 : Unit := ()
def PySem.W.Fast.tw1292670087069600239 : Unit := ()
def PySem.W.Fast.tw17611858509938834080 : Unit := ()
def PySem.W.Fast.tw17044434480368123231 : Unit := ()
def PySem.W.Fast.tw4866704586208652328 : Unit := ()
def PySem.W.Fast.tw8566895677065781557 : Unit := ()
def PySem.W.Fast.tw12869554012130896843 : Unit := ()
def PySem.W.Fast.tw16073087107456365270 : Unit := ()
def PySem.W.Fast.tw11296670046953937660 : Unit := ()
def PySem.W.Fast.tw5313860268175962708 : Unit := ()
def PySem.W.Fast.tw16062953447440477083 : Unit := ()
def PySem.W.Fast.tw17148789878507234809 : Unit := ()
def PySem.W.Fast.tw4897285885505893730 : Unit := ()
def PySem.W.Fast.tw9718492341691820557 : Unit := ()
def PySem.W.Fast.tw13598490489995203413 : Unit := ()
def PySem.W.Fast.tw1411410256170608520 : Unit := ()
def PySem.W.Fast.tw30903001298556457 : Unit := ()
def PySem.W.Fast.tw15251110981075670690 : Unit := ()
def PySem.W.Fast.tw14006979122068731553 : Unit := ()
def PySem.W.Fast.tw2646142467757552547 : Unit := ()
def PySem.W.Fast.tw1319410490480574645 : Unit := ()
def PySem.W.Fast.tw5004954920061292360 : Unit := ()
def PySem.W.Fast.tw8685858960087197200 : Unit := ()
def PySem.W.Fast.tw5586677033660382285 : Unit := ()
def PySem.W.Fast.tw4757715359195498062 : Unit := ()
def PySem.W.Fast.tw3834615286253766868 : Unit := ()
def PySem.W.Fast.tw269631844232181973 : Unit := ()
def PySem.W.Fast.tw2408635008696322874 : Unit := ()
def PySem.W.Fast.tw15934593412490106259 : Unit := ()
open PySem PySem.W PyProof.Rows
set_option maxRecDepth 100000 in
set_option maxHeartbeats 0 in
theorem PySem.Challenge.cw_ferrynight_k07_whole_heights_and_plans_a_holds : PySem.Challenge.rw_ferrynight_k07_whole_heights_and_plans_a.Holds := by
 w_on; o_law; k_head; (case hw => w_witness2)
 k_fill
 refine FN.walk (l := PySem.Challenge.rw_ferrynight_k07_whole_heights_and_plans_a) rfl rfl (fun w h Y => PySem.W.kIn_of Y) ?F
 case F =>
  intro w mg fa h KX G Gx
  have gC := FN.gl KX G "Night"
  have gF := FN.gl KX G "FerryError"
  obtain ⟨Oa, QQ, Pg⟩ := FN.bd KX G "check_things" FN.cG ["things"]
  obtain ⟨Qh, NT, Ri⟩ := FN.bd KX G "check_room" FN.dC ["room"]
  obtain ⟨N5, N6, Rg⟩ := FN.bd KX G "is_pair" FN.eZ ["one", "other", "count"]
  obtain ⟨QA, OK, Pn⟩ := FN.bd KX G "is_keeper" FN.di ["keeper", "one", "other", "count"]
  obtain ⟨PR, Pl, QX⟩ := FN.bd KX G "check_quarrels" FN.bY ["quarrels", "count"]
  obtain ⟨f4, d4, F4⟩ := FN.bd KX G "is_thing" FN.ck ["number", "count"]
  obtain ⟨f5, d5, F5⟩ := FN.bd KX G "rises" FN.kW ["group"]
  obtain ⟨f6, d6, F6⟩ := FN.bd KX G "is_standing" FN.eu ["night", "standing"]
  obtain ⟨f7, d7, F7⟩ := FN.bd KX G "other_bank" FN.dE ["night", "group"]
  obtain ⟨f8, d8, F8⟩ := FN.bd KX G "is_good" FN.jo ["night", "standing"]
  obtain ⟨f9, d9, F9⟩ := FN.bd KX G "check_standing" FN.dN ["night", "standing"]
  obtain ⟨Oi, OL, NE⟩ := FN.bd KX G "check_start" FN.fY ["night", "standing"]
  obtain ⟨O1, NU, QB⟩ := FN.bd KX G "groups_of" FN.fP ["bank"]
  obtain ⟨Op, Rk, Qm⟩ := FN.bd KX G "bank_of_boat" FN.fb ["night", "standing"]
  obtain ⟨Qd, PB, QD⟩ := FN.bd KX G "is_manned" FN.iP ["night", "crew"]
  obtain ⟨Pd, Qk, QE⟩ := FN.bd KX G "crossed" FN.jk ["standing", "crew"]
  obtain ⟨RB, Rp, OW⟩ := FN.bd KX G "crews" FN.qH ["night", "standing"]
  obtain ⟨PN, OF, Rz⟩ := FN.bd KX G "_law_cell_at" FN.bJ ["script", "k"]
  obtain ⟨PF, P0, Ps⟩ := FN.bd KX G "_law_quarrel" FN.bZ ["cell", "many"]
  obtain ⟨Qi, Rm, Qp⟩ := FN.bd KX G "_law_quarrels" FN.cr ["script", "start", "many"]
  obtain ⟨QW, Q3, Qj⟩ := FN.bd KX G "_law_things" FN.cW ["script", "start", "many"]
  obtain ⟨Od, Ow, P9⟩ := FN.bd KX G "_law_night" FN.cM ["script", "most"]
  obtain ⟨Oe, NN, Os⟩ := FN.bd KX G "_law_no_lower" FN.cZ ["made", "known", "standing"]
  obtain ⟨Qz, NI, Qy⟩ := FN.bd KX G "after" FN.lr ["night", "standing", "crew"]
  obtain ⟨PV, OT, Re⟩ := FN.bd KX G "takes" FN.nv ["night", "standing", "plan"]
  obtain ⟨NP, Rf, NS⟩ := FN.bd KX G "plan_from" FN.eG ["crossings", "fewest", "standing", "end"]
  obtain ⟨QL, NF, OZ⟩ := FN.bd KX G "come_to" FN.gG ["crossings", "standing"]
  obtain ⟨Qc, OC, Rb⟩ := FN.bd KX G "heights" FN.jc ["night"]
  obtain ⟨Rn, O2, O5⟩ := FN.bd KX G "shortest" FN.gY ["night", "standing"]
  obtain ⟨Ot, N0, Pk⟩ := FN.bd KX G "minutes" FN.gI ["night", "crew"]
  obtain ⟨OY, QM, OO⟩ := FN.bd KX G "by_side" FN.eY ["standing"]
  obtain ⟨Rx, N9, OX⟩ := FN.bd KX G "good_standings" FN.cL ["night"]
  obtain ⟨Pp, Pz, O9⟩ := FN.bd KX G "all_crossings" FN.eP ["night"]
  obtain ⟨Ov, Oq, Qw⟩ := FN.bd KX G "begun_by" FN.dY ["ways", "fewest"]
  obtain ⟨NG, Q0, PH⟩ := FN.bd KX G "with_one_more" FN.c6 ["crossings", "fewest"]
  obtain ⟨Rc, Qv, QG⟩ := FN.bd KX G "fewest_minutes" FN.b8 ["crossings", "end"]
  obtain ⟨f1, d1, F1, M1⟩ := FN.qw KX gC "things" "Night.things" FN.bp ["self"]
  obtain ⟨f2, d2, F2, M2⟩ := FN.qw KX gC "room" "Night.room" FN.eT ["self"]
  obtain ⟨f3, d3, F3, M3⟩ := FN.qw KX gC "peace" "Night.peace" FN.cQ ["self", "group"]
  obtain ⟨Og, Rr, Pw, Nf⟩ := FN.qw KX gC "__init__" "Night.__init__" FN.cI ["self", "things", "room", "quarrels"]
  obtain ⟨NX, O8, PP, NR⟩ := FN.qw KX gC "begins" "Night.begins" FN.cF ["self"]
  obtain ⟨Rv, Nz, P1, Of⟩ := FN.qw KX gC "ends" "Night.ends" FN.dB ["self"]
  obtain ⟨RM, MM, Nu, Oo⟩ := FN.GP KX G "law" FN.sQ
  obtain ⟨k0, v0⟩ := FN.sV KX G "MOST_THINGS" (6)
  obtain ⟨k1, v1⟩ := FN.sV KX G "MOST_MINUTES" (1000000000)
  obtain ⟨k2, v2⟩ := FN.sV KX G "MOST_ROOM" (3)
  obtain ⟨k3, v3⟩ := FN.sV KX G "MOST_QUARRELS" (30)
  obtain ⟨k4, v4⟩ := FN.sV KX G "NO_KEEPER" (-1)
  obtain ⟨sd, vS, lS⟩ := FN.HD KX G "SIDES"
  obtain ⟨xW, yo⟩ := FN.Bi KX G "BadThing"
  obtain ⟨Aw, AM⟩ := FN.Bi KX G "BadRoom"
  obtain ⟨uA, sv⟩ := FN.Bi KX G "BadQuarrel"
  obtain ⟨ue, uC⟩ := FN.Az KX G gF "NoStanding"
  obtain ⟨yn, yw⟩ := FN.Az KX G gF "BadStart"
  obtain ⟨Bz, B4⟩ := FN.Az KX G gF "NoCrew"
  let Z : FN.Ad := ⟨k0, k1, k2, k3, k4, sd, FN.KM gF, xW, Aw, uA, ue, yn, Bz, 0⟩
  have T : FN.Txt _ mg _ Z := ⟨FN.nn KX G, FN.nn KX G, FN.nn KX G, FN.nn KX G, FN.nn KX G, FN.nn KX G, FN.nn KX G, FN.nn KX G, FN.nn KX G, FN.nn KX G, FN.nn KX G, FN.nn KX G, FN.nn KX G, FN.nn KX G, FN.nn KX G, FN.nn KX G, v0, v1, v2, v3, v4, gC, ⟨by k_is, by k_is, by k_is, by k_is⟩, FN.na, FN.na, FN.na, vS, lS, gF, yo, AM, sv, uC Z rfl, yw Z rfl, B4 Z rfl⟩
  let fs : Nat -> Addr := fun i => match i with | 1 => f1 | 2 => f2 | 3 => f3 | 4 => f4 | 5 => f5 | 6 => f6 | 7 => f7 | 8 => f8 | 9 => f9 | 10 => Oi | 11 => O1 | 12 => Op | 13 => Qd | 14 => Pd | 15 => RB | 21 => Oa | 22 => Qh | 23 => N5 | 24 => QA | 25 => PR | 26 => Og | 28 => PN | 30 => PF | 31 => Qi | 32 => QW | 33 => Od | 34 => Oe | 35 => Qz | 36 => PV | 37 => NP | 38 => QL | 39 => Qc | 40 => Rn | 60 => NX | 61 => Rv | 62 => Ot | 63 => OY | 64 => Rx | 65 => Pp | 66 => Ov | 67 => NG | 68 => Rc | _ => 0
  let ds : Nat -> FuncData := fun i => match i with | 1 => d1 | 2 => d2 | 3 => d3 | 4 => d4 | 5 => d5 | 6 => d6 | 7 => d7 | 8 => d8 | 9 => d9 | 10 => OL | 11 => NU | 12 => Rk | 13 => PB | 14 => Qk | 15 => Rp | 21 => QQ | 22 => NT | 23 => N6 | 24 => OK | 25 => Pl | 26 => Rr | 28 => OF | 30 => P0 | 31 => Rm | 32 => Q3 | 33 => Ow | 34 => NN | 35 => NI | 36 => OT | 37 => Rf | 38 => NF | 39 => OC | 40 => O2 | 60 => O8 | 61 => Nz | 62 => N0 | 63 => QM | 64 => N9 | 65 => Pz | 66 => Oq | 67 => Q0 | 68 => Qv | _ => MM
  have lk : FN.Lk _ mg _ fs ds := ⟨M1, F1, M2, F2, M3, F3, F4, F5, F6, F7, F8, F9, NE, QB, Qm, QD, QE, OW⟩
  have lp : FN.Lp _ mg _ fs ds := ⟨NR, PP, Of, P1, Pk, OO, OX, O9, Qw, PH, QG⟩
  have A : FN.All _ mg _ fs ds := ⟨Pg, Ri, Rg, Pn, QX, Pw, Rz, Ps, Qp, Qj, P9, Os, Qy, Re, NS, OZ, Rb, O5, lk, lp, ⟨by k_is, Nf.at_, Nf.fn, by k_is⟩⟩
  cases Gx.symm.trans Nu.g
  exact ⟨MM, Oo, fun base _ _ => FN.Fo Nu T A⟩
