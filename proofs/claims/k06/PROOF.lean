import PyProof.Rows.All
import Wide.All
import OpenK.AllK
import Wide.FinOn
import Lean
import PyProof.EqAt
import PyProof.EqKinds
import PyProof.TupleCall
import PyProof.Rows.SortRuns
import PyProof.DictItems
import KE.KPairComp
import PySem.Challenge.RW_ferrynight_k06_whole_a_shortest_plan_or
set_option linter.all false
def VL:=@PySem.wpAny_bind
def VM:=@PySem.wpAny_pure
def VN:=@PySem.Heap.get?_push_of_some
def VO:=@List.length_map.{0,0}
def VP:=@Nat.le_refl
def VQ:=@List.mem_cons_of_mem.{0}
def VR:=@List.mem_cons_self.{0}
def VS:=@List.getElem?_eq_getElem.{0}
def VT:=@List.mem_cons.{0}
def VU:=@Bool.false_ne_true
def VV:=@List.map_append.{0,0}
def VW:=@Array.length_toList.{0}
def VX:=@PyProof.Rows.wpS_bind
def VY:=@PySem.Heap.get?_push_size
def VZ:=@Nat.le_trans
def V0:=@decide_eq_true
def V1:=@List.take_of_length_le.{0}
def V2:=@List.size_toArray.{0}
def V3:=@List.getElem?_map.{0,0}
def V4:=@PySem.Heap.lt_size
def V5:=@PyProof.Rows.wpS_pure
def V6:=@List.append_assoc.{0}
def V7:=@List.getD_eq_getElem?_getD.{0}
def V8:=@List.map_cons.{0,0}
def V9:=@List.pairwise_append.{0}
def Wa:=@List.getElem?_eq_some_iff.{0}
def Wb:=@List.length_take.{0}
def Wc:=@Bool.false_eq_true
def Wd:=@List.take_add_one.{0}
def We:=@decide_eq_false
def Wf:=@List.length_append.{0}
def Wg:=@List.length_filter_le.{0}
def Wh:=@List.mem_append.{0}
def Wi:=@of_decide_eq_true
def Wj:=@Nat.ne_of_lt
def Wk:=@List.filter_append.{0}
def Wl:=@Nat.zero_le
def Wm:=@List.mem_of_getElem?.{0}
def Wn:=@Nat.lt_of_lt_of_le
def Wo:=@List.mem_singleton.{0}
def Wp:=@List.mem_append_right.{0}
def Wq:=@List.mem_map.{0,0}
def Wr:=@List.filter_cons.{0}
def Ws:=@List.mem_filter.{0}
def Wt:=@PySem.wpAny_call_entry
def Wu:=@Bool.and_eq_true
def Wv:=@PySem.boot_len
def Ww:=@Bool.false_and
def Wx:=@List.map_map.{0,0,0}
def Wz:=@PySem.wpAny_newObj_type
def WA:=@PySem.PassesOwn.never
def WB:=@Array.toList_append.{0}
def WC:=@Option.map_eq_some_iff.{0,0}
def WD:=@List.getElem?_append_right.{0}
def WE:=@List.length_cons.{0}
def WF:=@bind_congr.{0,0}
def WG:=@List.pairwise_cons.{0}
def WH:=@if_false.{1}
def WI:=@List.mem_map_of_mem.{0,0}
def WJ:=@PySem.wpAny_dictEntries
def WK:=@List.pairwise_map.{0,0}
def WL:=@PySem.wpAny_callSpecial?_slot
def WM:=@Option.some.inj.{0}
def WN:=@Array.getElem?_toList.{0}
def WO:=@PySem.Heap.SameBut.update
def WP:=@List.all_eq_true.{0}
def WQ:=@Bool.not_true
def WR:=@PySem.wpAny_truthy_bool
def WS:=@Int.toNat_natCast
def WT:=@PySem.wpAny_field
def WU:=@PyProof.Rows.wpS_forRange
def WV:=@PySem.wpAny_setField_rec
def WW:=@List.nodup_cons.{0}
def WX:=@Nat.lt_irrefl
def WY:=@beq_eq_false_iff_ne.{0}
def WZ:=@PyProof.Rows.slot_tuple_getitem
def W0:=@congrArg.{1,1}
def W1:=@List.mem_iff_getElem.{0}
def W2:=@PySem.wpAny_holding
def W3:=@PySem.Paired.length
def W4:=@List.getElem?_append_left.{0}
def W5:=@PySem.wpAny_mono
def W6:=@Option.isSome_map.{0,0}
def W7:=@PySem.W.kia_one
def W8:=@List.forIn_cons.{0,0,0}
def W9:=@List.take_length.{0}
def Xa:=@List.countP_cons.{0}
def Xb:=@List.mem_of_mem_take.{0}
def Xc:=@List.mem_append_left.{0}
def Xd:=@PySem.F.plainAttrs_list
def Xe:=@if_true.{1}
def Xf:=@PyProof.Rows.wpS_mono
def Xg:=@List.drop_drop.{0}
def Xh:=@Bool.and_false
def Xi:=@List.take_sublist.{0}
def Xj:=@Array.size_append.{0}
def Xk:=@PySem.mem_of_lookup
def Xl:=@PySem.wpAny_rule
def Xm:=@PySem.wpAny_isInstance
def Xn:=@List.getElem_mem.{0}
def Xo:=@Option.isSome_iff_exists.{0}
def Xp:=@List.Pairwise.imp_of_mem.{0}
def Xq:=@PySem.wpAny_seqItems
def Xr:=@Nat.pow_le_pow_right
def Xs:=@PySem.F.slot_dict_itemiterator_next
def Xt:=@List.drop_sublist.{0}
def Xu:=@PySem.wpAny_dictEpoch
def Xv:=@List.find?_cons.{0}
def Xw:=@Array.size_push.{0}
def Xx:=@PySem.F.slot_dict_keyiterator_next
def Xy:=@PySem.sizeLine_eq
def Xz:=@PyProof.Rows.boot_tuple
def XA:=@List.take_append_drop.{0}
def XB:=@List.Perm.append_left.{0}
def XC:=@List.foldl_cons.{0,0}
def XD:=@Nat.le_succ
def XE:=@List.getElem_drop.{0}
def XF:=@PySem.Heap.get?_none_of_le
def XG:=@Array.toArray_toList.{0}
def XH:=@beq_iff_eq.{0}
def XI:=@PySem.wpAny_attempt
def XJ:=@PySem.F.type_list_append
def XM:=@PySem.F.slot_list_append
def XN:=@PySem.Heap.size_push
def XO:=@List.lookup_cons.{0,0}
def XQ:=@PySem.wpAny_typeNameOfWhole_itemiter
def XR:=@PySem.wpAny_typeNameOfWhole_keyiter
def XS:=@True.intro
def XT:=@List.zip_cons_cons.{0,0}
def XU:=@Int.emod_lt_of_pos
def XW:=@Array.size_extract.{0}
def XX:=@List.Perm.append_right.{0}
def XY:=@PySem.wpAny_passesOwn
def XZ:=@Bool.eq_iff_iff
def X0:=@List.perm_append_comm.{0}
def X1:=@List.mem_iff_getElem?.{0}
def X2:=@Ne.symm.{1}
def X3:=@List.getElem_take.{0}
def X4:=@PyProof.Rows.wpS_modify
def X5:=@List.forIn_nil.{0,0,0}
def X6:=@Array.toList_reverse.{0}
def X7:=@PySem.F.slot_tuple_iterator_next
def X8:=@Nat.ne_of_gt
def X9:=@Nat.le_of_lt
def Ya:=@PySem.wpAny_eqBool_int
def Yb:=@List.not_mem_nil.{0}
def Yc:=@List.length_drop.{0}
def Yd:=@List.drop_eq_getElem_cons.{0}
def Ye:=@List.map_congr_left.{0,0}
def Yf:=@List.length_pos_iff.{0}
def Yg:=@List.filter_sublist.{0}
def Yh:=@PyProof.Rows.listUpdate_at
def Yi:=@PySem.W.mg_of
def Yj:=@Bool.true_and
def Yk:=@PySem.wpAny_specialOf
def Yl:=@PySem.size_of_entries
def Ym:=@PyProof.Rows.boot_isinstance
def Yn:=@List.append_nil.{0}
def Yo:=@Int.emod_nonneg
def Yp:=@PySem.wpAny_tupleItemsOf
def Yq:=@PySem.wpAny_Call_Name_kw
def Yr:=@Nat.add_sub_cancel_left
def Ys:=@List.pairwise_singleton.{0}
abbrev Yt:=PySem.W.Frag
set_option Elab.async false
set_option linter.all false
set_option maxRecDepth 100000
namespace L2
open PySem PySem.Spec PyProof.Rows
abbrev Key:=Sum Int Str
def FH:Key->Value->Bool
 | .inl k,v=>Value.isInt k v
 | .inr x,v=>Value.isStrOf x v
def Np (w:World):Key->Int
 | .inl k=>hashInt k
 | .inr x=>hashStr w x
theorem cv:∀ {k:Key} {v:Value},FH k v = true->(∃ i t,k = Sum.inl i /\ v = Value.int i t) \/ (∃ x t,k = Sum.inr x /\ v = Value.str x t)
 | .inl i,v,h=>by
  obtain ⟨t,e⟩:=Value.isInt_shape (k:=i) (v:=v) h
  exact .inl ⟨i,t,rfl,e⟩
 | .inr x,v,h=>by
  obtain ⟨t,e⟩:=Value.isStrOf_shape (x:=x) (v:=v) h
  exact .inr ⟨x,t,rfl,e⟩
theorem G8 (a b:Int):decide ((Sum.inl a:Key) = Sum.inl b) = (a == b):=by
 by_cases e:a = b
 ·subst e; simp
 ·have h:¬ (Sum.inl a:Key) = Sum.inl b:=fun q=>e (Sum.inl.inj q)
  rw [We h]
  exact (WY.mpr e).symm
theorem IB (a b:Str):decide ((Sum.inr a:Key) = Sum.inr b) = decide (a = b):=by
 by_cases e:a = b
 ·subst e; simp
 ·have h:¬ (Sum.inr a:Key) = Sum.inr b:=fun q=>e (Sum.inr.inj q)
  rw [We h,We e]
theorem Iy (a:Int) (b:Str):decide ((Sum.inl a:Key) = Sum.inr b) = false:=We (fun q=>nomatch q)
theorem GM (a:Str) (b:Int):decide ((Sum.inr a:Key) = Sum.inl b) = false:=We (fun q=>nomatch q)
def uj (prog:Program) (w:World):PySem.KeyKind prog w Key where
 is:=FH
 hash:=Np w
 inj:=fun v a b ha hb=>by
  rcases cv ha with ⟨i,t,rfl,rfl⟩ | ⟨x,t,rfl,rfl⟩
  ·rcases cv hb with ⟨j,u,rfl,e⟩ | ⟨y,u,rfl,e⟩
   ·injection e with e1 _; rw [e1]
   ·exact nomatch e
  ·rcases cv hb with ⟨j,u,rfl,e⟩ | ⟨y,u,rfl,e⟩
   ·exact nomatch e
   ·injection e with e1 _; rw [e1]
 byValue:=fun k v h=>by
  rcases cv h with ⟨i,t,rfl,rfl⟩ | ⟨x,t,rfl,rfl⟩ <;> rfl
 pyHash:=fun hv h=>by
  rcases cv hv with ⟨i,t,rfl,rfl⟩ | ⟨x,t,rfl,rfl⟩
  ·exact wpAny_pyHash_int h
  ·exact wpAny_pyHash_str h
 eqBool:=fun hu hv h=>by
  rcases cv hu with ⟨i,t,rfl,rfl⟩ | ⟨x,t,rfl,rfl⟩
  ·rcases cv hv with ⟨j,u,rfl,rfl⟩ | ⟨y,u,rfl,rfl⟩
   ·rw [G8] at h; exact Ya h
   ·rw [Iy] at h; exact SeqAt.EqAt.int_str i t y u _ _ _ _ h
  ·rcases cv hv with ⟨j,u,rfl,rfl⟩ | ⟨y,u,rfl,rfl⟩
   ·rw [GM] at h; exact SeqAt.EqAt.str_int x t j u _ _ _ _ h
   ·rw [IB] at h; exact wpAny_eqBool_str h
 «strs»:=fun k x t v h=>by
  rcases cv h with ⟨i,u,rfl,e⟩ | ⟨y,u,rfl,e⟩
  ·exact nomatch e
  ·injection e with e1 _
   subst e1
   cases v <;> rfl
inductive V where
 | dR | bl (b:Bool) | int (i:Int) | str (x:Str) | zK (b:Array UInt8) | Ig (b:UInt64) | ref (a:Addr) | ty (n:String)
 deriving DecidableEq
def RelV:V->Value->Prop
 | .dR,u=>u = Value.none
 | .bl b,u=>u = Value.bool b
 | .int i,u=>∃ t,u = Value.int i t
 | .str x,u=>∃ t,u = Value.str x t
 | .zK b,u=>∃ t,u = Value.bytes b t
 | .Ig b,u=>∃ t,u = Value.float b t
 | .ref a,u=>u = Value.ref a
 | .ty n,u=>u = Value.type n
abbrev Vals:List V->List Value->Prop:=Paired RelV
theorem Vals.length {xs:List V} {us:List Value} (r:Vals xs us):xs.length = us.length:=W3 r
theorem Vals.get:∀ {xs:List V} {us:List Value} {i:Nat} {x:V},Vals xs us->xs[i]? = some x->∃ u,us[i]? = some u /\ RelV x u
 | _,_,_,_,.nil,e=>by simp at e
 | _,_,0,_,.cons r _,e=>by simp at e; subst e; exact ⟨_,rfl,r⟩
 | _,_,i + 1,x,.cons _ t,e=>by
  obtain ⟨u,h1,h2⟩:=Vals.get (i:=i) (x:=x) t (by simpa using e)
  exact ⟨u,by simpa using h1,h2⟩
theorem Vals.set {x:V} {u:Value} (r:RelV x u):∀ {xs:List V} {us:List Value} (i:Nat),Vals xs us->Vals (xs.set i x) (us.set i u)
 | _,_,_,.nil=>.nil
 | _,_,0,.cons _ t=>.cons r t
 | _,_,i + 1,.cons q t=>.cons q (Vals.set r i t)
theorem Vals.append:∀ {xs ys:List V} {us ws:List Value},Vals xs us->Vals ys ws->Vals (xs ++ ys) (us ++ ws)
 | _,_,_,_,.nil,s=>s
 | _,_,_,_,.cons r t,s=>.cons r (Vals.append t s)
theorem Vals.take:∀ {xs:List V} {us:List Value} (n:Nat),Vals xs us->Vals (xs.take n) (us.take n)
 | _,_,0,_=>.nil
 | _,_,_ + 1,.nil=>.nil
 | _,_,n + 1,.cons r t=>.cons r (Vals.take n t)
theorem Vals.drop:∀ {xs:List V} {us:List Value} (n:Nat),Vals xs us->Vals (xs.drop n) (us.drop n)
 | _,_,0,r=>r
 | _,_,_ + 1,.nil=>.nil
 | _,_,n + 1,.cons _ t=>Vals.drop n t
def n9:Option V->Option Value->Prop
 | some v,some u=>RelV v u
 | none,none=>True
 | _,_=>False
def KV {κ:Type}:List (κ × V)->List (κ × Value)->Prop:=Paired fun (p:κ × V) (q:κ × Value)=>p.1 = q.1 /\ RelV p.2 q.2
def kV:Key->V
 | .inl i=>.int i
 | .inr x=>.str x
inductive HO where
 | lst (xs:List V)
 | tup (xs:List V)
 | dK (kvs:List (Key × V)) | dT (kvs:List (List Key × V))
 | set (S:Int->Bool) (n:Nat)
 | ins (C dx:Addr) (fs:List (Str × V))
 | own (x:Addr)
 | xd (fs:List (Str × V))
 | met (f x:Addr)
 | DB (lo hi:Int)
 | xb (o:Obj) (u:HO)
 | FQ (ps:Array Value)
 | ext (φ:Heap->Prop)
abbrev Hp:=Addr->Option HO
def upd (H:Hp) (a:Addr) (o:HO):Hp:=fun b=>if b = a then some o else H b
theorem ae {H:Hp} {a:Addr} {o:HO}:upd H a o a = some o:=by unfold upd; rw [if_pos rfl]
theorem aq {H:Hp} {a b:Addr} {o:HO} (h:b ≠ a):upd H a o b = H b:=by unfold upd; rw [if_neg h]
theorem dY {H:Hp} {a b:Addr} {o u:HO} (h:H a = some o) (h':H b = some u) (d:o ≠ u):a ≠ b:=by
 intro e; subst e; rw [h] at h'; exact d (WM h')
theorem aG {H:Hp} {a b:Addr} {o:HO} (h:H a = some o) (h':H b = none):a ≠ b:=by
 intro e; subst e; rw [h] at h'; cases h'
section
variable (P:Program) (w:World)
def ck (H:Hp) (h:Heap) (a:Addr):HO->Prop
 | .lst xs=>xs.length <= sizeLine /\ ∃ (aH:List Value) (n:Nat),Vals xs aH /\ h.get? a = some { cls:=.type "list",data:=.seq aH.toArray n }
 | .tup xs=>xs.length <= sizeLine /\ ∃ aH:List Value,Vals xs aH /\ IsTup h a aH.toArray
 | .dK kvs=>kvs.length <= sizeLine /\ (a == sysModules) = false /\ ∃ vs,KV kvs vs /\ h.DictOf (uj P w) a vs
 | .dT kvs=>kvs.length <= sizeLine /\ (a == sysModules) = false /\ ∃ xs:List (List Key × Addr × Value),
   Paired (fun (p:List Key × V) (q:List Key × Addr × Value)=>p.1 = q.1 /\ H q.2.1 = some (.tup (p.1.map kV)) /\ RelV p.2 q.2.2) kvs xs /\
   ∃ o es ep,h.get? a = some o /\ o.ExactDict /\ o.data = .dict es ep /\ es.toList = xs.map (entryOfKey (tupleKind (uj P w))) /\ (xs.map (·.1)).Nodup
 | .set S n=>h.SetOf (intKind P w) a S n
 | .ins C dx fs=>H dx = some (.own a) /\ fs.length <= 1000 /\ dx ≠ a /\ h.get? a = some (PySem.W.instObj C dx) /\
   ∃ mA,h.Ns1 dx mA /\ (∀ f,n9 (fs.lookup f) (mA f)) /\ PySem.Within mA (fs.map (·.1))
 | .own _=>∃ o,h.get? a = some o
 | .xd fs=>∃ mA,h.Ns1 a mA /\ ∀ f,n9 (fs.lookup f) (mA f)
 | .DB lo hi=>∃ t u v,h.get? a = some { cls:=.type "range",data:=.fields #[.int lo t,.int hi u,.int 1 v] }
 | .xb o u=>h.get? a = some o /\ ck H h a u
 | .FQ ps=>h.get? a = some { cls:=.none,data:=.fields ps }
 | .met f x=>h.get? a = some (PySem.W.methodObj (.ref f) (.ref x))
 | .ext φ=>φ h /\ (∃ o,h.get? a = some o) /\ ∀ h1 h2:Heap,φ h1->(∀ o,h1.get? a = some o->h2.get? a = some o)->φ h2
def jN (H:Hp) (h:Heap):Prop:=∀ a o,H a = some o->ck P w H h a o
end
section
variable {P:Program} {w:World} {H H':Hp} {h h':Heap} {a:Addr} {o:HO}
theorem ck.lt (x:ck P w H h a o):a < h.objs.size:=by
 cases o with
 | lst xs=>obtain ⟨_,_,_,_,e⟩:=x; exact V4 e
 | tup xs=>obtain ⟨_,_,_,p⟩:=x; exact p.lt
 | dK kvs=>obtain ⟨_,_,_,_,o,_,_,e,_⟩:=x; exact V4 e
 | dT kvs=>obtain ⟨_,_,_,_,o,_,_,e,_⟩:=x; exact V4 e
 | set S n=>obtain ⟨o,_,_,_,e,_⟩:=x; exact V4 e
 | ins C dx fs=>obtain ⟨_,_,_,e,_⟩:=x; exact V4 e
 | own y=>obtain ⟨_,e⟩:=x; exact V4 e
 | xd fs=>obtain ⟨_,⟨_,_,_,e,_⟩,_⟩:=x; exact V4 e
 | DB lo hi=>obtain ⟨_,_,_,e⟩:=x; exact V4 e
 | xb ob u=>obtain ⟨e,_⟩:=x; exact V4 e
 | FQ ps=>exact V4 (show h.get? a = some _ from x)
 | met f y=>exact V4 (show h.get? a = some _ from x)
 | ext φ=>obtain ⟨_,⟨_,e⟩,_⟩:=x; exact V4 e
theorem Paired.yl {α β:Type} {F G:α->β->Prop}:∀ {l₁:List α} {l₂:List β},Paired F l₁ l₂->(∀ a b,F a b->G a b)->Paired G l₁ l₂
 | _,_,.nil,_=>.nil
 | _,_,.cons r t,f=>.cons (f _ _ r) (Paired.yl t f)
theorem Paired.imp' {α β:Type} {F G:α->β->Prop} (f:∀ a b,F a b->G a b) {l₁:List α} {l₂:List β} (r:Paired F l₁ l₂):Paired G l₁ l₂:=Paired.yl r f
theorem ck.lZ (x:ck P w H h a o) (k:∀ b u,(b = a \/ H b = some (.own a))->h.get? b = some u->h'.get? b = some u)
  (ho:∀ b,H b = some (.own a)->H' b = some (.own a)) (ht:∀ b xs,H b = some (.tup xs)->H' b = some (.tup xs)):ck P w H' h' a o:=by
 induction o with
 | lst xs=>obtain ⟨z,aH,n,r,e⟩:=x; exact ⟨z,aH,n,r,k _ _ (.inl rfl) e⟩
 | tup xs=>obtain ⟨z,aH,r,ob,e,c⟩:=x; exact ⟨z,aH,r,ob,k _ _ (.inl rfl) e,c⟩
 | dK kvs=>obtain ⟨z,y,vs,r,ob,es,ep,e,c⟩:=x; exact ⟨z,y,vs,r,ob,es,ep,k _ _ (.inl rfl) e,c⟩
 | dT kvs =>
  obtain ⟨z,y,xs,r,ob,es,ep,e,c⟩:=x
  exact ⟨z,y,xs,Paired.yl r fun p q z=>⟨z.1,ht _ _ z.2.1,z.2.2⟩,ob,es,ep,k _ _ (.inl rfl) e,c⟩
 | set S n=>obtain ⟨ob,es,ep,t,e,c⟩:=x; exact ⟨ob,es,ep,t,k _ _ (.inl rfl) e,c⟩
 | ins C dx fs =>
  obtain ⟨d,z,ne,e,mA,⟨od,es,ep,e2,c⟩,r⟩:=x
  exact ⟨ho _ d,z,ne,k _ _ (.inl rfl) e,mA,⟨od,es,ep,k _ _ (.inr d) e2,c⟩,r⟩
 | own y=>obtain ⟨ob,e⟩:=x; exact ⟨ob,k _ _ (.inl rfl) e⟩
 | xd fs=>obtain ⟨mA,⟨od,es,ep,e,c⟩,r⟩:=x; exact ⟨mA,⟨od,es,ep,k _ _ (.inl rfl) e,c⟩,r⟩
 | DB lo hi=>obtain ⟨t,u,v,e⟩:=x; exact ⟨t,u,v,k _ _ (.inl rfl) e⟩
 | xb ob u ih=>obtain ⟨e,q⟩:=x; exact ⟨k _ _ (.inl rfl) e,ih q⟩
 | FQ ps =>
  have e:h.get? a = some { cls:=.none,data:=.fields ps }:=x
  show h'.get? a = some { cls:=.none,data:=.fields ps }
  exact k a _ (.inl rfl) e
 | met f y =>
  have e:h.get? a = some (PySem.W.methodObj (.ref f) (.ref y)):=x
  show h'.get? a = some (PySem.W.methodObj (.ref f) (.ref y))
  exact k a _ (.inl rfl) e
 | ext φ=>obtain ⟨p,⟨o,e⟩,st⟩:=x; exact ⟨st _ _ p fun o q=>k _ _ (.inl rfl) q,⟨o,k _ _ (.inl rfl) e⟩,st⟩
theorem jN.lt (x:jN P w H h) (e:H a = some o):a < h.objs.size:=(x a o e).lt
theorem jN.fresh (x:jN P w H h) (e:h.objs.size <= a):H a = none:=by
 cases q:H a with
 | none=>rfl
 | some u=>exact absurd (Wn (x.lt q) e) (WX _)
theorem jN.kept (x:jN P w H h) (k:∀ b u,h.get? b = some u->h'.get? b = some u):jN P w H h':=fun a o e =>
 (x a o e).lZ (fun b u _ q=>k b u q) (fun _ q=>q) fun _ _ q=>q
theorem jN.laid (x:jN P w H h) (k:∀ b u,h.get? b = some u->h'.get? b = some u) (hp:h.objs.size <= a) (new:ck P w (upd H a o) h' a o):jN P w (upd H a o) h':=fun b u e=>by
 have hn:=x.fresh hp
 by_cases hb:b = a
 ·subst hb; rw [ae] at e; cases e; exact new
 ·rw [aq hb] at e
  exact (x b u e).lZ (fun c v _ q=>k c v q) (fun c q=>by rw [aq (aG q hn)]; exact q) fun c xs q=>by rw [aq (aG q hn)]; exact q
end
def Rd (H:Hp) (a:Addr) (u:HO):Prop:=H a = some u \/ ∃ o,H a = some (.xb o u)
theorem Rd.of {H:Hp} {a:Addr} {u:HO} (h:H a = some u):Rd H a u:=.inl h
theorem Rd.ok {P:Program} {w:World} {H:Hp} {h:Heap} {a:Addr} {u:HO} (r:Rd H a u) (x:jN P w H h):ck P w H h a u:=by
 rcases r with r | ⟨o,r⟩
 ·exact x a u r
 ·obtain ⟨_,q⟩:=x a _ r
  exact q
def L6:Option HO->Prop
 | some (.lst _)=>True
 | some (.dK _)=>True
 | some (.dT _)=>True
 | some (.set _ _)=>True
 | some (.ins _ _ _)=>True
 | some (.ext _)=>True
 | _=>False
section
variable {P:Program} {w:World} {H:Hp} {h h':Heap} {x e:Addr} {o':HO}
theorem jN.write (ok:jN P w H h) (mu:L6 (H x)) (he:e = x \/ H e = some (.own x)) (k:∀ b u,b ≠ e->h.get? b = some u->h'.get? b = some u) (AE:∃ u,h'.get? e = some u)
  (new:ck P w (upd H x o') h' x o'):jN P w (upd H x o') h':=fun b u q=>by
 have JW:∀ c y,H c = some (.own y)->c ≠ x:=fun c y r z=>by subst z; rw [r] at mu; exact mu
 have NP:∀ c xs,H c = some (.tup xs)->c ≠ x:=fun c xs r z=>by subst z; rw [r] at mu; exact mu
 by_cases hb:b = x
 ·subst hb; rw [ae] at q; cases q; exact new
 ·rw [aq hb] at q
  by_cases GL:b = e
  ·have q':H b = some (.own x):=by
    rcases he with z | z
    ·exact absurd (GL.trans z) hb
    ·rw [GL]; exact z
   rw [q] at q'; cases q'
   obtain ⟨v,hv⟩:=AE
   exact ⟨v,by rw [GL]; exact hv⟩
  ·refine (ok b u q).lZ (fun c v hc r=>k c v ?_ r) (fun c r=>by rw [aq (JW c b r)]; exact r) fun c xs r=>by rw [aq (NP c xs r)]; exact r
   rcases hc with rfl | hc
   ·exact GL
   ·rintro rfl
    rcases he with z | z
    ·exact JW c b hc z
    ·rw [hc] at z; cases z; exact hb rfl
end
structure Un (fs ex:List Addr) (H H':Hp) (h h':Heap):Prop where
 keep:∀ b o,h.get? b = some o->H b = none->b ∉ fs->b ∉ ex->h'.get? b = some o
 slot:∀ b o,h.get? b = some o->H b = none->b ∈ fs->b ∉ ex->∃ sl,h'.get? b = some { o with slots:=sl }
 free:∀ b o,h.get? b = some o->H b = none->b ∉ ex->H' b = none
 there:∀ b o,h.get? b = some o->b ∉ ex->∃ o',h'.get? b = some o'
 fC:∀ b xs,H b = some (.tup xs)->H' b = some (.tup xs)
 jI:∀ b o u,H b = some (.xb o u)->H' b = some (.xb o u)
 kh:∀ b ps,H b = some (.FQ ps)->∃ more,H' b = some (.FQ (ps ++ more))
section
variable {fs ME ex PH:List Addr} {H H1 H2:Hp} {h h1 h2 h':Heap} {a x e:Addr} {o:HO}
theorem Un.any (u:Un fs ex H H1 h h1) {b:Addr} {ob:Obj} (q:h.get? b = some ob) (n:H b = none) (hx:b ∉ ex):∃ sl,h1.get? b = some { ob with slots:=sl }:=by
 by_cases hb:b ∈ fs
 ·exact u.slot b ob q n hb hx
 ·exact ⟨ob.slots,u.keep b ob q n hb hx⟩
theorem Un.trans (a:Un fs ex H H1 h h1) (b:Un fs ex H1 H2 h1 h2):Un fs ex H H2 h h2 where
 keep:=fun c ob q n hc hx=>b.keep c ob (a.keep c ob q n hc hx) (a.free c ob q n hx) hc hx
 slot:=fun c ob q n hc hx=>by
  obtain ⟨sl,e1⟩:=a.slot c ob q n hc hx
  obtain ⟨Eg,e2⟩:=b.slot c _ e1 (a.free c ob q n hx) hc hx
  exact ⟨Eg,e2⟩
 free:=fun c ob q n hx=>by
  obtain ⟨o',e1⟩:=a.there c ob q hx
  exact b.free c o' e1 (a.free c ob q n hx) hx
 there:=fun c ob q hx=>by
  obtain ⟨o',e1⟩:=a.there c ob q hx
  exact b.there c o' e1 hx
 fC:=fun c xs q=>b.fC c xs (a.fC c xs q)
 jI:=fun c ob xs q=>b.jI c ob xs (a.jI c ob xs q)
 kh:=fun c ps q=>by
  obtain ⟨m1,e1⟩:=a.kh c ps q
  obtain ⟨m2,e2⟩:=b.kh c _ e1
  exact ⟨m1 ++ m2,by rw [e2,Array.append_assoc]⟩
theorem Un.kept (k:∀ b u,h.get? b = some u->h'.get? b = some u):Un fs ex H H h h' :=
 ⟨fun b ob q _ _ _=>k b ob q,fun b ob q _ _ _=>⟨ob.slots,k b ob q⟩,fun _ _ _ n _=>n,fun b ob q _=>⟨ob,k b ob q⟩,fun _ _ q=>q,fun _ _ _ q=>q,fun _ ps q=>⟨#[],by rw [q]; simp⟩⟩
theorem Un.refl:Un fs ex H H h h:=Un.kept fun _ _ q=>q
theorem Un.laid (k:∀ b u,h.get? b = some u->h'.get? b = some u) (hp:h.objs.size <= a) (hn:H a = none):Un fs ex H (upd H a o) h h' where
 keep:=fun b u q _ _ _=>k b u q
 slot:=fun b u q _ _ _=>⟨u.slots,k b u q⟩
 free:=fun b u q n _=>by rw [aq (Wj (Wn (V4 q) hp))]; exact n
 there:=fun b u q _=>⟨u,k b u q⟩
 fC:=fun b xs q=>by rw [aq (aG q hn)]; exact q
 jI:=fun b u xs q=>by rw [aq (aG q hn)]; exact q
 kh:=fun b ps q=>⟨#[],by rw [aq (aG q hn),q]; simp⟩
theorem Un.write (mu:L6 (H x)) (he:e = x \/ H e = some (.own x)) (k:∀ b u,b ≠ e->h.get? b = some u->h'.get? b = some u) (AE:∃ u,h'.get? e = some u):Un fs ex H (upd H x o) h h':=by
 have hx:∀ b,H b = none->b ≠ x:=fun b n z=>by subst z; rw [n] at mu; exact mu
 have hb:∀ b,H b = none->b ≠ e:=fun b n z=>by
  subst z
  rcases he with r | r
  ·exact hx b n r
  ·rw [n] at r; cases r
 have hm:∀ b u,H b = some u->¬ L6 (some u)->b ≠ x:=fun b u q nm z=>by subst z; rw [q] at mu; exact nm mu
 refine ⟨fun b u q n _ _=>k b u (hb b n) q,fun b u q n _ _=>⟨u.slots,k b u (hb b n) q⟩,fun b u q n _=>by rw [aq (hx b n)]; exact n,fun b u q _=>?_,
  fun b xs q=>by rw [aq (hm b _ q fun z=>z)]; exact q,fun b u xs q=>by rw [aq (hm b _ q fun z=>z)]; exact q,fun b ps q=>⟨#[],by rw [aq (hm b _ q fun z=>z),q]; simp⟩⟩
 by_cases GL:b = e
 ·subst GL; exact AE
 ·exact ⟨u,k b u GL q⟩
theorem Un.mono (u:Un fs ex H H1 h h1) (hs:∀ b ∈ fs,b ∈ ME) (hx:∀ b ∈ ex,b ∈ PH):Un ME PH H H1 h h1 :=
 ⟨fun b ob q n hb he=>u.keep b ob q n (fun z=>hb (hs b z)) fun z=>he (hx b z),fun _ _ q n _ he=>u.any q n fun z=>he (hx _ z),fun b ob q n he=>u.free b ob q n fun z=>he (hx b z),fun b ob q he=>u.there b ob q fun z=>he (hx b z),u.fC,u.jI,u.kh⟩
end
def GA (h:Heap) (H:Hp):List Addr:=(List.range h.objs.size).filter fun a=>(H a).isSome
def uV (h:Heap) (H:Hp):Heap:=PySem.W.hideAll h (GA h H)
theorem z9 (h:Heap) (H:Hp):(uV h H).objs.size = h.objs.size:=PySem.W.hideAll_size _ _
theorem BK {h:Heap} {H:Hp} {b:Addr} {o:Obj} (e:h.get? b = some o) (n:H b = none):(uV h H).get? b = some o :=
 PySem.W.hideAll_get _ e fun hm=>by
  have q:(H b).isSome = true:=(Ws.mp hm).2
  rw [n] at q; simp at q
theorem Er {h:Heap} {H:Hp} {b:Addr} {o:Obj} (e:(uV h H).get? b = some o):h.get? b = some o /\ H b = none:=by
 have e':h.get? b = some o:=PySem.W.of_hideAll (GA h H) e
 refine ⟨e',?_⟩
 cases q:H b with
 | none=>rfl
 | some x =>
  have hm:b ∈ GA h H:=Ws.mpr ⟨List.mem_range.mpr (V4 e'),by simp [q]⟩
  have z:(uV h H).get? b = none:=PySem.W.hideAll_none (GA h H) hm
  rw [z] at e; cases e
def Ee (g h:Heap) (L:Addr):List (Addr × Obj):=(List.range h.objs.size).filterMap fun a=>if a = L \/ (g.get? a).isSome = true then none else (h.get? a).map fun o=>(a,o)
def rest (g h:Heap) (L d:Addr):List (Addr × Obj):=(Ee g h L).filter fun p=>decide (p.1 ≠ d)
structure Mod (K:Yt) (mg:Str->Option Value) (base:Heap):Prop where
 y8:K.In base
 glob:base.Ns mainGlobals mg
 blt:∃ mb,base.Ns builtinsNs mb /\ ∀ x:Str,x ≠ "__name__"->mb x = bootBuiltins x
 nolimit:base.NoLimit
structure Cx where
 prog:Program
 w:World
 K:Yt
 mg:Str->Option Value
 base:Heap
 A:Around
 N:List Str
 s₀:Shared
 H₀:Hp
 env:Env
 outer:List Env
 stack:List Env
 ex:List Addr
 fn:Str->Bool
 calm:Bool
 pn:List (Addr × Obj)
 xe:Value->Shared->Prop
def l3 (l:List Env):List Addr:=l.filterMap (·.frame)
abbrev Cx.fs (X:Cx):List Addr:=l3 X.outer
def LL (sc:Scope) (x:Str):Prop:=sc.names.lookup x = some .local \/ sc.names.lookup x = some .cell \/ sc.names.lookup x = some .free
def Loc (sc:Scope) (x:Str):Prop:=sc.names.lookup x = some .local \/ sc.names.lookup x = some .cell
def Look (env:Env) (h:Heap) (m:Str->Option Value) (x:Str) (u:Value):Prop :=
 (env.kindOf x = some .local /\ m x = some u) \/ ((env.kindOf x = some .cell \/ env.kindOf x = some .free) /\ ∃ c,env.cells.lookup x = some c /\ h.IsCell c (some u))
structure Cx.Ok (X:Cx):Prop where
 mod:Mod X.K X.mg X.base
 kind:X.env.scope.kind = .function
 glob:X.env.globals = mainGlobals
 blt:X.env.builtins = builtinsNs
 above:X.s₀.heap.objs.size <= X.env.locals
 inj:∀ x y c,X.env.cells.lookup x = some c->X.env.cells.lookup y = some c->x = y
 has:∀ x,(X.env.kindOf x = some .cell \/ X.env.kindOf x = some .free)->∃ c,X.env.cells.lookup x = some c
 IJ:∀ x c,X.fn x = true->X.env.cells.lookup x = some c->X.s₀.heap.objs.size <= c
 hd:X.calm = true->X.A.handled = none
 frames:X.A.frames = some X.stack
 Jo:X.stack = X.outer \/ (X.stack = X.env :: X.outer /\ X.env.frame = some X.env.locals)
 JI:∀ b ∈ X.ex,b ≠ X.env.locals /\ ∀ x c,X.env.cells.lookup x = some c->c ≠ b
 bs:∀ b o,X.base.get? b = some o->X.s₀.heap.get? b = some o /\ X.H₀ b = none
 Bm:X.base.objs.size <= X.s₀.heap.objs.size
 Aa:∀ b o,X.base.get? b = some o->b ∉ X.ex
 Aq:∀ b ∈ X.ex,b ∉ X.fs
 me:X.s₀.heap.FunFrames X.base X.outer
 EE:∀ b ∈ X.fs,X.H₀ b = none
structure Inv (X:Cx) (pins:List (Addr × Obj)) (σ:List (Option V)) (H:Hp) (s:Shared):Prop where
 ok:X.Ok
 os:s.os = X.s₀.os
 bare:AllBare s.gens
 base:Un X.fs X.ex X.H₀ H X.s₀.heap s.heap
 loc:∃ m,s.heap.Ns X.env.locals m /\ ∀ (i:Nat) (x:Str) (v:V),X.N[i]? = some x->σ[i]? = some (some v)->LL X.env.scope x->∃ u,RelV v u /\ Look X.env s.heap m x u
 cell:∀ x c,X.env.cells.lookup x = some c->∃ v,s.heap.IsCell c v
 free:H X.env.locals = none
 jH:∀ x c,X.env.cells.lookup x = some c->H c = none
 pin:∀ p ∈ X.pn ++ pins,s.heap.get? p.1 = some p.2 /\ H p.1 = none /\ p.1 ≠ X.env.locals /\ p.1 ∉ X.fs /\ ∀ v,p.2.data ≠ .cell v
 ba:jN X.prog X.w H s.heap
 len:σ.length = X.N.length
section
variable {X:Cx} {pins:List (Addr × Obj)} {σ:List (Option V)} {H H':Hp} {s:Shared} {h':Heap}
theorem Cx.Ok.ML (ok:X.Ok) {b:Addr} {o:Obj} (e:X.base.get? b = some o):b ∉ X.fs:=fun hb=>by
 have:=(ok.me.mem hb).1
 rw [e] at this; cases this
theorem Inv.bs (I:Inv X pins σ H s):∀ b o,X.base.get? b = some o->s.heap.get? b = some o /\ H b = none:=fun b o e =>
 ⟨I.base.keep b o (I.ok.bs b o e).1 (I.ok.bs b o e).2 (I.ok.ML e) (I.ok.Aa b o e),I.base.free b o (I.ok.bs b o e).1 (I.ok.bs b o e).2 (I.ok.Aa b o e)⟩
theorem Inv.bk (I:Inv X pins σ H s):∀ b o,X.base.get? b = some o->s.heap.get? b = some o:=fun b o e=>(I.bs b o e).1
theorem Inv.mod (I:Inv X pins σ H s):Mod X.K X.mg X.base:=I.ok.mod
theorem Inv.oZ (I:Inv X pins σ H s):X.K.In s.heap:=I.ok.mod.y8.keeps I.bk
theorem Inv.nolimit (I:Inv X pins σ H s):s.heap.NoLimit:=I.ok.mod.nolimit.keeps I.bk
theorem Inv.fr (I:Inv X pins σ H s):∃ m,Fr X.base X.env.locals s.heap m :=
 let ⟨m,hn,_⟩:=I.loc
 ⟨m,hn,I.bk,VZ I.ok.Bm I.ok.above⟩
theorem Inv.lt (I:Inv X pins σ H s):X.env.locals < s.heap.objs.size:=let ⟨_,hn,_⟩:=I.loc; hn.lt
theorem Inv.sz (I:Inv X pins σ H s):X.s₀.heap.objs.size <= s.heap.objs.size:=VZ I.ok.above (X9 I.lt)
theorem Inv.JE (I:Inv X pins σ H s) {a:Addr} (h:s.heap.objs.size <= a):a ∉ X.fs:=fun hb=>by
 obtain ⟨_,o,ho,_⟩:=I.ok.me.mem hb
 exact absurd (Wn (V4 ho) (VZ I.sz h)) (WX _)
theorem Inv.xW (I:Inv X pins σ H s):∀ x c,X.env.cells.lookup x = some c->c ≠ X.env.locals:=fun x c e z=>by
 obtain ⟨v,o,ho,hd⟩:=I.cell x c e
 obtain ⟨m,⟨o',es,ep,lP,xa,_⟩,_⟩:=I.loc
 rw [z,lP] at ho; cases ho; rw [xa] at hd; cases hd
theorem Inv.me (I:Inv X pins σ H s):s.heap.FunFrames X.base X.outer:=by
 have all:∀ (l:List Env),(∀ b ∈ l3 l,b ∈ X.fs)->X.s₀.heap.FunFrames X.base l->s.heap.FunFrames X.base l:=by
  intro l
  induction l with
  | nil=>intro _ _; trivial
  | cons env r ih =>
   intro hs hl
   obtain ⟨hk,⟨L,o,hf,hn,ho,hd⟩,hr⟩:=hl
   have hL:L ∈ X.fs:=hs L (by unfold l3; rw [List.filterMap_cons,hf]; exact VR)
   obtain ⟨sl,e⟩:=I.base.slot L o ho (I.ok.EE L hL) hL fun z=>I.ok.Aq L z hL
   exact ⟨hk,⟨L,_,hf,hn,e,hd⟩,ih (fun b hb=>hs b (by unfold l3; rw [List.filterMap_cons,hf]; exact VQ _ hb)) hr⟩
 exact all X.outer (fun _ hb=>hb) I.ok.me
theorem Inv.stack (I:Inv X pins σ H s):s.heap.FunFrames X.base X.stack:=by
 rcases I.ok.Jo with e | ⟨e,hf⟩
 ·rw [e]; exact I.me
 ·rw [e]
  obtain ⟨m,hn,_⟩:=I.loc
  refine .cons (by rw [I.ok.kind]; decide) hf hn ?_ I.me
  exact XF (VZ I.ok.Bm I.ok.above)
theorem Inv.lO (I:Inv X pins σ H s):∀ b ∈ l3 X.stack,b ∈ X.env.locals :: X.fs:=fun b hb=>by
 rcases I.ok.Jo with e | ⟨e,hf⟩
 ·rw [e] at hb; exact VQ _ hb
 ·rw [e] at hb
  unfold l3 at hb
  rw [List.filterMap_cons,hf] at hb
  exact hb
theorem Inv.pK (I:Inv X pins σ H s):∀ b ∈ l3 X.stack,H b = none:=fun b hb=>by
 rcases VT.mp (I.lO b hb) with e | hb
 ·rw [e]; exact I.free
 ·obtain ⟨_,o,ho,_⟩:=I.ok.me.mem hb
  exact I.base.free b o ho (I.ok.EE b hb) fun z=>I.ok.Aq b z hb
theorem Inv.step {g':Array GenState} {t':Nat} {d':Drawn} {ch:List Addr} (I:Inv X pins σ H s)
  (pO:∀ b ∈ ch,(b ∈ X.ex \/ X.s₀.heap.objs.size <= b) /\ b ≠ X.env.locals /\ (∀ x c,X.env.cells.lookup x = some c->c ≠ b) /\ ∀ p ∈ X.pn ++ pins,p.1 ≠ b)
  (keep:∀ b o,b ≠ X.env.locals->b ∉ X.fs->b ∉ ch->s.heap.get? b = some o->H b = none->h'.get? b = some o)
  (slot:∀ b o,b ≠ X.env.locals->b ∈ X.fs->b ∉ ch->s.heap.get? b = some o->H b = none->∃ sl,h'.get? b = some { o with slots:=sl }) (free:∀ b o,b ∉ ch->s.heap.get? b = some o->H b = none->H' b = none)
  (there:∀ b o,b ∉ ch->s.heap.get? b = some o->∃ o',h'.get? b = some o')
  (fC:∀ b xs,H b = some (.tup xs)->H' b = some (.tup xs)) (jI:∀ b o u,H b = some (.xb o u)->H' b = some (.xb o u)) (kh:∀ b ps,H b = some (.FQ ps)->∃ more,H' b = some (.FQ (ps ++ more)))
  (ns:∀ m,s.heap.Ns X.env.locals m->h'.Ns X.env.locals m) (ba:jN X.prog X.w H' h') (hg:AllBare g') :
  Inv X pins σ H' { s with heap:=h',gens:=g',drawn:=d',toks:=t' }:=by
 have Px:∀ b o,X.s₀.heap.get? b = some o->b ≠ X.env.locals:=fun b o e=>Wj (Wn (V4 e) I.ok.above)
 have L7:∀ b o,X.s₀.heap.get? b = some o->b ∉ X.ex->b ∉ ch:=fun b o e hx hb=>by
  rcases (pO b hb).1 with z | z
  ·exact hx z
  ·exact absurd (Wn (V4 e) z) (WX _)
 have cellK:∀ x c,X.env.cells.lookup x = some c->∀ v,s.heap.IsCell c v->h'.IsCell c v:=fun x c e v ⟨o,ho,hd⟩=>by
  have Cc:c ∉ ch:=fun z=>(pO c z).2.2.1 x c e rfl
  by_cases hc:c ∈ X.fs
  ·obtain ⟨sl,q⟩:=slot c o (I.xW x c e) hc Cc ho (I.jH x c e)
   exact ⟨_,q,hd⟩
  ·exact ⟨o,keep c o (I.xW x c e) hc Cc ho (I.jH x c e),hd⟩
 refine ⟨I.ok,I.os,hg,⟨fun b o e n hb hx=>?_,fun b o e n hb hx=>?_,fun b o e n hx=>?_,fun b o e hx=>?_,fun b xs e=>fC b xs (I.base.fC b xs e),fun b o xs e=>jI b o xs (I.base.jI b o xs e),fun b ps e=>?_⟩,?_,fun x c e=>?_,?_,fun x c e=>?_,fun p hp=>?_,ba,I.len⟩
 ·exact keep b o (Px b o e) hb (L7 b o e hx) (I.base.keep b o e n hb hx) (I.base.free b o e n hx)
 ·obtain ⟨sl,e1⟩:=I.base.slot b o e n hb hx
  obtain ⟨Eg,e2⟩:=slot b _ (Px b o e) hb (L7 b o e hx) e1 (I.base.free b o e n hx)
  exact ⟨Eg,e2⟩
 ·obtain ⟨o',e1⟩:=I.base.there b o e hx
  exact free b o' (L7 b o e hx) e1 (I.base.free b o e n hx)
 ·obtain ⟨o',e1⟩:=I.base.there b o e hx
  exact there b o' (L7 b o e hx) e1
 ·obtain ⟨m1,e1⟩:=I.base.kh b ps e
  obtain ⟨m2,e2⟩:=kh b _ e1
  exact ⟨m1 ++ m2,by rw [e2,Array.append_assoc]⟩
 ·obtain ⟨m,hn,hl⟩:=I.loc
  refine ⟨m,ns m hn,fun i x v e1 e2 e3=>?_⟩
  obtain ⟨u,r,l⟩:=hl i x v e1 e2 e3
  refine ⟨u,r,?_⟩
  rcases l with l | ⟨k,c,e,z⟩
  ·exact .inl l
  ·exact .inr ⟨k,c,e,cellK x c e _ z⟩
 ·obtain ⟨v,z⟩:=I.cell x c e
  exact ⟨v,cellK x c e v z⟩
 ·obtain ⟨m,⟨o,_,_,ho,_⟩,_⟩:=I.loc
  exact free _ o (fun z=>(pO _ z).2.1 rfl) ho I.free
 ·obtain ⟨v,o,ho,hd⟩:=I.cell x c e
  exact free c o (fun z=>(pO c z).2.2.1 x c e rfl) ho (I.jH x c e)
 ·obtain ⟨e,n,ne,nf,d⟩:=I.pin p hp
  have Cc:p.1 ∉ ch:=fun z=>(pO p.1 z).2.2.2 p hp rfl
  exact ⟨keep p.1 p.2 ne nf Cc e n,free p.1 p.2 Cc e n,ne,nf,d⟩
theorem Inv.un {t':Nat} (I:Inv X pins σ H s) (u:Un X.fs [] H H' s.heap h') (ba:jN X.prog X.w H' h'):Inv X pins σ H' { s with heap:=h',toks:=t' }:=by
 obtain ⟨m,⟨o,es,ep,ho,r⟩,_⟩:=id I.loc
 obtain ⟨sl,hL⟩:=u.any ho I.free (by simp)
 exact I.step (g':=s.gens) (d':=s.drawn) (ch:=[]) (fun _ z=>nomatch z) (fun b o _ hb _ e n=>u.keep b o e n hb (by simp)) (fun b o _ hb _ e n=>u.slot b o e n hb (by simp)) (fun b o _ e n=>u.free b o e n (by simp)) (fun b o _ e=>u.there b o e (by simp)) u.fC u.jI u.kh (fun m' hm=>by
  obtain ⟨o',Bx,DI,lP,r'⟩:=hm
  rw [ho] at lP; cases lP
  exact ⟨_,Bx,DI,hL,r'⟩) ba I.bare
theorem Inv.call {g':Array GenState} {t':Nat} {d':Drawn} {ch:List Addr} (I:Inv X pins σ H s) (u:Un (l3 X.stack) ch H H' s.heap h') (ba:jN X.prog X.w H' h') (hg:AllBare g')
  (pO:∀ b ∈ ch,(b ∈ X.ex \/ X.s₀.heap.objs.size <= b) /\ b ≠ X.env.locals /\ (∀ x c,X.env.cells.lookup x = some c->c ≠ b) /\ ∀ p ∈ X.pn ++ pins,p.1 ≠ b) :
  Inv X pins σ H' { s with heap:=h',gens:=g',drawn:=d',toks:=t' }:=by
 obtain ⟨m,⟨o,es,ep,ho,r⟩,_⟩:=id I.loc
 obtain ⟨sl,hL⟩:=u.any ho I.free fun z=>(pO _ z).2.1 rfl
 exact I.step (ch:=ch) pO (fun b o hL hb hc e n=>u.keep b o e n (fun z=>(VT.mp (I.lO b z)).elim hL hb) hc) (fun b o _ _ hc e n=>u.any e n hc) (fun b o hc e n=>u.free b o e n hc) (fun b o hc e=>u.there b o e hc) u.fC u.jI u.kh (fun m' hm=>by
  obtain ⟨o',Bx,DI,lP,r'⟩:=hm
  rw [ho] at lP; cases lP
  exact ⟨_,Bx,DI,hL,r'⟩) ba hg
theorem Inv.turned {t':Nat} {it:Addr} (I:Inv X pins σ H s) (k:∀ b o,b ≠ it->s.heap.get? b = some o->h'.get? b = some o) (hn:H it = none) (hL:it ≠ X.env.locals)
  (h1:it ∈ X.ex \/ X.s₀.heap.objs.size <= it) (h2:∀ x c,X.env.cells.lookup x = some c->c ≠ it) (h3:∀ p ∈ X.pn ++ pins,p.1 ≠ it):Inv X pins σ H { s with heap:=h',toks:=t' }:=by
 have J4:∀ b u,H b = some u->b ≠ it:=fun b u e z=>by rw [z,hn] at e; cases e
 refine I.step (g':=s.gens) (d':=s.drawn) (ch:=[it]) (fun b hb=>?_) (fun b o _ _ hc e _=>k b o (fun z=>hc (by simp [z])) e) (fun b o _ _ hc e _=>⟨o.slots,k b o (fun z=>hc (by simp [z])) e⟩) (fun _ _ _ _ n=>n)
  (fun b o hc e=>⟨o,k b o (fun z=>hc (by simp [z])) e⟩) (fun _ _ e=>e) (fun _ _ _ e=>e) (fun b ps e=>⟨#[],by rw [e]; simp⟩) (fun m hm=>?_) (fun b u e=>?_) I.bare
 ·have e:b = it:=by simpa using hb
  subst e
  exact ⟨h1,hL,h2,h3⟩
 ·obtain ⟨o,es,ep,ho,r⟩:=hm
  exact ⟨o,es,ep,k _ o (X2 hL) ho,r⟩
 ·refine (I.ba b u e).lZ (fun c v hc q=>k c v ?_ q) (fun _ q=>q) fun _ _ q=>q
  rcases hc with z | z
  ·rw [z]; exact J4 b u e
  ·exact J4 c _ z
theorem Inv.tok (I:Inv X pins σ H s) (t:Nat):Inv X pins σ H { s with toks:=t }:=I.un (h':=s.heap) (t':=t) Un.refl I.ba
theorem Inv.kept {t':Nat} (I:Inv X pins σ H s) (k:∀ b u,s.heap.get? b = some u->h'.get? b = some u):Inv X pins σ H { s with heap:=h',toks:=t' }:=I.un (Un.kept k) (I.ba.kept k)
theorem Inv.laid {a:Addr} {o:HO} {t':Nat} (I:Inv X pins σ H s) (k:∀ b u,s.heap.get? b = some u->h'.get? b = some u) (hp:s.heap.objs.size <= a) (new:ck X.prog X.w (upd H a o) h' a o) :
  Inv X pins σ (upd H a o) { s with heap:=h',toks:=t' }:=I.un (Un.laid k hp (I.ba.fresh hp)) (I.ba.laid k hp new)
theorem Inv.write {x e:Addr} {o:HO} {t':Nat} (I:Inv X pins σ H s) (mu:L6 (H x)) (he:e = x \/ H e = some (.own x)) (k:∀ b u,b ≠ e->s.heap.get? b = some u->h'.get? b = some u) (AE:∃ u,h'.get? e = some u)
  (new:ck X.prog X.w (upd H x o) h' x o):Inv X pins σ (upd H x o) { s with heap:=h',toks:=t' }:=I.un (Un.write mu he k AE) (I.ba.write mu he k AE new)
theorem Inv.weak {σ':List (Option V)} (I:Inv X pins σ H s) (hl:σ'.length = σ.length) (w:∀ (i:Nat) v,σ'[i]? = some (some v)->σ[i]? = some (some v)):Inv X pins σ' H s :=
 ⟨I.ok,I.os,I.bare,I.base,let ⟨m,hn,mF⟩:=I.loc; ⟨m,hn,fun i x v e1 e2 e3=>mF i x v e1 (w i v e2) e3⟩,I.cell,I.free,I.jH,I.pin,I.ba,hl.trans I.len⟩
theorem Inv.yw {Gn:List (Addr × Obj)} (I:Inv X pins σ H s) (h:∀ p ∈ Gn,s.heap.get? p.1 = some p.2 /\ H p.1 = none /\ p.1 ≠ X.env.locals /\ p.1 ∉ X.fs /\ ∀ v,p.2.data ≠ .cell v):Inv X Gn σ H s :=
 ⟨I.ok,I.os,I.bare,I.base,I.loc,I.cell,I.free,I.jH,fun p hp=>(Wh.mp hp).elim (fun z=>I.pin p (Xc _ z)) (h p),I.ba,I.len⟩
theorem wQ {N:List Str} (hN:N.Nodup) {i j:Nat} {x:Str} (a:N[i]? = some x) (b:N[j]? = some x):i = j:=by
 obtain ⟨h1,e1⟩:=Wa.mp a
 obtain ⟨h2,e2⟩:=Wa.mp b
 exact (List.getElem_inj hN).mp (e1.trans e2.symm)
theorem sP {M:Model} {A:Around} {E:Value->Shared->Prop} {i:Nat} {x:Str} {v:V} {u:Value} {Q:Unit->Shared->Prop} (I:Inv X pins σ H s) (hN:X.N.Nodup) (hi:X.N[i]? = some x) (hx:Loc X.env.scope x) (r:RelV v u)
  (h:∀ s',Inv X pins (σ.set i (some v)) H s'->(∃ a,Heap.SameBut a s.heap s'.heap /\ (a = X.env.locals \/ X.env.cells.lookup x = some a))->Q () s') (hf:X.fn x = true \/ X.env.scope.names.lookup x = some .local:=by first | exact .inl rfl | exact .inr rfl | assumption):wpAny M A (storeName X.env x u) Q E s:=by
 obtain ⟨m,hn,hl⟩:=id I.loc
 have Nk:(X.env.scope.kind == .class || (X.env.scope.kind == .module && X.env.locals != X.env.globals)) = false:=by rw [I.ok.kind]; rfl
 have Kl:i < σ.length:=by rw [I.len]; exact (Wa.mp hi).1
 have xW:=I.xW
 have tracked:∀ {a:Addr} {h':Heap},(∃ o,s.heap.get? a = some o /\ H a = none)->Heap.SameBut a s.heap h'->jN X.prog X.w H h':=fun {a h'} ha hs b ob e=>by
  obtain ⟨_,_,FU⟩:=ha
  refine (I.ba b ob e).lZ (fun c w' hc q=>(hs.2 c ?_).trans q) (fun _ q=>q) fun _ _ q=>q
  rintro rfl
  rcases hc with rfl | hc
  ·rw [FU] at e; cases e
  ·rw [FU] at hc; cases hc
 rcases hx with hk | hk
 ·refine wpAny_storeName_local hk hn (fun h' RS hs=>?_) Nk
  obtain ⟨oL,_,_,LD,_⟩:=id hn
  refine h _ ⟨I.ok,I.os,I.bare,⟨fun b o e n hb hx=>?_,fun b o e n hb hx=>?_,I.base.free,fun b o e hx=>?_,I.base.fC,I.base.jI,I.base.kh⟩,⟨_,RS,fun j y v' e1 e2 e3=>?_⟩,fun y c e=>?_,I.free,I.jH,fun p hp=>?_,tracked ⟨oL,LD,I.free⟩ hs,by simpa using I.len⟩ ⟨_,hs,.inl rfl⟩
  ·exact (hs.2 b (Wj (Wn (V4 e) I.ok.above))).trans (I.base.keep b o e n hb hx)
  ·obtain ⟨sl,e1⟩:=I.base.slot b o e n hb hx
   exact ⟨sl,(hs.2 b (Wj (Wn (V4 e) I.ok.above))).trans e1⟩
  ·obtain ⟨o',e1⟩:=I.base.there b o e hx
   exact ⟨o',(hs.2 b (Wj (Wn (V4 e) I.ok.above))).trans e1⟩
  ·by_cases hj:j = i
   ·subst hj
    rw [hi] at e1; cases e1
    rw [List.getElem?_set_self Kl] at e2
    cases e2
    exact ⟨u,r,.inl ⟨hk,by simp⟩⟩
   ·rw [List.getElem?_set_ne (X2 hj)] at e2
    obtain ⟨u',r',q⟩:=hl j y v' e1 e2 e3
    refine ⟨u',r',?_⟩
    rcases q with ⟨k,e⟩ | ⟨k,c,e,z⟩
    ·refine .inl ⟨k,?_⟩
     have:y ≠ x:=fun e=>hj (wQ hN e1 (e ▸ hi))
     simp [this,e]
    ·exact .inr ⟨k,c,e,z.sameBut hs (xW y c e)⟩
  ·obtain ⟨w',z⟩:=I.cell y c e
   exact ⟨w',z.sameBut hs (xW y c e)⟩
  ·obtain ⟨e,n,ne,nf,d⟩:=I.pin p hp
   exact ⟨(hs.2 p.1 ne).trans e,n,ne,nf,d⟩
 ·have Mz:X.fn x = true:=by
   rcases hf with z | z
   ·exact z
   ·rw [z] at hk; cases hk
  obtain ⟨c,hc⟩:=I.ok.has x (.inl hk)
  obtain ⟨w',z⟩:=I.cell x c hc
  refine wpAny_storeName_cell I.ok.kind hk hc z (fun h' xc hs=>?_)
  obtain ⟨oc,LI,MK⟩:=id z
  refine h { s with heap:=h' } ⟨I.ok,I.os,I.bare,⟨fun b o e n hb hx=>?_,fun b o e n hb hx=>?_,I.base.free,fun b o e hx=>?_,I.base.fC,I.base.jI,I.base.kh⟩,⟨m,hn.sameBut hs (X2 (xW x c hc)),fun j y v' e1 e2 e3=>?_⟩,fun y c' e=>?_,I.free,I.jH,fun p hp=>?_,tracked ⟨oc,LI,I.jH x c hc⟩ hs,by simpa using I.len⟩ ⟨c,hs,.inr hc⟩
  ·exact (hs.2 b (Wj (Wn (V4 e) (I.ok.IJ x c Mz hc)))).trans (I.base.keep b o e n hb hx)
  ·obtain ⟨sl,e1⟩:=I.base.slot b o e n hb hx
   exact ⟨sl,(hs.2 b (Wj (Wn (V4 e) (I.ok.IJ x c Mz hc)))).trans e1⟩
  ·obtain ⟨o',e1⟩:=I.base.there b o e hx
   exact ⟨o',(hs.2 b (Wj (Wn (V4 e) (I.ok.IJ x c Mz hc)))).trans e1⟩
  ·by_cases hj:j = i
   ·subst hj
    rw [hi] at e1; cases e1
    rw [List.getElem?_set_self Kl] at e2
    cases e2
    exact ⟨u,r,.inr ⟨.inl hk,c,hc,xc⟩⟩
   ·rw [List.getElem?_set_ne (X2 hj)] at e2
    obtain ⟨u',r',q⟩:=hl j y v' e1 e2 e3
    refine ⟨u',r',?_⟩
    rcases q with q | ⟨k,c',e,z'⟩
    ·exact .inl q
    ·refine .inr ⟨k,c',e,z'.sameBut hs ?_⟩
     rintro rfl
     exact hj (wQ hN e1 (I.ok.inj _ _ _ e hc ▸ hi))
  ·by_cases PJ:c' = c
   ·subst PJ; exact ⟨_,xc⟩
   ·obtain ⟨w2,z2⟩:=I.cell y c' e
    exact ⟨w2,z2.sameBut hs PJ⟩
  ·obtain ⟨e,n,ne,nf,d⟩:=I.pin p hp
   refine ⟨(hs.2 p.1 ?_).trans e,n,ne,nf,d⟩
   intro q
   rw [q,LI] at e
   have q':oc = p.2:=WM e
   exact d w' (by rw [<- q']; exact MK)
theorem qI {M:Model} {A:Around} {E:Value->Shared->Prop} {i:Nat} {x:Str} {v:V} {u:Value} {Q:Unit->Shared->Prop} (I:Inv X pins σ H s) (hN:X.N.Nodup) (hi:X.N[i]? = some x) (hx:Loc X.env.scope x) (r:RelV v u)
  (h:∀ s',Inv X pins (σ.set i (some v)) H s'->Q () s') (hf:X.fn x = true \/ X.env.scope.names.lookup x = some .local:=by first | exact .inl rfl | exact .inr rfl | assumption):wpAny M A (storeName X.env x u) Q E s :=
 sP I hN hi hx r (fun s' I' _=>h s' I') hf
theorem Inv.Gv {s':Shared} {ch:List Addr} (I:Inv X pins σ H s) (ho:s'.os = s.os) (u:Un (l3 X.stack) ch H H' s.heap s'.heap) (ba:jN X.prog X.w H' s'.heap) (hg:AllBare s'.gens)
  (pO:∀ b ∈ ch,(b ∈ X.ex \/ X.s₀.heap.objs.size <= b) /\ b ≠ X.env.locals /\ (∀ x c,X.env.cells.lookup x = some c->c ≠ b) /\ ∀ p ∈ X.pn ++ pins,p.1 ≠ b):Inv X pins σ H' s':=by
 obtain ⟨h',g',d',t',o'⟩:=s'
 have e:o' = s.os:=ho
 subst e
 exact I.call (g':=g') (t':=t') (d':=d') u ba hg pO
end
abbrev XK:=Value->Option Addr->Hp->Prop
abbrev St:=List (Option V)
abbrev VK:=V->Hp->Prop
abbrev TE:=St->Hp->VK->Prop
abbrev TT:=St->Hp->(Bool->Hp->Prop)->Prop
abbrev TA:=St->Hp->(List V->Hp->Prop)->Prop
structure Ends where
 nx:St->Hp->Prop
 rt:VK
 bk:St->Hp->Prop:=fun _ _=>False
 ct:St->Hp->Prop:=fun _ _=>False
abbrev TS:=Ends->St->Hp->Prop
def EP (X:Cx) (pins:List (Addr × Obj)) (σ:St) (Q:VK) (u:Value) (s':Shared):Prop:=∃ v H',Inv X pins σ H' s' /\ RelV v u /\ Q v H'
def TP (X:Cx) (pins:List (Addr × Obj)) (σ:St) (Q:Bool->Hp->Prop) (b:Bool) (s':Shared):Prop:=∃ H',Inv X pins σ H' s' /\ Q b H'
def AP (X:Cx) (pins:List (Addr × Obj)) (σ:St) (Q:List V->Hp->Prop) (us:List Value) (s':Shared):Prop:=∃ vs H',Inv X pins σ H' s' /\ Vals vs us /\ Q vs H'
def SP (X:Cx) (pins:List (Addr × Obj)) (D:Ends) (f:Flow) (s':Shared):Prop :=
 match f with
 | .next=>∃ σ' H',Inv X pins σ' H' s' /\ D.nx σ' H'
 | .brk=>∃ σ' H',Inv X pins σ' H' s' /\ D.bk σ' H'
 | .cont=>∃ σ' H',Inv X pins σ' H' s' /\ D.ct σ' H'
 | .ret u=>∃ v σ' H',Inv X pins σ' H' s' /\ RelV v u /\ D.rt v H'
def PE (X:Cx) (e:Expr) (t:TE):Prop :=
 ∀ (pins:List (Addr × Obj)) (s:Shared) (σ:St) (H:Hp) (Q:VK),Inv X pins σ H s->t σ H Q->wpAny (model X.prog X.w) X.A (eval e X.env) (EP X pins σ Q) X.xe s
def PT (X:Cx) (e:Expr) (t:TT):Prop :=
 ∀ (pins:List (Addr × Obj)) (s:Shared) (σ:St) (H:Hp) (Q:Bool->Hp->Prop),Inv X pins σ H s->t σ H Q->wpAny (model X.prog X.w) X.A (isTrue e X.env (eval e X.env)) (TP X pins σ Q) X.xe s
def PW (X:Cx) (e:Expr) (t:TT):Prop :=
 ∀ (whole:Sem Value) (pins:List (Addr × Obj)) (s:Shared) (σ:St) (H:Hp) (Q:Bool->Hp->Prop),Inv X pins σ H s->t σ H Q->wpAny (model X.prog X.w) X.A (isTrue e X.env whole) (TP X pins σ Q) X.xe s
theorem PW.pt {X:Cx} {e:Expr} {t:TT} (h:PW X e t):PT X e t:=h _
def PA (X:Cx) (es:List Expr) (t:TA):Prop :=
 ∀ (pos:Pos) (pins:List (Addr × Obj)) (s:Shared) (σ:St) (H:Hp) (Q:List V->Hp->Prop),Inv X pins σ H s->t σ H Q->wpAny (model X.prog X.w) X.A (spliced (backTo pos (starEach es X.env))) (AP X pins σ Q) X.xe s
def PS (X:Cx) (st:Stmt) (t:TS):Prop :=
 ∀ (pins:List (Addr × Obj)) (s:Shared) (σ:St) (H:Hp) (D:Ends),Inv X pins σ H s->t D σ H->wpAny (model X.prog X.w) X.A (exec st X.env) (SP X pins D) X.xe s
def tN (X:Cx) (st:List Stmt) (t:TS):Prop :=
 ∀ (pins:List (Addr × Obj)) (s:Shared) (σ:St) (H:Hp) (D:Ends),Inv X pins σ H s->t D σ H->wpAny (model X.prog X.w) X.A (execs st X.env) (SP X pins D) X.xe s
theorem cn {α:Type} {t:Sem α} {Q Q':α->Shared->Prop} {M:Model} {A:Around} {E:Value->Shared->Prop} {s:Shared} (h:wpAny M A t Q E s) (hQ:∀ a s,Q a s->Q' a s):wpAny M A t Q' E s:=W5 h hQ fun _ _ x=>x
section
variable {X:Cx}
theorem bin {a b:Expr} {ta tb:TE} (ha:PE X a ta) (hb:PE X b tb) {pins:List (Addr × Obj)} {s:Shared} {σ:St} {H:Hp} {R:V->V->Hp->Prop} (I:Inv X pins σ H s) (h:ta σ H fun x H1=>tb σ H1 fun y H2=>R x y H2)
  {α:Type} {Q:α->Shared->Prop} {f:Value->Value->Sem α}
  (hf:∀ v u s2 x y H2,Inv X pins σ H2 s2->RelV x v->RelV y u->R x y H2->wpAny (model X.prog X.w) X.A (f v u) Q X.xe s2) :
  wpAny (model X.prog X.w) X.A (eval a X.env) (fun v s₁=>wpAny (model X.prog X.w) X.A (eval b X.env) (fun u s₂=>wpAny (model X.prog X.w) X.A (f v u) Q X.xe s₂) X.xe s₁) X.xe s:=by
 refine cn (ha pins s σ H _ I h) fun v s1 ⟨x,H1,I1,r1,q1⟩=>?_
 refine cn (hb pins s1 σ H1 _ I1 q1) fun u s2 ⟨y,H2,I2,r2,q2⟩=>?_
 exact hf v u s2 x y H2 I2 r1 r2 q2
def JQ (i:Nat):TE:=fun σ H Q=>∃ v,σ[i]? = some (some v) /\ Q v H
def tC (v:V):TE:=fun _ H Q=>Q v H
theorem Hs {i:Nat} {x:Str} {pos:Pos} (hN:X.N[i]? = some x) (hv:LL X.env.scope x) (hd:(x == ("__debug__":Str)) = false:=by decide) (x8:(x == ("__classdict__":Str)) = false:=by decide):PE X (.Name x pos) (JQ i):=by
 intro pins s σ H Q I h
 obtain ⟨v,e,h⟩:=h
 obtain ⟨m,hn,hl⟩:=I.loc
 obtain ⟨u,r,l⟩:=hl i x v hN e hv
 have fin:EP X pins σ Q u s:=⟨v,H,I,r,h⟩
 rcases l with ⟨hk,hm⟩ | ⟨hk,c,hc,sN⟩
 ·exact wpAny_Name (wpAny_loadName_local I.ok.kind hk hn hm fin) hd
 ·rcases hk with hk | hk
  ·exact wpAny_Name (wpAny_loadName_cell I.ok.kind hk hc sN fin) hd
  ·exact wpAny_Name (wpAny_loadName_free I.ok.kind hk hc sN fin x8) hd
theorem ai {i j pos}:PE X (.Constant (.int i) j pos) (tC (.int i)):=fun _ _ _ H _ I h=>wpAny_Constant_int ⟨.int i,H,I.tok _,⟨_,rfl⟩,h⟩
theorem fh {b j pos}:PE X (.Constant (.bool b) j pos) (tC (.bl b)):=fun _ _ _ H _ I h=>Constant_bool ⟨.bl b,H,I,rfl,h⟩
theorem oy {x j pos}:PE X (.Constant (.str x) j pos) (tC (.str x)):=fun _ _ _ H _ I h=>Calls.Constant_str ⟨.str x,H,I.tok _,⟨_,rfl⟩,h⟩
def Gl (X:Cx) (x:Str):Prop:=X.env.kindOf x = some .globalImplicit
theorem ma {E:Value->Shared->Prop} {pins:List (Addr × Obj)} {s:Shared} {σ:St} {H:Hp} {x:Str} {u:Value} {pos:Pos} {Q:Value->Shared->Prop} (I:Inv X pins σ H s) (hg:Gl X x) (hm:X.mg x = some u) (h:Q u s)
  (hd:(x == ("__debug__":Str)) = false:=by decide):wpAny (model X.prog X.w) X.A (eval (.Name x pos) X.env) Q E s :=
 Calls.Name_function_global I.ok.kind hg (Calls.loadGlobal_global (by rw [I.ok.glob]; exact I.mod.glob.keeps I.bk) hm h) hd
theorem oi {E:Value->Shared->Prop} {pins:List (Addr × Obj)} {s:Shared} {σ:St} {H:Hp} {x:Str} {u:Value} {pos:Pos} {Q:Value->Shared->Prop} (I:Inv X pins σ H s) (hg:Gl X x) (hm:X.mg x = none) (hv:bootBuiltins x = some u) (h:Q u s)
  (hn:x ≠ "__name__":=by decide) (hd:(x == ("__debug__":Str)) = false:=by decide):wpAny (model X.prog X.w) X.A (eval (.Name x pos) X.env) Q E s:=by
 obtain ⟨mb,h1,h2⟩:=I.mod.blt
 exact Calls.Name_function_global I.ok.kind hg (Calls.loadGlobal_builtin (by rw [I.ok.glob]; exact I.mod.glob.keeps I.bk) hm (by rw [I.ok.blt]; exact h1.keeps I.bk) ((h2 x hn).trans hv) h) hd
theorem jq {x:Str} {v:V} {u:Value} {pos:Pos} (hg:Gl X x) (hm:X.mg x = some u) (r:RelV v u) (hd:(x == ("__debug__":Str)) = false:=by decide):PE X (.Name x pos) (tC v) :=
 fun _ _ _ H _ I h=>ma I hg hm ⟨v,H,I,r,h⟩ hd
theorem jg {x:Str} {v:V} {u:Value} {pos:Pos} (hg:Gl X x) (hm:X.mg x = none) (hv:bootBuiltins x = some u) (r:RelV v u) (hn:x ≠ "__name__":=by decide) (hd:(x == ("__debug__":Str)) = false:=by decide):PE X (.Name x pos) (tC v) :=
 fun _ _ _ H _ I h=>oi I hg hm hv ⟨v,H,I,r,h⟩ hn hd
variable {a b:Expr} {ta tb:TE} {pos:Pos}
def PC (X:Cx) (op:CmpOp) (a b:Expr) (t:TE):Prop :=
 ∀ (pins:List (Addr × Obj)) (s:Shared) (σ:St) (H:Hp) (Q:VK),Inv X pins σ H s->t σ H Q ->
  wpAny (model X.prog X.w) X.A (eval a X.env) (fun v s₁=>wpAny (model X.prog X.w) X.A (eval b X.env) (fun u s₂=>wpAny (model X.prog X.w) X.A (compareOp op v u) (EP X pins σ Q) X.xe s₂) X.xe s₁) X.xe s
theorem CW (b:Expr) {op:CmpOp} (h:op ≠ .In) (h2:op ≠ .NotIn):behindInMarks op b = false:=by
 have e1:(op == CmpOp.In) = false:=by cases op <;> first | rfl | exact absurd rfl h
 have e2:(op == CmpOp.NotIn) = false:=by cases op <;> first | rfl | exact absurd rfl h2
 cases b <;> simp [behindInMarks,e1,e2]
def tB (t:TE):TT:=fun σ H Q=>t σ H fun x H1=>∃ c,x = .bl c /\ Q c H1
theorem Nt {op:CmpOp} {t:TE} (h:PC X op a b t) (h1:behindInMarks op b = false:=by first | exact CW _ (by decide) (by decide) | rfl):PT X (.Compare a [op] [b] pos) (tB t):=by
 intro pins s σ H Q I hw
 refine wpAny_isTrue_Compare1 (cn (h pins s σ H _ I hw) fun v s1 h1=>cn h1 fun u s2 h2=>cn h2 fun c s3 ⟨x,H1,I1,r1,q1⟩=>?_) h1
 obtain ⟨d,rfl,q⟩:=q1
 cases r1
 exact WR ⟨H1,I1,q⟩
theorem cG {e:Expr} {t:TE} (h:PE X e t) (he:∀ whole,isTrue e X.env whole = (do let v <- whole; standAt e.pos; holding [v] (truthy v)):=by intro _; rfl):PT X e (tB t):=by
 intro pins s σ H Q I hw
 refine isTrue_plain (cn (h pins s σ H _ I hw) fun v s1 ⟨x,H1,I1,r1,q1⟩=>?_) (he _)
 obtain ⟨d,rfl,q⟩:=q1
 cases r1
 exact WR ⟨H1,I1,q⟩
variable {tA L0:TT} {rest:List Expr}
def Nf (t u:TT):TT:=fun σ H Q=>t σ H fun c H1=>if c = true then u σ H1 Q else Q false H1
def U3 (t u:TT):TT:=fun σ H Q=>t σ H fun c H1=>if c = true then Q true H1 else u σ H1 Q
def NR (t:TT):TT:=fun σ H Q=>t σ H fun c H1=>Q (!c) H1
theorem pw_and1 (ha:PT X a tA):PW X (.BoolOp .And [a] pos) tA:=by
 intro wh pins s σ H Q I h
 refine isTrue_and (cn (ha pins s σ H Q I h) fun c s1 e=>?_)
 cases c with
 | true=>exact isTrue_and_nil e
 | false=>exact e
theorem pw_or1 (ha:PT X a tA):PW X (.BoolOp .Or [a] pos) tA:=by
 intro wh pins s σ H Q I h
 refine isTrue_or (cn (ha pins s σ H Q I h) fun c s1 e=>?_)
 cases c with
 | false=>exact isTrue_or_nil e
 | true=>exact e
theorem pw_and (ha:PT X a tA) (hb:PW X (.BoolOp .And (b :: rest) pos) L0):PW X (.BoolOp .And (a :: b :: rest) pos) (Nf tA L0):=by
 intro wh pins s σ H Q I h
 refine isTrue_and (cn (ha pins s σ H _ I h) fun c s1 ⟨H1,I1,q1⟩=>?_)
 cases c with
 | true=>exact hb wh pins s1 σ H1 Q I1 q1
 | false=>exact ⟨H1,I1,q1⟩
theorem pw_or (ha:PT X a tA) (hb:PW X (.BoolOp .Or (b :: rest) pos) L0):PW X (.BoolOp .Or (a :: b :: rest) pos) (U3 tA L0):=by
 intro wh pins s σ H Q I h
 refine isTrue_or (cn (ha pins s σ H _ I h) fun c s1 ⟨H1,I1,q1⟩=>?_)
 cases c with
 | true=>exact ⟨H1,I1,q1⟩
 | false=>exact hb wh pins s1 σ H1 Q I1 q1
theorem dW (ha:PT X a tA):PT X (.UnaryOp .Not a pos) (NR tA):=by
 intro pins s σ H Q I h
 exact isTrue_not (ha pins s σ H (fun c H1=>Q (!c) H1) I h)
def Ld (ta tb:TE):TE:=fun σ H Q=>ta σ H fun x H1=>∃ c,x = .bl c /\ if c = true then tb σ H1 Q else Q (.bl false) H1
def K9 (ta:TE):TE:=fun σ H Q=>ta σ H fun x H1=>∃ c,x = .bl c /\ Q (.bl (!c)) H1
theorem je {op} {t:TE} (h:PE X a t):PE X (.BoolOp op [a] pos) t:=fun pins s σ H Q I hw=>BoolOp_one (h pins s σ H Q I hw)
theorem fP (ha:PE X a ta) (hb:PE X (.BoolOp .And (b :: rest) pos) tb):PE X (.BoolOp .And (a :: b :: rest) pos) (Ld ta tb):=by
 intro pins s σ H Q I h
 refine BoolOp_and (cn (ha pins s σ H _ I h) fun v s1 ⟨x,H1,I1,r1,q1⟩=>?_)
 obtain ⟨c,rfl,q1⟩:=q1
 cases r1
 refine WR ?_
 cases c with
 | true=>exact hb pins s1 σ H1 Q I1 q1
 | false=>exact ⟨.bl false,H1,I1,rfl,q1⟩
theorem Hu (ha:PE X a ta):PE X (.UnaryOp .Not a pos) (K9 ta):=by
 intro pins s σ H Q I h
 refine UnaryOp_ (cn (ha pins s σ H _ I h) fun v s1 ⟨x,H1,I1,r1,q1⟩=>?_)
 obtain ⟨c,rfl,q1⟩:=q1
 cases r1
 exact not_of (WR ⟨.bl (!c),H1,I1,rfl,q1⟩)
def SA (t:TT) (ta tb:TE):TE:=fun σ H Q=>t σ H fun c H1=>if c = true then ta σ H1 Q else tb σ H1 Q
theorem CM {c:Expr} (hc:PT X c tA) (ha:PE X a ta) (hb:PE X b tb):PE X (.IfExp c a b pos) (SA tA ta tb):=by
 intro pins s σ H Q I h
 refine wpAny_IfExp (cn (hc pins s σ H _ I h) fun d s1 ⟨H1,I1,q1⟩=>?_)
 cases d with
 | true=>exact ha pins s1 σ H1 Q I1 q1
 | false=>exact hb pins s1 σ H1 Q I1 q1
end
def aZ (K:Yt) (H:Hp) (a:Addr) (xs:List V):Prop :=
 Rd H a (.lst xs) \/
  ∃ (o:Obj) (aH:Array Value) (n:Nat),K.lookup a = some o /\ o.cls = .type "list" /\ o.dict = none /\ o.data = .seq aH n /\ aH.size <= sizeLine /\ Vals xs aH.toList
def a7 (K:Yt) (H:Hp) (a:Addr) (xs:List V):Prop :=
 Rd H a (.tup xs) \/
  ∃ (o:Obj) (aH:Array Value) (n:Nat),K.lookup a = some o /\ o.cls = .type "tuple" /\ o.data = .seq aH n /\ aH.size <= sizeLine /\ Vals xs aH.toList
def NN:Value->Option V
 | .none=>some .dR
 | .bool b=>some (.bl b)
 | .int i _=>some (.int i)
 | .str x _=>some (.str x)
 | .bytes b _=>some (.zK b)
 | .float b _=>some (.Ig b)
 | .ref a=>some (.ref a)
 | .type n=>some (.ty n)
 | _=>none
theorem RelV.abs {x:V} {u:Value} (r:RelV x u):NN u = some x:=by
 cases x with
 | dR=>cases r; rfl
 | bl _=>cases r; rfl
 | int _=>obtain ⟨t,rfl⟩:=r; rfl
 | str _=>obtain ⟨t,rfl⟩:=r; rfl
 | zK _=>obtain ⟨t,rfl⟩:=r; rfl
 | Ig _=>obtain ⟨t,rfl⟩:=r; rfl
 | ref _=>cases r; rfl
 | ty _=>cases r; rfl
theorem RelV.inj {x y:V} {u:Value} (r:RelV x u) (q:RelV y u):x = y:=WM (r.abs.symm.trans q.abs)
theorem Vals.inj:∀ {xs ys:List V} {us:List Value},Vals xs us->Vals ys us->xs = ys
 | _,_,_,.nil,.nil=>rfl
 | _,_,_,.cons r t,.cons r' t'=>by rw [r.inj r',Vals.inj t t']
section
variable {X:Cx} {pins:List (Addr × Obj)} {σ:St} {H:Hp} {s:Shared} {a:Addr} {xs ys:List V}
theorem aZ.of {K:Yt} (h:H a = some (.lst xs)):aZ K H a xs:=.inl (.inl h)
theorem a7.of {K:Yt} (h:H a = some (.tup xs)):a7 K H a xs:=.inl (.inl h)
theorem Inv.list (I:Inv X pins σ H s) (h:aZ X.K H a xs):∃ aH:List Value,Vals xs aH /\ PlainL s.heap a aH.toArray /\ xs.length <= sizeLine:=by
 rcases h with h | ⟨o,aH,n,hk,hc,hd,hs,hz,r⟩
 ·obtain ⟨z,aH,n,r,e⟩:=h.ok I.ba
  exact ⟨aH,r,⟨_,n,e,rfl,rfl,rfl⟩,z⟩
 ·refine ⟨aH.toList,r,⟨o,n,I.oZ a o hk,hc,hd,by simpa using hs⟩,?_⟩
  have e:=r.length
  simp only [VW] at e
  omega
theorem Inv.tuple (I:Inv X pins σ H s) (h:a7 X.K H a xs):∃ aH:List Value,Vals xs aH /\ IsTup s.heap a aH.toArray /\ xs.length <= sizeLine:=by
 rcases h with h | ⟨o,aH,n,hk,hc,hs,hz,r⟩
 ·obtain ⟨z,aH,r,p⟩:=h.ok I.ba
  exact ⟨aH,r,p,z⟩
 ·refine ⟨aH.toList,r,⟨o,I.oZ a o hk,hc,n,by simpa using hs⟩,?_⟩
  have e:=r.length
  simp only [VW] at e
  omega
theorem Inv.Dv (I:Inv X pins σ H s) (h:aZ X.K H a xs) (h':aZ X.K H a ys):xs = ys:=by
 obtain ⟨aH,r,⟨o,n,e,_,_,d⟩,_⟩:=I.list h
 obtain ⟨its',r',⟨o',n',e',_,_,d'⟩,_⟩:=I.list h'
 rw [e] at e'; cases e'
 rw [d] at d'
 injection d' with d1 _
 have:aH = its':=by simpa using W0 Array.toList d1
 subst this
 exact r.inj r'
theorem Inv.zV (I:Inv X pins σ H s) (h:a7 X.K H a xs) (h':a7 X.K H a ys):xs = ys:=by
 obtain ⟨aH,r,⟨o,e,_,n,d⟩,_⟩:=I.tuple h
 obtain ⟨its',r',⟨o',e',_,n',d'⟩,_⟩:=I.tuple h'
 rw [e] at e'; cases e'
 rw [d] at d'
 injection d' with d1 _
 have:aH = its':=by simpa using W0 Array.toList d1
 subst this
 exact r.inj r'
end
abbrev Cx.pH (X:Cx) (E:Value->Shared->Prop):Cx:={ X with xe:=E }
abbrev Cx.Ej (X:Cx):Cx:=X.pH fun _ _=>False
theorem Cx.Ok.pH {X:Cx} (ok:X.Ok) (E:Value->Shared->Prop):(X.pH E).Ok :=
 ⟨ok.mod,ok.kind,ok.glob,ok.blt,ok.above,ok.inj,ok.has,ok.IJ,ok.hd,ok.frames,ok.Jo,ok.JI,ok.bs,ok.Bm,ok.Aa,ok.Aq,ok.me,ok.EE⟩
theorem Cx.Ok.iG {X:Cx} {E:Value->Shared->Prop} (ok:(X.pH E).Ok):X.Ok :=
 ⟨ok.mod,ok.kind,ok.glob,ok.blt,ok.above,ok.inj,ok.has,ok.IJ,ok.hd,ok.frames,ok.Jo,ok.JI,ok.bs,ok.Bm,ok.Aa,ok.Aq,ok.me,ok.EE⟩
section
variable {X:Cx} {pins:List (Addr × Obj)} {σ:St} {H:Hp} {s:Shared} {E:Value->Shared->Prop}
theorem Inv.pH (I:Inv X pins σ H s) (E:Value->Shared->Prop):Inv (X.pH E) pins σ H s:=⟨I.ok.pH E,I.os,I.bare,I.base,I.loc,I.cell,I.free,I.jH,I.pin,I.ba,I.len⟩
theorem Inv.iG (I:Inv (X.pH E) pins σ H s):Inv X pins σ H s:=⟨I.ok.iG,I.os,I.bare,I.base,I.loc,I.cell,I.free,I.jH,I.pin,I.ba,I.len⟩
theorem SP.iG {D:Ends} {f:Flow} {s':Shared} (h:SP (X.pH E) pins D f s'):SP X pins D f s':=by
 cases f with
 | next=>obtain ⟨σ',H',I,q⟩:=h; exact ⟨σ',H',I.iG,q⟩
 | brk=>obtain ⟨σ',H',I,q⟩:=h; exact ⟨σ',H',I.iG,q⟩
 | cont=>obtain ⟨σ',H',I,q⟩:=h; exact ⟨σ',H',I.iG,q⟩
 | ret u=>obtain ⟨v,σ',H',I,r,q⟩:=h; exact ⟨v,σ',H',I.iG,r,q⟩
theorem PE.Ej {e:Expr} {t:TE} (h:PE X.Ej e t):PE X e t:=fun pins s σ H Q I hw =>
 W5 (h pins s σ H Q (I.pH _) hw) (fun _ _ ⟨v,H',I',r,q⟩=>⟨v,H',I'.iG,r,q⟩) fun _ _ z=>False.elim z
theorem PT.Ej {e:Expr} {t:TT} (h:PT X.Ej e t):PT X e t:=fun pins s σ H Q I hw =>
 W5 (h pins s σ H Q (I.pH _) hw) (fun _ _ ⟨H',I',q⟩=>⟨H',I'.iG,q⟩) fun _ _ z=>False.elim z
theorem tN.Ej {st:List Stmt} {t:TS} (h:tN X.Ej st t):tN X st t:=fun pins s σ H D I hw =>
 W5 (h pins s σ H D (I.pH _) hw) (fun _ _ q=>q.iG) fun _ _ z=>False.elim z
end
section
variable {X:Cx} {st:Stmt} {rest:List Stmt} {t u:TS} {e:Expr} {te:TE} {pos:Pos}
def Kj:TS:=fun D σ H=>D.nx σ H
def Mw (t u:TS):TS:=fun D σ H=>t { D with nx:=u D } σ H
theorem aQ:tN X [] Kj:=fun _ _ σ H _ I h=>wpAny_execs_nil ⟨σ,H,I,h⟩
theorem ag (h1:PS X st t) (h2:tN X rest u):tN X (st :: rest) (Mw t u):=by
 intro pins s σ H D I h
 refine wpAny_execs_cons (cn (h1 pins s σ H { D with nx:=u D } I h) fun f s1 q=>?_)
 cases f with
 | next =>
  obtain ⟨σ',H',I',q⟩:=q
  exact h2 pins s1 σ' H' D I' q
 | ret v=>exact q
 | brk=>exact q
 | cont=>exact q
theorem aj (h1:PS X st t):tN X [st] t:=by
 intro pins s σ H D I h
 refine wpAny_execs_cons (cn (h1 pins s σ H D I h) fun f s1 q=>?_)
 cases f with
 | next=>exact wpAny_execs_nil q
 | ret v=>exact q
 | brk=>exact q
 | cont=>exact q
theorem Inv.quiet {pins:List (Addr × Obj)} {σ:St} {H:Hp} {s:Shared} (I:Inv X pins σ H s):interactive X.env = false:=by simp [interactive,I.ok.kind]
def KA (te:TE):TS:=fun D σ H=>te σ H fun _ H1=>D.nx σ H1
theorem cF (he:PE X e te) (hs:swapsWith e none pos.line X.env = pure false:=by rfl):PS X (.Expr e pos) (KA te):=by
 intro pins s σ H D I h
 exact wpAny_Expr_any (cn (he pins s σ H _ I h) fun v s1 ⟨x,H1,I1,r1,q1⟩=>⟨σ,H1,I1,q1⟩) I.quiet hs
def OC (te:TE):TS:=fun D σ H=>te σ H D.rt
theorem aD (he:PE X e te):PS X (.Return (some e) pos) (OC te):=by
 intro pins s σ H D I h
 exact wpAny_Return_some (cn (he pins s σ H _ I h) fun v s1 ⟨x,H1,I1,r1,q1⟩=>⟨x,σ,H1,I1,r1,q1⟩)
def Hc (c:TT) (t u:TS):TS:=fun D σ H=>c σ H fun b H1=>if b = true then t D σ H1 else u D σ H1
theorem bE {c:Expr} {a b:List Stmt} {tc:TT} (hc:PT X c tc) (ha:tN X a t) (hb:tN X b u):PS X (.If c a b pos) (Hc tc t u):=by
 intro pins s σ H D I h
 refine wpAny_If (cn (hc pins s σ H _ I h) fun d s1 ⟨H1,I1,q1⟩=>?_)
 cases d with
 | true=>exact ha pins s1 σ H1 D I1 q1
 | false=>exact hb pins s1 σ H1 D I1 q1
def GR:TS:=fun _ _ _=>False
theorem iX:PS X st GR:=fun _ _ _ _ _ _ h=>h.elim
end
abbrev TG:=V->St->Hp->(St->Hp->Prop)->Prop
abbrev Gs:=List V->St->Hp->(St->Hp->Prop)->Prop
def PG (X:Cx) (target:Expr) (t:TG):Prop :=
 ∀ (pins:List (Addr × Obj)) (s:Shared) (σ:St) (H:Hp) (v:V) (u:Value) (Q:St->Hp->Prop),Inv X pins σ H s->RelV v u->t v σ H Q ->
  wpAny (model X.prog X.w) X.A (assign target X.env u) (fun _ s'=>∃ σ' H',Inv X pins σ' H' s' /\ Q σ' H') X.xe s
def JJ (X:Cx) (ts:List Expr) (t:Gs):Prop :=
 ∀ (pins:List (Addr × Obj)) (s:Shared) (σ:St) (H:Hp) (vs:List V) (us:List Value) (Q:St->Hp->Prop),Inv X pins σ H s->Vals vs us->t vs σ H Q ->
  wpAny (model X.prog X.w) X.A (assignInOrder ((assignEach ts X.env).map (·.2)) us) (fun _ s'=>∃ σ' H',Inv X pins σ' H' s' /\ Q σ' H') X.xe s
abbrev HA:=V->V->V->Hp->(Hp->Prop)->Prop
def GD (X:Cx) (t:HA):Prop :=
 ∀ (pins:List (Addr × Obj)) (s:Shared) (σ:St) (H:Hp) (o i v:V) (ov iv u:Value) (Q:Hp->Prop),Inv X pins σ H s->RelV o ov->RelV i iv->RelV v u->t o i v H Q ->
  wpAny (model X.prog X.w) X.A (setItem ov iv u) (fun _ s'=>∃ H',Inv X pins σ H' s' /\ Q H') X.xe s
abbrev LV:=V->V->Hp->VK->Prop
def O3 (X:Cx) (op:Operator) (t:LV):Prop :=
 ∀ (pins:List (Addr × Obj)) (s:Shared) (σ:St) (H:Hp) (x y:V) (v u:Value) (Q:VK),Inv X pins σ H s->RelV x v->RelV y u->t x y H Q ->
  wpAny (model X.prog X.w) X.A (inplaceOp op v u) (EP X pins σ Q) X.xe s
section
variable {X:Cx} {pos:Pos}
def sX (i:Nat):TG:=fun v σ H Q=>Q (σ.set i (some v)) H
theorem El {i:Nat} {x:Str} (hN:X.N.Nodup) (hi:X.N[i]? = some x) (hx:Loc X.env.scope x) (hf:X.fn x = true \/ X.env.scope.names.lookup x = some .local:=by first | exact .inl rfl | exact .inr rfl | assumption):PG X (.Name x pos) (sX i):=by
 intro pins s σ H v u Q I r h
 exact wpAny_assign_Name (qI I hN hi hx r (fun s' I'=>⟨_,H,I',h⟩) hf)
def MF:Gs:=fun vs σ H Q=>vs = [] /\ Q σ H
def KP (t:TG) (u:Gs):Gs:=fun vs σ H Q=>∃ v r,vs = v :: r /\ t v σ H fun σ' H'=>u r σ' H' Q
theorem gE:JJ X [] MF:=by
 intro pins s σ H vs us Q I r h
 obtain ⟨e,h⟩:=h
 subst e
 cases r
 exact assignInOrder_nil ⟨σ,H,I,h⟩
theorem a9 {e:Expr} {es:List Expr} {t:TG} {u:Gs} (h1:PG X e t) (h2:JJ X es u)
  (hs:(assignEach (e :: es) X.env).map (·.2) = assign e X.env :: (assignEach es X.env).map (·.2):=by rfl):JJ X (e :: es) (KP t u):=by
 intro pins s σ H vs us Q I r h
 obtain ⟨v,vr,e1,h⟩:=h
 subst e1
 cases r with
 | cons r rr =>
  rw [hs]
  refine assignInOrder_cons (cn (h1 pins s σ H _ _ _ I r h) fun _ s1 ⟨σ1,H1,I1,q1⟩=>?_)
  exact h2 pins s1 σ1 H1 _ _ Q I1 rr q1
def JF (K:Yt) (n:Nat) (t:Gs):TG:=fun v σ H Q=>∃ a xs,v = .ref a /\ a7 K H a xs /\ xs.length = n /\ t xs σ H Q
theorem l7 {es:List Expr} {k:Nat} {t:Gs} {n:Nat} (hc:X.calm = true) (h:JJ X es t)
  (hn:(assignEach es X.env).length = n:=by rfl) (jM:(assignEach es X.env).findIdx? (·.1) = none:=by rfl):PG X (.Tuple es k pos) (JF X.K n t):=by
 intro pins s σ H v u Q I r hw
 obtain ⟨a,xs,e1,hq,hl,hw⟩:=hw
 subst e1
 cases r
 obtain ⟨aH,rv,ht,hz⟩:=I.tuple hq
 refine assign_Tuple_tuple (I.ok.hd hc) ht (by simp [hn,<- hl,rv.length]) jM fun h' hx=>?_
 have I1:Inv X pins σ H { s with heap:=h' }:=I.kept (t':=s.toks) fun b o e=>hx b o (Wj (V4 e)) e
 exact h pins _ σ H xs _ Q I1 (by simpa using rv) hw
def Mv (to ti:TE) (t:HA):TG:=fun v σ H Q=>to σ H fun o H1=>ti σ H1 fun i H2=>t o i v H2 fun H3=>Q σ H3
theorem yt {o i:Expr} {to ti:TE} {t:HA} (ho:PE X o to) (hi:PE X i ti) (hs:GD X t)
  (ha:∀ v,assign (.Subscript o i pos) X.env v = (do
   let ov <- holding [v] (eval o X.env)
   let iv <- holding [v,ov] (eval i X.env)
   standAt pos
   holding [v,ov,iv] (setItem ov iv v)
   release [v,ov,iv] []):=by intro _; rfl):PG X (.Subscript o i pos) (Mv to ti t):=by
 intro pins s σ H v u Q I r h
 rw [ha]
 refine VL (W2 (cn (ho pins s σ H _ I h) fun ov s1 ⟨x,H1,I1,r1,q1⟩=>?_))
 refine VL (W2 (cn (hi pins s1 σ H1 _ I1 q1) fun iv s2 ⟨y,H2,I2,r2,q2⟩=>?_))
 refine VL (wpAny_standAt (VL (W2 (cn (hs pins s2 σ H2 x y v ov iv u _ I2 r1 r2 r q2) fun _ s3 ⟨H3,I3,q3⟩=>?_))))
 exact wpAny_release ⟨σ,H3,I3,q3⟩
def Ea (te:TE) (g:TG):TS:=fun D σ H=>te σ H fun x H1=>g x σ H1 D.nx
theorem x3 {tg e:Expr} {te:TE} {g:TG} (he:PE X e te) (hg:PG X tg g) (hs:swapsWithSole [tg] e pos.line X.env = pure false:=by rfl) (hw:swappedStores [tg] e X.env = pure none:=by rfl)
  (h1:(assignEach [tg] X.env).map (·.2) = [assign tg X.env]:=by rfl):PS X (.Assign [tg] e pos) (Ea te g):=by
 intro pins s σ H D I h
 refine wpAny_Assign_stores (cn (he pins s σ H _ I h) fun v s1 ⟨x,H1,I1,r1,q1⟩=>?_) hs hw
 rw [h1]
 exact cn (hg pins s1 σ H1 x v _ I1 r1 q1) fun _ s2 q=>q
theorem Hk {i:Nat} {x:Str} {e:Expr} {te:TE} {pos':Pos} (hN:X.N.Nodup) (hi:X.N[i]? = some x) (hx:Loc X.env.scope x) (he:PE X e te) (hs:swapsWith e (some (.Name x pos')) pos.line X.env = pure false:=by rfl) (hf:X.fn x = true \/ X.env.scope.names.lookup x = some .local:=by first | exact .inl rfl | exact .inr rfl | assumption) :
  PS X (.Assign [.Name x pos'] e pos) (Ea te (sX i)):=by
 intro pins s σ H D I h
 refine wpAny_Assign_Name (cn (he pins s σ H _ I h) fun v s1 ⟨y,H1,I1,r1,q1⟩=>?_) hs
 exact qI I1 hN hi hx r1 (fun s2 I2=>⟨_,H1,I2,q1⟩) hf
def NM (i:Nat) (te:TE) (ti:LV):TS:=fun D σ H=>∃ x,σ[i]? = some (some x) /\ te σ H fun y H1=>ti x y H1 fun z H2=>D.nx (σ.set i (some z)) H2
theorem Hw {i:Nat} {x:Str} {e:Expr} {te:TE} {op:Operator} {ti:LV} {pos':Pos} (hN:X.N.Nodup) (hi:X.N[i]? = some x) (hx:Loc X.env.scope x) (he:PE X e te) (ho:O3 X op ti) (hf:X.fn x = true \/ X.env.scope.names.lookup x = some .local:=by first | exact .inl rfl | exact .inr rfl | assumption) :
  PS X (.AugAssign (.Name x pos') op e pos) (NM i te ti):=by
 intro pins s σ H D I h
 obtain ⟨v,e1,h⟩:=h
 obtain ⟨m,hn,hl⟩:=I.loc
 have HF:LL X.env.scope x:=by rcases hx with k | k; exact .inl k; exact .inr (.inl k)
 obtain ⟨u,r,l⟩:=hl i x v hi e1 HF
 refine wpAny_AugAssign_Name ?_
 have go:wpAny (model X.prog X.w) X.A (eval e X.env) (fun w s₂=>wpAny (model X.prog X.w) X.A (inplaceOp op u w) (fun r s₃=>wpAny (model X.prog X.w) X.A (storeName X.env x r) (fun _=>SP X pins D .next) X.xe s₃) X.xe s₂) X.xe s:=by
  refine cn (he pins s σ H _ I h) fun w s1 ⟨y,H1,I1,r1,q1⟩=>?_
  refine cn (ho pins s1 σ H1 v y u w _ I1 r r1 q1) fun z s2 ⟨zv,H2,I2,r2,q2⟩=>?_
  exact qI I2 hN hi hx r2 (fun s3 I3=>⟨_,H2,I3,q2⟩) hf
 rcases l with ⟨hk,hm⟩ | ⟨hk,c,hc,sN⟩
 ·exact wpAny_loadName_local I.ok.kind hk hn hm go
 ·rcases hk with hk | hk
  ·exact wpAny_loadName_cell I.ok.kind hk hc sN go
  ·rcases hx with k | k
   ·have:X.env.scope.names.lookup x = some .free:=hk
    rw [k] at this; cases this
   ·have:X.env.scope.names.lookup x = some .free:=hk
    rw [k] at this; cases this
def US (f:Int->Int->Int):LV:=fun x y H Q=>∃ i j,x = .int i /\ y = .int j /\ Q (.int (f i j)) H
theorem IF:O3 X .Add (US fun i j=>i + j):=by
 intro pins s σ H x y v u Q I r1 r2 h
 obtain ⟨i,j,e1,e2,q⟩:=h
 subst e1; subst e2
 obtain ⟨t,rfl⟩:=r1
 obtain ⟨t',rfl⟩:=r2
 exact iadd_int ⟨.int _,H,I.tok _,⟨_,rfl⟩,q⟩
end
section
variable {X:Cx} {pos:Pos}
def G7 (c:TT) (tb:TS):TS:=fun D σ H=>∃ W:Nat->St->Hp->Prop,(∃ m,W m σ H) /\ ∀ m σ H,W m σ H ->
 c σ H fun b H1=>if b = true then ∃ N:St->Hp->Prop,(∀ σ' H',N σ' H'->∃ m',m' < m /\ W m' σ' H') /\ tb { D with nx:=N,ct:=N,bk:=D.nx } σ H1 else D.nx σ H1
theorem jT {c:Expr} {body:List Stmt} {tc:TT} {tb:TS} (hp:PassesOwn (model X.prog X.w) X.A X.env X.xe) (hc:PT X c tc) (hb:tN X body tb):PS X (.While c body [] pos) (G7 tc tb):=by
 intro pins s σ H D I h
 obtain ⟨W,⟨m0,w0⟩,turn⟩:=h
 refine wpAny_While (codeAny_whileLoop (fun n s'=>∃ σ' H',Inv X pins σ' H' s' /\ W n σ' H') ?_ m0 ⟨σ,H,I,w0⟩)
 rintro n s1 ⟨σ1,H1,I1,w1⟩
 refine XY hp (cn (hc pins s1 σ1 H1 _ I1 (turn n σ1 H1 w1)) fun b s2 ⟨H2,I2,q2⟩=>?_)
 cases b with
 | true =>
  obtain ⟨N,hN,q2⟩:=q2
  rw [if_pos rfl]
  refine XY hp (cn (hb pins s2 σ1 H2 _ I2 q2) fun f s3 q3=>?_)
  cases f with
  | next =>
   obtain ⟨σ3,H3,I3,n3⟩:=q3
   obtain ⟨m',hm,w3⟩:=hN σ3 H3 n3
   exact ⟨m',hm,σ3,H3,I3,w3⟩
  | cont =>
   obtain ⟨σ3,H3,I3,n3⟩:=q3
   obtain ⟨m',hm,w3⟩:=hN σ3 H3 n3
   exact ⟨m',hm,σ3,H3,I3,w3⟩
  | brk=>exact q3
  | ret v=>exact q3
 | false =>
  rw [if_neg VU]
  exact wpAny_execs_nil ⟨σ1,H2,I2,q2⟩
end
structure It where
 go:Nat->Hp->Prop
 Gw:Nat->Hp->V->Hp->Prop
 stop:Nat->Hp->Prop
def uk (X:Cx) (pins:List (Addr × Obj)) (H:Hp) (b:Addr):Prop :=
 H b = none /\ b ≠ X.env.locals /\ b ∉ X.fs /\ (b ∈ X.ex \/ X.s₀.heap.objs.size <= b) /\ (∀ x c,X.env.cells.lookup x = some c->c ≠ b) /\ ∀ p ∈ X.pn ++ pins,p.1 ≠ b
theorem Inv.BH {X:Cx} {pins:List (Addr × Obj)} {σ:St} {H H':Hp} {s:Shared} {b:Addr} (I:Inv X pins σ H s) (hb:s.heap.objs.size <= b) (hn:H' b = none):uk X pins H' b:=by
 refine ⟨hn,X8 (Wn I.lt hb),I.JE hb,.inr (VZ I.sz hb),fun x c e z=>?_,fun p hp z=>?_⟩
 ·obtain ⟨v,q⟩:=I.cell x c e
  exact absurd (Wn q.lt (by rw [z]; exact hb)) (WX _)
 ·exact absurd (Wn (V4 (I.pin p hp).1) (by rw [z]; exact hb)) (WX _)
structure Turn (P:Program) (w:World) (K:Yt) (tg:Expr) (J:It) (fp:List Addr) (it:Addr) (tn:Nat->Heap->Prop):Prop where
 mem:it ∈ fp
 obj:∀ i h,tn i h->∀ b ∈ fp,∃ o,h.get? b = some o /\ ∀ v,o.data ≠ .cell v
 keep:∀ i h h',tn i h->(∀ b ∈ fp,∀ o,h.get? b = some o->h'.get? b = some o)->tn i h'
 item:∀ (X:Cx),X.prog = P->X.w = w->X.K = K->X.calm = true->∀ (i:Nat) (pins:List (Addr × Obj)) (s:Shared) (σ:St) (H:Hp) (E:Value->Shared->Prop),Inv X pins σ H s->(∀ b ∈ fp,uk X pins H b)->tn i s.heap->J.go i H ->
  wpAny (model P w) X.A (pyNext (.ref it)) (fun r s1=>∃ u,r = some u /\
   wpAny (model P w) X.A (letOwnedTupleGo tg (.ref it) u) (fun _ s2=>∃ x H',Inv X pins σ H' s2 /\ RelV x u /\ J.Gw i H x H' /\ tn (i + 1) s2.heap /\ ∀ b ∈ fp,H' b = none) E s1) E s
 done:∀ (X:Cx),X.prog = P->X.w = w->X.K = K->X.calm = true->∀ (i:Nat) (pins:List (Addr × Obj)) (s:Shared) (σ:St) (H:Hp) (E:Value->Shared->Prop),Inv X pins σ H s->(∀ b ∈ fp,uk X pins H b)->tn i s.heap->J.stop i H ->
  wpAny (model P w) X.A (pyNext (.ref it)) (fun r s1=>r = none /\ Inv X pins σ H s1) E s
 self:∀ (A:Around) (i:Nat) (s:Shared) (Q:Value->Shared->Prop) (E:Value->Shared->Prop),tn i s.heap->Q (.ref it) s->wpAny (model P w) A (pyIter (.ref it)) Q E s
abbrev TI:=St->Hp->(It->Hp->Prop)->Prop
def Pn (X:Cx) (pins:List (Addr × Obj)) (σ:St) (tg:Expr) (R:It->Hp->Prop) (MC:Value) (s2:Shared):Prop :=
 ∃ (it:Addr) (fp:List Addr) (tn:Nat->Heap->Prop) (J:It) (H':Hp),MC = .ref it /\ Inv X pins σ H' s2 /\ Turn X.prog X.w X.K tg J fp it tn /\ tn 0 s2.heap /\ (∀ b ∈ fp,uk X pins H' b) /\ R J H'
def PI (X:Cx) (tg iter:Expr) (wi:TI):Prop :=
 ∀ (pins:List (Addr × Obj)) (s:Shared) (σ:St) (H:Hp) (R:It->Hp->Prop),Inv X pins σ H s->wi σ H R ->
  wpAny (model X.prog X.w) X.A (eval iter X.env) (fun v s1=>wpAny (model X.prog X.w) X.A (pyIter v) (Pn X pins σ tg R) X.xe s1) X.xe s
theorem CO {M:Model} {A:Around} {E:Value->Shared->Prop} {s:Shared} {tg:Expr} {it:Addr} {u:Value} {o:Obj} {n:String} {vs:Array Value} {Q:Unit->Shared->Prop} (ho:s.heap.get? it = some o) (hc:o.cls = .type n) (hd:o.data = .fields vs)
  (hn:["enumerate","zip","dict_itemiterator","dict_reverseitemiterator","odict_iterator","itertools.zip_longest","itertools.pairwise"].contains n = false) (hQ:Q () s):wpAny M A (letOwnedTupleGo tg (.ref it) u) Q E s:=by
 unfold letOwnedTupleGo
 cases tg <;> first
  | exact VM hQ
  | (cases u <;> first
    | exact VM hQ
    | (
      refine VL (wpAny_load ho ?_)
      rw [hc,hd]
      show wpAny M A (if (["enumerate","zip","dict_itemiterator","dict_reverseitemiterator","odict_iterator","itertools.zip_longest","itertools.pairwise"].contains n && vs[0]? == some (rawInt _)) = true then _ else _) Q E s
      rw [if_neg (by intro h; rw [hn,Ww] at h; cases h)]
      exact VM hQ))
def IY (K:Yt) (a:Addr):It :=
 ⟨fun i H=>∃ xs x,aZ K H a xs /\ xs[i]? = some x,fun i H x H'=>H' = H /\ ∀ xs,aZ K H a xs->xs[i]? = some x,fun i H=>∃ xs,aZ K H a xs /\ xs.length <= i⟩
def IV (K:Yt) (a:Addr):It :=
 ⟨fun i H=>∃ xs x,a7 K H a xs /\ xs[i]? = some x,fun i H x H'=>H' = H /\ ∀ xs,a7 K H a xs->xs[i]? = some x,fun i H=>∃ xs,a7 K H a xs /\ xs.length <= i⟩
def HW (lo:Int) (n:Nat):It:=⟨fun i _=>i < n,fun i H x H'=>H' = H /\ x = .int (lo + i),fun i _=>n <= i⟩
theorem AH {P:Program} {w:World} {K:Yt} {tg:Expr} (a it:Addr):Turn P w K tg (IY K a) [it] it (fun i h=>h.IsListIter it a i) where
 mem:=by simp
 obj:=fun i h st b hb=>by
  have e:b = it:=by simpa using hb
  subst e
  obtain ⟨o,e,c,d⟩:=st
  exact ⟨o,e,fun v z=>by rw [d] at z; cases z⟩
 keep:=fun i h h' st k=>st.at fun o e=>k it (by simp) o e
 item:=by
  intro X hP hw hK hc i pins s σ H E I hf st hg
  subst hP hw hK
  obtain ⟨xs,x,hq,hx⟩:=hg
  obtain ⟨aH,rv,p,hz⟩:=I.list hq
  obtain ⟨u,hu,ru⟩:=rv.get hx
  obtain ⟨f0,f1,f2,f3,f4,f5⟩:=hf it (by simp)
  refine wpAny_pyNext_list_item st p.isList (x:=u) (by simpa using hu) fun h' aI sb=>?_
  have I1:Inv X pins σ H { s with heap:=h' }:=I.turned (t':=s.toks) (fun b o hb e=>(sb.2 b hb).trans e) f0 f1 f3 f4 f5
  obtain ⟨o,e,c,d⟩:=id aI
  exact ⟨u,rfl,CO (s:={ s with heap:=h' }) e c d (by decide) ⟨x,H,I1,ru,⟨rfl,fun ys hy=>by rw [I.Dv hy hq]; exact hx⟩,aI,fun b hb=>(hf b hb).1⟩⟩
 done:=by
  intro X hP hw hK hc i pins s σ H E I hf st hg
  subst hP hw hK
  obtain ⟨xs,hq,hx⟩:=hg
  obtain ⟨aH,rv,p,hz⟩:=I.list hq
  obtain ⟨f0,f1,f2,f3,f4,f5⟩:=hf it (by simp)
  have hl:=rv.length
  exact wpAny_pyNext_list_end (I.ok.hd hc) st p.isList (by simp; omega) fun h' eb=>⟨rfl,I.turned (t':=s.toks) (fun b o hb e=>eb b o hb e) f0 f1 f3 f4 f5⟩
 self:=fun _ _ _ _ _ st h=>wpAny_pyIter_listiter st h
theorem yh {P:Program} {w:World} {K:Yt} {tg:Expr} (a it:Addr):Turn P w K tg (IV K a) [it] it (fun i h=>h.IsTupleIter it a i) where
 mem:=by simp
 obj:=fun i h st b hb=>by
  have e:b = it:=by simpa using hb
  subst e
  obtain ⟨o,e,c,d⟩:=st
  exact ⟨o,e,fun v z=>by rw [d] at z; cases z⟩
 keep:=fun i h h' st k=>st.at fun o e=>k it (by simp) o e
 item:=by
  intro X hP hw hK hc i pins s σ H E I hf st hg
  subst hP hw hK
  obtain ⟨xs,x,hq,hx⟩:=hg
  obtain ⟨aH,rv,p,hz⟩:=I.tuple hq
  obtain ⟨u,hu,ru⟩:=rv.get hx
  obtain ⟨f0,f1,f2,f3,f4,f5⟩:=hf it (by simp)
  refine wpAny_pyNext_tuple_item st (show s.heap.IsTuple a aH.toArray from p) (x:=u) (by simpa using hu) fun h' aI sb=>?_
  have I1:Inv X pins σ H { s with heap:=h' }:=I.turned (t':=s.toks) (fun b o hb e=>(sb.2 b hb).trans e) f0 f1 f3 f4 f5
  obtain ⟨o,e,c,d⟩:=id aI
  exact ⟨u,rfl,CO (s:={ s with heap:=h' }) e c d (by decide) ⟨x,H,I1,ru,⟨rfl,fun ys hy=>by rw [I.zV hy hq]; exact hx⟩,aI,fun b hb=>(hf b hb).1⟩⟩
 done:=by
  intro X hP hw hK hc i pins s σ H E I hf st hg
  subst hP hw hK
  obtain ⟨xs,hq,hx⟩:=hg
  obtain ⟨aH,rv,p,hz⟩:=I.tuple hq
  obtain ⟨f0,f1,f2,f3,f4,f5⟩:=hf it (by simp)
  have hl:=rv.length
  exact wpAny_pyNext_tuple_end (I.ok.hd hc) st (show s.heap.IsTuple a aH.toArray from p) (by simp; omega) fun h' eb=>⟨rfl,I.turned (t':=s.toks) (fun b o hb e=>eb b o hb e) f0 f1 f3 f4 f5⟩
 self:=fun _ _ _ _ _ st h=>wpAny_pyIter_tupleiter st h
theorem xS {P:Program} {w:World} {K:Yt} {tg:Expr} (it:Addr) (lo:Int) (n:Nat):Turn P w K tg (HW lo n) [it] it (fun i h=>IsRangeIter h it (lo + (i:Nat) * 1) ((n:Int) - (i:Nat)) 1) where
 mem:=by simp
 obj:=fun i h st b hb=>by
  have e:b = it:=by simpa using hb
  subst e
  exact ⟨_,st,fun v z=>by
   have z':Data.fields _ = Data.cell v:=z
   cases z'⟩
 keep:=fun i h h' st k=>k it (by simp) _ st
 item:=by
  intro X hP hw hK hc i pins s σ H E I hf st hg
  subst hP hw hK
  obtain ⟨f0,f1,f2,f3,f4,f5⟩:=hf it (by simp)
  have W:=Walks.range (prog:=X.prog) (w:=X.w) (I.ok.hd hc) it lo 1 n
  refine W.item i s _ _ hg st fun v h' tk hv aI kk=>?_
  obtain ⟨t,rfl⟩:=hv
  have I1:Inv X pins σ H { s with heap:=h',toks:=tk }:=I.turned (fun b o hb e=>kk b o (by simpa using hb) e) f0 f1 f3 f4 f5
  refine ⟨_,rfl,CO (s:={ s with heap:=h',toks:=tk }) (n:="range_iterator") aI rfl rfl (by decide) ⟨.int (lo + i),H,I1,⟨t,?_⟩,⟨rfl,rfl⟩,aI,fun b hb=>(hf b hb).1⟩⟩
  rw [Int.mul_one]
 done:=by
  intro X hP hw hK hc i pins s σ H E I hf st hg
  subst hP hw hK
  obtain ⟨f0,f1,f2,f3,f4,f5⟩:=hf it (by simp)
  exact wpAny_pyNext_range_end (I.ok.hd hc) st (by have:n <= i:=hg; omega) fun h' eb=>⟨rfl,I.turned (t':=s.toks) (fun b o hb e=>eb b o hb e) f0 f1 f3 f4 f5⟩
 self:=fun _ _ _ _ _ st h=>wpAny_pyIter_rangeiter st h
section
variable {X:Cx} {tg:Expr}
def K6 (K:Yt) (tl:TE):TI:=fun σ H R=>tl σ H fun x H1=>∃ a,x = .ref a /\ (∃ xs,aZ K H1 a xs) /\ R (IY K a) H1
def Nr (K:Yt) (tl:TE):TI:=fun σ H R=>tl σ H fun x H1=>∃ a,x = .ref a /\ (∃ xs,a7 K H1 a xs) /\ R (IV K a) H1
theorem bI {l:Expr} {tl:TE} (hl:PE X l tl):PI X tg l (K6 X.K tl):=by
 intro pins s σ H R I h
 refine cn (hl pins s σ H _ I h) fun v s1 ⟨x,H1,I1,r1,q1⟩=>?_
 obtain ⟨a,e,⟨xs,hq⟩,q⟩:=q1
 subst e
 cases r1
 obtain ⟨aH,rv,p,hz⟩:=I1.list hq
 refine wpAny_pyIter_list p.isList ?_
 refine ⟨s1.heap.objs.size,[s1.heap.objs.size],_,_,H1,rfl,I1.kept (t':=s1.toks) fun b o e=>VN _ e,AH a _,⟨_,VY _ rfl,rfl,rfl⟩,fun b hb=>?_,q⟩
 have e:b = s1.heap.objs.size:=by simpa using hb
 subst e
 exact I1.BH (VP _) (I1.ba.fresh (VP _))
theorem fQ {l:Expr} {tl:TE} (hl:PE X l tl):PI X tg l (Nr X.K tl):=by
 intro pins s σ H R I h
 refine cn (hl pins s σ H _ I h) fun v s1 ⟨x,H1,I1,r1,q1⟩=>?_
 obtain ⟨a,e,⟨xs,hq⟩,q⟩:=q1
 subst e
 cases r1
 obtain ⟨aH,rv,p,hz⟩:=I1.tuple hq
 refine wpAny_pyIter_tuple (show s1.heap.IsTuple a aH.toArray from p) ?_
 refine ⟨s1.heap.objs.size,[s1.heap.objs.size],_,_,H1,rfl,I1.kept (t':=s1.toks) fun b o e=>VN _ e,yh a _,⟨_,VY _ rfl,rfl,rfl⟩,fun b hb=>?_,q⟩
 have e:b = s1.heap.objs.size:=by simpa using hb
 subst e
 exact I1.BH (VP _) (I1.ba.fresh (VP _))
theorem Dd {pins:List (Addr × Obj)} {σ:St} {H:Hp} {s:Shared} {R:It->Hp->Prop} {E:Value->Shared->Prop} {lo hi:Int} {t u v:Tok} {tk:Nat} (I:Inv X pins σ H s) (h1:-(2 ^ 62) <= lo) (h2:lo < 2 ^ 62) (h3:-(2 ^ 62) <= hi) (h4:hi < 2 ^ 62)
  (q:R (HW lo (hi - lo).toNat) H):wpAny (model X.prog X.w) X.A (pyIter (.ref s.heap.objs.size)) (Pn X pins σ tg R) E { s with heap:=s.heap.push { cls:=.type "range",data:=.fields #[.int lo t,.int hi u,.int 1 v] },toks:=tk }:=by
 refine wpAny_pyIter_range (IsRange.new ..) (small_one h1 h2 h3 h4) ?_
 have I1:Inv X pins σ H { s with heap:=s.heap.push { cls:=.type "range",data:=.fields #[.int lo t,.int hi u,.int 1 v] },toks:=tk }:=I.kept fun b o e=>VN _ e
 refine ⟨(s.heap.push { cls:=.type "range",data:=.fields #[.int lo t,.int hi u,.int 1 v] }).objs.size,[(s.heap.push { cls:=.type "range",data:=.fields #[.int lo t,.int hi u,.int 1 v] }).objs.size],_,_,H,rfl,
  I1.kept (t':=tk) fun b o e=>VN _ e,xS _ lo (hi - lo).toNat,?_,fun b hb=>?_,q⟩
 ·have e1:lo + ((0:Nat):Int) * 1 = lo:=by simp
  have e2:(((hi - lo).toNat:Nat):Int) - ((0:Nat):Int) = Builtin.Range.rangeSize lo hi 1:=by rw [rangeSize_one]; split <;> omega
  show IsRangeIter _ _ (lo + ((0:Nat):Int) * 1) ((((hi - lo).toNat:Nat):Int) - ((0:Nat):Int)) 1
  rw [e1,e2]
  exact VY _ rfl
 ·have e:b = (s.heap.push { cls:=.type "range",data:=.fields #[.int lo t,.int hi u,.int 1 v] }).objs.size:=by simpa using hb
  subst e
  exact I1.BH (VP _) (I1.ba.fresh (VP _))
def J7 (ta:TA):TI:=fun σ H R=>ta σ H fun vs H1=>∃ j:Int,vs = [.int j] /\ -(2 ^ 62) <= j /\ j < 2 ^ 62 /\ R (HW 0 j.toNat) H1
theorem c8 {a:Expr} {ta:TA} {p pos:Pos} (hg:Gl X "range") (hm:X.mg "range" = none) (ha:PA X [a] ta) (hs:starEach [a] X.env = [(false,eval a X.env)]:=by rfl):PI X tg (.Call (.Name "range" p) [a] [] pos) (J7 ta):=by
 intro pins s σ H R I h
 refine Call_ (oi I hg hm boot_range (PyProof.Rows.callWith_type1 (cn (ha pos pins s σ H _ I h) fun us s1 ⟨vs,H1,I1,r1,q1⟩=>?_) hs rfl))
 obtain ⟨j,e,q1,q2,q⟩:=q1
 subst e
 cases r1 with
 | cons r rr =>
  cases rr
  obtain ⟨t,rfl⟩:=r
  exact call_range_1 (Dd I1 (by omega) (by omega) q1 q2 (by simpa using q))
def Mr (wi:TI) (g:TG) (tb:TS):TS:=fun D σ H=>wi σ H fun J H1=>∃ W:Nat->Nat->St->Hp->Prop,(∃ m,W 0 m σ H1) /\ ∀ i m σ H,W i m σ H ->
 (J.stop i H /\ D.nx σ H) \/ (J.go i H /\ ∃ N:St->Hp->Prop,(∀ σ' H',N σ' H'->∃ m',m' < m /\ W (i + 1) m' σ' H') /\ ∀ x H',J.Gw i H x H'->g x σ H' fun σ2 H2=>tb { D with nx:=N,ct:=N,bk:=D.nx } σ2 H2)
def qA (fp:List Addr) (h:Heap):List (Addr × Obj):=fp.filterMap fun b=>(h.get? b).map fun o=>(b,o)
theorem jt {fp:List Addr} {h:Heap} {b:Addr} {o:Obj} (hb:b ∈ fp) (e:h.get? b = some o):(b,o) ∈ qA fp h:=List.mem_filterMap.mpr ⟨b,hb,by rw [e]; rfl⟩
theorem Ac {fp:List Addr} {h:Heap} {p:Addr × Obj} (hp:p ∈ qA fp h):p.1 ∈ fp /\ h.get? p.1 = some p.2:=by
 obtain ⟨b,hb,e⟩:=List.mem_filterMap.mp hp
 cases q:h.get? b with
 | none=>rw [q] at e; cases e
 | some o =>
  rw [q] at e
  have e':(b,o) = p:=WM e
  subst e'
  exact ⟨hb,q⟩
theorem Inv.pinned {pins:List (Addr × Obj)} {σ:St} {H:Hp} {s:Shared} {fp:List Addr} (I:Inv X pins σ H s) (hf:∀ b ∈ fp,uk X pins H b) (ho:∀ b ∈ fp,∃ o,s.heap.get? b = some o /\ ∀ v,o.data ≠ .cell v):Inv X (pins ++ qA fp s.heap) σ H s :=
 I.yw fun p hp=>(Wh.mp hp).elim (fun z=>I.pin p (Wp _ z)) fun z=>by
  obtain ⟨hb,e⟩:=Ac z
  obtain ⟨f0,f1,f2,_⟩:=hf p.1 hb
  obtain ⟨o,e',d⟩:=ho p.1 hb
  rw [e] at e'; cases e'
  exact ⟨e,f0,f1,f2,d⟩
theorem Inv.mW {pins pl:List (Addr × Obj)} {σ:St} {H:Hp} {s:Shared} (I:Inv X (pins ++ pl) σ H s):Inv X pins σ H s:=I.yw fun p hp=>I.pin p (Wp _ (Xc _ hp))
theorem cU {iter:Expr} {body:List Stmt} {wi:TI} {g:TG} {tb:TS} {pos:Pos} (hp:PassesOwn (model X.prog X.w) X.A X.env X.xe) (hc:X.calm = true) (hi:PI X tg iter wi) (hg:PG X tg g) (hb:tN X body tb)
  (hs:∀ x,foldedSetIterable iter X.env x = pure x:=by intro _; rfl):PS X (.For tg iter body [] pos) (Mr wi g tb):=by
 intro pins s σ H D I h
 refine wpAny_For (cn (hi pins s σ H _ I h) fun v s1 h1=>cn h1 fun MC s2 h2=>?_) hs
 obtain ⟨it,fp,tn,J,H2,e,I2,T,DK,f2,W,⟨m0,w0⟩,turn⟩:=h2
 subst e
 have Ir:∀ {H':Hp},(∀ b ∈ fp,H' b = none)->∀ b ∈ fp,uk X pins H' b:=fun hn b hb=>⟨hn b hb,(f2 b hb).2⟩
 refine codeAny_forLoop_any (fun n s'=>∃ i σ' H',Inv X pins σ' H' s' /\ tn i s'.heap /\ (∀ b ∈ fp,H' b = none) /\ W i n σ' H') ?_ m0 ⟨0,σ,H2,I2,DK,fun b hb=>(f2 b hb).1,w0⟩
 rintro n s3 ⟨i,σ3,H3,I3,FW,OO,w3⟩
 rcases turn i n σ3 H3 w3 with ⟨stop,qn⟩ | ⟨go,N,hN,step⟩
 ·refine XY hp (cn (T.done X rfl rfl rfl hc i pins s3 σ3 H3 X.xe I3 (Ir OO) FW stop) fun r s4 ⟨hr,I4⟩=>?_)
  subst hr
  exact wpAny_execs_nil ⟨σ3,H3,I4,qn⟩
 ·refine XY hp (cn (T.item X rfl rfl rfl hc i pins s3 σ3 H3 X.xe I3 (Ir OO) FW go) fun r s4 ⟨u,hr,h4⟩=>?_)
  subst hr
  refine XY hp (cn h4 fun _ s5 ⟨x,H5,I5,r5,y5,K0,RK⟩=>?_)
  have QN:=I5.pinned (Ir RK) (T.obj _ _ K0)
  refine XY hp (cn (hg _ s5 σ3 H5 x u _ QN r5 (step x H5 y5)) fun _ s6 ⟨σ6,H6,I6,q6⟩=>?_)
  refine XY hp (cn (hb _ s6 σ6 H6 _ I6 q6) fun f s7 q7=>?_)
  have again:∀ {σ7:St} {H7:Hp},Inv X (pins ++ qA fp s5.heap) σ7 H7 s7->N σ7 H7->∃ m,m < n /\ ∃ i σ' H',Inv X pins σ' H' s7 /\ tn i s7.heap /\ (∀ b ∈ fp,H' b = none) /\ W i m σ' H':=fun {σ7 H7} I7 n7=>by
   obtain ⟨m',hm,w7⟩:=hN σ7 H7 n7
   refine ⟨m',hm,i + 1,σ7,H7,I7.mW,T.keep _ _ _ K0 fun b hb o e=>(I7.pin (b,o) (Wp _ (Wp _ (jt hb e)))).1,fun b hb=>?_,w7⟩
   obtain ⟨o,e,d⟩:=T.obj _ _ K0 b hb
   exact (I7.pin (b,o) (Wp _ (Wp _ (jt hb e)))).2.1
  cases f with
  | next=>obtain ⟨σ7,H7,I7,n7⟩:=q7; exact again I7 n7
  | cont=>obtain ⟨σ7,H7,I7,n7⟩:=q7; exact again I7 n7
  | brk=>obtain ⟨σ7,H7,I7,q7⟩:=q7; exact ⟨σ7,H7,I7.mW,q7⟩
  | ret v=>obtain ⟨x7,σ7,H7,I7,r7,q7⟩:=q7; exact ⟨x7,σ7,H7,I7.mW,r7,q7⟩
end
theorem cY {K:Yt} {a:Addr} {xs:List V} {g:TG} {tb:TS} {D:Ends} {σ:St} {H:Hp} (Pv:Nat->St->Hp->Prop) (h0:Pv 0 σ H) (hl:∀ i σ H,i <= xs.length->Pv i σ H->aZ K H a xs)
  (hs:∀ i x σ H,xs[i]? = some x->Pv i σ H->g x σ H fun σ2 H2=>tb { D with nx:=Pv (i + 1),ct:=Pv (i + 1),bk:=D.nx } σ2 H2) (hd:∀ σ H,Pv xs.length σ H->D.nx σ H) :
  ∃ W:Nat->Nat->St->Hp->Prop,(∃ m,W 0 m σ H) /\ ∀ i m σ H,W i m σ H ->
   ((IY K a).stop i H /\ D.nx σ H) \/ ((IY K a).go i H /\ ∃ N:St->Hp->Prop,(∀ σ' H',N σ' H'->∃ m',m' < m /\ W (i + 1) m' σ' H') /\ ∀ x H',(IY K a).Gw i H x H'->g x σ H' fun σ2 H2=>tb { D with nx:=N,ct:=N,bk:=D.nx } σ2 H2):=by
 refine ⟨fun i m σ H=>m = xs.length - i /\ i <= xs.length /\ Pv i σ H,⟨xs.length,by simp,Wl _,h0⟩,?_⟩
 rintro i m σ H ⟨rfl,hi,p⟩
 have q:=hl i σ H hi p
 by_cases iz:i < xs.length
 ·refine .inr ⟨⟨xs,xs[i],q,by simp [iz]⟩,Pv (i + 1),fun σ' H' p'=>⟨xs.length - (i + 1),by omega,rfl,iz,p'⟩,fun x H' y=>?_⟩
  obtain ⟨e,y⟩:=y
  subst e
  exact hs i x σ _ (y xs q) p
 ·have e:i = xs.length:=by omega
  subst e
  exact .inl ⟨⟨xs,q,VP _⟩,hd σ H p⟩
theorem zk {K:Yt} {a:Addr} {xs:List V} {g:TG} {tb:TS} {D:Ends} {σ:St} {H:Hp} (Pv:Nat->St->Hp->Prop) (h0:Pv 0 σ H) (hl:∀ i σ H,i <= xs.length->Pv i σ H->a7 K H a xs)
  (hs:∀ i x σ H,xs[i]? = some x->Pv i σ H->g x σ H fun σ2 H2=>tb { D with nx:=Pv (i + 1),ct:=Pv (i + 1),bk:=D.nx } σ2 H2) (hd:∀ σ H,Pv xs.length σ H->D.nx σ H) :
  ∃ W:Nat->Nat->St->Hp->Prop,(∃ m,W 0 m σ H) /\ ∀ i m σ H,W i m σ H ->
   ((IV K a).stop i H /\ D.nx σ H) \/ ((IV K a).go i H /\ ∃ N:St->Hp->Prop,(∀ σ' H',N σ' H'->∃ m',m' < m /\ W (i + 1) m' σ' H') /\ ∀ x H',(IV K a).Gw i H x H'->g x σ H' fun σ2 H2=>tb { D with nx:=N,ct:=N,bk:=D.nx } σ2 H2):=by
 refine ⟨fun i m σ H=>m = xs.length - i /\ i <= xs.length /\ Pv i σ H,⟨xs.length,by simp,Wl _,h0⟩,?_⟩
 rintro i m σ H ⟨rfl,hi,p⟩
 have q:=hl i σ H hi p
 by_cases iz:i < xs.length
 ·refine .inr ⟨⟨xs,xs[i],q,by simp [iz]⟩,Pv (i + 1),fun σ' H' p'=>⟨xs.length - (i + 1),by omega,rfl,iz,p'⟩,fun x H' y=>?_⟩
  obtain ⟨e,y⟩:=y
  subst e
  exact hs i x σ _ (y xs q) p
 ·have e:i = xs.length:=by omega
  subst e
  exact .inl ⟨⟨xs,q,VP _⟩,hd σ H p⟩
theorem kL {lo:Int} {n:Nat} {g:TG} {tb:TS} {D:Ends} {σ:St} {H:Hp} (Pv:Nat->St->Hp->Prop) (h0:Pv 0 σ H)
  (hs:∀ i σ H,i < n->Pv i σ H->g (.int (lo + i)) σ H fun σ2 H2=>tb { D with nx:=Pv (i + 1),ct:=Pv (i + 1),bk:=D.nx } σ2 H2) (hd:∀ σ H,Pv n σ H->D.nx σ H) :
  ∃ W:Nat->Nat->St->Hp->Prop,(∃ m,W 0 m σ H) /\ ∀ i m σ H,W i m σ H ->
   ((HW lo n).stop i H /\ D.nx σ H) \/ ((HW lo n).go i H /\ ∃ N:St->Hp->Prop,(∀ σ' H',N σ' H'->∃ m',m' < m /\ W (i + 1) m' σ' H') /\ ∀ x H',(HW lo n).Gw i H x H'->g x σ H' fun σ2 H2=>tb { D with nx:=N,ct:=N,bk:=D.nx } σ2 H2):=by
 refine ⟨fun i m σ H=>m = n - i /\ i <= n /\ Pv i σ H,⟨n,by simp,Wl _,h0⟩,?_⟩
 rintro i m σ H ⟨rfl,hi,p⟩
 by_cases iz:i < n
 ·refine .inr ⟨iz,Pv (i + 1),fun σ' H' p'=>⟨n - (i + 1),by omega,rfl,iz,p'⟩,fun x H' y=>?_⟩
  obtain ⟨e,y⟩:=y
  subst e y
  exact hs i σ _ iz p
 ·have e:i = n:=by omega
  subst e
  exact .inl ⟨VP _,hd σ H p⟩
abbrev R2:=V->V->Hp->VK->Prop
def iL (X:Cx) (f:Value->Value->Sem Value) (r:R2):Prop :=
 ∀ (pins:List (Addr × Obj)) (s:Shared) (σ:St) (H:Hp) (x y:V) (v u:Value) (Q:VK),Inv X pins σ H s->RelV x v->RelV y u->r x y H Q ->
  wpAny (model X.prog X.w) X.A (f v u) (EP X pins σ Q) X.xe s
def NV (X:Cx) (f:Value->Sem Value) (r:V->Hp->VK->Prop):Prop :=
 ∀ (pins:List (Addr × Obj)) (s:Shared) (σ:St) (H:Hp) (x:V) (v:Value) (Q:VK),Inv X pins σ H s->RelV x v->r x H Q ->
  wpAny (model X.prog X.w) X.A (f v) (EP X pins σ Q) X.xe s
def dI (X:Cx) (f:Value) (r:List V->Hp->VK->Prop):Prop :=
 ∀ (pins:List (Addr × Obj)) (s:Shared) (σ:St) (H:Hp) (xs:List V) (us:List Value) (Q:VK),Inv X pins σ H s->Vals xs us->r xs H Q ->
  wpAny (model X.prog X.w) X.A (call f us) (EP X pins σ Q) X.xe s
def NS (X:Cx) (r:V->Hp->(Bool->Hp->Prop)->Prop):Prop :=
 ∀ (pins:List (Addr × Obj)) (s:Shared) (σ:St) (H:Hp) (x:V) (v:Value) (Q:Bool->Hp->Prop),Inv X pins σ H s->RelV x v->r x H Q ->
  wpAny (model X.prog X.w) X.A (truthy v) (TP X pins σ Q) X.xe s
def LK (r:R2) (ta tb:TE):TE:=fun σ H Q=>ta σ H fun x H1=>tb σ H1 fun y H2=>r x y H2 Q
def SS (r:V->Hp->VK->Prop) (ta:TE):TE:=fun σ H Q=>ta σ H fun x H1=>r x H1 Q
def rI (C:Int->Int->Prop) (g:Int->Int->V):R2:=fun x y H Q=>∃ i j,x = .int i /\ y = .int j /\ C i j /\ Q (g i j) H
def HD (g:Int->Int->V):R2:=fun x y H Q=>∃ i j,x = .int i /\ y = .int j /\ Q (g i j) H
def rU (g:Int->V):V->Hp->VK->Prop:=fun x H Q=>∃ i,x = .int i /\ Q (g i) H
section
variable {X:Cx} {a b c:Expr} {ta tb tc:TE} {pos:Pos}
theorem GJ (ha:PE X a ta) (hb:PE X b tb) {pins:List (Addr × Obj)} {s:Shared} {σ:St} {H:Hp} {R:V->V->Hp->Prop} (I:Inv X pins σ H s)
  (h:ta σ H fun x H1=>tb σ H1 fun y H2=>R x y H2) {Q:Value->Shared->Prop} {f:Value->Value->Sem Value}
  (hf:∀ v u s2 x y H2,Inv X pins σ H2 s2->RelV x v->RelV y u->R x y H2->wpAny (model X.prog X.w) X.A (f v u) Q X.xe s2) :
  wpAny (model X.prog X.w) X.A (eval a X.env) (fun v s₁=>wpAny (model X.prog X.w) X.A (eval b X.env) (fun u s₂=>wpAny (model X.prog X.w) X.A (f v u) Q X.xe s₂) X.xe s₁) X.xe s:=by
 refine cn (ha pins s σ H _ I h) fun v s1 ⟨x,H1,I1,r1,q1⟩=>?_
 refine cn (hb pins s1 σ H1 _ I1 q1) fun u s2 ⟨y,H2,I2,r2,q2⟩=>?_
 exact hf v u s2 x y H2 I2 r1 r2 q2
theorem bn {op:Operator} {r:R2} (ho:iL X (binaryOp op) r) (ha:PE X a ta) (hb:PE X b tb):PE X (.BinOp a op b pos) (LK r ta tb):=by
 intro pins s σ H Q I h
 exact wpAny_BinOp (GJ ha hb I h fun v u s2 x y H2 I2 rx ry q=>ho pins s2 σ H2 x y v u Q I2 rx ry q)
theorem Ke {op:UnaryOp} {r:V->Hp->VK->Prop} (ho:NV X (unaryOp op) r) (ha:PE X a ta):PE X (.UnaryOp op a pos) (SS r ta):=by
 intro pins s σ H Q I h
 exact UnaryOp_ (cn (ha pins s σ H _ I h) fun v s1 ⟨x,H1,I1,r1,q1⟩=>ho pins s1 σ H1 x v Q I1 r1 q1)
theorem Mo {f:Value->Value->Sem Value} {C:Int->Int->Prop} {g:Int->Int->Int}
  (rule:∀ (i j:Int) (t u:Tok) (s:Shared) (Q:Value->Shared->Prop) (E:Value->Shared->Prop),C i j->Q (.int (g i j) s.toks) { s with toks:=s.toks + 1 }->wpAny (model X.prog X.w) X.A (f (.int i t) (.int j u)) Q E s) :
  iL X f (rI C fun i j=>.int (g i j)):=by
 intro pins s σ H x y v u Q I rx ry h
 obtain ⟨i,j,rfl,rfl,hc,q⟩:=h
 obtain ⟨t,rfl⟩:=rx
 obtain ⟨t',rfl⟩:=ry
 exact rule i j t t' s _ _ hc ⟨.int (g i j),H,I.tok _,⟨_,rfl⟩,q⟩
theorem Je {f:Value->Value->Sem Value} {g:Int->Int->Int}
  (rule:∀ (i j:Int) (t u:Tok) (s:Shared) (Q:Value->Shared->Prop) (E:Value->Shared->Prop),Q (.int (g i j) s.toks) { s with toks:=s.toks + 1 }->wpAny (model X.prog X.w) X.A (f (.int i t) (.int j u)) Q E s) :
  iL X f (HD fun i j=>.int (g i j)):=by
 intro pins s σ H x y v u Q I rx ry h
 obtain ⟨i,j,rfl,rfl,q⟩:=h
 obtain ⟨t,rfl⟩:=rx
 obtain ⟨t',rfl⟩:=ry
 exact rule i j t t' s _ _ ⟨.int (g i j),H,I.tok _,⟨_,rfl⟩,q⟩
theorem ID {f:Value->Value->Sem Value} {g:Int->Int->Bool}
  (rule:∀ (i j:Int) (t u:Tok) (s:Shared) (Q:Value->Shared->Prop) (E:Value->Shared->Prop),Q (.bool (g i j)) s->wpAny (model X.prog X.w) X.A (f (.int i t) (.int j u)) Q E s) :
  iL X f (HD fun i j=>.bl (g i j)):=by
 intro pins s σ H x y v u Q I rx ry h
 obtain ⟨i,j,rfl,rfl,q⟩:=h
 obtain ⟨t,rfl⟩:=rx
 obtain ⟨t',rfl⟩:=ry
 exact rule i j t t' s _ _ ⟨.bl (g i j),H,I,rfl,q⟩
def Nj (i j:Int):Prop:=0 < j /\ j < 1073741824
def OA (i j:Int):Prop:=0 <= j /\ j <= 1000000 /\ i.natAbs < 2 ^ 64
def HX (i j:Int):Prop:=(-(2 ^ 64) < i /\ i < 2 ^ 64) \/ (-(2 ^ 64) < j /\ j < 2 ^ 64)
theorem HX.ok {i j:Int} (h:HX i j):IntMulOk i j:=by
 rcases h with ⟨h1,h2⟩ | ⟨h1,h2⟩
 ·exact .of_left (intBits_le_64 h1 h2)
 ·exact .of_right (intBits_le_64 h1 h2)
theorem fN:iL X (binaryOp .Add) (HD fun i j=>.int (i + j)):=Je fun _ _ _ _ _ _ _ q=>add_int q
theorem BJ:iL X (binaryOp .Sub) (HD fun i j=>.int (i - j)):=Je fun _ _ _ _ _ _ _ q=>sub_int q
theorem Hf:iL X (binaryOp .Mult) (rI HX fun i j=>.int (i * j)):=Mo fun _ _ _ _ _ _ _ hc q=>mul_int q hc.ok
theorem kQ:iL X (binaryOp .FloorDiv) (rI Nj fun i j=>.int (i / j)):=Mo fun i j _ _ _ _ _ hc q=>by
 have h1:(0:Int) < j:=hc.1
 have h2:j < 1073741824:=hc.2
 exact floordiv_int (by omega) (by rw [Int.fdiv_eq_ediv_of_nonneg i (by omega)]; exact q) (.inl (PyProof.noPylong_small (by omega)))
theorem dC:iL X (binaryOp .Mod) (rI (fun _ j=>0 < j) fun i j=>.int (i % j)):=Mo fun i j _ _ _ _ _ hc q=>by
 have h1:(0:Int) < j:=hc
 exact mod_int' (by omega) (by rw [Int.fmod_eq_emod_of_nonneg i (by omega)]; exact q)
theorem Bw:iL X (binaryOp .Pow) (rI OA fun i j=>.int (i ^ j.toNat)):=Mo fun _ _ _ _ _ _ _ hc q=>pow_int_small hc.1 hc.2.1 hc.2.2 q
theorem Sn {f:Value->Sem Value} {g:Int->Int}
  (rule:∀ (i:Int) (t:Tok) (s:Shared) (Q:Value->Shared->Prop) (E:Value->Shared->Prop),Q (.int (g i) s.toks) { s with toks:=s.toks + 1 }->wpAny (model X.prog X.w) X.A (f (.int i t)) Q E s) :
  NV X f (rU fun i=>.int (g i)):=by
 intro pins s σ H x v Q I rx h
 obtain ⟨i,rfl,q⟩:=h
 obtain ⟨t,rfl⟩:=rx
 exact rule i t s _ _ ⟨.int (g i),H,I.tok _,⟨_,rfl⟩,q⟩
theorem GU:NV X (unaryOp .USub) (rU fun i=>.int (-i)):=Sn fun _ _ _ _ _ q=>neg_int q
end
def Lh:V->V->Bool
 | .dR,.dR=>true | .dR,.int _=>true | .int _,.dR=>true | .dR,.bl _=>true | .bl _,.dR=>true | .dR,.str _=>true | .str _,.dR=>true
 | .int _,.int _=>true | .bl _,.bl _=>true | .str _,.str _=>true | .zK _,.zK _=>true
 | .int _,.str _=>true | .str _,.int _=>true | .bl _,.str _=>true | .str _,.bl _=>true
 | _,_=>false
def Tb:R2:=fun x y H Q=>Lh x y = true /\ Q (.bl (decide (x = y))) H
def TW:R2:=fun x y H Q=>Lh x y = true /\ Q (.bl (!decide (x = y))) H
theorem zc {i j:Int}:decide (V.int i = V.int j) = (i == j):=by
 rw [XZ]
 simp
theorem CZ {i j:Bool}:decide (V.bl i = V.bl j) = (i == j):=by
 rw [XZ]
 simp
theorem yR {i j:Str}:decide (V.str i = V.str j) = (i == j):=by
 rw [XZ]
 simp
theorem zC {i j:Array UInt8}:decide (V.zK i = V.zK j) = (i.toList == j.toList):=by
 rw [XZ]
 cases i
 cases j
 simp
section
variable {X:Cx} {a b c:Expr} {ta tb tc:TE} {pos:Pos}
theorem bC {pins:List (Addr × Obj)} {σ:St} {H:Hp} {s:Shared} {Q:VK} {k k':Bool} (I:Inv X pins σ H s) (q:Q (.bl k) H) (e:k = k'):EP X pins σ Q (.bool k') s:=by
 subst e
 exact ⟨.bl k,H,I,rfl,q⟩
theorem iR:iL X (compareOp .Eq) Tb:=by
 intro pins s σ H x y v u Q I rx ry h
 obtain ⟨hs,q⟩:=h
 cases x with
 | dR =>
  cases rx
  cases y with
  | dR=>cases ry; exact PySem.EqNone.eq_none_none (bC I q (by simp))
  | bl j=>cases ry; exact PySem.EqNone.eq_none_bool (bC I q (by simp))
  | int j=>obtain ⟨t',rfl⟩:=ry; exact PySem.EqNone.eq_none_int (bC I q (by simp))
  | str j=>obtain ⟨t',rfl⟩:=ry; exact PySem.EqNone.eq_none_str (bC I q (by simp))
  | _=>exact absurd (show false = true from hs) VU
 | bl i =>
  cases rx
  cases y with
  | dR=>cases ry; exact PySem.EqNone.eq_bool_none (bC I q (by simp))
  | bl j=>cases ry; exact eq_bool (bC I q CZ)
  | str j=>obtain ⟨t',rfl⟩:=ry; exact PySem.EqMixed.eq_bool_str (bC I q (by simp))
  | _=>exact absurd (show false = true from hs) VU
 | int i =>
  obtain ⟨t,rfl⟩:=rx
  cases y with
  | dR=>cases ry; exact PySem.EqNone.eq_int_none (bC I q (by simp))
  | int j=>obtain ⟨t',rfl⟩:=ry; exact eq_int (bC I q zc)
  | str j=>obtain ⟨t',rfl⟩:=ry; exact PySem.EqMixed.eq_int_str (bC I q (by simp))
  | _=>exact absurd (show false = true from hs) VU
 | str i =>
  obtain ⟨t,rfl⟩:=rx
  cases y with
  | dR=>cases ry; exact PySem.EqNone.eq_str_none (bC I q (by simp))
  | bl j=>cases ry; exact PySem.EqMixed.eq_str_bool (bC I q (by simp))
  | int j=>obtain ⟨t',rfl⟩:=ry; exact PySem.EqMixed.eq_str_int (bC I q (by simp))
  | str j=>obtain ⟨t',rfl⟩:=ry; exact eq_str (bC I q yR)
  | _=>exact absurd (show false = true from hs) VU
 | zK i =>
  obtain ⟨t,rfl⟩:=rx
  cases y with
  | zK j=>obtain ⟨t',rfl⟩:=ry; exact PySem.W.eq_bytes (bC I q zC)
  | _=>exact absurd (show false = true from hs) VU
 | _=>cases y <;> exact absurd (show false = true from hs) VU
theorem m8:iL X (compareOp .NotEq) TW:=by
 intro pins s σ H x y v u Q I rx ry h
 obtain ⟨hs,q⟩:=h
 cases x with
 | dR =>
  cases rx
  cases y with
  | dR=>cases ry; exact PySem.EqNone.ne_none_none (bC I q (by simp))
  | bl j=>cases ry; exact PySem.EqNone.ne_none_bool (bC I q (by simp))
  | int j=>obtain ⟨t',rfl⟩:=ry; exact PySem.EqNone.ne_none_int (bC I q (by simp))
  | str j=>obtain ⟨t',rfl⟩:=ry; exact PySem.EqNone.ne_none_str (bC I q (by simp))
  | _=>exact absurd (show false = true from hs) VU
 | bl i =>
  cases rx
  cases y with
  | dR=>cases ry; exact PySem.EqNone.ne_bool_none (bC I q (by simp))
  | bl j=>cases ry; exact ne_bool (bC I q (W0 not CZ))
  | str j=>obtain ⟨t',rfl⟩:=ry; exact PySem.EqMixed.ne_bool_str (bC I q (by simp))
  | _=>exact absurd (show false = true from hs) VU
 | int i =>
  obtain ⟨t,rfl⟩:=rx
  cases y with
  | dR=>cases ry; exact PySem.EqNone.ne_int_none (bC I q (by simp))
  | int j=>obtain ⟨t',rfl⟩:=ry; exact ne_int (bC I q (W0 not zc))
  | str j=>obtain ⟨t',rfl⟩:=ry; exact PySem.EqMixed.ne_int_str (bC I q (by simp))
  | _=>exact absurd (show false = true from hs) VU
 | str i =>
  obtain ⟨t,rfl⟩:=rx
  cases y with
  | dR=>cases ry; exact PySem.EqNone.ne_str_none (bC I q (by simp))
  | bl j=>cases ry; exact PySem.EqMixed.ne_str_bool (bC I q (by simp))
  | int j=>obtain ⟨t',rfl⟩:=ry; exact PySem.EqMixed.ne_str_int (bC I q (by simp))
  | str j=>obtain ⟨t',rfl⟩:=ry; exact ne_str (bC I q (W0 not yR))
  | _=>exact absurd (show false = true from hs) VU
 | zK i =>
  obtain ⟨t,rfl⟩:=rx
  cases y with
  | zK j=>obtain ⟨t',rfl⟩:=ry; exact PySem.W.ne_bytes (bC I q (W0 not zC))
  | _=>exact absurd (show false = true from hs) VU
 | _=>cases y <;> exact absurd (show false = true from hs) VU
theorem pV:iL X (compareOp .Lt) (HD fun i j=>.bl (decide (i < j))):=ID fun _ _ _ _ _ _ _ q=>lt_int q
theorem kg:iL X (compareOp .LtE) (HD fun i j=>.bl (decide (i <= j))):=ID fun _ _ _ _ _ _ _ q=>le_int q
theorem zB:iL X (compareOp .Gt) (HD fun i j=>.bl (decide (j < i))):=ID fun _ _ _ _ _ _ _ q=>gt_int q
theorem iL.or {f:Value->Value->Sem Value} {r r':R2} (h:iL X f r) (h':iL X f r'):iL X f (fun x y H Q=>r x y H Q \/ r' x y H Q):=by
 intro pins s σ H x y v u Q I rx ry q
 rcases q with q | q
 ·exact h pins s σ H x y v u Q I rx ry q
 ·exact h' pins s σ H x y v u Q I rx ry q
theorem a6 (b:Expr) {op:CmpOp} (h:op ≠ .In:=by decide) (h2:op ≠ .NotIn:=by decide):behindInMarks op b = false:=by
 have e1:(op == CmpOp.In) = false:=by cases op <;> first | rfl | exact absurd rfl h
 have e2:(op == CmpOp.NotIn) = false:=by cases op <;> first | rfl | exact absurd rfl h2
 cases b <;> simp [behindInMarks,e1,e2]
theorem fW {op:CmpOp} {r:R2} (ho:iL X (compareOp op) r) (ha:PE X a ta) (hb:PE X b tb) (hm:behindInMarks op b = false):PE X (.Compare a [op] [b] pos) (LK r ta tb):=by
 intro pins s σ H Q I h
 exact wpAny_Compare1 (GJ ha hb I h fun v u s2 x y H2 I2 rx ry q=>ho pins s2 σ H2 x y v u Q I2 rx ry q) hm
def FX (t:TE):TT:=fun σ H Q=>t σ H fun x H'=>∃ k,x = .bl k /\ Q k H'
theorem aC {op:CmpOp} {r:R2} (ho:iL X (compareOp op) r) (ha:PE X a ta) (hb:PE X b tb) (hm:behindInMarks op b = false):PT X (.Compare a [op] [b] pos) (FX (LK r ta tb)):=by
 intro pins s σ H Q I h
 refine wpAny_isTrue_Compare1 (cn (ha pins s σ H _ I h) fun v s1 ⟨x,H1,I1,r1,q1⟩=>cn (hb pins s1 σ H1 _ I1 q1) fun u s2 ⟨y,H2,I2,r2,q2⟩ =>
  cn (ho pins s2 σ H2 x y v u _ I2 r1 r2 q2) fun c s3 ⟨z,H3,I3,r3,k,e,q3⟩=>?_) hm
 subst e
 cases r3
 exact WR ⟨H3,I3,q3⟩
def CS (r r':R2) (ta tb tc:TE):TE:=fun σ H Q=>ta σ H fun x H1=>tb σ H1 fun y H2=>r x y H2 fun z H3=>∃ k,z = .bl k /\
 (if k = true then tc σ H3 fun w' H4=>r' y w' H4 Q else Q (.bl false) H3)
theorem wW {op Hz:CmpOp} {r r':R2} (ho:iL X (compareOp op) r) (lP:iL X (compareOp Hz) r') (ha:PE X a ta) (hb:PE X b tb) (hc:PE X c tc)
  (hm:lastMarks [op,Hz] [b,c] = false:=by with_unfolding_all rfl):PE X (.Compare a [op,Hz] [b,c] pos) (CS r r' ta tb tc):=by
 intro pins s σ H Q I h
 refine Compare_chain (cn (ha pins s σ H _ I h) fun v s1 ⟨x,H1,I1,r1,q1⟩=>chain_link (cn (hb pins s1 σ H1 _ I1 q1) fun u s2 ⟨y,H2,I2,r2,q2⟩ =>
  cn (ho pins s2 σ H2 x y v u _ I2 r1 r2 q2) fun d s3 ⟨z,H3,I3,r3,k,e,q3⟩=>?_)) hm
 subst e
 cases r3
 refine WR ?_
 cases k with
 | false=>exact ite_ff ⟨.bl false,H3,I3,rfl,q3⟩
 | true=>exact ite_tt (chain_last (cn (hc pins s3 σ H3 _ I3 q3) fun w' s4 ⟨z',H4,I4,r4,q4⟩=>lP pins s4 σ H4 y z' u w' Q I4 r2 r4 q4))
theorem ny {op Hz:CmpOp} {r r':R2} (ho:iL X (compareOp op) r) (lP:iL X (compareOp Hz) r') (ha:PE X a ta) (hb:PE X b tb) (hc:PE X c tc)
  (hm:lastMarks [op,Hz] [b,c] = false:=by with_unfolding_all rfl):PT X (.Compare a [op,Hz] [b,c] pos) (FX (CS r r' ta tb tc)):=by
 intro pins s σ H Q I h
 refine isTrue_chain (cn (ha pins s σ H _ I h) fun v s1 ⟨x,H1,I1,r1,q1⟩=>test_link (cn (hb pins s1 σ H1 _ I1 q1) fun u s2 ⟨y,H2,I2,r2,q2⟩ =>
  cn (ho pins s2 σ H2 x y v u _ I2 r1 r2 q2) fun d s3 ⟨z,H3,I3,r3,k,e,q3⟩=>?_)) hm
 subst e
 cases r3
 refine WR ?_
 cases k with
 | false =>
  obtain ⟨k',e',q'⟩:=q3
  cases e'
  exact ite_ff ⟨H3,I3,q'⟩
 | true =>
  refine ite_tt (test_last (cn (hc pins s3 σ H3 _ I3 q3) fun w' s4 ⟨z',H4,I4,r4,q4⟩=>cn (lP pins s4 σ H4 y z' u w' _ I4 r2 r4 q4) fun d' s5 ⟨z2,H5,I5,r5,k2,e2,q5⟩=>?_))
  subst e2
  cases r5
  exact WR ⟨H5,I5,q5⟩
def Jp (K:Yt) (x:V) (H:Hp) (k:Bool):Prop :=
 match x with
 | .dR=>k = false
 | .bl b=>k = b
 | .int i=>k = (i != 0)
 | .str y=>y.length <= sizeLine /\ k = ((y.length:Int) != 0)
 | .zK y=>y.size <= sizeLine /\ k = ((y.size:Int) != 0)
 | .ref p=>(∃ xs,aZ K H p xs /\ k = !xs.isEmpty) \/ (∃ xs,a7 K H p xs /\ k = !xs.isEmpty) \/ ∃ kvs,H p = some (.dK kvs) /\ k = !kvs.isEmpty
 | _=>False
theorem xY {κ:Type} {kvs:List (κ × V)} {vs:List (κ × Value)} (r:KV kvs vs):(!vs.isEmpty) = !kvs.isEmpty:=by
 cases r <;> rfl
theorem pW {xs:List V} {aH:List Value} (r:Vals xs aH):(!aH.toArray.isEmpty) = !xs.isEmpty:=by
 cases r <;> simp
theorem t3:(sizeLine:Nat) < 2 ^ 63:=by rw [Xy]; decide
theorem Iw:NS X (fun x H Q=>∃ k,Jp X.K x H k /\ Q k H):=by
 intro pins s σ H x v Q I rx h
 obtain ⟨k,e,q⟩:=h
 have hl:=t3
 have hs:sizeLine = 16777216:=Xy
 cases x with
 | dR =>
  cases rx
  have e':k = false:=e
  subst e'
  exact truthy_none ⟨H,I,q⟩
 | bl b =>
  cases rx
  have e':k = b:=e
  subst e'
  exact WR ⟨H,I,q⟩
 | int i =>
  obtain ⟨t,rfl⟩:=rx
  have e':k = (i != 0):=e
  subst e'
  exact PySem.P.truthy_int ⟨H,I,q⟩
 | str y =>
  obtain ⟨t,rfl⟩:=rx
  obtain ⟨hy,e'⟩:y.length <= sizeLine /\ k = ((y.length:Int) != 0):=e
  subst e'
  exact PySem.P.truthy_str (by omega) ⟨H,I.tok _,q⟩
 | zK y =>
  obtain ⟨t,rfl⟩:=rx
  obtain ⟨hy,e'⟩:y.size <= sizeLine /\ k = ((y.size:Int) != 0):=e
  subst e'
  exact PySem.W.truthy_bytes (by omega) ⟨H,I.tok _,q⟩
 | ref p =>
  cases rx
  have e':(∃ xs,aZ X.K H p xs /\ k = !xs.isEmpty) \/ (∃ xs,a7 X.K H p xs /\ k = !xs.isEmpty) \/ ∃ kvs,H p = some (.dK kvs) /\ k = !kvs.isEmpty:=e
  rcases e' with ⟨xs,hx,e'⟩ | ⟨xs,hx,e'⟩ | ⟨kvs,hx,e'⟩
  ·subst e'
   obtain ⟨aH,r,pl,hz⟩:=I.list hx
   have hlen:=r.length
   exact wpAny_truthy_list pl.isList (by simp only [V2]; omega) ⟨H,I.tok _,by rw [pW r]; exact q⟩
  ·subst e'
   obtain ⟨aH,r,pl,hz⟩:=I.tuple hx
   have hlen:=r.length
   exact truthy_tuple pl (by simp only [V2]; omega) ⟨H,I.tok _,by rw [pW r]; exact q⟩
  ·subst e'
   obtain ⟨hz,hS,vs,r,m⟩:kvs.length <= sizeLine /\ (p == sysModules) = false /\ ∃ vs,KV kvs vs /\ s.heap.DictOf (uj X.prog X.w) p vs:=I.ba p _ hx
   have hlen:kvs.length = vs.length:=W3 r
   exact wpAny_truthy_dict hS m (by omega) ⟨H,I.tok _,by rw [xY r]; exact q⟩
 | _=>exact (show False from e).elim
theorem B6 (ha:PE X a ta) (he:∀ whole,isTrue a X.env whole = (do let v <- whole; standAt a.pos; holding [v] (truthy v))) :
  PT X a (fun σ H Q=>ta σ H fun x H'=>∃ k,Jp X.K x H' k /\ Q k H'):=by
 intro pins s σ H Q I h
 exact isTrue_plain (cn (ha pins s σ H _ I h) fun v s1 ⟨x,H1,I1,r1,q1⟩=>Iw pins s1 σ H1 x v Q I1 r1 q1) (he _)
theorem vals1 {x:V} {us:List Value} (r:Vals [x] us):∃ u,us = [u] /\ RelV x u:=by
 cases r with
 | cons r1 r2=>cases r2; exact ⟨_,rfl,r1⟩
theorem vals2 {x y:V} {us:List Value} (r:Vals [x,y] us):∃ u w',us = [u,w'] /\ RelV x u /\ RelV y w':=by
 cases r with
 | cons r1 r2 =>
  cases r2 with
  | cons r3 r4=>cases r4; exact ⟨_,_,rfl,r1,r3⟩
theorem A0:dI X (.type "int") (fun xs H Q=>(∃ i,xs = [.int i] /\ Q (.int i) H) \/ ∃ k,xs = [.bl k] /\ Q (.int (if k then 1 else 0)) H):=by
 intro pins s σ H xs us Q I r h
 rcases h with ⟨i,rfl,q⟩ | ⟨k,rfl,q⟩
 ·obtain ⟨u,rfl,t,rfl⟩:=vals1 r
  exact call_int_int ⟨.int i,H,I,⟨_,rfl⟩,q⟩
 ·obtain ⟨u,rfl,r1⟩:=vals1 r
  cases r1
  exact call_int_bool ⟨.int (if k then 1 else 0),H,I.tok _,⟨_,rfl⟩,q⟩
end
structure x6 (h:Heap) (x dx C:Addr) (mA:Str->Option Value):Prop where
 obj:h.get? x = some (PySem.W.instObj C dx)
 ns:h.Ns1 dx mA
 ne:dx ≠ x
theorem AO {h:Heap} {dx:Addr} {mA:Str->Option Value} (n:h.Ns1 dx mA):∃ od,h.get? dx = some od /\ ∀ name,PySem.W.lookIn name od = some (mA name):=by
 obtain ⟨o,es,ep,ho,hd,hk,_,hm⟩:=n
 refine ⟨o,ho,fun name=>?_⟩
 have e:=hm name
 unfold nsFind findBy at e
 rw [<- Array.find?_toList] at e
 unfold PySem.W.lookIn
 rw [hd]
 dsimp only
 split
 ·rename_i y q
  rw [q] at e
  exact W0 some e
 ·rename_i q
  rw [q] at e
  have a:es.toList.any (·.refKey) = false:=by
   rw [List.any_eq_false]
   intro y hy
   obtain ⟨z,t,NJ⟩:=hk y (Array.mem_toList_iff.mp hy)
   simp [DictEntry.refKey,NJ]
  have a':¬ es.toList.any (·.refKey) = true:=by rw [a]; exact VU
  rw [if_neg a']
  exact W0 some e
theorem x6.look {h:Heap} {x dx C:Addr} {mA:Str->Option Value} (I:x6 h x dx C mA):∃ od,PySem.W.InstAt h x (PySem.W.instObj C dx) C (some od) /\ ∀ name,PySem.W.lookIn name od = some (mA name) :=
 let ⟨od,ho,hl⟩:=AO I.ns
 ⟨od,⟨I.obj,rfl,rfl,ho⟩,hl⟩
section
variable {prog:Program} {w:World} {A:Around} {E:Value->Shared->Prop} {s:Shared} {K:Yt} {x dx C f:Addr} {mA:Str->Option Value} {name:Str} {v:Value}
theorem get_map {expr:Bool} {Q:Value->Shared->Prop} (X:K.In s.heap) (I:x6 s.heap x dx C mA) (hg:PySem.W.plainGet K C name = true) (hh:PySem.W.hasDictIn K C = true)
  (ha:PySem.W.findIn K (.ref C) name = some none) (hv:mA name = some v) (Hd:PySem.W.handedIn v = true) (h:Q v { s with toks:=s.toks + 1 }) :
  wpAny (model prog w) A (getAttr (.ref x) name expr) Q E s:=by
 obtain ⟨od,J,hl⟩:=I.look
 exact PySem.W.get_value X J (PySem.W.plainGet_of hg).1 (PySem.W.findObj_own hh ha rfl (by rw [hl,hv])) Hd h
theorem Bv {pl:Sem Bool} {Q:Value × List Value->Shared->Prop} (X:K.In s.heap) (I:x6 s.heap x dx C mA) (hg:PySem.W.plainGet K C name = true)
  (hf:PySem.W.findIn K (.ref C) name = some (some (.ref f))) (ht:PySem.W.isFn K (.ref f) = true) (hv:mA name = none) (h:Q (.ref f,[.ref x]) s) :
  wpAny (model prog w) A (getMethod (.ref x) name pl) Q E s:=by
 obtain ⟨od,J,hl⟩:=I.look
 exact PySem.W.method_fn X J (PySem.W.plainGet_of hg).1 (PySem.W.plainGet_of hg).2 hf (XH.mp ht) (by show (PySem.W.lookIn name od).map (·.isSome) = some false; rw [hl,hv]; rfl) h
theorem Fa {ns:List Str} {Q:Unit->Shared->Prop} (X:K.In s.heap) (I:x6 s.heap x dx C mA)
  (hs:PySem.W.findIn K (.ref C) "__setattr__" = some (some (.builtin "object.__setattr__"))) (hp:PySem.W.plainOver K C = true) (ht:PySem.W.takerIn K C name = some none) (hh:PySem.W.hasDictIn K C = true)
  (hw:PySem.Within mA ns) (hsz:ns.length <= sizeLine)
  (h:∀ h',x6 h' x dx C (fun y=>if y = name then some v else mA y)->Heap.SameBut dx s.heap h'->Q () { s with heap:=h',toks:=s.toks + 2 }) :
  wpAny (model prog w) A (setAttr (.ref x) name v) Q E s:=by
 obtain ⟨od,J,hl⟩:=I.look
 refine PySem.W.set_plain X J hs (PySem.W.osa_open (s:={ s with toks:=s.toks + 1 }) (r:=none) X J hp ht fun b=>?_)
 obtain ⟨cd,hc,xa⟩:=PySem.W.any_some hh
 have hx:s.heap.get? x = some ⟨.ref C,some dx,.plain,#[]⟩:=I.obj
 refine VL (VM (VL (VL (wpAny_loadPart hx (VL (PySem.W.Looks.here (s:={ s with toks:=s.toks + 1 }) (PySem.W.looks_clsIn X hc) ?_))))))
 rw [xa]
 refine VM (a:=some dx) (VL (VM (VL ?_)))
 refine wpAny_nsSet1 (s:={ s with toks:=s.toks + 1 }) I.ns fun h' LN KY=>?_
 obtain ⟨oD,Vw,VB,Rb,Q5,Uj⟩:=LN.count (PySem.Within.cons name v hw)
 refine VL (wpAny_lookBehind Rb (by rw [Q5]; exact pastItsLine_dict (VZ Uj (by rw [WE]; omega))) ?_)
 exact VM (h _ ⟨(KY.2 _ (X2 I.ne)).trans I.obj,LN,I.ne⟩ KY)
theorem Cf {R:Result->Shared->Prop} {vs:List Value} {kw:List (Str × Value)} (X:K.In s.heap) (hm:PySem.W.makesIn K C = true)
  (hi:PySem.W.findIn K (.ref C) "__init__" = some (some (.ref f))) (hf:PySem.W.typeIn K (.ref f) = some (.type "function"))
  (h:codeAny (model prog w) (A.under (.builtin "type.__call__" ⟨.ref C :: vs,kw⟩)) (.call (.ref f) ⟨.ref (s.heap.objs.size + 1) :: vs,kw⟩) (PySem.W.InitBack (s.heap.objs.size + 1) R)
   { s with heap:=(s.heap.push PySem.W.emptyDict).push (PySem.W.instObj C s.heap.objs.size) }) :
  codeAny (model prog w) A (.call (.ref C) ⟨vs,kw⟩) R s:=by
 obtain ⟨hh,g,d,t,os⟩:=s
 exact PySem.W.make_core (PySem.W.makes_of X hm) (PySem.W.looks_findIn X hi) (fun self=>PySem.W.bind_fn X self hf) (.inl rfl) h
end
def eI (f:Str) (v:V):List (Str × V)->List (Str × V)
 | []=>[(f,v)]
 | (g,x) :: r=>if g = f then (g,v) :: r else (g,x) :: eI f v r
theorem bQ (f g:Str) (v:V):∀ fs:List (Str × V),(eI f v fs).lookup g = if g = f then some v else fs.lookup g
 | []=>by
  show List.lookup g [(f,v)] = _
  by_cases h:g = f
  ·have hb:(g == f) = true:=XH.mpr h
   simp only [List.lookup,hb,if_pos h]
  ·have hb:(g == f) = false:=WY.mpr h
   simp only [List.lookup,hb,if_neg h]
 | (k,x) :: r=>by
  have ih:=bQ f g v r
  rw [show eI f v ((k,x) :: r) = (if k = f then (k,v) :: r else (k,x) :: eI f v r) from rfl]
  by_cases hk:k = f
  ·rw [if_pos hk]
   by_cases h:g = k
   ·have hb:(g == k) = true:=XH.mpr h
    simp only [List.lookup,hb,if_pos (h.trans hk)]
   ·have hb:(g == k) = false:=WY.mpr h
    simp only [List.lookup,hb,if_neg (fun e:g = f=>h (e.trans hk.symm))]
  ·rw [if_neg hk]
   by_cases h:g = k
   ·have hb:(g == k) = true:=XH.mpr h
    simp only [List.lookup,hb,if_neg (fun e:g = f=>hk (h.symm.trans e))]
   ·have hb:(g == k) = false:=WY.mpr h
    simp only [List.lookup,hb]
    exact ih
theorem n4 (f:Str) (v:V):∀ fs:List (Str × V),f ∈ (eI f v fs).map (·.1) /\ ∀ g,g ∈ fs.map (·.1)->g ∈ (eI f v fs).map (·.1)
 | []=>⟨by simp [eI],fun g h=>by simp at h⟩
 | (k,x) :: r=>by
  obtain ⟨i1,i2⟩:=n4 f v r
  rw [show eI f v ((k,x) :: r) = (if k = f then (k,v) :: r else (k,x) :: eI f v r) from rfl]
  by_cases hk:k = f
  ·rw [if_pos hk]
   subst hk
   exact ⟨by simp,fun g h=>by simpa using h⟩
  ·rw [if_neg hk]
   refine ⟨?_,fun g h=>?_⟩
   ·rw [V8]
    exact VQ _ i1
   ·rw [V8] at h ⊢
    rcases VT.mp h with e | e
    ·exact VT.mpr (.inl e)
    ·exact VQ _ (i2 g e)
theorem oM (f:Str) (v:V):∀ fs:List (Str × V),(eI f v fs).length <= fs.length + 1
 | []=>by simp [eI]
 | (k,x) :: r=>by
  have ih:=oM f v r
  rw [show eI f v ((k,x) :: r) = (if k = f then (k,v) :: r else (k,x) :: eI f v r) from rfl]
  by_cases hk:k = f
  ·rw [if_pos hk,WE,WE]; omega
  ·rw [if_neg hk,WE,WE]; omega
theorem n9.some_of {v:V} {o:Option Value} (r:n9 (some v) o):∃ u,o = some u /\ RelV v u:=by
 cases o with
 | none=>exact (show False from r).elim
 | some u=>exact ⟨u,rfl,r⟩
theorem n9.none_of {o:Option Value} (r:n9 none o):o = none:=by
 cases o with
 | none=>rfl
 | some u=>exact (show False from r).elim
theorem AU {v:V} {u:Value} (r:RelV v u):PySem.W.handedIn u = true:=by
 cases v with
 | dR=>cases (show u = Value.none from r); rfl
 | bl b=>cases (show u = Value.bool b from r); rfl
 | int i=>obtain ⟨t,e⟩:=(show ∃ t,u = Value.int i t from r); cases e; rfl
 | str x=>obtain ⟨t,e⟩:=(show ∃ t,u = Value.str x t from r); cases e; rfl
 | zK b=>obtain ⟨t,e⟩:=(show ∃ t,u = Value.bytes b t from r); cases e; rfl
 | Ig b=>obtain ⟨t,e⟩:=(show ∃ t,u = Value.float b t from r); cases e; rfl
 | ref a=>cases (show u = Value.ref a from r); rfl
 | ty n=>cases (show u = Value.type n from r); rfl
section
variable {P:Program} {w:World} {H H':Hp} {h h':Heap} {a C dx:Addr} {fs ME:List (Str × V)}
theorem pP (ba:jN P w H h) (e:H a = some (.ins C dx fs)):∃ mA,x6 h a dx C mA /\ (∀ f,n9 (fs.lookup f) (mA f)) /\ PySem.Within mA (fs.map (·.1)) /\ fs.length <= 1000 /\ H dx = some (.own a):=by
 obtain ⟨d,z,ne,ob,mA,n,r,q⟩:=(show ck P w H h a (.ins C dx fs) from ba a _ e)
 exact ⟨mA,⟨ob,n,ne⟩,r,q,z,d⟩
end
structure Bi (K:Yt) (C:Addr):Prop where
 pg:PySem.W.plainGet K C Str.empty = true
 hd:PySem.W.hasDictIn K C = true
 po:PySem.W.plainOver K C = true
 sa:PySem.W.findIn K (.ref C) "__setattr__" = some (some (.builtin "object.__setattr__"))
theorem Bi.get {K:Yt} {C:Addr} (c:Bi K C) (f:Str):PySem.W.plainGet K C f = true:=c.pg
def iJ (K:Yt) (C:Addr) (f:Str):Prop:=PySem.W.findIn K (.ref C) f = some none
theorem iJ.Jz {K:Yt} {C:Addr} {f:Str} (n:iJ K C f):PySem.W.takerIn K C f = some none:=by
 unfold PySem.W.takerIn
 rw [show PySem.W.findIn K (.ref C) f = some none from n]
 rfl
structure Meth (K:Yt) (C:Addr) (m:Str) (f:Addr):Prop where
 at_:PySem.W.findIn K (.ref C) m = some (some (.ref f))
 fn:PySem.W.isFn K (.ref f) = true
 kp:PySem.W.keepIn K (.ref f) = true
section
variable {X:Cx} {pins:List (Addr × Obj)} {σ:St} {H:Hp} {s:Shared} {a C dx:Addr} {fs:List (Str × V)} {f:Str} {v:V} {A:Around} {E:Value->Shared->Prop}
theorem xP {b:Bool} {Q:Value->Shared->Prop} (I:Inv X pins σ H s) (e:H a = some (.ins C dx fs)) (c:Bi X.K C) (n:iJ X.K C f) (l:fs.lookup f = some v)
  (h:∀ u s',Inv X pins σ H s'->RelV v u->Q u s'):wpAny (model X.prog X.w) A (getAttr (.ref a) f b) Q E s:=by
 obtain ⟨mA,O,r,_,_,_⟩:=pP I.ba e
 obtain ⟨u,hu,ru⟩:=n9.some_of (v:=v) (o:=mA f) (by rw [<- l]; exact r f)
 exact get_map I.oZ O (c.get f) c.hd n hu (AU ru) (h u _ (I.tok _) ru)
theorem lU {m:Str} {g:Addr} {pl:Sem Bool} {Q:Value × List Value->Shared->Prop} (I:Inv X pins σ H s) (e:H a = some (.ins C dx fs)) (c:Bi X.K C) (k:Meth X.K C m g) (l:fs.lookup m = none)
  (h:Q (.ref g,[.ref a]) s):wpAny (model X.prog X.w) A (getMethod (.ref a) m pl) Q E s:=by
 obtain ⟨mA,O,r,_,_,_⟩:=pP I.ba e
 have hn:mA m = none:=n9.none_of (by rw [<- l]; exact r m)
 exact Bv I.oZ O (c.get m) k.at_ k.fn hn h
theorem xl {y:V} {u:Value} {Q:Unit->Shared->Prop} (I:Inv X pins σ H s) (e:H a = some (.ins C dx fs)) (c:Bi X.K C) (n:iJ X.K C f) (hl:fs.length < 1000) (ry:RelV y u)
  (h:∀ s',Inv X pins σ (upd H a (.ins C dx (eI f y fs))) s'->Q () s'):wpAny (model X.prog X.w) A (setAttr (.ref a) f u) Q E s:=by
 obtain ⟨mA,O,r,wi,_,ho⟩:=pP I.ba e
 have hz:(fs.map (·.1)).length <= sizeLine:=by rw [VO,Xy]; omega
 refine Fa I.oZ O c.sa c.po n.Jz c.hd wi hz fun h' O' sb=>h _ ?_
 have hd:∃ o,h'.get? dx = some o:=let ⟨o,_,_,e',_⟩:=O'.ns; ⟨o,e'⟩
 refine I.write (x:=a) (e:=dx) (by rw [e]; exact XS) (.inr ho) (fun b q hb z=>(sb.2 b hb).trans z) hd ?_
 refine ⟨by rw [aq O.ne]; exact ho,?_,O.ne,O'.obj,_,O'.ns,fun g=>?_,fun g hg=>?_⟩
 ·have:=oM f y fs; omega
 ·show n9 ((eI f y fs).lookup g) (if g = f then some u else mA g)
  rw [bQ]
  by_cases q:g = f
  ·rw [if_pos q,if_pos q]; exact ry
  ·rw [if_neg q,if_neg q]; exact r g
 ·by_cases q:g = f
  ·rw [q]; exact (n4 f y fs).1
  ·refine (n4 f y fs).2 g (wi g fun z=>hg ?_)
   show (if g = f then some u else mA g) = none
   rw [if_neg q]; exact z
theorem Inv.made (I:Inv X pins σ H s):Inv X pins σ (upd (upd H s.heap.objs.size (.own (s.heap.objs.size + 1))) (s.heap.objs.size + 1) (.ins C s.heap.objs.size []))
  { s with heap:=(s.heap.push PySem.W.emptyDict).push (PySem.W.instObj C s.heap.objs.size) }:=by
 have e1:(s.heap.push PySem.W.emptyDict).get? s.heap.objs.size = some PySem.W.emptyDict:=VY s.heap rfl
 have e2:((s.heap.push PySem.W.emptyDict).push (PySem.W.instObj C s.heap.objs.size)).get? (s.heap.objs.size + 1) = some (PySem.W.instObj C s.heap.objs.size):=by
  have:=VY (s.heap.push PySem.W.emptyDict) (o:=PySem.W.instObj C s.heap.objs.size) rfl
  rwa [XN] at this
 have e3:(s.heap.push PySem.W.emptyDict).Ns s.heap.objs.size (fun _=>none):=⟨PySem.W.emptyDict,#[],_,e1,rfl,(fun e he=>absurd he (by simp)),fun _=>rfl⟩
 have I1:=I.laid (a:=s.heap.objs.size) (o:=.own (s.heap.objs.size + 1)) (h':=s.heap.push PySem.W.emptyDict) (t':=s.toks) (fun b u q=>VN _ q) (VP _) ⟨_,e1⟩
 refine I1.laid (a:=s.heap.objs.size + 1) (o:=.ins C s.heap.objs.size []) (t':=s.toks) (fun b u q=>VN _ q) (Nat.le_of_eq (XN _ _)) ?_
 have ne:s.heap.objs.size ≠ s.heap.objs.size + 1:=Wj (Nat.lt_succ_self _)
 refine ⟨by rw [aq ne,ae],Wl _,ne,e2,fun _=>none,(Heap.Ns1.of_empty e3).at fun o q=>VN _ q,fun _=>XS,fun y hy=>absurd rfl hy⟩
theorem EK {prog:Program} {w:World} {env:Env} {e:Expr} {f:Str} {pos:Pos} {s:Shared} {Q:Value->Shared->Prop} (hb:attributeBase e f env (eval e env) = eval e env)
  (h:wpAny (model prog w) A (eval e env) (fun o s₁=>wpAny (model prog w) A (getAttr o f true) Q E s₁) E s):wpAny (model prog w) A (eval (.Attribute e f pos) env) Q E s :=
 Attribute_any_ h (by rw [arm_eval_Attribute,hb])
end
def MS (K:Yt) (ta:TE) (f:Str):TE:=fun σ H Q=>ta σ H fun x H1=>∃ a C dx fs v,x = .ref a /\ H1 a = some (.ins C dx fs) /\ Bi K C /\ iJ K C f /\ fs.lookup f = some v /\ Q v H1
def Nv (K:Yt) (ta tv:TE) (f:Str):TS:=fun D σ H=>tv σ H fun y H1=>ta σ H1 fun x H2=>∃ a C dx fs,x = .ref a /\ H2 a = some (.ins C dx fs) /\ Bi K C /\ iJ K C f /\ fs.length < 1000 /\
 D.nx σ (upd H2 a (.ins C dx (eI f y fs)))
section
variable {X:Cx} {o e value:Expr} {f:Str} {pos pos' Fc:Pos} {ta tv:TE}
theorem t4 (he:PE X e ta) (hb:attributeBase e f X.env (eval e X.env) = eval e X.env):PE X (.Attribute e f pos) (MS X.K ta f):=by
 intro pins s σ H Q I h
 refine EK hb (cn (he pins s σ H _ I h) fun u s1 ⟨x,H1,I1,rx,a,C,dx,fs,v,ex,ea,c,n,l,q⟩=>?_)
 subst ex
 obtain rfl:u = Value.ref a:=rx
 exact xP I1 ea c n l fun u' s2 I2 ru=>⟨v,H1,I2,ru,q⟩
theorem ym (ha:PE X o ta) (hv:PE X value tv) (hs:swapsWith value (some (.Attribute o f pos')) pos.line X.env = pure false):PS X (.Assign [.Attribute o f pos'] value pos) (Nv X.K ta tv f):=by
 intro pins s σ H D I h
 refine plainObj_wpAny_Assign_Attribute (cn (hv pins s σ H _ I h) fun u s1 ⟨y,H1,I1,ry,q⟩=>cn (ha pins s1 σ H1 _ I1 q) fun ov s2 ⟨x,H2,I2,rx,a,C,dx,fs,ex,ea,c,n,l,q2⟩=>?_) hs
 subst ex
 obtain rfl:ov = Value.ref a:=rx
 exact xl I2 ea c n l ry fun s3 I3=>⟨σ,_,I3,q2⟩
theorem Ga {pl:Sem Bool} {m:Str} {apos:Pos} {args:List Expr} {pins:List (Addr × Obj)} {s:Shared} {σ:St} {H:Hp} {Q:Value->Shared->Prop} {te:TE} (he:PE X e te) (I:Inv X pins σ H s)
  (h:te σ H fun x H1=>∃ a C dx fs g,x = .ref a /\ H1 a = some (.ins C dx fs) /\ Bi X.K C /\ Meth X.K C m g /\ fs.lookup m = none /\
   ∀ s1,Inv X pins σ H1 s1->wpAny (model X.prog X.w) X.A (callWith pos (.ref g) [.ref a] (backTo pos (starEach args X.env)) (backToKw pos (keywordEach [] X.env))) Q X.xe s1)
  (ht:eval (.Call (.Attribute e m apos) args [] pos) X.env = (do
   let ov <- eval e X.env
   standAt apos.atName
   let (f,first) <- holding [ov] (getMethod ov m pl)
   callWith pos f first (backTo pos (starEach args X.env)) (backToKw pos (keywordEach [] X.env)))) :
  wpAny (model X.prog X.w) X.A (eval (.Call (.Attribute e m apos) args [] pos) X.env) Q X.xe s:=by
 refine PySem.W.methodCall_KW (pl:=pl) (cn (he pins s σ H _ I h) fun u s1 ⟨x,H1,I1,rx,a,C,dx,fs,g,ex,ea,c,k,l,q⟩=>?_) ht
 subst ex
 obtain rfl:u = Value.ref a:=rx
 exact lU I1 ea c k l (q s1 I1)
end
section
variable {X:Cx} {pins:List (Addr × Obj)} {σ:St} {H:Hp} {s:Shared} {A:Around} {E:Value->Shared->Prop} {Q:Value->Shared->Prop} {c:Value} {b:Bool}
inductive nP (K:Yt) (H:Hp):V->Value->Prop where
 | dR:nP K H .dR (.type "NoneType")
 | bl (x:Bool):nP K H (.bl x) (.type "bool")
 | int (i:Int):nP K H (.int i) (.type "int")
 | str (x:Str):nP K H (.str x) (.type "str")
 | Ig (x:UInt64):nP K H (.Ig x) (.type "float")
 | lst {a:Addr} {xs:List V} (e:H a = some (.lst xs)):nP K H (.ref a) (.type "list")
 | xb {a:Addr} {o:Obj} {xs:List V} (e:H a = some (.xb o (.lst xs))):nP K H (.ref a) (.type "list")
 | tup {a:Addr} {xs:List V} (e:H a = some (.tup xs)):nP K H (.ref a) (.type "tuple")
 | dK {a:Addr} {kvs:List (Key × V)} (e:H a = some (.dK kvs)):nP K H (.ref a) (.type "dict")
 | dT {a:Addr} {kvs:List (List Key × V)} (e:H a = some (.dT kvs)):nP K H (.ref a) (.type "dict")
 | ins {a C dx:Addr} {fs:List (Str × V)} (e:H a = some (.ins C dx fs)) (cl:Bi K C) (ha:PySem.W.findIn K (.ref C) "__class__" = some (some (.builtin "object.__class__")))
   (hn:PySem.W.specialIn K (.builtin "object.__class__") "__get__" = some (some (.builtin "getset_descriptor.__get__"))) (Pd:PySem.W.takesIn K (.builtin "object.__class__") = some true)
   (hm:PySem.W.mroIn K C (.type "object") = some true):nP K H (.ref a) (.ref C)
theorem AI {x:V} {u t:Value} (I:Inv X pins σ H s) (rx:RelV x u) (ty:nP X.K H x t) (e:PySem.W.kitOne X.K t c = some b) (h:∀ tk,Q (.bool b) { s with toks:=tk }) :
  wpAny (model X.prog X.w) A (call (.builtin "isinstance") [u,c]) Q E s:=by
 cases ty with
 | dR=>cases (show u = Value.none from rx); exact W7 PySem.W.kitx_none I.oZ XS e (fun z=>nomatch z) h
 | bl y=>cases (show u = Value.bool y from rx); exact W7 PySem.W.kitx_bool I.oZ XS e (fun z=>nomatch z) h
 | int i=>obtain ⟨t,q⟩:=(show ∃ t,u = Value.int i t from rx); cases q; exact W7 PySem.W.kitx_int I.oZ XS e (fun z=>nomatch z) h
 | str y=>obtain ⟨t,q⟩:=(show ∃ t,u = Value.str y t from rx); cases q; exact W7 PySem.W.kitx_str I.oZ XS e (fun z=>nomatch z) h
 | Ig y=>obtain ⟨t,q⟩:=(show ∃ t,u = Value.float y t from rx); cases q; exact W7 PySem.W.kitx_float I.oZ XS e (fun z=>nomatch z) h
 | @lst a xs ea =>
  cases (show u = Value.ref a from rx)
  obtain ⟨_,_,n,_,h1⟩:=(show ck X.prog X.w H s.heap a (.lst xs) from I.ba a _ ea)
  exact W7 PySem.W.kitx_list I.oZ ⟨_,h1,rfl⟩ e (fun z=>nomatch z) h
 | @xb a ob xs ea =>
  cases (show u = Value.ref a from rx)
  obtain ⟨_,_,_,n,_,h1⟩:=(show ck X.prog X.w H s.heap a (.xb ob (.lst xs)) from I.ba a _ ea)
  exact W7 PySem.W.kitx_list I.oZ ⟨_,h1,rfl⟩ e (fun z=>nomatch z) h
 | @tup a xs ea =>
  cases (show u = Value.ref a from rx)
  obtain ⟨_,_,_,p⟩:=(show ck X.prog X.w H s.heap a (.tup xs) from I.ba a _ ea)
  obtain ⟨o,h1,h2,_⟩:=p
  exact W7 PySem.W.kitx_tuple I.oZ ⟨o,h1,h2⟩ e (fun z=>nomatch z) h
 | @dK a kvs ea =>
  cases (show u = Value.ref a from rx)
  obtain ⟨_,_,vs,_,p⟩:=(show ck X.prog X.w H s.heap a (.dK kvs) from I.ba a _ ea)
  obtain ⟨o,es,ep,h1,h2,_⟩:=p
  exact W7 PySem.W.kitx_dict I.oZ ⟨o,h1,h2.1⟩ e (fun z=>nomatch z) h
 | @dT a kvs ea =>
  cases (show u = Value.ref a from rx)
  obtain ⟨_,_,xs,_,o,es,ep,h1,h2,_⟩:=(show ck X.prog X.w H s.heap a (.dT kvs) from I.ba a _ ea)
  exact W7 PySem.W.kitx_dict I.oZ ⟨o,h1,h2.1⟩ e (fun z=>nomatch z) h
 | @ins a C dx fs ea cl ha hn Pd hm =>
  cases (show u = Value.ref a from rx)
  obtain ⟨mA,O,_⟩:=pP I.ba ea
  obtain ⟨od,J,_⟩:=O.look
  exact W7 (PySem.W.kitx_own (cl.get _) cl.hd ha hn Pd hm) I.oZ J e (fun z=>nomatch z) h
end
structure eT (k:Nat) (A:Around):Prop where
 hd:A.handled = none
 dp:A.depth + 3 * k + 5 < recursionLimit
 un:A.units + 16 * k + 200 < cLine
theorem eT.mono {j k:Nat} {A:Around} (r:eT k A) (h:j <= k):eT j A:=⟨r.hd,by have:=r.dp; omega,by have:=r.un; omega⟩
theorem eT.deeper {k:Nat} {A:Around} (r:eT (k + 1) A) (env:Env):eT k (A.deeper env) :=
 ⟨r.hd,by have:=r.dp; show A.depth + 1 + 3 * k + 5 < _; omega,by have:=r.un; show A.units + 3 + 16 * k + 200 < _; omega⟩
theorem eT.in1 {k:Nat} {A:Around} (r:eT (k + 1) A):eT k A.in1 :=
 ⟨r.hd,by have:=r.dp; show A.depth + 3 * k + 5 < _; omega,by have:=r.un; show A.units + 1 + 16 * k + 200 < _; omega⟩
theorem yj {A:Around} {C:Addr} {us:List Value} {kw:List (Str × Value)}:(A.under (.builtin "type.__call__" ⟨.ref C :: us,kw⟩)).depth = A.depth + 1:=by
 first | rfl | simp [Around.under,Code.weight,Code.isCreation,Code.isGuard,Code.isCaller,Code.frames,Code.isFrame,guardIds]
theorem xq {A:Around} {C:Addr} {us:List Value} {kw:List (Str × Value)}:(A.under (.builtin "type.__call__" ⟨.ref C :: us,kw⟩)).units = A.units + 1:=by
 first | rfl | simp [Around.under,Code.cUnits,Code.frames,Code.isFrame]
theorem eT.make {k:Nat} {A:Around} (r:eT (k + 1) A) (C:Addr) (us:List Value) (kw:List (Str × Value)):eT k (A.under (.builtin "type.__call__" ⟨.ref C :: us,kw⟩)) :=
 ⟨r.hd,by have:=r.dp; rw [yj]; omega,by have:=r.un; rw [xq]; omega⟩
theorem eT.depth {k:Nat} {A:Around} (r:eT k A):A.depth < recursionLimit:=by have:=r.dp; omega
theorem eT.units {k:Nat} {A:Around} (r:eT k A):A.units + 64 < cLine:=by have:=r.un; omega
def JG:TA:=fun _ H Q=>Q [] H
def KR (ta:TE) (tr:TA):TA:=fun σ H Q=>ta σ H fun x H1=>tr σ H1 fun xs H2=>Q (x :: xs) H2
section
variable {X:Cx} {e:Expr} {es:List Expr} {te:TE} {t:TA} {pos:Pos}
theorem af:PA X [] JG:=fun _ _ _ _ H Q I h=>Calls.spliced_nil ⟨[],H,I,.nil,h⟩
theorem aa (ha:PE X e te) (hr:PA X es t) (hs:starEach (e :: es) X.env = (false,eval e X.env) :: starEach es X.env:=by rfl):PA X (e :: es) (KR te t):=by
 intro pos pins s σ H Q I h
 rw [hs]
 show wpAny _ _ (spliced ((false,eval e X.env) :: backTo pos (starEach es X.env))) _ _ s
 refine Calls.spliced_cons (cn (ha pins s σ H _ I h) fun u s1 ⟨x,H1,I1,r1,q1⟩=>?_)
 exact cn (hr pos pins s1 σ H1 _ I1 q1) fun us s2 ⟨xs,H2,I2,r2,q2⟩=>⟨x :: xs,H2,I2,.cons r1 r2,q2⟩
def Ov (t:TA):TE:=fun σ H Q=>t σ H fun xs H1=>xs.length <= sizeLine /\ ∀ p,H1 p = none->Q (.ref p) (upd H1 p (.tup xs))
def Oy (t:TA):TE:=fun σ H Q=>t σ H fun xs H1=>xs.length <= sizeLine /\ ∀ p,H1 p = none->Q (.ref p) (upd H1 p (.lst xs))
theorem bM {x1} (h:PA X es t):PE X (.Tuple es x1 pos) (Ov t):=by
 intro pins s σ H Q I hq
 refine wpAny_Tuple_spliced (cn (h pos pins s σ H _ I hq) fun us s1 ⟨xs,H1,I1,r,z,q⟩=>⟨by rw [<- r.length]; exact z,?_⟩)
 have hf:H1 s1.heap.objs.size = none:=I1.ba.fresh (VP _)
 refine ⟨.ref s1.heap.objs.size,upd H1 s1.heap.objs.size (.tup xs),I1.laid (t':=s1.toks) (fun b u e=>VN _ e) (VP _) ?_,rfl,q _ hf⟩
 exact ⟨z,us,r,⟨_,VY _ rfl,rfl,_,rfl⟩⟩
theorem fG (h:PA X es t):PE X (.List es pos) (Oy t):=by
 intro pins s σ H Q I hq
 refine wpAny_List_spliced (cn (h pos pins s σ H _ I hq) fun us s1 ⟨xs,H1,I1,r,z,q⟩=>⟨by rw [<- r.length]; exact z,?_⟩)
 have hf:H1 s1.heap.objs.size = none:=I1.ba.fresh (VP _)
 refine ⟨.ref s1.heap.objs.size,upd H1 s1.heap.objs.size (.lst xs),I1.laid (t':=s1.toks) (fun b u e=>VN _ e) (VP _) ?_,rfl,q _ hf⟩
 exact ⟨z,us,0,r,VY _ rfl⟩
end
abbrev Sp:=List V->Hp->VK->XK->Prop
abbrev xQ:=List Env->Hp->Shared->XK->Value->Shared->Prop
structure pX (P:Program) (w:World) (K:Yt) (mg:Str->Option Value) (base:Heap) (A:Around) (outer:List Env) (s:Shared) (H:Hp):Prop where
 frames:A.frames = some outer
 mod:Mod K mg base
 bs:∀ b o,base.get? b = some o->s.heap.get? b = some o /\ H b = none
 Bm:base.objs.size <= s.heap.objs.size
 me:s.heap.FunFrames base outer
 EE:∀ b ∈ l3 outer,H b = none
 ba:jN P w H s.heap
 bare:AllBare s.gens
def CE (outer:List Env) (P:Program) (w:World) (H:Hp) (s:Shared) (Q:VK) (u:Value) (s':Shared):Prop :=
 ∃ v H',s'.os = s.os /\ AllBare s'.gens /\ Un (l3 outer) [] H H' s.heap s'.heap /\ jN P w H' s'.heap /\ RelV v u /\ Q v H'
def CR (CX:xQ) (outer:List Env) (P:Program) (w:World) (H:Hp) (s:Shared) (Q:VK) (E:XK) (r:Result) (s':Shared):Prop :=
 match r with
 | .ok (.ret u)=>CE outer P w H s Q u s'
 | .ok _=>False
 | .error e=>CX outer H s E e s'
structure au (P:Program) (w:World) (K:Yt) (mg:Str->Option Value) (base:Heap) (CX:xQ) (k:Nat) (f:Addr) (fd:FuncData) (ps:List Str) (sp:Sp):Prop where
 len:∀ vs H Q E,sp vs H Q E->vs.length = ps.length
 run:∀ (A:Around) (outer:List Env) (s:Shared) (H:Hp) (args:Args) (us:List Value) (vs:List V) (Q:VK) (E:XK),eT k A->pX P w K mg base A outer s H->BindsTo s fd args (ps.zip us)->Vals vs us->sp vs H Q E ->
  codeAny (model P w) A (.call (.ref f) args) (CR CX outer P w H s Q E) s
theorem au.mono {P:Program} {w:World} {K:Yt} {mg:Str->Option Value} {base:Heap} {CX:xQ} {j k:Nat} {f:Addr} {fd:FuncData} {ps:List Str} {sp:Sp} (F:au P w K mg base CX j f fd ps sp) (h:j <= k) :
  au P w K mg base CX k f fd ps sp:=⟨F.len,fun A outer s H args us vs Q E hr=>F.run A outer s H args us vs Q E (hr.mono h)⟩
theorem au.imp {P:Program} {w:World} {K:Yt} {mg:Str->Option Value} {base:Heap} {CX:xQ} {k:Nat} {f:Addr} {fd:FuncData} {ps:List Str} {sp PX:Sp} (F:au P w K mg base CX k f fd ps sp)
  (h:∀ vs H Q E,PX vs H Q E->sp vs H Q E):au P w K mg base CX k f fd ps PX :=
 ⟨fun vs H Q E q=>F.len vs H Q E (h _ _ _ _ q),fun A outer s H args us vs Q E hr he hb hv hs=>F.run A outer s H args us vs Q E hr he hb hv (h _ _ _ _ hs)⟩
theorem pX.make {P:Program} {w:World} {K:Yt} {mg:Str->Option Value} {base:Heap} {A:Around} {outer:List Env} {s:Shared} {H:Hp} (e:pX P w K mg base A outer s H) (C:Addr) (us:List Value) (kw:List (Str × Value)) :
  pX P w K mg base (A.under (.builtin "type.__call__" ⟨.ref C :: us,kw⟩)) outer s H:=⟨by first | exact e.frames | (simpa [Around.under,Code.envs,Code.isFrame,pushEnvs] using e.frames),e.mod,e.bs,e.Bm,e.me,e.EE,e.ba,e.bare⟩
theorem pX.in1 {P:Program} {w:World} {K:Yt} {mg:Str->Option Value} {base:Heap} {A:Around} {outer:List Env} {s:Shared} {H:Hp} (e:pX P w K mg base A outer s H) :
  pX P w K mg base A.in1 outer s H:=⟨e.frames,e.mod,e.bs,e.Bm,e.me,e.EE,e.ba,e.bare⟩
section
variable {X:Cx} {pins:List (Addr × Obj)} {σ:St} {H:Hp} {s s':Shared}
theorem Inv.Hy (I:Inv X pins σ H s):pX X.prog X.w X.K X.mg X.base X.A X.stack s H :=
 ⟨I.ok.frames,I.ok.mod,I.bs,VZ I.ok.Bm I.sz,I.stack,I.pK,I.ba,I.bare⟩
theorem Inv.after {Q:VK} {u:Value} (I:Inv X pins σ H s) (h:CE X.stack X.prog X.w H s Q u s'):EP X pins σ Q u s':=by
 obtain ⟨v,H',os,bare,un,ba,r,q⟩:=h
 obtain ⟨hh,g,d,t,MW⟩:=s'
 obtain rfl:MW = s.os:=os
 exact ⟨v,H',I.call (h':=hh) (g':=g) (d':=d) (t':=t) (ch:=[]) un ba bare (fun b z=>absurd z (by simp)),r,q⟩
end
def FJ (sp:Sp) (jE:List V) (E:XK) (t:TA):TE:=fun σ H Q=>t σ H fun vs H1=>sp (vs ++ jE) H1 Q E
def FZ (C:Addr) (m:Str) (sp:Sp) (jE:List V) (E:XK) (ta:TE) (t:TA):TE:=fun σ H Q=>ta σ H fun x H1=>∃ a dx fs,x = .ref a /\ H1 a = some (.ins C dx fs) /\ fs.lookup m = none /\
 t σ H1 fun vs H2=>sp (x :: (vs ++ jE)) H2 Q E
def KD (C:Addr) (sp:Sp) (jE:List V) (E:XK) (t:TA):TE:=fun σ H Q=>t σ H fun vs H1=>∀ x dx,H1 x = none->H1 dx = none->dx ≠ x ->
 sp (.ref x :: (vs ++ jE)) (upd (upd H1 dx (.own x)) x (.ins C dx [])) (fun v H2=>v = .dR /\ Q (.ref x) H2) E
def Binds (K:Yt) (fd:FuncData) (ps:List Str) (ds:List Value):Prop :=
 ∀ (s:Shared) (us:List Value),K.In s.heap->(us ++ ds).length = ps.length->BindsTo s fd ⟨us,[]⟩ (ps.zip (us ++ ds))
theorem Binds.all {K:Yt} {fd:FuncData} {ps:List Str} (h:∀ us:List Value,us.length = ps.length->bindArgs fd ⟨us,[]⟩ = pure (ps.zip us)):Binds K fd ps []:=fun s us _ hl=>by
 rw [Yn] at hl ⊢
 exact .of_eq (h us hl)
def Passes (CX:xQ) (X:Cx) (E:XK):Prop:=∀ (pins:List (Addr × Obj)) (σ:St) (H:Hp) (s:Shared) (e:Value) (s':Shared),Inv X pins σ H s->CX X.stack H s E e s'->X.xe e s'
section
variable {X:Cx} {CX:xQ} {k:Nat} {f C:Addr} {fd:FuncData} {ps:List Str} {sp:Sp} {jE:List V} {ds:List Value} {E:XK} {x m:Str} {p pos apos:Pos} {e o:Expr} {es:List Expr} {ta:TE} {t:TA}
theorem yp {pins:List (Addr × Obj)} {σ:St} {H:Hp} {s:Shared} {Q:VK} {us:List Value} {vs:List V} (F:au X.prog X.w X.K X.mg X.base CX k f fd ps sp) (hr:eT k X.A) (hb:Binds X.K fd ps ds) (hd:Vals jE ds) (hx:Passes CX X E)
  (I:Inv X pins σ H s) (r:Vals vs us) (h:sp (vs ++ jE) H Q E):wpAny (model X.prog X.w) X.A (call (.ref f) us) (EP X pins σ Q) X.xe s:=by
 have r2:Vals (vs ++ jE) (us ++ ds):=r.append hd
 have hl:(us ++ ds).length = ps.length:=by rw [<- r2.length]; exact F.len _ _ _ _ h
 refine wpAny_call (codeAny_mono (F.run X.A X.stack s H ⟨us,[]⟩ (us ++ ds) (vs ++ jE) Q E hr I.Hy (hb s us I.oZ hl) r2 h) fun r s' hq=>?_)
 cases r with
 | error e=>exact hx pins σ H s e s' I hq
 | ok fl =>
  cases fl with
  | ret u=>exact I.after hq
  | next=>exact False.elim hq
  | brk=>exact False.elim hq
  | cont=>exact False.elim hq
theorem Ex (F:au X.prog X.w X.K X.mg X.base CX k f fd ps sp) (hr:eT k X.A) (hg:Gl X x) (hm:X.mg x = some (.ref f)) (hk:PySem.W.keepIn X.K (.ref f) = true) (hb:Binds X.K fd ps ds) (hd:Vals jE ds) (hx:Passes CX X E)
  (ha:PA X (e :: es) t) (rn:(x == ("__debug__":Str)) = false:=by decide) (he:starEach (e :: es) X.env = (false,eval e X.env) :: starEach es X.env:=by rfl) (xm:(backTo pos (starEach es X.env)).any (·.1) = false:=by rfl) :
  PE X (.Call (.Name x p) (e :: es) [] pos) (FJ sp jE E t):=by
 intro pins s σ H Q I h
 refine Yq (ma I hg hm ?_ rn)
 refine PySem.W.callWith_K (h₀:=X.base) I.ok.mod.y8 hk (cn (ha pos pins s σ H _ I h) fun us s1 ⟨vs,H1,I1,r,q⟩=>⟨I1.oZ,?_⟩) he xm
 exact yp F hr hb hd hx I1 r q
theorem zt {pl:Sem Bool} (he:PE X o ta) (c:Bi X.K C) (hm:Meth X.K C m f) (F:au X.prog X.w X.K X.mg X.base CX k f fd ps sp) (hr:eT k X.A) (hb:Binds X.K fd ps ds) (hd:Vals jE ds) (hx:Passes CX X E) (ha:PA X (e :: es) t)
  (jM:starEach (e :: es) X.env = (false,eval e X.env) :: starEach es X.env:=by rfl) (xm:(backTo pos (starEach es X.env)).any (·.1) = false:=by rfl)
  (ht:eval (.Call (.Attribute o m apos) (e :: es) [] pos) X.env = (do
   let ov <- eval o X.env
   standAt apos.atName
   let (f,first) <- holding [ov] (getMethod ov m pl)
   callWith pos f first (backTo pos (starEach (e :: es) X.env)) (backToKw pos (keywordEach [] X.env))):=by rfl) :
  PE X (.Call (.Attribute o m apos) (e :: es) [] pos) (FZ C m sp jE E ta t):=by
 intro pins s σ H Q I h
 refine PySem.W.methodCall_KW (pl:=pl) (cn (he pins s σ H _ I h) fun u s1 ⟨x,H1,I1,rx,a,dx,fs,ex,ea,l,q⟩=>?_) ht
 subst ex
 obtain rfl:u = Value.ref a:=rx
 refine lU I1 ea c hm l ?_
 refine PySem.W.callWith_K (first:=[.ref a]) (h₀:=X.base) I.ok.mod.y8 hm.kp (cn (ha pos pins s1 σ H1 _ I1 q) fun us s2 ⟨vs,H2,I2,r,q2⟩=>⟨I2.oZ,?_⟩) jM xm
 exact yp (us:=.ref a :: us) (vs:=.ref a :: vs) F hr hb hd hx I2 (.cons rfl r) q2
theorem ge {pl:Sem Bool} (he:PE X o ta) (c:Bi X.K C) (hm:Meth X.K C m f) (F:au X.prog X.w X.K X.mg X.base CX k f fd ps sp) (hr:eT k X.A) (hb:Binds X.K fd ps ds) (hd:Vals jE ds) (hx:Passes CX X E)
  (ht:eval (.Call (.Attribute o m apos) [] [] pos) X.env = (do
   let ov <- eval o X.env
   standAt apos.atName
   let (f,first) <- holding [ov] (getMethod ov m pl)
   callWith pos f first (backTo pos (starEach [] X.env)) (backToKw pos (keywordEach [] X.env))):=by rfl) :
  PE X (.Call (.Attribute o m apos) [] [] pos) (FZ C m sp jE E ta JG):=by
 intro pins s σ H Q I h
 refine PySem.W.methodCall_KW (pl:=pl) (cn (he pins s σ H _ I h) fun u s1 ⟨x,H1,I1,rx,a,dx,fs,ex,ea,l,q⟩=>?_) ht
 subst ex
 obtain rfl:u = Value.ref a:=rx
 refine lU I1 ea c hm l ?_
 exact PySem.W.callWith_K0 (first:=[.ref a]) I1.oZ hm.kp (yp (us:=[.ref a]) (vs:=[.ref a]) F hr hb hd hx I1 (.cons rfl .nil) q)
structure Mk (K:Yt) (C f:Addr):Prop where
 makes:PySem.W.makesIn K C = true
 init:PySem.W.findIn K (.ref C) "__init__" = some (some (.ref f))
 fn:PySem.W.isFn K (.ref f) = true
 kp:PySem.W.keepIn K (.ref C) = true
theorem DD {pins:List (Addr × Obj)} {σ:St} {H:Hp} {s:Shared} {Q:VK} {us:List Value} {vs:List V} (M:Mk X.K C f) (F:au X.prog X.w X.K X.mg X.base CX k f fd ps sp) (hr:eT (k + 1) X.A) (hb:Binds X.K fd ps ds) (hd:Vals jE ds)
  (hx:Passes CX X E) (I:Inv X pins σ H s) (r:Vals vs us)
  (h:∀ x dx,H x = none->H dx = none->dx ≠ x->sp (.ref x :: (vs ++ jE)) (upd (upd H dx (.own x)) x (.ins C dx [])) (fun v H2=>v = .dR /\ Q (.ref x) H2) E) :
  wpAny (model X.prog X.w) X.A (call (.ref C) us) (EP X pins σ Q) X.xe s:=by
 have hq:=h (s.heap.objs.size + 1) s.heap.objs.size (I.ba.fresh (XD _)) (I.ba.fresh (VP _)) (Wj (Nat.lt_succ_self _))
 have I2:=Inv.made (C:=C) I
 have r2:Vals (V.ref (s.heap.objs.size + 1) :: (vs ++ jE)) (Value.ref (s.heap.objs.size + 1) :: (us ++ ds)):=.cons rfl (r.append hd)
 have hl:(Value.ref (s.heap.objs.size + 1) :: us ++ ds).length = ps.length:=by
  have e:=r2.length
  rw [F.len _ _ _ _ hq] at e
  exact e.symm
 refine wpAny_call (Cf (f:=f) I.oZ M.makes M.init (XH.mp M.fn) (codeAny_mono (F.run _ X.stack _ _ ⟨Value.ref (s.heap.objs.size + 1) :: us,[]⟩ (Value.ref (s.heap.objs.size + 1) :: (us ++ ds)) _ _ E (hr.make C us [])
  (I2.Hy.make C us []) (hb _ (Value.ref (s.heap.objs.size + 1) :: us) I2.oZ hl) r2 hq) fun r s' xj=>?_))
 cases r with
 | error e=>exact hx pins σ _ _ e s' I2 xj
 | ok fl =>
  cases fl with
  | ret u =>
   obtain ⟨v,H',I3,rv,ev,q3⟩:=I2.after xj
   subst ev
   exact ⟨rv,⟨V.ref (s.heap.objs.size + 1),H',I3,rfl,q3⟩⟩
  | next=>exact False.elim xj
  | brk=>exact False.elim xj
  | cont=>exact False.elim xj
theorem EH (M:Mk X.K C f) (F:au X.prog X.w X.K X.mg X.base CX k f fd ps sp) (hr:eT (k + 1) X.A) (hg:Gl X x) (hm:X.mg x = some (.ref C)) (hb:Binds X.K fd ps ds) (hd:Vals jE ds) (hx:Passes CX X E)
  (ha:PA X (e :: es) t) (rn:(x == ("__debug__":Str)) = false:=by decide) (he:starEach (e :: es) X.env = (false,eval e X.env) :: starEach es X.env:=by rfl) (xm:(backTo pos (starEach es X.env)).any (·.1) = false:=by rfl) :
  PE X (.Call (.Name x p) (e :: es) [] pos) (KD C sp jE E t):=by
 intro pins s σ H Q I h
 refine Yq (ma I hg hm ?_ rn)
 refine PySem.W.callWith_K (h₀:=X.base) I.ok.mod.y8 M.kp (cn (ha pos pins s σ H _ I h) fun us s1 ⟨vs,H1,I1,r,q⟩=>⟨I1.oZ,?_⟩) he xm
 exact DD M F hr hb hd hx I1 r q
end
structure av (N P:List Str) (sc:Scope):Prop where
 kind:sc.kind = .function
 co:sc.isCoroutine = false
 gen:sc.isGenerator = false
 nd:N.Nodup
 pre:N.take P.length = P
 par:∀ x ∈ P,sc.names.lookup x = some .local \/ sc.names.lookup x = some .cell
 GS:∀ y ∈ sc.names,y.2 ≠ .free
theorem sE {kindOf:Str->Option NameKind} {x:Str}:∀ {binds:List (Str × Value)} {m:Str->Option Value},(∀ v,(x,v) ∉ binds)->bindL kindOf binds m x = m x
 | [],_,_=>rfl
 | (n,v) :: r,m,h=>by
  unfold bindL
  rw [sE fun w hw=>h w (VQ _ hw)]
  split
  ·have:x ≠ n:=by rintro rfl; exact h v VR
   simp [this]
  ·rfl
theorem tE {kindOf:Str->Option NameKind} {x:Str}:∀ {binds:List (Str × Value)} {m:Str->Option Value},(∀ v,(x,v) ∉ binds)->bindC kindOf binds m x = m x
 | [],_,_=>rfl
 | (n,v) :: r,m,h=>by
  unfold bindC
  rw [tE fun w hw=>h w (VQ _ hw)]
  split
  ·rfl
  ·have:x ≠ n:=by rintro rfl; exact h v VR
   simp [this]
theorem sQ {kindOf:Str->Option NameKind} {x:Str} {v:Value}:∀ {P:List Str} {vs:List Value} {i:Nat} {m:Str->Option Value},P.Nodup->P[i]? = some x->vs[i]? = some v->kindOf x = some .local ->
  bindL kindOf (P.zip vs) m x = some v
 | [],_,_,_,_,h,_,_=>by simp at h
 | _ :: _,[],_,_,_,_,h,_=>by simp at h
 | p :: P,w :: vs,0,m,nd,h1,h2,hk=>by
  simp at h1 h2; subst h1; subst h2
  show bindL kindOf ((p,w) :: P.zip vs) m p = _
  unfold bindL
  rw [sE fun v hv=>(WW.mp nd).1 (List.of_mem_zip hv).1,if_pos hk]
  simp
 | p :: P,w :: vs,i + 1,m,nd,h1,h2,hk=>by
  show bindL kindOf ((p,w) :: P.zip vs) m x = _
  unfold bindL
  exact sQ (i:=i) (WW.mp nd).2 (by simpa using h1) (by simpa using h2) hk
theorem tq {kindOf:Str->Option NameKind} {x:Str} {v:Value}:∀ {P:List Str} {vs:List Value} {i:Nat} {m:Str->Option Value},P.Nodup->P[i]? = some x->vs[i]? = some v->kindOf x ≠ some .local ->
  bindC kindOf (P.zip vs) m x = some v
 | [],_,_,_,_,h,_,_=>by simp at h
 | _ :: _,[],_,_,_,_,h,_=>by simp at h
 | p :: P,w :: vs,0,m,nd,h1,h2,hk=>by
  simp at h1 h2; subst h1; subst h2
  show bindC kindOf ((p,w) :: P.zip vs) m p = _
  unfold bindC
  rw [tE fun v hv=>(WW.mp nd).1 (List.of_mem_zip hv).1,if_neg hk]
  simp
 | p :: P,w :: vs,i + 1,m,nd,h1,h2,hk=>by
  show bindC kindOf ((p,w) :: P.zip vs) m x = _
  unfold bindC
  exact tq (i:=i) (WW.mp nd).2 (by simpa using h1) (by simpa using h2) hk
def start (N:List Str) (vs:List V):St:=vs.map some ++ List.replicate (N.length - vs.length) none
def vL (CX:xQ) (P:Program) (w:World) (K:Yt) (mg:Str->Option Value) (base:Heap) (N:List Str) (qual:Str) (scope:Scope) (f:Addr) (cd:Value) (A:Around) (outer:List Env) (s:Shared) (H:Hp) (E:XK):Cx where
 prog:=P
 w:=w
 K:=K
 mg:=mg
 base:=base
 A:=A.deeper (envOfC qual scope s.heap.objs.size f cd)
 N:=N
 s₀:=s
 H₀:=H
 env:=envOfC qual scope s.heap.objs.size f cd
 outer:=outer
 stack:=envOfC qual scope s.heap.objs.size f cd :: outer
 ex:=[]
 calm:=true
 fn:=fun _=>true
 pn:=[]
 xe:=fun e s'=>wpAny (model P w) (A.deeper (envOfC qual scope s.heap.objs.size f cd)) (leaving (envOfC qual scope s.heap.objs.size f cd) e) (fun _ u5=>CX outer H s E e u5) (fun e' u5=>CX outer H s E e' u5) s'
theorem vZ {sc:Scope} {n:Nat} {x:Str} (h:sc.names.lookup x = some .cell):∃ c,(cellsFrom n sc.names []).lookup x = some c:=by
 have q:=PySem.W.cellsFrom_some sc.names n [] (.inl h)
 exact Xo.mp q
theorem A3 {CX:xQ} {P:Program} {w:World} {K:Yt} {mg:Str->Option Value} {base:Heap} {N ps:List Str} {qual:Str} {scope:Scope} {f:Addr} {cd:Value} {A:Around} {outer:List Env} {s s1:Shared} {H:Hp} {E:XK} {us:List Value} {vs:List V}
  (S:av N ps scope) (hd:A.handled = none) (e0:pX P w K mg base A outer s H) (hl:vs.length = ps.length) (r:Vals vs us)
  (x:InCallC s s.heap.objs.size (bindL (envOfC qual scope s.heap.objs.size f cd).kindOf (ps.zip us) fun _=>none) (cellsFrom (s.heap.objs.size + 1) scope.names []) (bindC (envOfC qual scope s.heap.objs.size f cd).kindOf (ps.zip us) fun _=>none) s1) :
  Inv (vL CX P w K mg base N qual scope f cd A outer s H E) [] (start N vs) H s1:=by
 have xm:ps.length <= N.length:=by have:=W0 List.length S.pre; rw [Wb] at this; omega
 obtain ⟨h1,tk,rfl,hk⟩:=x.done
 have Kc:∀ b:Addr,b ∉ (vL CX P w K mg base N qual scope f cd A outer s H E).ex:=fun b z=>absurd (show b ∈ ([]:List Addr) from z) (by simp)
 refine ⟨⟨e0.mod,S.kind,rfl,rfl,VP _,fun y z c h1 h2=>?_,fun y hy=>?_,fun y c _ h=>?_,fun _=>hd,Around.frames_deeper e0.frames,.inr ⟨rfl,rfl⟩,fun b z=>absurd z (Kc b),e0.bs,e0.Bm,fun b _ _=>Kc b,fun b z=>absurd z (Kc b),e0.me,e0.EE⟩,
  rfl,e0.bare,Un.kept hk,⟨_,x.toInCall.ns,fun i y v h1 h2 h3=>?_⟩,fun y c h=>⟨_,x.cell y c h⟩,e0.ba.fresh (VP _),fun y c h=>?_,fun p hp=>absurd (show p ∈ ([]:List (Addr × Obj)) from hp) (by simp),e0.ba.kept hk,?_⟩
 ·exact name_of_addr x.apart (Xk h1) (Xk h2)
 ·have hy:scope.names.lookup y = some .cell \/ scope.names.lookup y = some .free:=hy
  rcases hy with hy | hy
  ·exact vZ hy
  ·exact absurd rfl (S.GS _ (Xk hy))
 ·exact X9 (x.above y c (Xk h))
 ·have hi:i < vs.length:=by
   unfold start at h2
   by_cases hi:i < vs.length
   ·exact hi
   ·rw [WD (by simpa using hi)] at h2
    rw [List.getElem?_replicate] at h2
    split at h2 <;> cases h2
  have ha:vs[i]? = some v:=by
   unfold start at h2
   rw [W4 (by simpa using hi),V3] at h2
   cases e:vs[i]? with
   | none=>rw [e] at h2; cases h2
   | some a=>rw [e] at h2; cases h2; rfl
  obtain ⟨u,hu,rv⟩:=r.get ha
  have hp:ps[i]? = some y:=by
   rw [<- S.pre,List.getElem?_take_of_lt (by omega)]; exact h1
  have Pa:ps.Nodup:=by rw [<- S.pre]; exact S.nd.sublist (Xi _ _)
  refine ⟨u,rv,?_⟩
  rcases S.par y (Wm hp) with k | k
  ·exact .inl ⟨k,sQ Pa hp hu k⟩
  ·obtain ⟨c,e⟩:=vZ (n:=s.heap.objs.size + 1) k
   refine .inr ⟨.inl k,c,e,?_⟩
   have q:=x.cell y c e
   rw [tq Pa hp hu (by show scope.names.lookup y ≠ _; rw [k]; decide)] at q
   exact q
 ·exact e0.ba.fresh (X9 (x.above y c (Xk h)))
 ·unfold start
  show _ = N.length
  rw [Wf,VO,List.length_replicate]
  omega
theorem Gj {CX:xQ} {P:Program} {w:World} {K:Yt} {mg:Str->Option Value} {base:Heap} {k:Nat} {f:Addr} {name qual:Str} {params:Arguments} {body:List Stmt} {scope:Scope} {dV kV doc pm cm ct oc:Value} {an od:Option Addr}
  {Fu:Array (Option Value)} {N ps:List Str} {sp:Sp} (lk:K.lookup f = some ⟨oc,od,.func (PySem.W.fnOf name qual params body scope dV kV doc pm an cm ct),Fu⟩) (x8:PySem.W.codeIn K cm qual = true) (S:av N ps scope)
  (len:∀ vs H Q E,sp vs H Q E->vs.length = ps.length)
  (wo:∀ (A:Around) (outer:List Env) (s:Shared) (H:Hp) (vs:List V) (Q:VK) (E:XK),eT k (A.deeper (envOfC qual scope s.heap.objs.size f cm))->sp vs H Q E ->
   ∃ t,tN (vL CX P w K mg base N qual scope f cm A outer s H E) body t /\ t { nx:=fun _ H'=>Q .dR H',rt:=Q } (start N vs) H) :
  au P w K mg base CX (k + 1) f (PySem.W.fnOf name qual params body scope dV kV doc pm an cm ct) ps sp:=by
 refine ⟨len,fun A outer s H args us vs Q E hr e0 hb r yW=>?_⟩
 have hl:=len _ _ _ _ yW
 have KX:K.In s.heap:=e0.mod.y8.keeps fun b o e=>(e0.bs b o e).1
 have lim:s.heap.NoLimit:=e0.mod.nolimit.keeps fun b o e=>(e0.bs b o e).1
 have Jx:∀ y ∈ ps.zip us,scope.names.lookup y.1 = some .local \/ (scope.names.lookup y.1 = some .cell /\ ((cellsFrom (s.heap.objs.size + 1) scope.names []).lookup y.1).isSome = true):=fun ⟨n,v⟩ hy=>by
  rcases S.par n (List.of_mem_zip hy).1 with q | q
  ·exact .inl q
  ·exact .inr ⟨q,PySem.W.cellsFrom_some _ _ _ (.inl q)⟩
 refine codeAny_call_function hr.depth (KX _ _ lk) rfl S.co S.gen rfl (PySem.W.codeRec_of KX x8) (hb _ _ _ _ ?_)
 refine wpAny_newFunctionEnv_cells S.kind Jx fun env he s1 x=>?_
 subst he
 refine ⟨lim.keeps x.toInCall.keep,codeAny_func ?_⟩
 obtain ⟨t,ht,hq⟩:=wo A outer s H vs Q E (hr.deeper _) yW
 have I:Inv (vL CX P w K mg base N qual scope f cm A outer s H E) [] (start N vs) H s1:=A3 S hr.hd e0 hl r x
 refine W5 (ht [] s1 (start N vs) H _ I hq) (fun fl s' hs=>?_) fun e s' hs=>hs
 have fin:∀ {σ':St} {H':Hp} {v:V} {u:Value},Inv (vL CX P w K mg base N qual scope f cm A outer s H E) [] σ' H' s'->RelV v u->Q v H'->CE outer P w H s Q u s' :=
  fun {σ' H' v u} J rv q=>⟨v,H',J.os,J.bare,J.base,J.ba,rv,q⟩
 cases fl with
 | ret u =>
  obtain ⟨v,σ',H',J,rv,q⟩:=hs
  exact fin J rv q
 | next =>
  obtain ⟨σ',H',J,q⟩:=hs
  exact fin (v:=V.dR) (u:=Value.none) J rfl q
 | brk =>
  obtain ⟨_,_,_,q⟩:=hs
  exact False.elim q
 | cont =>
  obtain ⟨_,_,_,q⟩:=hs
  exact False.elim q
section
variable {X:Cx} {x:Str} {p pos:Pos} {e:Expr} {es:List Expr} {t:TA} {id T:String} {r:List V->Hp->VK->Prop}
def Om (r:List V->Hp->VK->Prop) (t:TA):TE:=fun σ H Q=>t σ H fun vs H1=>r vs H1 Q
theorem aA (hc:dI X (.builtin id) r) (hg:Gl X x) (hm:X.mg x = none) (hv:bootBuiltins x = some (.builtin id)) (ha:PA X (e :: es) t) (hn:x ≠ "__name__":=by decide) (rn:(x == ("__debug__":Str)) = false:=by decide)
  (he:starEach (e :: es) X.env = (false,eval e X.env) :: starEach es X.env:=by rfl) (xm:(backTo pos (starEach es X.env)).any (·.1) = false:=by rfl):PE X (.Call (.Name x p) (e :: es) [] pos) (Om r t):=by
 intro pins s σ H Q I h
 refine Yq (oi I hg hm hv ?_ hn rn)
 exact PyProof.Rows.callWith_builtin1 (cn (ha pos pins s σ H _ I h) fun us s1 ⟨vs,H1,I1,r1,q1⟩=>hc pins s1 σ H1 vs us Q I1 r1 q1) he xm
theorem bu (hc:dI X (.type T) r) (hg:Gl X x) (hm:X.mg x = none) (hv:bootBuiltins x = some (.type T)) (ha:PA X (e :: es) t) (hn:x ≠ "__name__":=by decide) (rn:(x == ("__debug__":Str)) = false:=by decide)
  (he:starEach (e :: es) X.env = (false,eval e X.env) :: starEach es X.env:=by rfl) (xm:(backTo pos (starEach es X.env)).any (·.1) = false:=by rfl):PE X (.Call (.Name x p) (e :: es) [] pos) (Om r t):=by
 intro pins s σ H Q I h
 refine Yq (oi I hg hm hv ?_ hn rn)
 exact PyProof.Rows.callWith_type1 (cn (ha pos pins s σ H _ I h) fun us s1 ⟨vs,H1,I1,r1,q1⟩=>hc pins s1 σ H1 vs us Q I1 r1 q1) he xm
end
end L2
namespace HT
open PySem PyProof.Rows
def lexLt:List Int->List Int->Bool
 | [],[]=>false
 | [],_ :: _=>true
 | _ :: _,[]=>false
 | x :: xs,y :: ys=>if x = y then lexLt xs ys else decide (x < y)
theorem h9 (x y:Int) (xs ys:List Int):lexLt (x :: xs) (y :: ys) = if x = y then lexLt xs ys else decide (x < y):=rfl
section
variable {prog:Program} {w:World} {A:Around} {E:Value->Shared->Prop} {s:Shared}
theorem Ev {t b:Addr} {vs ws:List Value} {Q:Value->Shared->Prop} (ht:IsTup s.heap t vs.toArray) (hb:IsTup s.heap b ws.toArray) (hv:vs ≠ [])
  (h1:ws = []->Q (.ref t) s) (h2:ws ≠ []->Q (.ref s.heap.objs.size) { s with heap:=s.heap.push { cls:=.type "tuple",data:=.seq (vs ++ ws).toArray } })
  (hsz:vs.length + ws.length <= sizeLine):wpAny (model prog w) A (binaryOp .Add (.ref t) (.ref b)) Q E s:=by
 obtain ⟨⟨cls,dd,data,sl⟩,ho,hc,n,hd⟩:=id ht
 obtain ⟨⟨RN,O6,data2,Ln⟩,lJ,DE,n2,hd2⟩:=id hb
 simp only at hc hd DE hd2
 subst hc hd DE hd2
 have e:vs.toArray ++ ws.toArray = (vs ++ ws).toArray:=by simp
 by_cases hw:ws = []
 ·exact concat_meets ⟨_,ho,rfl⟩ ⟨_,lJ,rfl⟩ noFill_tuple_add seq_tuple_add PySem.F.slot_tuple_add PySem.F.entry_tuple_add (PySem.F.args_tuple_add_2 _ _)
   (tuple_addW1 t b vs.toArray ws.toArray n n2 dd O6 sl Ln (by simpa using hv) (by simp [hw])) ⟨ho,lJ,h1 hw⟩
 ·refine concat_meets ⟨_,ho,rfl⟩ ⟨_,lJ,rfl⟩ noFill_tuple_add seq_tuple_add PySem.F.slot_tuple_add PySem.F.entry_tuple_add (PySem.F.args_tuple_add_2 _ _)
   (tuple_addW2 t b vs.toArray ws.toArray n n2 dd O6 sl Ln (by simpa using hv) (by simpa using hw) (by rw [V2,V2]; exact hsz)) ⟨ho,lJ,?_⟩
  rw [e]
  exact h2 hw
def eN (n d:Nat):Option Int->Nat
 | none=>d
 | some v=>if v < 0 then (v + (n:Int)).toNat else min v.toNat n
theorem EX (n d k:Nat):eN n d (some (k:Int)) = min k n:=by
 show (if (k:Int) < 0 then ((k:Int) + (n:Int)).toNat else min (k:Int).toNat n) = min k n
 rw [if_neg (by omega),WS]
theorem Hq (n d:Nat) (hd:d <= n) (o:Option Int):eN n d o <= n:=by
 cases o with
 | none=>exact hd
 | some v =>
  show (if v < 0 then (v + (n:Int)).toNat else min v.toNat n) <= n
  by_cases hv:v < 0
  ·rw [if_pos hv]; omega
  ·rw [if_neg hv]; exact Nat.min_le_right _ _
theorem zr (v:Int) (n d:Nat):(if v < 0 then max (v + (n:Int)) 0 else min v (n:Int)) = ((eN n d (some v):Nat):Int):=by
 show (if v < 0 then max (v + (n:Int)) 0 else min v (n:Int)) = (((if v < 0 then (v + (n:Int)).toNat else min v.toNat n):Nat):Int)
 by_cases hv:v < 0
 ·simp only [if_pos hv]; omega
 ·simp only [if_neg hv]; omega
theorem yf (lo hi:Option Int) (n:Nat):Builtin.Slice.sliceAdjust lo hi 1 (n:Int) = (((eN n 0 lo:Nat):Int),((eN n n hi:Nat):Int)):=by
 have h1:¬ ((1:Int) < 0):=by omega
 unfold Builtin.Slice.sliceAdjust
 simp only [h1,WH]
 refine Prod.ext ?_ ?_
 ·cases lo with
  | none=>rfl
  | some v=>exact zr v n 0
 ·cases hi with
  | none=>rfl
  | some v=>exact zr v n n
theorem yc (i j:Nat):Builtin.Slice.slicePlaces (i:Int) (j:Int) 1 = j - i:=by
 unfold Builtin.Slice.slicePlaces
 have h1:(1:Int) > 0:=by omega
 simp only [h1,Xe,Int.ediv_one]
 split <;> omega
theorem pS {v:Value} {o:Option Int} {Q:Option Int->Shared->Prop} (p:IsPart v o) (h:Q o s):wpAny (model prog w) A (Builtin.Slice.slicePartIndex v) Q E s:=by
 cases p with
 | none=>exact slicePart_none h
 | int i t=>exact slicePart_int h
theorem iM {sl:Addr} {vl vu:Value} {lo hi:Option Int} {n:Nat} {Q:Int × Int × Nat->Shared->Prop} (hs:s.heap.IsSliceOf sl vl vu .none) (pl:IsPart vl lo) (pu:IsPart vu hi)
  (h:Q (((eN n 0 lo:Nat):Int),1,eN n n hi - eN n 0 lo) s):wpAny (model prog w) A (Builtin.Slice.sliceApplied (.ref sl) (pure (n:Int))) Q E s:=by
 obtain ⟨os,Dz,Mi,JL⟩:=id hs
 unfold Builtin.Slice.sliceApplied Builtin.Slice.sliceFields
 refine VL (VL (WT Dz JL (x:=vl) rfl (VL (WT Dz JL (x:=vu) rfl (VL (WT Dz JL (x:=.none) rfl (VM ?_)))))))
 refine VL (slicePart_none ?_)
 show wpAny _ _ (if ((1:Int) == 0) = true then _ else _) _ _ s
 rw [if_neg (by decide)]
 refine VL (pS pl (VL (pS pu (VL (VM ?_)))))
 show wpAny _ _ (match Builtin.Slice.sliceAdjust lo hi 1 (n:Int) with | (lo,hi)=>pure (lo,(1:Int),Builtin.Slice.slicePlaces lo hi 1)) _ _ s
 rw [yf lo hi n]
 show wpAny _ _ (pure (((eN n 0 lo:Nat):Int),(1:Int),Builtin.Slice.slicePlaces ((eN n 0 lo:Nat):Int) ((eN n n hi:Nat):Int) 1)) _ _ s
 rw [yc]
 exact VM h
theorem Cu (xs:Array Value) (i k:Nat):((List.range k).filterMap fun (m:Nat)=>xs[((i:Int) + (m:Int) * 1).toNat]?).toArray = ((xs.toList.drop i).take k).toArray:=by
 have e:(fun (m:Nat)=>xs[((i:Int) + (m:Int) * 1).toNat]?) = fun m=>xs[i + m]?:=by
  funext m
  have:((i:Int) + (m:Int) * 1).toNat = i + m:=by omega
  rw [this]
 rw [e]
 have:=pick_run xs i k
 rw [List.filterMap_map] at this
 have e2:((fun x=>xs[x]?) ∘ fun x=>i + x) = fun m=>xs[i + m]?:=rfl
 rw [e2] at this
 rw [this]
theorem nF {t sl:Addr} {items:Array Value} {vl vu:Value} {lo hi:Option Int} {Q:Value->Shared->Prop} (ht:IsTup s.heap t items) (hs:s.heap.IsSliceOf sl vl vu .none) (pl:IsPart vl lo) (pu:IsPart vu hi)
  (hw:¬ (eN items.size 0 lo = 0 /\ eN items.size items.size hi = items.size))
  (h:Q (.ref s.heap.objs.size) { s with heap:=s.heap.push { cls:=.type "tuple",data:=.seq ((items.toList.drop (eN items.size 0 lo)).take (eN items.size items.size hi - eN items.size 0 lo)).toArray } })
  (hsz:items.size <= sizeLine):wpAny (model prog w) A (getItem (.ref t) (.ref sl)) Q E s:=by
 have za:sizeOk (.seq ((items.toList.drop (eN items.size 0 lo)).take (eN items.size items.size hi - eN items.size 0 lo)).toArray):=by
  show ((items.toList.drop (eN items.size 0 lo)).take (eN items.size items.size hi - eN items.size 0 lo)).toArray.size <= sizeLine
  rw [V2,Wb,Yc,VW]
  omega
 have hj:eN items.size items.size hi <= items.size:=Hq _ _ (VP _) hi
 obtain ⟨os,Dz,Mi,JL⟩:=id hs
 have Tu:s.TypeIs (.ref sl) "slice":=⟨os,Dz,Mi⟩
 unfold getItem
 try with_reducible refine W2 ?_
 first | refine VL (VM ?_) | skip
 refine VL (wpAny_sequenceKey ht.typeIs (by decide) ?_)
 refine VL (WL (name:=Str.ofString "__getitem__") ht.typeIs WZ
  (Wt WZ ht.typeIs entry_tuple_getitem ?_ (args_tuple_getitem _ _)))
 show wpAny _ _ (Builtin.Tuple.tupleItemsOf (.ref t) >>= _) _ _ s
 refine VL (tupleItemsOf_ ht ?_)
 refine VL (wpAny_typeOf Tu ?_)
 rw [if_pos (by decide)]
 refine VL (iM hs pl pu ?_)
 have OF:¬ ((((eN items.size 0 lo:Nat):Int) == 0 && (1:Int) == 1 && (eN items.size items.size hi - eN items.size 0 lo) == items.size) = true):=by
  intro q
  rw [Wu,Wu] at q
  have q1:((eN items.size 0 lo:Nat):Int) = 0:=eq_of_beq q.1.1
  have q2:eN items.size items.size hi - eN items.size 0 lo = items.size:=eq_of_beq q.2
  exact hw ⟨by omega,by omega⟩
 show wpAny _ _ (if (((eN items.size 0 lo:Nat):Int) == 0 && (1:Int) == 1 && (eN items.size items.size hi - eN items.size 0 lo) == items.size) = true then _ else _) _ _ s
 rw [if_neg OF,Cu]
 first
  | exact VL (m:=Builtin.Tuple.tupleExact _) (Wz (VM ⟨_,rfl,VM h⟩) za)
  | exact VL (m:=Builtin.Tuple.tupleExact _) (Wz (VL (VM (VM ⟨_,rfl,VM h⟩))) za)
  | exact VL (VL (m:=Builtin.Tuple.tupleExact _) (Wz (VM (VM ⟨_,rfl,VM h⟩)) za))
  | exact VL (VL (m:=Builtin.Tuple.tupleExact _) (Wz (VM ⟨_,rfl,VM h⟩) za))
end
end HT
namespace L2
open PySem PySem.Spec PyProof.Rows
abbrev TO:=St->Hp->(Option Int->Hp->Prop)->Prop
def PO (X:Cx) (e:Option Expr) (t:TO):Prop :=
 ∀ (pins:List (Addr × Obj)) (s:Shared) (σ:St) (H:Hp) (Q:Option Int->Hp->Prop),Inv X pins σ H s->t σ H Q ->
  wpAny (model X.prog X.w) X.A (evalPart e X.env) (fun u s'=>∃ o H',Inv X pins σ H' s' /\ IsPart u o /\ Q o H') X.xe s
def DT:TO:=fun _ H Q=>Q none H
def Lb (t:TE):TO:=fun σ H Q=>t σ H fun x H1=>∃ i,x = .int i /\ Q (some i) H1
theorem intsAre_of {ns:List Int}:∀ {us:List Value},Vals (ns.map V.int) us->IntsAre us ns:=by
 induction ns with
 | nil=>intro us r; rw [List.map_nil] at r; cases r; exact .nil
 | cons n ns ih =>
  intro us r
  rw [V8] at r
  cases r with
  | cons r1 r2 =>
   obtain ⟨t,e⟩:=r1
   subst e
   exact .cons n t (ih r2)
section
variable {X:Cx} {e:Expr} {te:TE} {lo hi:Option Expr} {tl th:TO} {pos p2:Pos}
theorem Fx:PO X none DT:=by
 intro pins s σ H Q I h
 rw [evalPart_none]
 exact VM ⟨none,H,I,.none,h⟩
theorem EI (h:PE X e te):PO X (some e) (Lb te):=by
 intro pins s σ H Q I hw
 rw [evalPart_some]
 refine cn (h pins s σ H _ I hw) fun u s1 ⟨x,H1,I1,r1,q1⟩=>?_
 obtain ⟨i,rfl,q⟩:=q1
 obtain ⟨t,rfl⟩:=r1
 exact ⟨some i,H1,I1,.int i t,q⟩
def DH (X:Cx) (r:V->Option Int->Option Int->Hp->VK->Prop):Prop :=
 ∀ (pins:List (Addr × Obj)) (s:Shared) (σ:St) (H:Hp) (x:V) (v vl vu:Value) (lo hi:Option Int) (sl:Addr) (Q:VK),Inv X pins σ H s->RelV x v->s.heap.IsSliceOf sl vl vu .none->IsPart vl lo->IsPart vu hi->r x lo hi H Q ->
  ∃ T id,typeLookup (.type T) "__getitem__" = pure (some (.builtin id)) /\ s.TypeIs v T /\ wpAny (model X.prog X.w) X.A (getItem v (.ref sl)) (EP X pins σ Q) X.xe s
theorem DH.or {r r':V->Option Int->Option Int->Hp->VK->Prop} (h:DH X r) (h':DH X r'):DH X (fun x lo hi H Q=>r x lo hi H Q \/ r' x lo hi H Q):=by
 intro pins s σ H x v vl vu lo hi sl Q I rx hs pl pu q
 rcases q with q | q
 ·exact h pins s σ H x v vl vu lo hi sl Q I rx hs pl pu q
 ·exact h' pins s σ H x v vl vu lo hi sl Q I rx hs pl pu q
def Rk (r:V->Option Int->Option Int->Hp->VK->Prop) (te:TE) (tl th:TO):TE:=fun σ H Q=>te σ H fun x H1=>tl σ H1 fun l H2=>th σ H2 fun u H3=>r x l u H3 Q
theorem Bo {r:V->Option Int->Option Int->Hp->VK->Prop} (hr:DH X r) (he:PE X e te) (hl:PO X lo tl) (hu:PO X hi th):PE X (.Subscript e (.Slice lo hi none p2) pos) (Rk r te tl th):=by
 intro pins s σ H Q I h
 refine Subscript_ (cn (he pins s σ H _ I h) fun v s1 ⟨x,H1,I1,r1,q1⟩=>?_)
 refine wpAny_Slice (cn (hl pins s1 σ H1 _ I1 q1) fun vl s2 ⟨l,H2,I2,pl,q2⟩=>cn (hu pins s2 σ H2 _ I2 q2) fun vu s3 ⟨u,H3,I3,pu,q3⟩=>?_)
 rw [evalPart_none]
 refine VM ?_
 have I4:Inv X pins σ H3 { s3 with heap:=s3.heap.push { cls:=.type "slice",data:=.fields #[vl,vu,.none] } }:=I3.kept (t':=s3.toks) fun b ob q=>VN _ q
 obtain ⟨T,id,hT,ht,hg⟩:=hr pins { s3 with heap:=s3.heap.push { cls:=.type "slice",data:=.fields #[vl,vu,.none] } } σ H3 x v vl vu l u s3.heap.objs.size Q I4 r1 (Heap.IsSliceOf.new ..) pl pu q3
 show wpAny (model X.prog X.w) X.A (subscriptTail e (.Slice lo hi none p2) v (.ref s3.heap.objs.size)) (EP X pins σ Q) X.xe { s3 with heap:=s3.heap.push { cls:=.type "slice",data:=.fields #[vl,vu,.none] } }
 exact tail_any (ops:=[.ref s3.heap.objs.size,v]) ht hT hg (by with_unfolding_all rfl)
def wD (xs:List V) (lo hi:Option Int):List V:=(xs.drop (HT.eN xs.length 0 lo)).take (HT.eN xs.length xs.length hi - HT.eN xs.length 0 lo)
theorem oO (xs:List V) (lo hi:Option Int):(wD xs lo hi).length <= xs.length:=by
 unfold wD
 rw [Wb,Yc]
 omega
def JH (K:Yt):V->Option Int->Option Int->Hp->VK->Prop:=fun x lo hi H Q=>∃ a xs,x = .ref a /\ a7 K H a xs /\
 ¬ (HT.eN xs.length 0 lo = 0 /\ HT.eN xs.length xs.length hi = xs.length) /\ ∀ p,H p = none->Q (.ref p) (upd H p (.tup (wD xs lo hi)))
theorem GX:DH X (JH X.K):=by
 intro pins s σ H x v vl vu lo hi sl Q I rx hs pl pu h
 obtain ⟨a,xs,rfl,hx,hw,q⟩:=h
 cases rx
 obtain ⟨aH,r,ht,hz⟩:=I.tuple hx
 have hlen:aH.toArray.size = xs.length:=by rw [V2]; exact r.length.symm
 refine ⟨"tuple",_,WZ.lookup,ht.typeIs,?_⟩
 refine HT.nF ht hs pl pu (by rw [hlen]; exact hw) ?_ (by rw [hlen]; exact hz)
 rw [hlen]
 refine ⟨.ref s.heap.objs.size,_,I.laid (t':=s.toks) (o:=.tup (wD xs lo hi)) (fun b ob q=>VN _ q) (VP _) ?_,rfl,q _ (I.ba.fresh (VP _))⟩
 exact ⟨VZ (oO xs lo hi) hz,_,(r.drop (HT.eN xs.length 0 lo)).take (HT.eN xs.length xs.length hi - HT.eN xs.length 0 lo),IsTup.new _ _⟩
theorem Vals.pR {xs:List V} {us:List Value} (r:Vals xs us):us = [] ↔ xs = []:=by
 cases r with
 | nil=>simp
 | cons _ _=>simp
end
def IZ (n:Nat) (i:Int):Option Nat:=if 0 <= i then (if i < n then some i.toNat else none) else if -(n:Int) <= i then some (i + n).toNat else none
def yX {α:Type} (xs:List α) (i:Int):Option α:=(IZ xs.length i).bind fun j=>xs[j]?
theorem Ef {n:Nat} {i:Int} {j:Nat} (h:IZ n i = some j):seqIndex? i n = some j /\ j < n /\ -(n:Int) <= i /\ i < n:=by
 unfold IZ at h
 by_cases h0:0 <= i
 ·rw [if_pos h0] at h
  by_cases h1:i < n
  ·rw [if_pos h1] at h
   have e:i.toNat = j:=WM h
   exact ⟨by rw [seqIndex_of h0 h1,e],by omega,by omega,h1⟩
  ·rw [if_neg h1] at h; cases h
 ·rw [if_neg h0] at h
  by_cases h1:-(n:Int) <= i
  ·rw [if_pos h1] at h
   have e:(i + n).toNat = j:=WM h
   exact ⟨by rw [seqIndex_neg (by omega) h1,e],by omega,h1,by omega⟩
  ·rw [if_neg h1] at h; cases h
theorem zp {α:Type} {xs:List α} {i:Int} {v:α} (h:yX xs i = some v):∃ j,seqIndex? i xs.length = some j /\ xs[j]? = some v /\ j < xs.length /\ -(xs.length:Int) <= i /\ i < xs.length:=by
 unfold yX at h
 cases e:IZ xs.length i with
 | none=>rw [e] at h; cases h
 | some j =>
  rw [e] at h
  obtain ⟨h1,h2,h3,h4⟩:=Ef e
  exact ⟨j,h1,h,h2,h3,h4⟩
theorem fg {α:Type} {xs:List α} {j:Nat} {v:α} (h:xs[j]? = some v):yX xs (j:Int) = some v:=by
 have hj:j < xs.length:=(Wa.mp h).1
 have e:IZ xs.length (j:Int) = some j:=by
  unfold IZ
  rw [if_pos (by omega),if_pos (by omega)]; simp
 unfold yX; rw [e]; exact h
def EO (b:Expr):Prop:=∀ o i,subscripted b false o i = operate [o,i] (getItem o i)
def Dn (X:Cx) (r:R2):Prop :=
 ∀ (value slice:Expr) (pins:List (Addr × Obj)) (s:Shared) (σ:St) (H:Hp) (x y:V) (v u:Value) (Q:VK),Inv X pins σ H s->RelV x v->RelV y u->r x y H Q ->
  subscripted slice false v u = operate [v,u] (getItem v u)->wpAny (model X.prog X.w) X.A (subscriptTail value slice v u) (EP X pins σ Q) X.xe s
def Jd (X:Cx) (id:String) (r:V->List V->Hp->VK->Prop):Prop :=
 ∀ (pins:List (Addr × Obj)) (s:Shared) (σ:St) (H:Hp) (x:V) (xs:List V) (v:Value) (us:List Value) (Q:VK),Inv X pins σ H s->RelV x v->Vals xs us->r x xs H Q ->
  wpAny (model X.prog X.w) X.A (call (.builtin id) (v :: us)) (EP X pins σ Q) X.xe s
section
variable {X:Cx} {a b:Expr} {ta tb:TE} {pos:Pos}
theorem Dn.or {r r':R2} (h:Dn X r) (h':Dn X r'):Dn X (fun x y H Q=>r x y H Q \/ r' x y H Q):=by
 intro value slice pins s σ H x y v u Q I rx ry q hs
 rcases q with q | q
 ·exact h value slice pins s σ H x y v u Q I rx ry q hs
 ·exact h' value slice pins s σ H x y v u Q I rx ry q hs
theorem Jd.or {id:String} {r r':V->List V->Hp->VK->Prop} (h:Jd X id r) (h':Jd X id r'):Jd X id (fun x xs H Q=>r x xs H Q \/ r' x xs H Q):=by
 intro pins s σ H x xs v us Q I rx rs q
 rcases q with q | q
 ·exact h pins s σ H x xs v us Q I rx rs q
 ·exact h' pins s σ H x xs v us Q I rx rs q
theorem aE {r:R2} (hr:Dn X r) (ha:PE X a ta) (hb:PE X b tb) (hs:EO b):PE X (.Subscript a b pos) (LK r ta tb):=by
 intro pins s σ H Q I h
 exact Subscript_ (GJ ha hb I h fun v u s2 x y H2 I2 rx ry q=>hr a b pins s2 σ H2 x y v u Q I2 rx ry q (hs _ _))
def Ku (K:Yt):R2:=fun x y H Q=>∃ p xs i v,x = .ref p /\ y = .int i /\ aZ K H p xs /\ yX xs i = some v /\ Q v H
def K1 (K:Yt):R2:=fun x y H Q=>∃ p xs i v,x = .ref p /\ y = .int i /\ a7 K H p xs /\ yX xs i = some v /\ Q v H
theorem cE:Dn X (Ku X.K):=by
 intro value slice pins s σ H x y v u Q I rx ry h hs
 obtain ⟨p,xs,i,z,rfl,rfl,hq,he,q⟩:=h
 cases rx
 obtain ⟨t,rfl⟩:=ry
 obtain ⟨aH,r,pl,hz⟩:=I.list hq
 obtain ⟨j,h1,h2,h3,h4,h5⟩:=zp he
 obtain ⟨w,ew,KU⟩:=r.get h2
 have hl:=r.length
 have hn:=t3
 have fin:EP X pins σ Q w s:=⟨z,H,I,KU,q⟩
 by_cases h0:0 <= i
 ·have hj:i.toNat = j:=by
   rw [seqIndex_of h0 h5] at h1
   exact WM h1
  exact item_listR pl.isList h0 (by omega) (by rw [hj]; simpa using ew) fin hs
 ·have hj:(i + (aH.toArray.size:Int)).toNat = j:=by
   rw [seqIndex_neg (by omega) h4] at h1
   rw [V2,<- hl]
   exact WM h1
  exact subscriptTail_builtinR (x:=w) pl.isList.typeIs slot_list_getitem.lookup
   (wpAny_getItem_list_neg (Q:=fun r s'=>r = w /\ EP X pins σ Q r s') pl.isList (by omega) (by rw [V2] <;> omega) (by omega) (by rw [hj]; simpa using ew) ⟨rfl,fin⟩) hs
theorem aM:Dn X (K1 X.K):=by
 intro value slice pins s σ H x y v u Q I rx ry h hs
 obtain ⟨p,xs,i,z,rfl,rfl,hq,he,q⟩:=h
 cases rx
 obtain ⟨t,rfl⟩:=ry
 obtain ⟨aH,r,pl,hz⟩:=I.tuple hq
 obtain ⟨j,h1,h2,h3,h4,h5⟩:=zp he
 obtain ⟨w,ew,KU⟩:=r.get h2
 have hl:=r.length
 have hn:=t3
 have fin:EP X pins σ Q w s:=⟨z,H,I,KU,q⟩
 exact subscriptTail_builtinR (x:=w) pl.typeIs slot_tuple_getitem.lookup
  (getItem_tuple (j:=j) (Q:=fun r s'=>r = w /\ EP X pins σ Q r s') pl (by omega) (by omega) (by rw [V2,<- hl]; exact h1) (by simpa using ew) ⟨rfl,fin⟩) hs
theorem Inv.lst {pins:List (Addr × Obj)} {σ:St} {H:Hp} {s:Shared} {p:Addr} {xs:List V} (I:Inv X pins σ H s) (h:H p = some (.lst xs)) :
  ∃ (aH:List Value) (n:Nat),Vals xs aH /\ s.heap.get? p = some { cls:=.type "list",data:=.seq aH.toArray n } /\ xs.length <= sizeLine:=by
 obtain ⟨z,aH,n,r,e⟩:=I.ba p _ h
 exact ⟨aH,n,r,e,z⟩
theorem t5 (lo hi:Option Int) (n:Nat):(sliceBounds lo hi none n).1 = ((HT.eN n 0 lo:Nat):Int) /\ (sliceBounds lo hi none n).2.1 = ((HT.eN n n hi:Nat):Int) /\ (sliceBounds lo hi none n).2.2 = 1:=by
 refine ⟨?_,?_,rfl⟩
 ·cases lo with
  | none=>simp [sliceBounds,HT.eN]
  | some i =>
   simp only [sliceBounds,HT.eN,Option.getD_none,show (1:Int) > 0 by decide,Xe]
   by_cases h:i < 0
   ·simp only [h,Xe] <;> omega
   ·simp only [h,WH] <;> omega
 ·cases hi with
  | none=>simp [sliceBounds,HT.eN]
  | some i =>
   simp only [sliceBounds,HT.eN,Option.getD_none,show (1:Int) > 0 by decide,Xe]
   by_cases h:i < 0
   ·simp only [h,Xe] <;> omega
   ·simp only [h,WH] <;> omega
theorem rP (aH:List Value) (lo hi:Option Int):slicePick aH.toArray lo hi none = ((aH.drop (HT.eN aH.length 0 lo)).take (HT.eN aH.length aH.length hi - HT.eN aH.length 0 lo)).toArray:=by
 obtain ⟨h1,h2,h3⟩:=t5 lo hi aH.toArray.size
 unfold slicePick
 rw [h1,h2,h3]
 simp only [sliceRange_one,pick_run,V2] <;> rfl
def Ng (K:Yt):V->Option Int->Option Int->Hp->VK->Prop:=fun x lo hi H Q=>∃ a xs,x = .ref a /\ aZ K H a xs /\ ∀ p,H p = none->Q (.ref p) (upd H p (.lst (wD xs lo hi)))
theorem LS:DH X (Ng X.K):=by
 intro pins s σ H x v vl vu lo hi sl Q I rx hs pl pu h
 obtain ⟨a,xs,rfl,hx,q⟩:=h
 cases rx
 obtain ⟨aH,r,ht,hz⟩:=I.list hx
 have hlen:=r.length
 refine ⟨"list",_,slot_list_getitem.lookup,ht.isList.typeIs,?_⟩
 refine wpAny_getItem_list_slice ht.isList hs pl pu .none (by simp) ?_ (by rw [V2] <;> omega)
 rw [rP,<- hlen]
 refine ⟨.ref s.heap.objs.size,_,I.laid (t':=s.toks) (o:=.lst (wD xs lo hi)) (fun b ob q=>VN _ q) (VP _) ?_,rfl,q _ (I.ba.fresh (VP _))⟩
 exact ⟨VZ (oO xs lo hi) hz,_,0,(r.drop (HT.eN xs.length 0 lo)).take (HT.eN xs.length xs.length hi - HT.eN xs.length 0 lo),VY _ rfl⟩
def mV:V->Bool
 | .dR=>true
 | .bl _=>true
 | .int _=>true
 | .str _=>true
 | _=>false
def FG:V->V->Bool
 | .dR,.dR=>true
 | .bl a,.bl b=>a == b
 | .bl a,.int b=>(if a then 1 else 0) == b
 | .int a,.bl b=>a == (if b then 1 else 0)
 | .int a,.int b=>a == b
 | .str a,.str b=>a == b
 | _,_=>false
theorem Ia {A:Around} {s:Shared} {y x:V} {u v:Value} (ry:RelV y u) (rx:RelV x v) (fy:mV y = true) (fx:mV x = true):SeqAt.EqAt A s u v (FG y x):=by
 cases y with
 | dR =>
  cases ry
  cases x with
  | dR=>cases rx; exact SeqAt.EqAt.same _
  | bl b=>cases rx; exact SeqAt.EqAt.none_bool b
  | int b=>obtain ⟨t,rfl⟩:=rx; exact SeqAt.EqAt.none_int b t
  | str b=>obtain ⟨t,rfl⟩:=rx; exact SeqAt.EqAt.none_str b t
  | _=>exact absurd (show false = true from fx) VU
 | bl a =>
  cases ry
  cases x with
  | dR=>cases rx; exact SeqAt.EqAt.bool_none a
  | bl b=>cases rx; exact SeqAt.EqAt.bool_bool a b
  | int b=>obtain ⟨t,rfl⟩:=rx; exact SeqAt.EqAt.bool_int a b t
  | str b=>obtain ⟨t,rfl⟩:=rx; exact SeqAt.EqAt.bool_str a b t
  | _=>exact absurd (show false = true from fx) VU
 | int a =>
  obtain ⟨t',rfl⟩:=ry
  cases x with
  | dR=>cases rx; exact SeqAt.EqAt.int_none a t'
  | bl b=>cases rx; exact SeqAt.EqAt.int_bool a t' b
  | int b=>obtain ⟨t,rfl⟩:=rx; exact SeqAt.EqAt.int_int a t' b t
  | str b=>obtain ⟨t,rfl⟩:=rx; exact SeqAt.EqAt.int_str a t' b t
  | _=>exact absurd (show false = true from fx) VU
 | str a =>
  obtain ⟨t',rfl⟩:=ry
  cases x with
  | dR=>cases rx; exact SeqAt.EqAt.str_none a t'
  | bl b=>cases rx; exact SeqAt.EqAt.str_bool a t' b
  | int b=>obtain ⟨t,rfl⟩:=rx; exact SeqAt.EqAt.str_int a t' b t
  | str b=>obtain ⟨t,rfl⟩:=rx; exact SeqAt.EqAt.str_str a t' b t
  | _=>exact absurd (show false = true from fx) VU
 | _=>exact absurd (show false = true from fy) VU
def xC (x:V) (u:Value):Bool:=match u with
 | .none=>FG .dR x
 | .bool b=>FG (.bl b) x
 | .int i _=>FG (.int i) x
 | .str z _=>FG (.str z) x
 | _=>false
theorem Cq {x y:V} {u:Value} (r:RelV y u) (f:mV y = true):xC x u = FG y x:=by
 cases y with
 | dR=>cases r; rfl
 | bl b=>cases r; rfl
 | int i=>obtain ⟨t,rfl⟩:=r; rfl
 | str z=>obtain ⟨t,rfl⟩:=r; rfl
 | _=>exact absurd (show false = true from f) VU
theorem mH {x:V}:∀ {xs:List V} {us:List Value},Vals xs us->xs.all mV = true->us.any (xC x) = xs.any fun y=>FG y x
 | _,_,.nil,_=>rfl
 | y :: xs,u :: us,.cons r t,f=>by
  rw [List.all_cons,Wu] at f
  rw [List.any_cons,List.any_cons,Cq r f.1,mH t f.2]
theorem ko {A:Around} {s:Shared} {x:V} {v:Value} (rx:RelV x v) (fx:mV x = true):∀ {xs:List V} {us:List Value},Vals xs us->xs.all mV = true->∀ u ∈ us,SeqAt.EqAt A s u v (xC x u)
 | _,_,.nil,_=>fun u hu=>by cases hu
 | y :: xs,u :: us,.cons r t,f=>fun u' hu=>by
  rw [List.all_cons,Wu] at f
  rcases VT.mp hu with rfl | hu
  ·rw [Cq r f.1]; exact Ia r rx f.1 fx
  ·exact ko rx fx t f.2 u' hu
def wl (x:V) (xs:List V):Bool:=xs.any fun y=>FG y x
def Mm (K:Yt) (neg:Bool):R2:=fun x y H Q=>∃ p xs,y = .ref p /\ (aZ K H p xs \/ a7 K H p xs) /\ mV x = true /\ xs.all mV = true /\ Q (.bl (if neg then !wl x xs else wl x xs)) H
theorem gO:iL X (compareOp .In) (Mm X.K false):=by
 intro pins s σ H x y v u Q I rx ry h
 obtain ⟨p,xs,rfl,hq,fx,fs,q⟩:=h
 cases ry
 rcases hq with hq | hq
 ·obtain ⟨aH,r,pl,hz⟩:=I.list hq
  refine SeqAt.in_listAt (xC x) pl.isList (fun w hw=>ko rx fx r fs w (by simpa using hw)) ⟨.bl _,H,I,rfl,?_⟩
  rw [show aH.toArray.any (xC x) = aH.any (xC x) by simp,mH r fs]
  exact q
 ·obtain ⟨aH,r,pl,hz⟩:=I.tuple hq
  refine SeqAt.in_tupleAt (xC x) pl (fun w hw=>ko rx fx r fs w (by simpa using hw)) ⟨.bl _,H,I,rfl,?_⟩
  rw [show aH.toArray.any (xC x) = aH.any (xC x) by simp,mH r fs]
  exact q
theorem jj:iL X (compareOp .NotIn) (Mm X.K true):=by
 intro pins s σ H x y v u Q I rx ry h
 obtain ⟨p,xs,rfl,hq,fx,fs,q⟩:=h
 cases ry
 rcases hq with hq | hq
 ·obtain ⟨aH,r,pl,hz⟩:=I.list hq
  refine SeqAt.notIn_listAt (xC x) pl.isList (fun w hw=>ko rx fx r fs w (by simpa using hw)) ⟨.bl _,H,I,rfl,?_⟩
  rw [show aH.toArray.any (xC x) = aH.any (xC x) by simp,mH r fs]
  exact q
 ·obtain ⟨aH,r,pl,hz⟩:=I.tuple hq
  refine SeqAt.notIn_tupleAt (xC x) pl (fun w hw=>ko rx fx r fs w (by simpa using hw)) ⟨.bl _,H,I,rfl,?_⟩
  rw [show aH.toArray.any (xC x) = aH.any (xC x) by simp,mH r fs]
  exact q
theorem aB:dI X (.builtin "len") (fun xs H Q=>∃ p ys,xs = [.ref p] /\ (aZ X.K H p ys \/ a7 X.K H p ys) /\ Q (.int ys.length) H):=by
 intro pins s σ H xs us Q I r h
 obtain ⟨p,ys,rfl,hq,q⟩:=h
 obtain ⟨u,rfl,rx⟩:=vals1 r
 cases rx
 have hn:=t3
 rcases hq with hq | hq
 ·obtain ⟨aH,r',pl,hz⟩:=I.list hq
  have hlen:=r'.length
  exact Calls.call_len_list pl.isList (by simp only [V2] <;> omega) ⟨.int ys.length,H,I.tok _,⟨s.toks + 1,by rw [V2,hlen]⟩,q⟩
 ·obtain ⟨aH,r',pl,hz⟩:=I.tuple hq
  have hlen:=r'.length
  exact len_tuple pl (by simp only [V2] <;> omega) ⟨.int ys.length,H,I.tok _,⟨s.toks + 1,by rw [V2,hlen]⟩,q⟩
theorem dI.or {f:Value} {r r':List V->Hp->VK->Prop} (h:dI X f r) (h':dI X f r'):dI X f (fun xs H Q=>r xs H Q \/ r' xs H Q):=by
 intro pins s σ H xs us Q I rs q
 rcases q with q | q
 ·exact h pins s σ H xs us Q I rs q
 ·exact h' pins s σ H xs us Q I rs q
theorem jv:dI X (.type "list") (fun xs H Q=>∃ p ys,xs = [.ref p] /\ (aZ X.K H p ys \/ a7 X.K H p ys) /\ ∀ l,H l = none->Q (.ref l) (upd H l (.lst ys))):=by
 intro pins s σ H xs us Q I r h
 obtain ⟨p,ys,rfl,hq,q⟩:=h
 obtain ⟨u,rfl,rx⟩:=vals1 r
 cases rx
 have fin:∀ (aH:List Value),Vals ys aH->ys.length <= sizeLine->∀ (h':Heap) (c':Nat),(∀ b o',s.heap.get? b = some o'->h'.get? b = some o') ->
   h'.get? s.heap.objs.size = some { cls:=.type "list",dict:=none,data:=.seq aH.toArray c',slots:=#[] }->EP X pins σ Q (.ref s.heap.objs.size) { s with heap:=h' }:=fun aH r' hz h' c' kp e =>
  ⟨.ref s.heap.objs.size,_,I.laid (t':=s.toks) kp (VP _) (show ck X.prog X.w _ h' _ (.lst ys) from ⟨hz,aH,c',r',e⟩),rfl,q _ (I.ba.fresh (VP _))⟩
 rcases hq with hq | hq
 ·obtain ⟨aH,r',pl,hz⟩:=I.list hq
  have hlen:=r'.length
  obtain ⟨o,ho,hc,n,hd⟩:=pl.isList
  exact call_list_seq p (.inl rfl) ho hc hd (fun h' c' kp e=>fin aH r' hz h' c' kp e) (by simp only [V2] <;> omega)
 ·obtain ⟨aH,r',pl,hz⟩:=I.tuple hq
  have hlen:=r'.length
  obtain ⟨o,ho,hc,n,hd⟩:=pl
  exact call_list_seq p (.inr rfl) ho hc hd (fun h' c' kp e=>fin aH r' hz h' c' kp e) (by simp only [V2] <;> omega)
theorem bN:dI X (.type "tuple") (fun xs H Q=>∃ p ys,xs = [.ref p] /\ ((aZ X.K H p ys /\ ∀ l,H l = none->Q (.ref l) (upd H l (.tup ys))) \/ (a7 X.K H p ys /\ Q (.ref p) H))):=by
 intro pins s σ H xs us Q I r h
 obtain ⟨p,ys,rfl,h⟩:=h
 obtain ⟨u,rfl,rx⟩:=vals1 r
 cases rx
 rcases h with ⟨hq,q⟩ | ⟨hq,q⟩
 ·obtain ⟨aH,r',pl,hz⟩:=I.list hq
  have hlen:=r'.length
  refine call_tuple_list pl.isList (fun h' kp=>?_) (by simp only [V2] <;> omega)
  have I1:Inv X pins σ H { s with heap:=h' }:=I.kept (t':=s.toks) kp
  have I2:Inv X pins σ (upd H h'.objs.size (.tup ys)) { s with heap:=h'.push { cls:=.type "tuple",data:=.seq aH.toArray } } :=
   I1.laid (t':=s.toks) (fun b o e=>VN _ e) (VP _) (show ck X.prog X.w _ _ _ (.tup ys) from ⟨hz,aH,r',IsTup.new _ _⟩)
  exact ⟨.ref h'.objs.size,_,I2,rfl,q _ (I1.ba.fresh (VP _))⟩
 ·obtain ⟨aH,r',pl,hz⟩:=I.tuple hq
  exact call_tuple_same pl ⟨.ref p,H,I,rfl,q⟩
def Ph (K:Yt) (T:String) (x:V) (H:Hp):Prop:=match x with
 | .str _=>T = "str"
 | .int _=>T = "int"
 | .ref p=>(T = "list" /\ ∃ xs,aZ K H p xs) \/ (T = "tuple" /\ ∃ o,K.lookup p = some o /\ o.cls = .type "tuple" /\ o.dict = none) \/
   (T = "dict" /\ ((∃ kvs,H p = some (.dK kvs)) \/ ∃ kvs,H p = some (.dT kvs))) \/ (T = "set" /\ ∃ S n,H p = some (.set S n))
 | _=>False
theorem GC {pins:List (Addr × Obj)} {σ:St} {H:Hp} {s:Shared} {T:String} {x:V} {v:Value} (I:Inv X pins σ H s) (r:RelV x v) (ty:Ph X.K T x H) :
  s.TypeIs v T /\ ∀ a,v = .ref a->∃ ob,s.heap.get? a = some ob /\ ob.dict = none:=by
 cases x with
 | str z =>
  obtain ⟨t,rfl⟩:=r
  cases (show T = "str" from ty)
  exact ⟨typeIs_str s z t,fun _ e=>nomatch e⟩
 | int i =>
  obtain ⟨t,rfl⟩:=r
  cases (show T = "int" from ty)
  exact ⟨typeIs_int s i t,fun _ e=>nomatch e⟩
 | ref p =>
  cases r
  rcases ty with ⟨rfl,xs,hq⟩ | ⟨rfl,o,hk,hc,hd⟩ | ⟨rfl,hk⟩ | ⟨rfl,S,n,hk⟩
  ·obtain ⟨aH,_,pl,_⟩:=I.list hq
   refine ⟨pl.isList.typeIs,fun a e=>?_⟩
   cases e
   obtain ⟨o,n,e,c,hd,_⟩:=pl
   exact ⟨o,e,hd⟩
  ·refine ⟨⟨o,I.oZ p o hk,hc⟩,fun a e=>?_⟩
   cases e
   exact ⟨o,I.oZ _ o hk,hd⟩
  ·have z:∃ o,s.heap.get? p = some o /\ o.ExactDict:=by
    rcases hk with ⟨kvs,hk⟩ | ⟨kvs,hk⟩
    ·obtain ⟨_,_,_,_,o,_,_,e,ex,_⟩:=I.ba p _ hk
     exact ⟨o,e,ex⟩
    ·obtain ⟨_,_,_,_,o,_,_,e,ex,_⟩:=I.ba p _ hk
     exact ⟨o,e,ex⟩
   obtain ⟨o,e,ex⟩:=z
   refine ⟨⟨o,e,ex.1⟩,fun a e2=>?_⟩
   cases e2
   exact ⟨o,e,ex.2.1⟩
  ·obtain ⟨o,_,_,_,e,ex,_⟩:=I.ba p _ hk
   refine ⟨⟨o,e,ex.1⟩,fun a e2=>?_⟩
   cases e2
   exact ⟨o,e,ex.2.1⟩
 | _=>exact False.elim ty
def Sc (K:Yt) (T:String) (r:V->List V->Hp->VK->Prop) (to:TE) (t:TA):TE:=fun σ H Q=>to σ H fun x H1=>Ph K T x H1 /\ t σ H1 fun xs H2=>r x xs H2 Q
variable {o e:Expr} {es:List Expr} {to:TE} {t:TA} {name:Str} {apos i7:Pos} {T id:String} {r:V->List V->Hp->VK->Prop}
theorem lj (pa:PlainAttrs T) (slot:Slot T name id) (Qo:typeOf (.builtin id) = pure (.type "method_descriptor")) (hm:Jd X id r) (ho:PE X o to) (ha:PA X (e :: es) t)
  (vn:attributeBase o name X.env (eval o X.env) = eval o X.env:=by rfl)
  (Mx:((backTo i7 (starEach (e :: es) X.env)).all (fun x=>!x.1) && (backToKw i7 (keywordEach [] X.env)).all (fun x=>x.1.isSome)
   && decide ((e :: es).length + ([]:List Keyword).length + (if ([]:List Keyword).isEmpty then 0 else 1) < 30)) = true:=by rfl)
  (vU:(apos.endLine == i7.line) = true:=by rfl) (hs:starEach (e :: es) X.env = (false,eval e X.env) :: starEach es X.env:=by rfl) (xR:(backTo i7 (starEach es X.env)).any (·.1) = false:=by rfl) :
  PE X (.Call (.Attribute o name apos) (e :: es) [] i7) (Sc X.K T r to t):=by
 intro pins s σ H Q I h
 refine wpAny_Call_method_late vn Mx vU rfl (cn (ho pins s σ H _ I h) fun v s1 ⟨x,H1,I1,r1,ty,q1⟩=>?_)
 obtain ⟨h1,h2⟩:=GC I1 r1 ty
 refine ⟨T,id,pa,slot,Qo,h1,h2,?_⟩
 have hA:=ha i7 pins s1 σ H1 _ I1 q1
 rw [hs] at hA ⊢
 refine Calls.callWith_builtin (by show (false || (backTo i7 (starEach es X.env)).any (·.1)) = false; rw [xR] <;> rfl) (Calls.evalArgs_plain ?_)
 exact cn hA fun us s2 ⟨vs,H2,I2,r2,q2⟩=>hm pins s2 σ H2 x vs v us Q I2 r1 r2 q2
/- xs.append(e),list.index on a J8 tuple .. are Jd facts of 06m -/
end
def PV (X:Cx) (id:String) (r:V->List V->Hp->VK->Prop):Prop :=
 ∀ (pins:List (Addr × Obj)) (s:Shared) (σ:St) (H:Hp) (x:V) (xs:List V) (v:Value) (us:List Value) (Q:VK),Inv X pins σ H s->RelV x v->Vals xs us->r x xs H Q ->
  wpAny (model X.prog X.w) X.A (call (.builtin id) (v :: us)) (EP X pins σ Q) X.xe s
theorem Vals.one:∀ {x:V} {us:List Value},Vals [x] us->∃ u,us = [u] /\ RelV x u
 | _,_,.cons r .nil=>⟨_,rfl,r⟩
theorem Vals.zero:∀ {us:List Value},Vals [] us->us = []
 | _,.nil=>rfl
theorem Vals.reverse {xs:List V} {us:List Value} (h:Vals xs us):Vals xs.reverse us.reverse:=by
 induction h with
 | nil=>exact .nil
 | cons r t ih=>rw [List.reverse_cons,List.reverse_cons]; exact Vals.append ih (.cons r .nil)
section
variable {X:Cx} {pins:List (Addr × Obj)} {σ:St} {H:Hp} {s:Shared} {l b:Addr} {xs ys zs:List V}
theorem Inv.Km {aH its':List Value} {n:Nat} {f:Array Value->Array Value} {t':Nat} (I:Inv X pins σ H s) (hH:H l = some (.lst xs))
  (e:s.heap.get? l = some { cls:=.type "list",data:=.seq aH.toArray n }) (hf:f aH.toArray = its'.toArray) (hv:Vals ys its') (hz:ys.length <= sizeLine) :
  Inv X pins σ (upd H l (.lst ys)) { s with heap:=s.heap.update l (Obj.mapSeq f),toks:=t' }:=by
 have q:=PySem.IsL.update e f
 rw [hf] at q
 refine I.write (x:=l) (e:=l) (by rw [hH]; exact trivial) (.inl rfl) (fun b' u hb hu=>(Heap.get?_update_other s.heap (Obj.mapSeq f) (X2 hb)).trans hu) ⟨_,q⟩ ?_
 exact ⟨hz,its',_,hv,q⟩
theorem Inv.MJ {aH:List Value} {t':Nat} (I:Inv X pins σ H s) (hv:Vals ys aH) (hz:ys.length <= sizeLine) :
  Inv X pins σ (upd H s.heap.objs.size (.lst ys)) { s with heap:=s.heap.push { cls:=.type "list",data:=.seq aH.toArray },toks:=t' } :=
 I.laid (fun _ _ q=>VN _ q) (VP _) ⟨hz,aH,0,hv,VY _ rfl⟩
theorem Inv.fresh (I:Inv X pins σ H s):H s.heap.objs.size = none:=I.ba.fresh (VP _)
theorem Inv.CB (I:Inv X pins σ H s) (hH:H l = some (.lst xs)):xs.length <= sizeLine /\ ∃ (aH:List Value) (n:Nat),Vals xs aH /\ xs.length = aH.length /\ s.heap.get? l = some { cls:=.type "list",data:=.seq aH.toArray n }:=by
 obtain ⟨z,aH,n,r,e⟩:=I.ba l _ hH
 exact ⟨z,aH,n,r,r.length,e⟩
theorem Du {n:Nat} (h:n <= sizeLine):Builtin.List.listTooLong n = false:=by
 unfold Builtin.List.listTooLong
 exact We (by omega)
end
section
variable {X:Cx}
def Ff:V->List V->Hp->VK->Prop:=fun x vs H Q=>∃ l xs y,x = .ref l /\ vs = [y] /\ H l = some (.lst xs) /\ xs.length < sizeLine /\ Q .dR (upd H l (.lst (xs ++ [y])))
theorem de:PV X "list.append" Ff:=by
 intro pins s σ H x vs v us Q I rx rv h
 obtain ⟨l,xs,y,rfl,rfl,hH,hz,q⟩:=h
 cases rx
 obtain ⟨u,rfl,ru⟩:=rv.one
 obtain ⟨z,aH,n,r,hl,e⟩:=I.CB hH
 refine call_meets F.slot_list_append ⟨_,e,rfl⟩ F.entry_list_append (F.args_list_append_2 _ _) (PySem.list_append l aH.toArray n u (by rw [V2]; omega)) ⟨e,?_⟩
 refine ⟨.dR,_,I.Km (its':=aH ++ [u]) hH e (by simp) (r.append (.cons ru .nil)) ?_,rfl,q⟩
 rw [Wf,List.length_singleton]
 omega
def Ei:V->List V->Hp->VK->Prop:=fun x vs H Q=>∃ l b xs zs,x = .ref l /\ vs = [.ref b] /\ H l = some (.lst xs) /\ H b = some (.lst zs) /\ xs.length + zs.length <= sizeLine /\ Q .dR (upd H l (.lst (xs ++ zs)))
theorem Ba:PV X "list.extend" Ei:=by
 intro pins s σ H x vs v us Q I rx rv h
 obtain ⟨l,b,xs,zs,rfl,rfl,hH,hB,hz,q⟩:=h
 cases rx
 obtain ⟨u,rfl,ru⟩:=rv.one
 cases ru
 obtain ⟨z,aH,n,r,hl,e⟩:=I.CB hH
 obtain ⟨z2,kU,n2,r2,oC,e2⟩:=I.CB hB
 have hsz:aH.toArray.size + kU.toArray.size <= sizeLine:=by rw [V2,V2]; omega
 have Jt:¬ (!aH.toArray.isEmpty && Builtin.List.listTooLong (aH.toArray.size + kU.toArray.size)) = true:=by
  rw [Du hsz,Xh]
  exact VU
 refine call_meets F.slot_list_extend ⟨_,e,rfl⟩ F.entry_list_extend (F.args_list_extend_2 _ _)
  (AutoSeq1.list_extend_list_list_0 l aH.toArray n b kU.toArray n2 Jt (by rw [V2]; omega) (by omega)) ⟨e,e2,?_⟩
 refine ⟨.dR,_,I.Km (its':=aH ++ kU) hH e (by simp) (r.append r2) ?_,rfl,q⟩
 rw [Wf]
 omega
def Ou:R2:=fun x y H Q=>∃ l b xs zs,x = .ref l /\ y = .ref b /\ H l = some (.lst xs) /\ H b = some (.lst zs) /\ xs.length + zs.length <= sizeLine /\ ∀ p,H p = none->Q (.ref p) (upd H p (.lst (xs ++ zs)))
theorem Br:iL X (binaryOp .Add) Ou:=by
 intro pins s σ H x y v u Q I rx ry h
 obtain ⟨l,b,xs,zs,rfl,rfl,hH,hB,hz,q⟩:=h
 cases rx
 cases ry
 obtain ⟨z,aH,n,r,hl,e⟩:=I.CB hH
 obtain ⟨z2,kU,n2,r2,oC,e2⟩:=I.CB hB
 refine PySem.P.add_list e e2 ?_ (by rw [V2,V2]; omega)
 have ea:aH.toArray ++ kU.toArray = (aH ++ kU).toArray:=by simp
 rw [ea]
 exact ⟨.ref _,_,I.MJ (t':=s.toks) (r.append r2) (by rw [Wf]; omega),rfl,q _ I.fresh⟩
end
end L2
namespace PU
open PySem PySem.W PySem.Calls PyProof.Rows
theorem pf {P:Params} {h:Heap}:∀ (ns:List Int) (vs:List Value),WellAll P h vs (ns.map WData.int)->IntsAre vs ns:=by
 intro ns
 induction ns with
 | nil =>
  intro vs w
  rw [List.map_nil] at w
  cases w
  exact .nil
 | cons n ns ih =>
  intro vs w
  rw [V8] at w
  cases w with
  | cons a b =>
   cases a
   exact .cons _ _ (ih _ b)
theorem AA {l:OpenLaw} {n:Nat} (hn:l.most = some n) {P:Params} {h:Heap} {args:List WData} {vals:List Value}
  (kY:l.row.toRowW.claim.pre args = true) (M8:WellAll P h vals args) :
  ∃ a vs ns,vals = [Value.ref a] /\ args = [WData.list (ns.map WData.int)] /\ h.get? a = some { cls:=.type "list",data:=.seq vs.toArray } /\ IntsAre vs ns /\ ns.length <= n:=by
 have Rt:WShape.hasAll [] args [.list .int] = true:=(pre_splitW kY).1
 have hc:l.pre.holds [] { args:=args } = true:=(pre_splitW kY).2
 obtain ⟨d,r,rfl,h1,h2⟩:=hasAllW_cons Rt
 obtain rfl:=hasAllW_nil h2
 obtain ⟨xs,rfl,h3⟩:=hasW_list h1
 obtain ⟨ns,rfl⟩:=items_int h3
 have hlen:ns.length <= n:=by
  unfold OpenLaw.pre at hc
  have h4:(WTm.not (.lt (.lit (.int (n:Int))) (.len (.arg 0)))).holds [] { args:=[.list (ns.map .int)] } = true:=by
   have h4:=(holds_andW hc).1
   rw [hn] at h4
   exact h4
  have h5:=condW_of h4 (w_not (w_lt w_lit (w_len_list (w_arg rfl))))
  rw [VO] at h5
  refine Nat.le_of_not_lt fun q=>?_
  have q':(n:Int) < ((ns.length:Nat):Int):=by omega
  first
   | (rw [V0 q'] at h5; exact absurd h5 (by decide))
   | (simp at h5; omega)
 cases M8 with
 | cons w1 w2 =>
  cases w2
  cases w1 with
  | list ho zN=>exact ⟨_,_,ns,rfl,rfl,ho,pf ns _ zN,hlen⟩
theorem AV (l:OpenLaw) (args:List WData):l.row.toRowW.claim.post args (.bool true) args = true :=
 postW_of (r:=l.row.toRowW) (X:=(true == true))
  (show WShape.has [] (.bool true) .bool = true by first | rfl | decide | simp [WShape.has,WShape.arms,WShape.armsAll])
  (show (WTm.eq .res (.lit (.bool true))).value [] { args:=args,res:=some (.bool true),after:=args } = some (.bool (true == true)) from w_eq_bool (w_res rfl) w_lit) rfl
theorem vW {l:OpenLaw} {n:Nat} {q:Program} {loose:List Str} {XP:(Str->Option Value)->Heap->Prop} {YP:World->Heap->Prop} {d:DefRec}
  (hn:l.most = some n) (KN:d.params.defaults = [])
  (call:∀ (w:World) (s₀ s₁:Shared) (mg mb:Str->Option Value) (fa:Addr) (o:Obj) (pm cd doc:Value) (a:Addr) (vs:List Value) (ns:List Int),
   Ground q loose [] XP w s₀ mg mb s₁.heap->YP w s₁.heap ->
   s₁.heap.get? fa = some o->o.data = .func (docDef d.name d.params d.body d.scope pm cd doc)->s₁.heap.CodeRec cd d.name->mg d.name = some (.ref fa) ->
   s₁.heap.get? a = some { cls:=.type "list",data:=.seq vs.toArray }->IntsAre vs ns->ns.length <= n->s₁.gens = #[] ->
   codeAny (model l.prog w) callerA (.call (.ref fa) ⟨[.ref a],[]⟩) (fun r s'=>r = .ok (.ret (.bool true)) /\ OldK s₁.heap s'.heap /\ s'.os = s₁.os /\ AllBare s'.gens) s₁) :
  WalkO q loose XP YP l.row.toRowW d [] (fun f vs=>PySem.call f vs):=by
 intro w s₀ s₁ mg mb G Y fa o pm cd doc dV kV ho hd x8 hD K7 hg args vals as kY J9 VF M8 VE
 obtain rfl:dV = .none:=Dflts.none hD KN
 obtain rfl:kV = .none:=Dflts.noKw hD
 obtain ⟨a,vs,ns,rfl,rfl,HV,hints,hlen⟩:=AA hn kY M8
 refine enter_call (codeAny_mono (call w s₀ s₁ mg mb fa o pm cd doc a vs ns G Y ho (fd_plain hd) x8 K7 HV hints hlen hg) fun r s' hq=>?_)
 obtain ⟨rfl,h2,h3,h4⟩:=hq
 exact ⟨.inl ⟨.bool true,.bool true,[],rfl,fun _=>rfl,.bool true,AV l _,fun _=>⟨List.Pairwise.nil,fun _ hm=>(nomatch hm)⟩⟩,h2,h3,h4⟩
end PU
namespace L2
open PySem PySem.Spec PyProof.Rows
theorem nS:∀ {vs:List Value} {ns:List Int},IntsAre vs ns->Vals (ns.map V.int) vs
 | _,_,.nil=>.nil
 | _,_,.cons n t h=>.cons ⟨t,rfl⟩ (nS h)
def IC (H:Hp):Prop:=∀ b,H b = none \/ ∃ o xs,H b = some (.xb o (.lst xs))
theorem Bp {P:Program} {w:World} {K:Yt} {mg mb:Str->Option Value} {CX:xQ} {k:Nat} {fa a:Addr} {fd:FuncData} {x:Str} {sp:Sp} {s₁:Shared} {vs:List Value} {ns:List Int}
  (KX:K.In s₁.heap) (Pm:s₁.heap.Ns mainGlobals mg) (hb:s₁.heap.Ns builtinsNs mb) (QD:∀ x:Str,x ≠ "__name__"->mb x = bootBuiltins x) (MY:s₁.heap.NoLimit) (hg:s₁.gens = #[])
  (ha:s₁.heap.get? a = some { cls:=.type "list",data:=.seq vs.toArray }) (hi:IntsAre vs ns) (hl:ns.length <= sizeLine) (hr:eT k callerA)
  (F:∀ base:Heap,K.In base->base.Ns mainGlobals mg->au P w K mg base CX k fa fd [x] sp) (Lc:∀ (s:Shared) (u:Value),BindsTo s fd ⟨[u],[]⟩ [(x,u)])
  (yW:∀ H:Hp,IC H->aZ K H a (ns.map V.int)->sp [.ref a] H (fun v _=>v = .bl true) fun _ _ _=>False)
  (No:∀ H e s',CX [] H s₁ (fun _ _ _=>False) e s'->False) :
  codeAny (model P w) callerA (.call (.ref fa) ⟨[.ref a],[]⟩) (fun r s'=>r = .ok (.ret (.bool true)) /\ OldK s₁.heap s'.heap /\ s'.os = s₁.os /\ AllBare s'.gens) s₁:=by
 have rv:=nS hi
 have Nq:=hi.length
 have core:∀ H:Hp,IC H->aZ K H a (ns.map V.int)->jN P w H s₁.heap->(∀ b,H b ≠ none->b = a)->(H a ≠ none->K.lookup a = none) ->
   codeAny (model P w) callerA (.call (.ref fa) ⟨[.ref a],[]⟩) (fun r s'=>r = .ok (.ret (.bool true)) /\ OldK s₁.heap s'.heap /\ s'.os = s₁.os /\ AllBare s'.gens) s₁:=by
  intro H hO hS ba hA hK
  have zy:∀ {b:Addr} {o:Obj},s₁.heap.get? b = some o->H b = none->(uV s₁.heap H).get? b = some o:=fun e n=>BK e n
  have Kc:∀ {b:Addr} {o:Obj} {es:Array DictEntry} {ep:Nat},s₁.heap.get? b = some o->o.data = .dict es ep->H b = none:=fun {b o es ep} e d=>by
   cases q:H b with
   | none=>rfl
   | some u =>
    have e':b = a:=hA b (by rw [q]; simp)
    subst e'
    rw [ha] at e; cases e
    have d':Data.seq vs.toArray _ = Data.dict es ep:=d
    cases d'
  have LX:∀ {b:Addr} {m:Str->Option Value},s₁.heap.Ns b m->(uV s₁.heap H).Ns b m:=fun {b m} ⟨o,es,ep,e,d,r⟩=>⟨o,es,ep,zy e (Kc e d),d,r⟩
  have OW:K.In (uV s₁.heap H):=fun b o e=>zy (KX b o e) (by
   cases q:H b with
   | none=>rfl
   | some u =>
    have e':b = a:=hA b (by rw [q]; simp)
    subst e'
    rw [hK (by rw [q]; simp)] at e; cases e)
  have hM:Mod K mg (uV s₁.heap H):=⟨OW,LX Pm,⟨mb,LX hb,QD⟩,let ⟨mc,h1,h2⟩:=MY; ⟨mc,LX h1,h2⟩⟩
  have e0:pX P w K mg (uV s₁.heap H) callerA [] s₁ H:=⟨rfl,hM,fun b o e=>Er e,Nat.le_of_eq (z9 _ _),trivial,fun b hb=>absurd (show b ∈ ([]:List Addr) from hb) (by simp),ba,.of_eq hg⟩
  refine codeAny_mono ((F _ OW (LX Pm)).run callerA [] s₁ H ⟨[.ref a],[]⟩ [.ref a] [.ref a] _ _ hr e0 (Lc s₁ (.ref a)) (.cons rfl .nil) (yW H hO hS)) fun r s' h=>?_
  cases r with
  | error e=>exact (No H e s' h).elim
  | ok fl =>
   cases fl with
   | next=>exact False.elim h
   | brk=>exact False.elim h
   | cont=>exact False.elim h
   | ret u =>
    obtain ⟨v,H',os,bare,un,NZ,r',q⟩:=h
    have q':v = .bl true:=q
    subst q'
    obtain rfl:u = Value.bool true:=r'
    refine ⟨rfl,OldK.of_keep fun b o e=>?_,os,bare⟩
    cases q:H b with
    | none=>exact un.keep b o e q (by intro z; exact absurd (show b ∈ ([]:List Addr) from z) (by simp)) (by simp)
    | some u =>
     rcases hO b with z | ⟨ob,xs,z⟩
     ·rw [q] at z; cases z
     ·have z2:=un.jI b ob _ z
      obtain ⟨e1,_⟩:=ba b _ z
      obtain ⟨e2,_⟩:=NZ b _ z2
      rw [e] at e1; cases e1
      exact e2
 cases hk:K.lookup a with
 | some o =>
  have e:=KX a o hk
  rw [ha] at e
  cases e
  refine core (fun _=>none) (fun _=>.inl rfl) (.inr ⟨_,vs.toArray,_,hk,rfl,rfl,rfl,by rw [V2,Nq]; exact hl,by simpa using rv⟩) (fun b u z=>by have z':(none:Option HO) = some u:=z; cases z') (fun b z=>absurd rfl z) fun z=>absurd rfl z
 | none =>
  refine core (fun b=>if b = a then some (.xb { cls:=.type "list",data:=.seq vs.toArray } (.lst (ns.map V.int))) else none) (fun b=>?_) (.inl (.inr ⟨{ cls:=.type "list",data:=.seq vs.toArray },if_pos rfl⟩)) (fun b u z=>?_) (fun b z=>?_) fun _=>hk
  ·by_cases hb:b = a
   ·exact .inr ⟨_,_,if_pos hb⟩
   ·exact .inl (if_neg hb)
  ·by_cases hb:b = a
   ·have z':=(if_pos hb).symm.trans z
    cases z'
    subst hb
    exact ⟨ha,by rw [VO]; exact hl,vs,_,rv,ha⟩
   ·have z':=(if_neg hb).symm.trans z
    cases z'
  ·by_cases hb:b = a
   ·exact hb
   ·exact absurd (if_neg hb) z
theorem Ek {l:PySem.W.OpenLaw} {n k:Nat} {q:Program} {loose:List Str} {XP:(Str->Option Value)->Heap->Prop} {YP:World->Heap->Prop} {d:DefRec} {K:Params->Yt} {CX:World->xQ} {sp:World->Sp} {x:Str}
  (hn:l.most = some n) (LN:n <= sizeLine) (KN:d.params.defaults = []) (hr:eT k callerA)
  (hY:∀ (w:World) (h:Heap),YP w h->(K w.params).In h)
  (F:∀ (w:World) (mg:Str->Option Value) (fa:Addr) (h:Heap),(K w.params).In h->h.Ns mainGlobals mg->mg d.name = some (.ref fa) ->
   ∃ fd:FuncData,(∀ (s:Shared) (u:Value),BindsTo s fd ⟨[u],[]⟩ [(x,u)]) /\
    ∀ base:Heap,(K w.params).In base->base.Ns mainGlobals mg->au l.prog w (K w.params) mg base (CX w) k fa fd [x] (sp w))
  (yW:∀ (w:World) (H:Hp) (a:Addr) (ns:List Int),ns.length <= n->IC H->aZ (K w.params) H a (ns.map V.int)->sp w [.ref a] H (fun v _=>v = .bl true) fun _ _ _=>False)
  (No:∀ (w:World) (H:Hp) (s:Shared) (e:Value) (s':Shared),CX w [] H s (fun _ _ _=>False) e s'->False) :
  PySem.W.WalkO q loose XP YP l.row.toRowW d [] (fun f vs=>PySem.call f vs):=by
 refine PU.vW hn KN fun w s₀ s₁ mg mb fa o pm cd doc a vs ns G Y ho hd x8 K7 HV hints hlen hg=>?_
 have KX:=hY w _ Y
 obtain ⟨fd,hb,hF⟩:=F w mg fa _ KX G.T.g K7
 exact Bp KX G.T.g G.T.b G.T.builtins G.T.nolimit hg HV hints (VZ hlen LN) hr hF hb (fun H hO hS=>yW w H a ns hlen hO hS) fun H e s'=>No w H s₁ e s'
end L2
/- Vc To LQ (shape; Vq,My.* are Ps):
  My.Vd: a structure of Qc addresses UP Ra O0 names (classes,II); My.Txt K t: a structure (Prop) of Qc equations over K;
  My.MQ:{K} {implicit addresses ..} (e1:nsIn K mainGlobals "law" = some (some (.ref f))) (e2:K.lookup f = some ⟨oc,od,.func (fnOf "law" "law" params body scope dV kV doc pm an cm ct),sl⟩) (e3:codeIn K cm "law" = true) ..:∃ t,My.Txt K t
(Qc tactic k_is has no namespace: write k_is) -/
namespace L2
open PySem PySem.Spec PyProof.Rows
def inClass (s:Stmt) (j:Nat):Stmt:=match s with
 | .ClassDef _ _ _ body _ _ _ _ _ _ _=>body.getD j (.Pass ⟨0,0,0,0⟩)
 | _=>.Pass ⟨0,0,0,0⟩
def fR (s:Stmt):Arguments:=match s with
 | .FunctionDef _ a _ _ _ _ _ _ _ _=>a
 | _=>{ posonlyargs:=[],args:=[],vararg:=none,kwonlyargs:=[],kw_defaults:=[],kwarg:=none,defaults:=[] }
def cw (s:Stmt):List Stmt:=match s with
 | .FunctionDef _ _ b _ _ _ _ _ _ _=>b
 | _=>[]
def am (s:Stmt):Scope:=match s with
 | .FunctionDef _ _ _ _ _ _ sc _ _ _=>sc
 | _=>{ kind:=.function,names:=[],isGenerator:=false,isCoroutine:=false }
abbrev br:xQ:=fun _ _ _ _ _ _=>False
abbrev E0:XK:=fun _ _ _=>False
theorem aF {X:Cx}:Passes br X E0:=fun _ _ _ _ _ _ _ h=>h.elim
structure Fd (K:Yt) (x qual:Str) (st:Stmt) (f:Addr) (fd:FuncData):Prop where
 ex:∃ (oc:Value) (od:Option Addr) (kV doc pm:Value) (an:Option Addr) (cm ct:Value) (Fu:Array (Option Value)),
  fd = PySem.W.fnOf x qual (fR st) (cw st) (am st) .none kV doc pm an cm ct /\ K.lookup f = some ⟨oc,od,.func fd,Fu⟩ /\ PySem.W.codeIn K cm qual = true
 kp:PySem.W.keepIn K (.ref f) = true
section
variable {P:Program} {w:World} {K:Yt} {mg:Str->Option Value} {base:Heap}
theorem Fd.ok {x qual:Str} {st:Stmt} {f:Addr} {fd:FuncData} {N ps:List Str} {k:Nat} {sp:Sp} (F:Fd K x qual st f fd) (S:av N ps (am st)) (len:∀ vs H Q E,sp vs H Q E->vs.length = ps.length)
  (wo:∀ (cm:Value) (A:Around) (outer:List Env) (s:Shared) (H:Hp) (vs:List V) (Q:VK) (E:XK),eT k (A.deeper (envOfC qual (am st) s.heap.objs.size f cm))->sp vs H Q E ->
   ∃ t,tN (vL br P w K mg base N qual (am st) f cm A outer s H E).Ej (cw st) t /\ t { nx:=fun _ H'=>Q .dR H',rt:=Q } (start N vs) H):au P w K mg base br (k + 1) f fd ps sp:=by
 obtain ⟨oc,od,kV,doc,pm,an,cm,ct,Fu,rfl,lk,x8⟩:=F.ex
 refine Gj lk x8 S len fun A outer s H vs Q E hr yW=>?_
 obtain ⟨t,h,q⟩:=wo cm A outer s H vs Q E hr yW
 exact ⟨t,h.Ej,q⟩
theorem Fd.binds {x qual:Str} {st:Stmt} {f:Addr} {fd:FuncData} {ps:List Str} (F:Fd K x qual st f fd)
  (h:∀ (kV doc pm:Value) (an:Option Addr) (cm ct:Value) (us:List Value),us.length = ps.length->bindArgs (PySem.W.fnOf x qual (fR st) (cw st) (am st) .none kV doc pm an cm ct) ⟨us,[]⟩ = pure (ps.zip us)):Binds K fd ps []:=by
 obtain ⟨oc,od,kV,doc,pm,an,cm,ct,Fu,rfl,lk,x8⟩:=F.ex
 exact .all (h kV doc pm an cm ct)
theorem nX {x qual:Str} {st:Stmt} {f:Addr} {oc:Value} {od an:Option Addr} {Fu:Array (Option Value)} {kV doc pm cm ct:Value} (l:K.lookup f = some ⟨oc,od,.func (PySem.W.fnOf x qual (fR st) (cw st) (am st) .none kV doc pm an cm ct),Fu⟩)
  (c:PySem.W.codeIn K cm qual = true) (k:PySem.W.keepIn K (.ref f) = true):Fd K x qual st f (PySem.W.fnOf x qual (fR st) (cw st) (am st) .none kV doc pm an cm ct):=⟨⟨oc,od,kV,doc,pm,an,cm,ct,Fu,rfl,l,c⟩,k⟩
end
section
variable {X:Cx}
theorem pv (i:Nat) {x:Str} {pos:Pos} (hN:X.N[i]? = some x:=by rfl) (hv:LL X.env.scope x:=by first | exact Or.inl rfl | exact Or.inr (Or.inl rfl) | exact Or.inr (Or.inr rfl)) (hd:(x == ("__debug__":Str)) = false:=by decide)
  (x8:(x == ("__classdict__":Str)) = false:=by decide):PE X (.Name x pos) (JQ i):=Hs hN hv hd x8
end
theorem dm {A B:Prop} (h:B):if false = true then A else B:=by
 rw [if_neg VU]
 exact h
theorem pd {A B:Prop} (h:A):if true = true then A else B:=by
 rw [if_pos rfl]
 exact h
theorem CG {c A B:Prop} [Decidable c] (h1:c->A) (h2:¬ c->B):if c then A else B:=by
 by_cases h:c
 ·rw [if_pos h]
  exact h1 h
 ·rw [if_neg h]
  exact h2 h
theorem BS {c A B:Prop} [Decidable c] (hc:c) (h:B):if (!decide c) = true then A else B:=by
 rw [V0 hc]
 exact dm h
def ak (H H':Hp):Prop:=∀ b o,H b = some o->H' b = some o
theorem ak.refl (H:Hp):ak H H:=fun _ _ h=>h
theorem ak.trans {H H1 H2:Hp} (a:ak H H1) (b:ak H1 H2):ak H H2:=fun c o h=>b c o (a c o h)
theorem ak.free {H H':Hp} (e:ak H H') {l:Addr} (h:H' l = Option.none):H l = Option.none:=by
 cases q:H l with
 | none=>rfl
 | some o =>
  rw [e l o q] at h
  cases h
theorem ak.seq {K:Yt} {H H':Hp} {a:Addr} {xs:List V} (e:ak H H') (h:aZ K H a xs):aZ K H' a xs:=by
 rcases h with (h | ⟨o,h⟩) | h
 ·exact .inl (.inl (e _ _ h))
 ·exact .inl (.inr ⟨o,e _ _ h⟩)
 ·exact .inr h
end L2
set_option maxHeartbeats 4000000
namespace SO
open PySem PyProof.Rows
def AY:Bool->Keyed->Array Keyed->Nat->Nat->Nat->StateT SortSt Sem (Option Nat):=sortPriv% PySem.Builtin.gallop
def look (lf:Bool) (ky:Keyed) (ar:Array Keyed) (bs i:Nat):StateT SortSt Sem (Option Bool):=do
 let x <- elem' ar (bs + i)
 if lf then lt' x ky else return (<- lt' ky x).map (!·)
theorem GF (lf:Bool) (ky:Keyed) (ar:Array Keyed) (bs n h:Nat):AY lf ky ar bs n h = (do
  let mut l:=0
  let mut o:=1
  let mut p:=0
  let mut q:=0
  let some rt <- look lf ky ar bs h | return none
  if rt then
   let mx:=n - h
   for _ in [0:n] do
    if o >= mx then break
    let some mm <- look lf ky ar bs (h + o) | return none
    if !mm then break
    l:=o
    o:=2 * o + 1
   p:=h + l + 1
   q:=h + min o mx
  else
   let mx:=h + 1
   for _ in [0:n] do
    if o >= mx then break
    let some ff <- look lf ky ar bs (h - o) | return none
    if ff then break
    l:=o
    o:=2 * o + 1
   p:=h + 1 - min o mx
   q:=h - l
  for _ in [0:n] do
   if p >= q then break
   let m:=p + (q - p) / 2
   let some mm <- look lf ky ar bs m | return none
   if mm then p:=m + 1 else q:=m
  return some q):=rfl
section
variable {prog:Program} {w:World} {A:Around} {E:Value->Shared->Prop} {s:Shared} {rk:Keyed->Nat} {S:Keyed->Prop} {kd:SortKind}
def oB (prog:Program) (w:World) (A:Around) (E:Value->Shared->Prop) (s:Shared) (rk:Keyed->Nat) (S:Keyed->Prop) (kd:SortKind):Prop :=
 ∀ (x y:Keyed) (st:SortSt) (Q:Option Bool->SortSt->Prop),S x->S y->kindOf st = kd->Q (some (decide (rk x < rk y))) st->wpS (model prog w) A E s (lt' x y) Q st
def B (rk:Keyed->Nat) (lf:Bool) (ky:Keyed) (ar:Array Keyed) (bs i:Nat):Bool:=match ar[bs + i]? with
 | some x=>if lf then decide (rk x < rk ky) else !decide (rk ky < rk x)
 | none=>false
theorem mO {lf:Bool} {ky:Keyed} {ar:Array Keyed} {bs i:Nat} {st:SortSt} {Q:Option Bool->SortSt->Prop} (hc:oB prog w A E s rk S kd) (hi:(bs + i) < (ar.size)) (hS:∀ x ∈ ar.toList,S x) (hk:S ky) (kk:kindOf st = kd)
  (h:Q (some (B rk lf ky ar bs i)) st):wpS (model prog w) A E s (look lf ky ar bs i) Q st:=by
 unfold look
 have e:ar[bs + i]? = some (ar[bs + i]'hi):=getElem?_pos ar (bs + i) hi
 have hm:S (ar[bs + i]'hi):=hS _ (by simp)
 unfold B at h
 rw [e] at h
 rw [elem'_eq,e]
 refine VX (V5 ?_)
 cases lf with
 | true=>exact hc _ _ st _ hm hk kk h
 | false =>
  refine VX (hc _ _ st _ hk hm kk ?_)
  exact V5 h
def bin (lf:Bool) (ky:Keyed) (ar:Array Keyed) (bs n p₀ q₀:Nat):StateT SortSt Sem (Option Nat):=do
 let mut p:=p₀
 let mut q:=q₀
 for _ in [0:n] do
  if p >= q then break
  let m:=p + (q - p) / 2
  let some mm <- look lf ky ar bs m | return none
  if mm then p:=m + 1 else q:=m
 return some q
theorem yY {lf:Bool} {ky:Keyed} {ar:Array Keyed} {bs n p q:Nat} {st:SortSt} {Q:Option Nat->SortSt->Prop} (hc:oB prog w A E s rk S kd) (hn:bs + n <= ar.size) (hS:∀ x ∈ ar.toList,S x) (hk:S ky) (kk:kindOf st = kd)
  (mono:∀ i j,i <= j->j < n->B rk lf ky ar bs j = true->B rk lf ky ar bs i = true) (LF:p <= q) (MM:q <= n) (hp:∀ i,i < p->B rk lf ky ar bs i = true) (xj:∀ i,q <= i->i < n->B rk lf ky ar bs i = false)
  (hq:∀ q,q <= n->(∀ i,i < q->B rk lf ky ar bs i = true)->(∀ i,q <= i->i < n->B rk lf ky ar bs i = false)->Q (some q) st):wpS (model prog w) A E s (bin lf ky ar bs n p q) Q st:=by
 unfold bin
 have yZ:∀ i j,i <= j->j < n->B rk lf ky ar bs i = false->B rk lf ky ar bs j = false:=fun i j Bh hj hb=>by
  cases e:B rk lf ky ar bs j with
  | false=>rfl
  | true=>rw [mono i j Bh hj e] at hb; cases hb
 refine VX (Xf (WU (I:=fun x c aI=>aI = st /\ ∃ p q,c = (none,p,q) /\ p <= q /\ q <= n /\ q - p <= n - x /\ (∀ i,i < p->B rk lf ky ar bs i = true) /\ (∀ i,q <= i->i < n->B rk lf ky ar bs i = false))
  (Q:=fun c aI=>aI = st /\ ∃ q,c = (none,q,q) /\ q <= n /\ (∀ i,i < q->B rk lf ky ar bs i = true) /\ (∀ i,q <= i->i < n->B rk lf ky ar bs i = false)) ?step ?fin ⟨rfl,p,q,rfl,LF,MM,by omega,hp,xj⟩) ?post)
 case fin =>
  rintro c aI ⟨rfl,p,q,rfl,h1,h2,h3,h4,h5⟩
  have:p = q:=by omega
  subst this
  exact ⟨rfl,p,rfl,h2,h4,h5⟩
 case post =>
  rintro c aI ⟨rfl,q,rfl,h2,h4,h5⟩
  exact V5 (hq q h2 h4 h5)
 case step =>
  rintro x c aI _ hx ⟨rfl,p,q,rfl,h1,h2,h3,h4,h5⟩
  dsimp only
  by_cases uQ:p >= q
  ·rw [if_pos uQ]
   have:p = q:=by omega
   subst this
   exact V5 ⟨rfl,p,rfl,h2,h4,h5⟩
  ·rw [if_neg uQ]
   refine VX (mO hc (by omega) hS hk kk ?_)
   dsimp only
   cases e:B rk lf ky ar bs (p + (q - p) / 2) with
   | true =>
    rw [if_pos rfl]
    refine V5 ⟨rfl,_,q,rfl,by omega,h2,by omega,fun i hi=>?_,h5⟩
    exact mono i _ (by omega) (by omega) e
   | false =>
    rw [if_neg VU]
    refine V5 ⟨rfl,p,_,rfl,by omega,by omega,by omega,h4,fun i hi rL=>?_⟩
    exact yZ _ i hi rL e
theorem Et {lf:Bool} {ky:Keyed} {ar:Array Keyed} {bs n h:Nat} {st:SortSt} {Q:Option Nat->SortSt->Prop} (hc:oB prog w A E s rk S kd) (hn:bs + n <= ar.size) (hh:h < n) (hS:∀ x ∈ ar.toList,S x) (hk:S ky) (kk:kindOf st = kd)
  (mono:∀ i j,i <= j->j < n->B rk lf ky ar bs j = true->B rk lf ky ar bs i = true)
  (hq:∀ q,q <= n->(∀ i,i < q->B rk lf ky ar bs i = true)->(∀ i,q <= i->i < n->B rk lf ky ar bs i = false)->Q (some q) st):wpS (model prog w) A E s (AY lf ky ar bs n h) Q st:=by
 rw [GF]
 have yZ:∀ i j,i <= j->j < n->B rk lf ky ar bs i = false->B rk lf ky ar bs j = false:=fun i j Bh hj hb=>by
  cases e:B rk lf ky ar bs j with
  | false=>rfl
  | true=>rw [mono i j Bh hj e] at hb; cases hb
 refine VX (mO hc (by omega) hS hk kk ?_)
 dsimp only
 cases eB:B rk lf ky ar bs h with
 | true =>
  rw [if_pos rfl]
  refine VX (Xf (WU (I:=fun x c aI=>aI = st /\ ∃ l o,c = (none,l,o) /\ l < o /\ x + 1 <= o /\ h + l < n /\ B rk lf ky ar bs (h + l) = true)
   (Q:=fun c aI=>aI = st /\ ∃ l o,c = (none,l,o) /\ l < o /\ h + l < n /\ B rk lf ky ar bs (h + l) = true /\ (o >= n - h \/ B rk lf ky ar bs (h + o) = false)) ?step ?fin ⟨rfl,0,1,rfl,by omega,by omega,by omega,eB⟩) ?post)
  case fin =>
   rintro c aI ⟨rfl,l,o,rfl,h1,h2,h3,h4⟩
   exact ⟨rfl,l,o,rfl,h1,h3,h4,.inl (by omega)⟩
  case post =>
   rintro c aI ⟨rfl,l,o,rfl,h1,h3,h4,h5⟩
   show wpS _ _ _ _ (bin lf ky ar bs n (h + l + 1) (h + min o (n - h))) Q _
   refine yY hc hn hS hk kk mono (by omega) (by omega) (fun i hi=>mono i (h + l) (by omega) h3 h4) (fun i hi rL=>?_) hq
   rcases h5 with z | z
   ·omega
   ·by_cases hz:o >= n - h
    ·omega
    ·exact yZ (h + o) i (by omega) rL z
  case step =>
   rintro x c aI _ hx ⟨rfl,l,o,rfl,h1,h2,h3,h4⟩
   dsimp only
   by_cases uQ:o >= n - h
   ·rw [if_pos uQ]
    exact V5 ⟨rfl,l,o,rfl,h1,h3,h4,.inl uQ⟩
   ·rw [if_neg uQ]
    refine VX (mO hc (by omega) hS hk kk ?_)
    dsimp only
    cases e:B rk lf ky ar bs (h + o) with
    | true =>
     rw [if_neg (by simp)]
     exact V5 ⟨rfl,o,2 * o + 1,rfl,by omega,by omega,by omega,e⟩
    | false =>
     rw [if_pos (by simp)]
     exact V5 ⟨rfl,l,o,rfl,h1,h3,h4,.inr e⟩
 | false =>
  rw [if_neg VU]
  refine VX (Xf (WU (I:=fun x c aI=>aI = st /\ ∃ l o,c = (none,l,o) /\ l < o /\ x + 1 <= o /\ l <= h /\ B rk lf ky ar bs (h - l) = false)
   (Q:=fun c aI=>aI = st /\ ∃ l o,c = (none,l,o) /\ l < o /\ l <= h /\ B rk lf ky ar bs (h - l) = false /\ (o >= h + 1 \/ B rk lf ky ar bs (h - o) = true)) ?step ?fin ⟨rfl,0,1,rfl,by omega,by omega,by omega,eB⟩) ?post)
  case fin =>
   rintro c aI ⟨rfl,l,o,rfl,h1,h2,h3,h4⟩
   exact ⟨rfl,l,o,rfl,h1,h3,h4,.inl (by omega)⟩
  case post =>
   rintro c aI ⟨rfl,l,o,rfl,h1,h3,h4,h5⟩
   show wpS _ _ _ _ (bin lf ky ar bs n (h + 1 - min o (h + 1)) (h - l)) Q _
   refine yY hc hn hS hk kk mono (by omega) (by omega) (fun i hi=>?_) (fun i hi rL=>yZ (h - l) i hi rL h4) hq
   rcases h5 with z | z
   ·omega
   ·by_cases hz:o >= h + 1
    ·omega
    ·exact mono i (h - o) (by omega) (by omega) z
  case step =>
   rintro x c aI _ hx ⟨rfl,l,o,rfl,h1,h2,h3,h4⟩
   dsimp only
   by_cases uQ:o >= h + 1
   ·rw [if_pos uQ]
    exact V5 ⟨rfl,l,o,rfl,h1,h3,h4,.inl uQ⟩
   ·rw [if_neg uQ]
    refine VX (mO hc (by omega) hS hk kk ?_)
    dsimp only
    cases e:B rk lf ky ar bs (h - o) with
    | true =>
     rw [if_pos rfl]
     exact V5 ⟨rfl,l,o,rfl,h1,h3,h4,.inr e⟩
    | false =>
     rw [if_neg VU]
     exact V5 ⟨rfl,o,2 * o + 1,rfl,by omega,by omega,by omega,e⟩
end
abbrev SM:=StateT SortSt Sem
abbrev tS (st:SortSt) (g:Nat):SortSt:=SortSt.mk' (kindOf st) (arrOf st) (pendingOf st) g (failedOf st)
def uK (g:Nat):SM Unit:=modify fun s=>tS s g
def Lo:Array Keyed->Array Keyed->SM (Array Keyed):=sortPriv% PySem.Builtin.mergeLo
def jm (a b out:Array Keyed) (i j:Nat):Array Keyed:=out ++ a.extract i a.size ++ b.extract j b.size
def fin2 (a b out:Array Keyed) (i j:Nat):Array Keyed:=out ++ b.extract j b.size ++ a.extract i a.size
abbrev L1:=Option (Array Keyed) × Array Keyed × Nat × Nat × Nat × Nat
abbrev L2:=Option (Array Keyed) × Array Keyed × Nat × Nat × Nat × Nat × Nat
abbrev L3:=Option (Array Keyed) × Array Keyed × Nat × Nat × Nat
def lo1 (a b:Array Keyed) (g:Nat) (out:Array Keyed) (i j ca cb:Nat):SM (ForInStep L1):=do
 let x <- elem' b j
 let y <- elem' a i
 match <- lt' x y with
 | some bw =>
  if bw = true then do
   let z <- elem' b j
   if (j + 1 == b.size) = true then pure (.done (some (jm a b (out.push z) i (j + 1)),out.push z,i,j + 1,0,cb + 1))
   else if cb + 1 >= g then pure (.done (none,out.push z,i,j + 1,0,cb + 1))
   else pure (.yield (none,out.push z,i,j + 1,0,cb + 1))
  else do
   let z <- elem' a i
   if (i + 1 + 1 == a.size) = true then pure (.done (some (fin2 a b (out.push z) (i + 1) j),out.push z,i + 1,j,ca + 1,0))
   else if ca + 1 >= g then pure (.done (none,out.push z,i + 1,j,ca + 1,0))
   else pure (.yield (none,out.push z,i + 1,j,ca + 1,0))
 | _=>pure (.done (some (jm a b out i j),out,i,j,ca,cb))
def Mh (a b:Array Keyed) (out:Array Keyed) (i j g ca cb:Nat):SM (ForInStep L2):=do
 let x <- elem' a i
 if (i + 1 + 1 == a.size) = true then pure (.done (some (fin2 a b (out.push x) (i + 1) j),out.push x,i + 1,j,g,ca,cb))
 else if (decide (ca < 7) && decide (cb < 7)) = true then pure (.done (none,out.push x,i + 1,j,g,ca,cb))
 else pure (.yield (none,out.push x,i + 1,j,g,ca,cb))
def MP (a b:Array Keyed) (out:Array Keyed) (i j g ca cb:Nat):SM (ForInStep L2):=do
 let x <- elem' a i
 match <- AY true x b j (b.size - j) 0 with
 | some k =>
  if k > 0 then
   if (j + k == b.size) = true then pure (.done (some (jm a b (out ++ b.extract j (j + k)) i (j + k)),out ++ b.extract j (j + k),i,j + k,g,ca,k))
   else Mh a b (out ++ b.extract j (j + k)) i (j + k) g ca k
  else Mh a b out i j g ca k
 | _=>pure (.done (some (jm a b out i j),out,i,j,g,ca,cb))
def LY (a b:Array Keyed) (out:Array Keyed) (i j g ca cb:Nat):SM (ForInStep L2):=do
 let x <- elem' b j
 if (j + 1 == b.size) = true then pure (.done (some (jm a b (out.push x) i (j + 1)),out.push x,i,j + 1,g,ca,cb))
 else MP a b (out.push x) i (j + 1) g ca cb
def Mg (a b:Array Keyed) (out:Array Keyed) (i j g ca cb:Nat):SM (ForInStep L2):=do
 uK g
 let x <- elem' b j
 match <- AY false x a i (a.size - i) 0 with
 | some k =>
  if k > 0 then
   if (i + k + 1 == a.size) = true then pure (.done (some (fin2 a b (out ++ a.extract i (i + k)) (i + k) j),out ++ a.extract i (i + k),i + k,j,g,k,cb))
   else if (i + k == a.size) = true then pure (.done (some (jm a b (out ++ a.extract i (i + k)) (i + k) j),out ++ a.extract i (i + k),i + k,j,g,k,cb))
   else LY a b (out ++ a.extract i (i + k)) (i + k) j g k cb
  else LY a b out i j g k cb
 | _=>pure (.done (some (jm a b out i j),out,i,j,g,ca,cb))
def NE (a b:Array Keyed) (out:Array Keyed) (i j g ca cb:Nat):SM (ForInStep L2):=if g > 1 then Mg a b out i j (g - 1) ca cb else Mg a b out i j g ca cb
def LO (a b:Array Keyed) (out:Array Keyed) (i j g:Nat):SM (ForInStep L3):=do
 let c <- forIn [0:a.size + b.size] ((none,out,i,j,0,0):L1) fun _ c=>lo1 a b g c.2.1 c.2.2.1 c.2.2.2.1 c.2.2.2.2.1 c.2.2.2.2.2
 match c.1 with
 | some r=>pure (.done (some r,c.2.1,c.2.2.1,c.2.2.2.1,g))
 | none=>do
  rule "list.sort.gallop"
  let d <- forIn [0:a.size + b.size] ((none,c.2.1,c.2.2.1,c.2.2.2.1,g + 1,c.2.2.2.2.1,c.2.2.2.2.2):L2) fun _ d=>NE a b d.2.1 d.2.2.1 d.2.2.2.1 d.2.2.2.2.1 d.2.2.2.2.2.1 d.2.2.2.2.2.2
  match d.1 with
  | some r=>pure (.done (some r,d.2.1,d.2.2.1,d.2.2.2.1,d.2.2.2.2.1))
  | none=>do
   uK (d.2.2.2.2.1 + 1)
   pure (.yield (none,d.2.1,d.2.2.1,d.2.2.2.1,d.2.2.2.2.1 + 1))
theorem GO (a b:Array Keyed):Lo a b = (do
  rule "list.sort.merge-lo"
  let tt:=a.size + b.size
  let mut out:Array Keyed:=#[<- elem' b 0]
  let mut i:=0
  let mut j:=1
  if j == b.size then return jm a b out i j
  if i + 1 == a.size then return fin2 a b out i j
  let mut g:=gallopOf (<- get)
  for _ in [0:tt] do
   let mut ca:=0
   let mut cb:=0
   for _ in [0:tt] do
    let some bw <- lt' (<- elem' b j) (<- elem' a i) | return jm a b out i j
    if bw then
     out:=out.push (<- elem' b j); j:=j + 1; cb:=cb + 1; ca:=0
     if j == b.size then return jm a b out i j
     if cb >= g then break
    else
     out:=out.push (<- elem' a i); i:=i + 1; ca:=ca + 1; cb:=0
     if i + 1 == a.size then return fin2 a b out i j
     if ca >= g then break
   rule "list.sort.gallop"
   g:=g + 1
   for _ in [0:tt] do
    if g > 1 then g:=g - 1
    uK g
    let some k <- AY false (<- elem' b j) a i (a.size - i) 0 | return jm a b out i j
    ca:=k
    if k > 0 then
     out:=out ++ a.extract i (i + k); i:=i + k
     if i + 1 == a.size then return fin2 a b out i j
     if i == a.size then return jm a b out i j
    out:=out.push (<- elem' b j); j:=j + 1
    if j == b.size then return jm a b out i j
    let some k <- AY true (<- elem' a i) b j (b.size - j) 0 | return jm a b out i j
    cb:=k
    if k > 0 then
     out:=out ++ b.extract j (j + k); j:=j + k
     if j == b.size then return jm a b out i j
    out:=out.push (<- elem' a i); i:=i + 1
    if i + 1 == a.size then return fin2 a b out i j
    if ca < 7 && cb < 7 then break
   g:=g + 1
   uK g
  unsupported "internal:list.sort.merge-bound"):=rfl
theorem DZ (a b:Array Keyed):Lo a b = (do
  rule "list.sort.merge-lo"
  let z <- elem' b 0
  if (1 == b.size) = true then pure (jm a b #[z] 0 1)
  else if (0 + 1 == a.size) = true then pure (fin2 a b #[z] 0 1)
  else do
   let st <- get
   let c <- forIn [0:a.size + b.size] ((none,#[z],0,1,gallopOf st):L3) fun _ c=>LO a b c.2.1 c.2.2.1 c.2.2.2.1 c.2.2.2.2
   match c.1 with
   | some r=>pure r
   | none=>unsupported "internal:list.sort.merge-bound"):=by
 rw [GO]
 refine WF fun _=>WF fun z=>?_
 refine ite_congr rfl (fun _=>rfl) (fun _=>?_)
 refine ite_congr rfl (fun _=>rfl) (fun _=>?_)
 refine WF fun st=>?_
 show (forIn _ _ _ >>= _) = (forIn _ _ _ >>= _)
 refine congr (W0 _ ?_) ?_
 ·refine W0 _ ?_
  funext x c
  rcases c with ⟨r,out,i,j,g⟩
  unfold LO
  show (forIn _ _ _ >>= _) = (forIn _ _ _ >>= _)
  refine WF fun d=>?_
  rcases d with ⟨_ | r,out,i,j,ca,cb⟩
  ·refine WF fun _=>?_
   show (forIn _ _ _ >>= _) = (forIn _ _ _ >>= _)
   refine WF fun e=>?_
   rcases e with ⟨_ | r,out,i,j,g,ca,cb⟩
   ·rfl
   ·rfl
  ·rfl
 ·funext c
  rcases c with ⟨_ | r,out,i,j,g⟩
  ·rfl
  ·rfl
abbrev gv (rk:Keyed->Nat) (l:List Keyed):Prop:=l.Pairwise fun x y=>rk x <= rk y
structure MI (rk:Keyed->Nat) (a b out:Array Keyed) (i j:Nat):Prop where
 hi:i <= a.size
 hj:j <= b.size
 sz:out.size = i + j
 p:(out.toList ++ (a.toList.drop i ++ b.toList.drop j)).Perm (a.toList ++ b.toList)
 s:gv rk out.toList
 ua:∀ x ∈ out.toList,∀ y ∈ a.toList.drop i,rk x <= rk y
 ub:∀ x ∈ out.toList,∀ y ∈ b.toList.drop j,rk x <= rk y
def Res (rk:Keyed->Nat) (a b r:Array Keyed):Prop:=r.toList.Perm (a.toList ++ b.toList) /\ gv rk r.toList
section
variable {rk:Keyed->Nat} {a b out:Array Keyed} {i j k:Nat}
theorem tW {l:List Keyed} {i:Nat} (h:i < l.length):l.drop i = l[i] :: l.drop (i + 1):=Yd h
theorem bT (a:Array Keyed) (i j:Nat):(a.extract i j).toList = (a.toList.drop i).take (j - i):=by
 rw [Array.toList_extract,List.extract_eq_drop_take]
theorem MI.vM (h:MI rk a b out i j) (sa:gv rk a.toList) (hk:i + k <= a.size) (hy:∀ x ∈ (a.toList.drop i).take k,∀ y ∈ b.toList.drop j,rk x <= rk y):MI rk a b (out ++ a.extract i (i + k)) (i + k) j:=by
 have e:(out ++ a.extract i (i + k)).toList = out.toList ++ (a.toList.drop i).take k:=by rw [WB,bT,Yr]
 have ed:(a.toList.drop i).take k ++ a.toList.drop (i + k) = a.toList.drop i:=by rw [<- Xg,XA]
 have ss:gv rk ((a.toList.drop i).take k ++ a.toList.drop (i + k)):=by rw [ed]; exact sa.sublist (Xt _ _)
 have BQ:=V9.mp ss
 refine ⟨hk,h.hj,by rw [Xj,XW,h.sz]; omega,?_,?_,?_,?_⟩
 ·rw [e,V6,<- V6 ((a.toList.drop i).take k),ed]
  exact h.p
 ·rw [e]
  exact V9.mpr ⟨h.s,BQ.1,fun x hx y hy=>h.ua x hx y (Xb hy)⟩
 ·intro x hx y hy
  rw [e] at hx
  rcases Wh.mp hx with z | z
  ·exact h.ua x z y (by rw [<- ed]; exact Wp _ hy)
  ·exact BQ.2.2 x z y hy
 ·intro x hx y hV
  rw [e] at hx
  rcases Wh.mp hx with z | z
  ·exact h.ub x z y hV
  ·exact hy x z y hV
theorem MI.vc (h:MI rk a b out i j) (sb:gv rk b.toList) (hk:j + k <= b.size) (hy:∀ x ∈ (b.toList.drop j).take k,∀ y ∈ a.toList.drop i,rk x <= rk y):MI rk a b (out ++ b.extract j (j + k)) i (j + k):=by
 have e:(out ++ b.extract j (j + k)).toList = out.toList ++ (b.toList.drop j).take k:=by rw [WB,bT,Yr]
 have ed:(b.toList.drop j).take k ++ b.toList.drop (j + k) = b.toList.drop j:=by rw [<- Xg,XA]
 have ss:gv rk ((b.toList.drop j).take k ++ b.toList.drop (j + k)):=by rw [ed]; exact sb.sublist (Xt _ _)
 have BQ:=V9.mp ss
 refine ⟨h.hi,hk,by rw [Xj,XW,h.sz]; omega,?_,?_,?_,?_⟩
 ·rw [e,V6]
  refine List.Perm.trans (XB _ ?_) h.p
  have e2:a.toList.drop i ++ b.toList.drop j = a.toList.drop i ++ ((b.toList.drop j).take k ++ b.toList.drop (j + k)):=by rw [ed]
  rw [e2,<- V6,<- V6]
  exact XX _ X0
 ·rw [e]
  exact V9.mpr ⟨h.s,BQ.1,fun x hx y hy=>h.ub x hx y (Xb hy)⟩
 ·intro x hx y hV
  rw [e] at hx
  rcases Wh.mp hx with z | z
  ·exact h.ua x z y hV
  ·exact hy x z y hV
 ·intro x hx y hy
  rw [e] at hx
  rcases Wh.mp hx with z | z
  ·exact h.ub x z y (by rw [<- ed]; exact Wp _ hy)
  ·exact BQ.2.2 x z y hy
theorem vx {a out:Array Keyed} {i:Nat} (h:i < a.size):out.push a[i] = out ++ a.extract i (i + 1):=by
 apply Array.toList_inj.mp
 rw [Array.toList_push,WB,bT,Yr,tW (l:=a.toList) (by simpa using h)]
 simp
theorem take1 {l:List Keyed} {i:Nat} (h:i < l.length):(l.drop i).take 1 = [l[i]]:=by rw [tW h]; rfl
theorem MI.tJ (h:MI rk a b out i j) (sa:gv rk a.toList) (hi:i < a.size) (hy:∀ y ∈ b.toList.drop j,rk a[i] <= rk y):MI rk a b (out.push a[i]) (i + 1) j:=by
 rw [vx hi]
 refine h.vM sa hi fun x hx y hV=>?_
 rw [take1 (by simpa using hi)] at hx
 rw [Wo.mp hx]
 simpa using hy y hV
theorem MI.sY (h:MI rk a b out i j) (sb:gv rk b.toList) (hj:j < b.size) (hy:∀ y ∈ a.toList.drop i,rk b[j] <= rk y):MI rk a b (out.push b[j]) i (j + 1):=by
 rw [vx hj]
 refine h.vc sb hj fun x hx y hV=>?_
 rw [take1 (by simpa using hj)] at hx
 rw [Wo.mp hx]
 simpa using hy y hV
theorem tm (a b out:Array Keyed) (i j:Nat):(jm a b out i j).toList = out.toList ++ (a.toList.drop i ++ b.toList.drop j):=by
 unfold jm
 rw [WB,WB,bT,bT,V6,V1 (by simp),V1 (by simp)]
theorem tG (a b out:Array Keyed) (i j:Nat):(fin2 a b out i j).toList = out.toList ++ (b.toList.drop j ++ a.toList.drop i):=by
 unfold fin2
 rw [WB,WB,bT,bT,V6,V1 (by simp),V1 (by simp)]
theorem MI.B5 (h:MI rk a b out i j) (sa:gv rk a.toList) (sb:gv rk b.toList) (e:i = a.size \/ j = b.size):Res rk a b (jm a b out i j):=by
 refine ⟨by rw [tm]; exact h.p,?_⟩
 rw [tm]
 refine V9.mpr ⟨h.s,V9.mpr ⟨sa.sublist (Xt _ _),sb.sublist (Xt _ _),?_⟩,fun x hx y hy=>?_⟩
 ·intro x hx y hy
  rcases e with e | e
  ·rw [e,List.drop_of_length_le (by simp)] at hx; cases hx
  ·rw [e,List.drop_of_length_le (by simp)] at hy; cases hy
 ·rcases Wh.mp hy with z | z
  ·exact h.ua x hx y z
  ·exact h.ub x hx y z
theorem MI.D6 (h:MI rk a b out i j) (sa:gv rk a.toList) (sb:gv rk b.toList) (e:i + 1 = a.size) (last:∀ y ∈ b.toList,∀ x,a.toList[a.size - 1]? = some x->rk y <= rk x):Res rk a b (fin2 a b out i j):=by
 refine ⟨by rw [tG]; exact (XB _ X0).trans h.p,?_⟩
 rw [tG]
 refine V9.mpr ⟨h.s,V9.mpr ⟨sb.sublist (Xt _ _),sa.sublist (Xt _ _),?_⟩,fun x hx y hy=>?_⟩
 ·intro y hy x hx
  have hl:i < a.toList.length:=by simp; omega
  rw [tW hl,List.drop_of_length_le (by simp; omega)] at hx
  have ex:x = a.toList[i]:=by simpa using hx
  refine last y (List.mem_of_mem_drop hy) x ?_
  rw [show a.size - 1 = i by omega,ex]
  exact VS hl
 ·rcases Wh.mp hy with z | z
  ·exact h.ub x hx y z
  ·exact h.ua x hx y z
theorem jn {l:List Keyed} (h:gv rk l) {i j:Nat} (Bh:i <= j) (hj:j < l.length):rk (l[i]'(by omega)) <= rk l[j]:=by
 by_cases e:i = j
 ·subst e; exact VP _
 ·exact List.pairwise_iff_getElem.mp h i j (by omega) hj (by omega)
theorem m7 {l:List Keyed} (h:gv rk l) {i:Nat} (hi:i < l.length):∀ y ∈ l.drop i,rk l[i] <= rk y:=fun y hy=>by
 obtain ⟨m,hm,rfl⟩:=W1.mp hy
 rw [XE]
 exact jn h (by omega) _
end
def Pb (rk:Keyed->Nat) (lf:Bool) (ky x:Keyed):Prop:=if lf = true then rk x < rk ky else rk x <= rk ky
section
variable {prog:Program} {w:World} {A:Around} {E:Value->Shared->Prop} {s:Shared} {rk:Keyed->Nat} {S:Keyed->Prop} {kd:SortKind}
theorem yP {lf:Bool} {ky:Keyed} {ar:Array Keyed} {bs i:Nat} (h:bs + i < ar.size):B rk lf ky ar bs i = true ↔ Pb rk lf ky (ar.toList[bs + i]'(by simpa using h)):=by
 unfold B Pb
 rw [getElem?_pos ar (bs + i) h]
 cases lf with
 | true=>simp
 | false=>simp
theorem kG {lf:Bool} {ky:Keyed} {ar:Array Keyed} {bs n h:Nat} {st:SortSt} {Q:Option Nat->SortSt->Prop} (hc:oB prog w A E s rk S kd) (hn:bs + n <= ar.size) (hh:h < n) (hS:∀ x ∈ ar.toList,S x) (hk:S ky) (kk:kindOf st = kd)
  (sr:gv rk ((ar.toList.drop bs).take n))
  (hq:∀ q,q <= n->(∀ x ∈ (ar.toList.drop bs).take q,Pb rk lf ky x)->(∀ x ∈ ((ar.toList.drop bs).take n).drop q,¬ Pb rk lf ky x)->Q (some q) st):wpS (model prog w) A E s (AY lf ky ar bs n h) Q st:=by
 have len:((ar.toList.drop bs).take n).length = n:=by rw [Wb,Yc,VW]; omega
 have seg:∀ i (hi:i < n),((ar.toList.drop bs).take n)[i]'(by omega) = ar.toList[bs + i]'(by rw [VW]; omega):=fun i hi=>by
  rw [X3,XE]
 have mono:∀ i j,i <= j->j < n->B rk lf ky ar bs j = true->B rk lf ky ar bs i = true:=fun i j Bh hj hb=>by
  have h1:=(yP (rk:=rk) (lf:=lf) (ky:=ky) (by omega:bs + j < ar.size)).mp hb
  refine (yP (by omega)).mpr ?_
  have h2:=jn sr Bh (by omega)
  rw [seg i (by omega),seg j hj] at h2
  unfold Pb at h1 ⊢
  cases lf with
  | true=>simp only [Xe] at h1 ⊢; omega
  | false=>simp only [Wc,WH] at h1 ⊢; omega
 refine Et hc hn hh hS hk kk mono fun q MM h1 h2=>hq q MM (fun x hx=>?_) (fun x hx=>?_)
 ·obtain ⟨m,hm,rfl⟩:=W1.mp hx
  have FK:m < q:=by rw [Wb] at hm; omega
  rw [X3,XE]
  exact (yP (by omega)).mp (h1 m FK)
 ·obtain ⟨m,hm,rfl⟩:=W1.mp hx
  have FK:q + m < n:=by rw [Yc,len] at hm; omega
  rw [XE,seg _ FK]
  intro z
  have:=h2 (q + m) (by omega) FK
  rw [(yP (by omega)).mpr z] at this
  cases this
def Gq (st aI:SortSt):Prop:=∃ g,aI = tS st g
theorem Gq.refl (st:SortSt):Gq st st:=⟨gallopOf st,rfl⟩
theorem Gq.set {st aI:SortSt} (h:Gq st aI) (g:Nat):Gq st (tS aI g):=by obtain ⟨_,rfl⟩:=h; exact ⟨g,rfl⟩
theorem Gq.kind {st aI:SortSt} (h:Gq st aI):kindOf aI = kindOf st:=by obtain ⟨_,rfl⟩:=h; rfl
theorem mL {g:Nat} {st:SortSt} {Q:Unit->SortSt->Prop} (h:Q () (tS st g)):wpS (model prog w) A E s (uK g) Q st:=X4 h
theorem bj {ar:Array Keyed} {i:Nat} {st:SortSt} {Q:Keyed->SortSt->Prop} (hi:i < ar.size) (h:Q ar[i] st):wpS (model prog w) A E s (elem' ar i) Q st:=by
 rw [elem'_eq,getElem?_pos ar i hi]
 exact V5 h
structure rT (rk:Keyed->Nat) (S:Keyed->Prop) (a b:Array Keyed):Prop where
 sa:gv rk a.toList
 sb:gv rk b.toList
 Sa:∀ x ∈ a.toList,S x
 Sb:∀ x ∈ b.toList,S x
 last:∀ y ∈ b.toList,∀ x,a.toList[a.size - 1]? = some x->rk y <= rk x
 first:∀ y ∈ a.toList,∀ x,b.toList[0]? = some x->rk x <= rk y
theorem rT.zf {a b:Array Keyed} (T:rT rk S a b) {i:Nat} (h:i < a.size):S a[i]:=T.Sa _ (by simp)
theorem rT.zI {a b:Array Keyed} (T:rT rk S a b) {i:Nat} (h:i < b.size):S b[i]:=T.Sb _ (by simp)
variable {a b:Array Keyed} {aR:SortSt}
def E1 (rk:Keyed->Nat) (a b:Array Keyed) (aR:SortSt) (n:Nat) (r:ForInStep L1) (aI:SortSt):Prop:=Gq aR aI /\ match r with
 | .done c=>(∃ z,c.1 = some z /\ Res rk a b z) \/ (c.1 = none /\ MI rk a b c.2.1 c.2.2.1 c.2.2.2.1 /\ c.2.2.1 + 1 < a.size /\ c.2.2.2.1 < b.size /\ n < c.2.1.size)
 | .yield c=>c.1 = none /\ MI rk a b c.2.1 c.2.2.1 c.2.2.2.1 /\ c.2.2.1 + 1 < a.size /\ c.2.2.2.1 < b.size /\ n < c.2.1.size
def E2 (rk:Keyed->Nat) (a b:Array Keyed) (aR:SortSt) (n:Nat) (r:ForInStep L2) (aI:SortSt):Prop:=Gq aR aI /\ match r with
 | .done c=>(∃ z,c.1 = some z /\ Res rk a b z) \/ (c.1 = none /\ MI rk a b c.2.1 c.2.2.1 c.2.2.2.1 /\ c.2.2.1 + 1 < a.size /\ c.2.2.2.1 < b.size /\ n < c.2.1.size)
 | .yield c=>c.1 = none /\ MI rk a b c.2.1 c.2.2.1 c.2.2.2.1 /\ c.2.2.1 + 1 < a.size /\ c.2.2.2.1 < b.size /\ n < c.2.1.size
theorem Eo {g:Nat} {out:Array Keyed} {i j ca cb n:Nat} {st:SortSt} (hc:oB prog w A E s rk S kd) (T:rT rk S a b) (gq:Gq aR st) (kk:kindOf aR = kd) (M:MI rk a b out i j) (hi:i + 1 < a.size) (hj:j < b.size) (hn:n <= out.size) :
  wpS (model prog w) A E s (lo1 a b g out i j ca cb) (E1 rk a b aR n) st:=by
 unfold lo1
 have rL:i < a.size:=by omega
 refine VX (bj hj (VX (bj rL (VX (hc _ _ st _ (T.zI hj) (T.zf rL) (gq.kind.trans kk) ?_)))))
 dsimp only
 by_cases hb:rk b[j] < rk a[i]
 ·rw [V0 hb,if_pos rfl]
  refine VX (bj hj ?_)
  have M':=M.sY T.sb hj fun y hy=>by
   have:=m7 T.sa (i:=i) (by simpa using rL) y hy
   simp at this
   omega
  by_cases e:(j + 1 == b.size) = true
  ·rw [if_pos e]
   exact V5 ⟨gq,.inl ⟨_,rfl,M'.B5 T.sa T.sb (.inr (by simpa using e))⟩⟩
  ·rw [if_neg e]
   have e':j + 1 ≠ b.size:=by simpa using e
   have rest:MI rk a b (out.push b[j]) i (j + 1) /\ i + 1 < a.size /\ j + 1 < b.size /\ n < (out.push b[j]).size:=⟨M',hi,by omega,by rw [Xw]; omega⟩
   split
   ·exact V5 ⟨gq,.inr ⟨rfl,rest⟩⟩
   ·exact V5 ⟨gq,rfl,rest⟩
 ·rw [We hb,if_neg VU]
  refine VX (bj rL ?_)
  have M':=M.tJ T.sa rL fun y hy=>by
   have:=m7 T.sb (i:=j) (by simpa using hj) y hy
   simp at this
   omega
  by_cases e:(i + 1 + 1 == a.size) = true
  ·rw [if_pos e]
   exact V5 ⟨gq,.inl ⟨_,rfl,M'.D6 T.sa T.sb (by simpa using e) T.last⟩⟩
  ·rw [if_neg e]
   have e':i + 1 + 1 ≠ a.size:=by simpa using e
   have rest:MI rk a b (out.push a[i]) (i + 1) j /\ i + 1 + 1 < a.size /\ j < b.size /\ n < (out.push a[i]).size:=⟨M',by omega,hj,by rw [Xw]; omega⟩
   split
   ·exact V5 ⟨gq,.inr ⟨rfl,rest⟩⟩
   ·exact V5 ⟨gq,rfl,rest⟩
theorem yz {out:Array Keyed} {i j g ca cb n:Nat} {st:SortSt} (T:rT rk S a b) (gq:Gq aR st) (M:MI rk a b out i j) (hi:i + 1 < a.size) (hj:j < b.size) (hn:n <= out.size) (ok:∀ y ∈ b.toList.drop j,rk (a[i]'(by omega)) <= rk y) :
  wpS (model prog w) A E s (Mh a b out i j g ca cb) (E2 rk a b aR n) st:=by
 unfold Mh
 have rL:i < a.size:=by omega
 refine VX (bj rL ?_)
 have M':=M.tJ T.sa rL ok
 by_cases e:(i + 1 + 1 == a.size) = true
 ·rw [if_pos e]
  exact V5 ⟨gq,.inl ⟨_,rfl,M'.D6 T.sa T.sb (by simpa using e) T.last⟩⟩
 ·rw [if_neg e]
  have e':i + 1 + 1 ≠ a.size:=by simpa using e
  have rest:MI rk a b (out.push a[i]) (i + 1) j /\ i + 1 + 1 < a.size /\ j < b.size /\ n < (out.push a[i]).size:=⟨M',by omega,hj,by rw [Xw]; omega⟩
  split
  ·exact V5 ⟨gq,.inr ⟨rfl,rest⟩⟩
  ·exact V5 ⟨gq,rfl,rest⟩
theorem qD (l:List Keyed) (i n:Nat) (h:n = l.length - i):(l.drop i).take n = l.drop i:=V1 (by rw [Yc]; omega)
theorem E9 {out:Array Keyed} {i j g ca cb n:Nat} {st:SortSt} (hc:oB prog w A E s rk S kd) (T:rT rk S a b) (gq:Gq aR st) (kk:kindOf aR = kd) (M:MI rk a b out i j) (hi:i + 1 < a.size) (hj:j < b.size) (hn:n <= out.size) :
  wpS (model prog w) A E s (MP a b out i j g ca cb) (E2 rk a b aR n) st:=by
 unfold MP
 have rL:i < a.size:=by omega
 have wd:(b.toList.drop j).take (b.size - j) = b.toList.drop j:=qD _ _ _ (by simp)
 refine VX (bj rL (VX (kG hc (by omega) (by omega) T.Sb (T.zf rL) (gq.kind.trans kk) (by rw [wd]; exact T.sb.sublist (Xt _ _)) fun k hk h1 h2=>?_)))
 rw [wd,Xg] at h2
 have fL:∀ y ∈ b.toList.drop (j + k),rk a[i] <= rk y:=fun y hy=>by
  have:=h2 y hy
  unfold Pb at this
  simp only [Xe] at this
  omega
 have c9:∀ x ∈ (b.toList.drop j).take k,∀ y ∈ a.toList.drop i,rk x <= rk y:=fun x hx y hy=>by
  have:=h1 x hx
  unfold Pb at this
  simp only [Xe] at this
  have:=m7 T.sa (i:=i) (by simpa using rL) y hy
  simp at this
  omega
 dsimp only
 by_cases BU:k > 0
 ·rw [if_pos BU]
  have M':=M.vc T.sb (k:=k) (by omega) c9
  by_cases e:(j + k == b.size) = true
  ·rw [if_pos e]
   exact V5 ⟨gq,.inl ⟨_,rfl,M'.B5 T.sa T.sb (.inr (by simpa using e))⟩⟩
  ·rw [if_neg e]
   have e':j + k ≠ b.size:=by simpa using e
   exact yz T gq M' hi (by omega) (by rw [Xj]; omega) fL
 ·rw [if_neg BU]
  have:k = 0:=by omega
  subst this
  exact yz T gq M hi hj hn fL
theorem yO {out:Array Keyed} {i j g ca cb n:Nat} {st:SortSt} (hc:oB prog w A E s rk S kd) (T:rT rk S a b) (gq:Gq aR st) (kk:kindOf aR = kd) (M:MI rk a b out i j) (hi:i + 1 < a.size) (hj:j < b.size) (hn:n <= out.size) (ok:∀ y ∈ a.toList.drop i,rk b[j] <= rk y) :
  wpS (model prog w) A E s (LY a b out i j g ca cb) (E2 rk a b aR n) st:=by
 unfold LY
 refine VX (bj hj ?_)
 have M':=M.sY T.sb hj ok
 by_cases e:(j + 1 == b.size) = true
 ·rw [if_pos e]
  exact V5 ⟨gq,.inl ⟨_,rfl,M'.B5 T.sa T.sb (.inr (by simpa using e))⟩⟩
 ·rw [if_neg e]
  have e':j + 1 ≠ b.size:=by simpa using e
  exact E9 hc T gq kk M' hi (by omega) (by rw [Xw]; omega)
theorem yA {out:Array Keyed} {i j g ca cb n:Nat} {st:SortSt} (hc:oB prog w A E s rk S kd) (T:rT rk S a b) (gq:Gq aR st) (kk:kindOf aR = kd) (M:MI rk a b out i j) (hi:i + 1 < a.size) (hj:j < b.size) (hn:n <= out.size) :
  wpS (model prog w) A E s (Mg a b out i j g ca cb) (E2 rk a b aR n) st:=by
 unfold Mg
 have wd:(a.toList.drop i).take (a.size - i) = a.toList.drop i:=qD _ _ _ (by simp)
 refine VX (mL (VX (bj hj (VX (kG hc (by omega) (by omega) T.Sa (T.zI hj) ((gq.set g).kind.trans kk) (by rw [wd]; exact T.sa.sublist (Xt _ _)) fun k hk h1 h2=>?_)))))
 have Go:=gq.set g
 rw [wd,Xg] at h2
 have fL:∀ y ∈ a.toList.drop (i + k),rk b[j] <= rk y:=fun y hy=>by
  have:=h2 y hy
  unfold Pb at this
  simp only [Wc,WH] at this
  omega
 have c9:∀ x ∈ (a.toList.drop i).take k,∀ y ∈ b.toList.drop j,rk x <= rk y:=fun x hx y hy=>by
  have:=h1 x hx
  unfold Pb at this
  simp only [Wc,WH] at this
  have:=m7 T.sb (i:=j) (by simpa using hj) y hy
  simp at this
  omega
 dsimp only
 by_cases BU:k > 0
 ·rw [if_pos BU]
  have M':=M.vM T.sa (k:=k) (by omega) c9
  by_cases e:(i + k + 1 == a.size) = true
  ·rw [if_pos e]
   exact V5 ⟨Go,.inl ⟨_,rfl,M'.D6 T.sa T.sb (by simpa using e) T.last⟩⟩
  ·rw [if_neg e]
   have e':i + k + 1 ≠ a.size:=by simpa using e
   by_cases f:(i + k == a.size) = true
   ·rw [if_pos f]
    exact V5 ⟨Go,.inl ⟨_,rfl,M'.B5 T.sa T.sb (.inl (by simpa using f))⟩⟩
   ·rw [if_neg f]
    have f':i + k ≠ a.size:=by simpa using f
    exact yO hc T Go kk M' (by omega) hj (by rw [Xj]; omega) fL
 ·rw [if_neg BU]
  have:k = 0:=by omega
  subst this
  exact yO hc T Go kk M hi hj hn fL
theorem ED {out:Array Keyed} {i j g ca cb n:Nat} {st:SortSt} (hc:oB prog w A E s rk S kd) (T:rT rk S a b) (gq:Gq aR st) (kk:kindOf aR = kd) (M:MI rk a b out i j) (hi:i + 1 < a.size) (hj:j < b.size) (hn:n <= out.size) :
  wpS (model prog w) A E s (NE a b out i j g ca cb) (E2 rk a b aR n) st:=by
 unfold NE
 split
 ·exact yA hc T gq kk M hi hj hn
 ·exact yA hc T gq kk M hi hj hn
end
section
variable {prog:Program} {w:World} {A:Around} {E:Value->Shared->Prop} {s:Shared} {rk:Keyed->Nat} {S:Keyed->Prop} {kd:SortKind} {a b:Array Keyed} {aR:SortSt}
def On (rk:Keyed->Nat) (a b:Array Keyed) (n:Nat) (out:Array Keyed) (i j:Nat):Prop:=MI rk a b out i j /\ i + 1 < a.size /\ j < b.size /\ n < out.size
theorem EL {out:Array Keyed} {i j g n:Nat} {st:SortSt} (hc:oB prog w A E s rk S kd) (T:rT rk S a b) (gq:Gq aR st) (kk:kindOf aR = kd) (M:MI rk a b out i j) (hi:i + 1 < a.size) (hj:j < b.size) (hn:n <= out.size) :
  wpS (model prog w) A E s (LO a b out i j g) (fun r aI=>Gq aR aI /\ match r with | .done c=>∃ z,c.1 = some z /\ Res rk a b z | .yield c=>c.1 = none /\ On rk a b n c.2.1 c.2.2.1 c.2.2.2.1) st:=by
 unfold LO
 refine VX (Xf (WU (I:=fun x (c:L1) aI=>Gq aR aI /\ c.1 = none /\ MI rk a b c.2.1 c.2.2.1 c.2.2.2.1 /\ c.2.2.1 + 1 < a.size /\ c.2.2.2.1 < b.size /\ n + min x 1 <= c.2.1.size)
  (Q:=fun (c:L1) aI=>Gq aR aI /\ ((∃ z,c.1 = some z /\ Res rk a b z) \/ (c.1 = none /\ On rk a b n c.2.1 c.2.2.1 c.2.2.2.1))) ?step ?fin ⟨gq,rfl,M,hi,hj,by simpa using hn⟩) ?post)
 case fin =>
  rintro c aI ⟨h1,h2,h3,h4,h5,h6⟩
  exact ⟨h1,.inr ⟨h2,h3,h4,h5,by omega⟩⟩
 case step =>
  rintro x c aI _ hx ⟨h1,h2,h3,h4,h5,h6⟩
  refine Xf (Eo hc T h1 kk h3 h4 h5 (VP _)) fun r bP hr=>?_
  obtain ⟨g1,g2⟩:=hr
  cases r with
  | done d =>
   rcases g2 with z | ⟨z1,z2,z3,z4,z5⟩
   ·exact ⟨g1,.inl z⟩
   ·exact ⟨g1,.inr ⟨z1,z2,z3,z4,by omega⟩⟩
  | yield d =>
   obtain ⟨z1,z2,z3,z4,z5⟩:=g2
   exact ⟨g1,z1,z2,z3,z4,by omega⟩
 case post =>
  rintro ⟨c1,out,i,j,ca,cb⟩ aI ⟨g1,h⟩
  rcases h with ⟨z,hz,hr⟩ | ⟨hz,h1,h2,h3,h4⟩
  ·have ph:c1 = some z:=hz
   subst ph
   exact V5 ⟨g1,z,rfl,hr⟩
  ·have ph:c1 = none:=hz
   subst ph
   dsimp only
   refine VX (wpS_lift (Xl ⟨rfl,?_⟩))
   refine VX (Xf (WU (I:=fun x (c:L2) aI=>Gq aR aI /\ c.1 = none /\ On rk a b n c.2.1 c.2.2.1 c.2.2.2.1)
    (Q:=fun (c:L2) aI=>Gq aR aI /\ ((∃ z,c.1 = some z /\ Res rk a b z) \/ (c.1 = none /\ On rk a b n c.2.1 c.2.2.1 c.2.2.2.1))) ?BG (fun c aI h=>⟨h.1,.inr h.2⟩) ⟨g1,rfl,h1,h2,h3,h4⟩) ?Dt)
   case BG =>
    rintro x c bP _ hx ⟨h1,h2,h3,h4,h5,h6⟩
    refine Xf (ED hc T h1 kk h3 h4 h5 (VP _)) fun r FW hr=>?_
    obtain ⟨g1,g2⟩:=hr
    cases r with
    | done d =>
     rcases g2 with z | ⟨z1,z2,z3,z4,z5⟩
     ·exact ⟨g1,.inl z⟩
     ·exact ⟨g1,.inr ⟨z1,z2,z3,z4,by omega⟩⟩
    | yield d =>
     obtain ⟨z1,z2,z3,z4,z5⟩:=g2
     exact ⟨g1,z1,z2,z3,z4,by omega⟩
   case Dt =>
    rintro ⟨c1,out,i,j,g,ca,cb⟩ bP ⟨g1,h⟩
    rcases h with ⟨z,hz,hr⟩ | ⟨hz,h1⟩
    ·have ph:c1 = some z:=hz
     subst ph
     exact V5 ⟨g1,z,rfl,hr⟩
    ·have ph:c1 = none:=hz
     subst ph
     exact VX (mL (V5 ⟨g1.set _,rfl,h1⟩))
theorem MI.zero (rk:Keyed->Nat) (a b:Array Keyed):MI rk a b #[] 0 0:=⟨Wl _,Wl _,rfl,by simp,.nil,fun x hx=>by simp at hx,fun x hx=>by simp at hx⟩
theorem D8 {st:SortSt} {Q:Array Keyed->SortSt->Prop} (hc:oB prog w A E s rk S kd) (T:rT rk S a b) (ha:1 <= a.size) (hb:1 <= b.size) (kk:kindOf st = kd) (h:∀ r aI,Gq st aI->Res rk a b r->Q r aI) :
  wpS (model prog w) A E s (Lo a b) Q st:=by
 rw [DZ]
 refine VX (wpS_lift (Xl ⟨rfl,?_⟩))
 refine VX (bj hb ?_)
 have e0:b.toList[0]? = some b[0]:=by rw [VS (show 0 < b.toList.length by rw [VW]; omega)]; simp
 have M:MI rk a b #[b[0]] 0 1:=(MI.zero rk a b).sY T.sb hb fun y hy=>T.first y (List.mem_of_mem_drop hy) _ e0
 by_cases e:(1 == b.size) = true
 ·rw [if_pos e]
  exact V5 (h _ _ (Gq.refl st) (M.B5 T.sa T.sb (.inr (by simpa using e))))
 rw [if_neg e]
 have e':1 ≠ b.size:=by simpa using e
 by_cases f:(0 + 1 == a.size) = true
 ·rw [if_pos f]
  exact V5 (h _ _ (Gq.refl st) (M.D6 T.sa T.sb (by simpa using f) T.last))
 rw [if_neg f]
 have f':0 + 1 ≠ a.size:=by simpa using f
 refine VX (wpS_get ?_)
 refine VX (Xf (WU (I:=fun x (c:L3) aI=>Gq st aI /\ c.1 = none /\ On rk a b x c.2.1 c.2.2.1 c.2.2.2.1)
  (Q:=fun (c:L3) aI=>Gq st aI /\ ∃ z,c.1 = some z /\ Res rk a b z) ?step ?fin ⟨Gq.refl st,rfl,M,(by show 0 + 1 < a.size; omega),(by show 1 < b.size; omega),by show 0 < 1; decide⟩) ?post)
 case fin =>
  rintro c aI ⟨h1,h2,h3,h4,h5,h6⟩
  have:=h3.sz
  omega
 case step =>
  rintro x c aI _ hx ⟨h1,h2,h3,h4,h5,h6⟩
  refine Xf (EL hc T h1 kk h3 h4 h5 (VP _)) fun r bP hr=>?_
  obtain ⟨g1,g2⟩:=hr
  cases r with
  | done d=>exact ⟨g1,g2⟩
  | yield d =>
   obtain ⟨z1,z2,z3,z4,z5⟩:=g2
   exact ⟨g1,z1,z2,z3,z4,by omega⟩
 case post =>
  rintro ⟨c1,out,i,j,g⟩ aI ⟨g1,z,hz,hr⟩
  have ph:c1 = some z:=hz
  subst ph
  exact V5 (h z aI g1 hr)
end
def Ml:Array Keyed->Array Keyed->SM (Array Keyed):=sortPriv% PySem.Builtin.mergeHi
def jA (a b out:Array Keyed) (i j:Nat):Array Keyed:=a.extract 0 i ++ b.extract 0 j ++ out.reverse
def qx (a b out:Array Keyed) (i j:Nat):Array Keyed:=b.extract 0 j ++ a.extract 0 i ++ out.reverse
abbrev H1:=Option (Array Keyed) × Nat × Nat × Array Keyed × Nat × Nat
abbrev H2:=Option (Array Keyed) × Nat × Nat × Array Keyed × Nat × Nat × Nat
abbrev H3:=Option (Array Keyed) × Nat × Nat × Array Keyed × Nat
theorem Hx (a b:Array Keyed):Ml a b = (do
  rule "list.sort.merge-hi"
  let tt:=a.size + b.size
  let mut i:=a.size - 1
  let mut j:=b.size
  let mut out:Array Keyed:=#[<- elem' a i]
  if i == 0 then return jA a b out i j
  if j == 1 then return qx a b out i j
  let mut g:=gallopOf (<- get)
  for _ in [0:tt] do
   let mut ca:=0
   let mut cb:=0
   for _ in [0:tt] do
    let some aw <- lt' (<- elem' b (j - 1)) (<- elem' a (i - 1)) | return jA a b out i j
    if aw then
     i:=i - 1; out:=out.push (<- elem' a i); ca:=ca + 1; cb:=0
     if i == 0 then return jA a b out i j
     if ca >= g then break
    else
     j:=j - 1; out:=out.push (<- elem' b j); cb:=cb + 1; ca:=0
     if j == 1 then return qx a b out i j
     if cb >= g then break
   rule "list.sort.gallop"
   g:=g + 1
   for _ in [0:tt] do
    if g > 1 then g:=g - 1
    uK g
    let some k7 <- AY false (<- elem' b (j - 1)) a 0 i (i - 1) | return jA a b out i j
    let k:=i - k7
    ca:=k
    if k > 0 then
     out:=out ++ (a.extract k7 i).reverse; i:=k7
     if i == 0 then return jA a b out i j
    j:=j - 1; out:=out.push (<- elem' b j)
    if j == 1 then return qx a b out i j
    let some at2 <- AY true (<- elem' a (i - 1)) b 0 j (j - 1) | return jA a b out i j
    let k:=j - at2
    cb:=k
    if k > 0 then
     out:=out ++ (b.extract at2 j).reverse; j:=at2
     if j == 1 then return qx a b out i j
     if j == 0 then return jA a b out i j
    i:=i - 1; out:=out.push (<- elem' a i)
    if i == 0 then return jA a b out i j
    if ca < 7 && cb < 7 then break
   g:=g + 1
   uK g
  unsupported "internal:list.sort.merge-bound"):=rfl
def Ox (a b:Array Keyed) (g i j:Nat) (out:Array Keyed) (ca cb:Nat):SM (ForInStep H1):=do
 let x <- elem' b (j - 1)
 let y <- elem' a (i - 1)
 match <- lt' x y with
 | some aw =>
  if aw = true then do
   let z <- elem' a (i - 1)
   if (i - 1 == 0) = true then pure (.done (some (jA a b (out.push z) (i - 1) j),i - 1,j,out.push z,ca + 1,0))
   else if ca + 1 >= g then pure (.done (none,i - 1,j,out.push z,ca + 1,0))
   else pure (.yield (none,i - 1,j,out.push z,ca + 1,0))
  else do
   let z <- elem' b (j - 1)
   if (j - 1 == 1) = true then pure (.done (some (qx a b (out.push z) i (j - 1)),i,j - 1,out.push z,0,cb + 1))
   else if cb + 1 >= g then pure (.done (none,i,j - 1,out.push z,0,cb + 1))
   else pure (.yield (none,i,j - 1,out.push z,0,cb + 1))
 | _=>pure (.done (some (jA a b out i j),i,j,out,ca,cb))
def L5 (a b:Array Keyed) (i j:Nat) (out:Array Keyed) (g ca cb:Nat):SM (ForInStep H2):=do
 let x <- elem' a (i - 1)
 if (i - 1 == 0) = true then pure (.done (some (jA a b (out.push x) (i - 1) j),i - 1,j,out.push x,g,ca,cb))
 else if (decide (ca < 7) && decide (cb < 7)) = true then pure (.done (none,i - 1,j,out.push x,g,ca,cb))
 else pure (.yield (none,i - 1,j,out.push x,g,ca,cb))
def NK (a b:Array Keyed) (i j:Nat) (out:Array Keyed) (g ca cb:Nat):SM (ForInStep H2):=do
 let x <- elem' a (i - 1)
 match <- AY true x b 0 j (j - 1) with
 | some t =>
  if j - t > 0 then
   if (t == 1) = true then pure (.done (some (qx a b (out ++ (b.extract t j).reverse) i t),i,t,out ++ (b.extract t j).reverse,g,ca,j - t))
   else if (t == 0) = true then pure (.done (some (jA a b (out ++ (b.extract t j).reverse) i t),i,t,out ++ (b.extract t j).reverse,g,ca,j - t))
   else L5 a b i t (out ++ (b.extract t j).reverse) g ca (j - t)
  else L5 a b i j out g ca (j - t)
 | _=>pure (.done (some (jA a b out i j),i,j,out,g,ca,cb))
def Lr (a b:Array Keyed) (i j:Nat) (out:Array Keyed) (g ca cb:Nat):SM (ForInStep H2):=do
 let x <- elem' b (j - 1)
 if (j - 1 == 1) = true then pure (.done (some (qx a b (out.push x) i (j - 1)),i,j - 1,out.push x,g,ca,cb))
 else NK a b i (j - 1) (out.push x) g ca cb
def Mc (a b:Array Keyed) (i j:Nat) (out:Array Keyed) (g ca cb:Nat):SM (ForInStep H2):=do
 uK g
 let x <- elem' b (j - 1)
 match <- AY false x a 0 i (i - 1) with
 | some t =>
  if i - t > 0 then
   if (t == 0) = true then pure (.done (some (jA a b (out ++ (a.extract t i).reverse) t j),t,j,out ++ (a.extract t i).reverse,g,i - t,cb))
   else Lr a b t j (out ++ (a.extract t i).reverse) g (i - t) cb
  else Lr a b i j out g (i - t) cb
 | _=>pure (.done (some (jA a b out i j),i,j,out,g,ca,cb))
def BI (a b:Array Keyed) (i j:Nat) (out:Array Keyed) (g ca cb:Nat):SM (ForInStep H2):=if g > 1 then Mc a b i j out (g - 1) ca cb else Mc a b i j out g ca cb
def LM (a b:Array Keyed) (i j:Nat) (out:Array Keyed) (g:Nat):SM (ForInStep H3):=do
 let c <- forIn [0:a.size + b.size] ((none,i,j,out,0,0):H1) fun _ c=>Ox a b g c.2.1 c.2.2.1 c.2.2.2.1 c.2.2.2.2.1 c.2.2.2.2.2
 match c.1 with
 | some r=>pure (.done (some r,c.2.1,c.2.2.1,c.2.2.2.1,g))
 | none=>do
  rule "list.sort.gallop"
  let d <- forIn [0:a.size + b.size] ((none,c.2.1,c.2.2.1,c.2.2.2.1,g + 1,c.2.2.2.2.1,c.2.2.2.2.2):H2) fun _ d=>BI a b d.2.1 d.2.2.1 d.2.2.2.1 d.2.2.2.2.1 d.2.2.2.2.2.1 d.2.2.2.2.2.2
  match d.1 with
  | some r=>pure (.done (some r,d.2.1,d.2.2.1,d.2.2.2.1,d.2.2.2.2.1))
  | none=>do
   uK (d.2.2.2.2.1 + 1)
   pure (.yield (none,d.2.1,d.2.2.1,d.2.2.2.1,d.2.2.2.2.1 + 1))
theorem Fz (a b:Array Keyed):Ml a b = (do
  rule "list.sort.merge-hi"
  let z <- elem' a (a.size - 1)
  if (a.size - 1 == 0) = true then pure (jA a b #[z] (a.size - 1) b.size)
  else if (b.size == 1) = true then pure (qx a b #[z] (a.size - 1) b.size)
  else do
   let st <- get
   let c <- forIn [0:a.size + b.size] ((none,a.size - 1,b.size,#[z],gallopOf st):H3) fun _ c=>LM a b c.2.1 c.2.2.1 c.2.2.2.1 c.2.2.2.2
   match c.1 with
   | some r=>pure r
   | none=>unsupported "internal:list.sort.merge-bound"):=by
 rw [Hx]
 refine WF fun _=>WF fun z=>?_
 refine ite_congr rfl (fun _=>rfl) (fun _=>?_)
 refine ite_congr rfl (fun _=>rfl) (fun _=>?_)
 refine WF fun st=>?_
 show (forIn _ _ _ >>= _) = (forIn _ _ _ >>= _)
 refine congr (W0 _ ?_) ?_
 ·refine W0 _ ?_
  funext x c
  rcases c with ⟨r,i,j,out,g⟩
  unfold LM
  show (forIn _ _ _ >>= _) = (forIn _ _ _ >>= _)
  refine WF fun d=>?_
  rcases d with ⟨_ | r,i,j,out,ca,cb⟩
  ·refine WF fun _=>?_
   show (forIn _ _ _ >>= _) = (forIn _ _ _ >>= _)
   refine WF fun e=>?_
   rcases e with ⟨_ | r,i,j,out,g,ca,cb⟩
   ·rfl
   ·rfl
  ·rfl
 ·funext c
  rcases c with ⟨_ | r,i,j,out,g⟩
  ·rfl
  ·rfl
structure MH (rk:Keyed->Nat) (a b out:Array Keyed) (i j:Nat):Prop where
 hi:i <= a.size
 hj:j <= b.size
 sz:out.size + i + j = a.size + b.size
 p:(a.toList.take i ++ (b.toList.take j ++ out.toList.reverse)).Perm (a.toList ++ b.toList)
 s:gv rk out.toList.reverse
 ua:∀ x ∈ a.toList.take i,∀ y ∈ out.toList,rk x <= rk y
 ub:∀ x ∈ b.toList.take j,∀ y ∈ out.toList,rk x <= rk y
section
variable {rk:Keyed->Nat} {a b out:Array Keyed} {i j k t:Nat}
theorem rl (l:List Keyed) {t i:Nat} (h:t <= i):l.take i = l.take t ++ (l.drop t).take (i - t):=by
 have e:i = t + (i - t):=by omega
 conv=>lhs; rw [e,List.take_add]
theorem MH.vM (h:MH rk a b out i j) (sa:gv rk a.toList) (ht:t <= i) (hy:∀ x ∈ b.toList.take j,∀ y ∈ (a.toList.drop t).take (i - t),rk x <= rk y):MH rk a b (out ++ (a.extract t i).reverse) t j:=by
 have e:(out ++ (a.extract t i).reverse).toList = out.toList ++ ((a.toList.drop t).take (i - t)).reverse:=by rw [WB,X6,bT]
 have er:(out ++ (a.extract t i).reverse).toList.reverse = (a.toList.drop t).take (i - t) ++ out.toList.reverse:=by rw [e,List.reverse_append,List.reverse_reverse]
 have ed:=rl a.toList ht
 have ss:gv rk (a.toList.take t ++ (a.toList.drop t).take (i - t)):=by rw [<- ed]; exact sa.sublist (Xi _ _)
 have BQ:=V9.mp ss
 have sz:=h.sz
 have hi:=h.hi
 refine ⟨by omega,h.hj,by rw [Xj,Array.size_reverse,XW]; omega,?_,?_,?_,?_⟩
 ·rw [er]
  refine List.Perm.trans ?_ h.p
  rw [ed,V6]
  refine XB _ ?_
  rw [<- V6,<- V6]
  exact XX _ X0
 ·rw [er]
  refine V9.mpr ⟨BQ.2.1,h.s,fun x hx y hV=>h.ua x ?_ y (by simpa using hV)⟩
  rw [ed]
  exact Wp _ hx
 ·intro x hx y hV
  rw [e] at hV
  rcases Wh.mp hV with z | z
  ·exact h.ua x (by rw [ed]; exact Xc _ hx) y z
  ·exact BQ.2.2 x hx y (by simpa using z)
 ·intro x hx y hV
  rw [e] at hV
  rcases Wh.mp hV with z | z
  ·exact h.ub x hx y z
  ·exact hy x hx y (by simpa using z)
theorem MH.vc (h:MH rk a b out i j) (sb:gv rk b.toList) (ht:t <= j) (hy:∀ x ∈ a.toList.take i,∀ y ∈ (b.toList.drop t).take (j - t),rk x <= rk y):MH rk a b (out ++ (b.extract t j).reverse) i t:=by
 have e:(out ++ (b.extract t j).reverse).toList = out.toList ++ ((b.toList.drop t).take (j - t)).reverse:=by rw [WB,X6,bT]
 have er:(out ++ (b.extract t j).reverse).toList.reverse = (b.toList.drop t).take (j - t) ++ out.toList.reverse:=by rw [e,List.reverse_append,List.reverse_reverse]
 have ed:=rl b.toList ht
 have ss:gv rk (b.toList.take t ++ (b.toList.drop t).take (j - t)):=by rw [<- ed]; exact sb.sublist (Xi _ _)
 have BQ:=V9.mp ss
 have sz:=h.sz
 have hj:=h.hj
 refine ⟨h.hi,by omega,by rw [Xj,Array.size_reverse,XW]; omega,?_,?_,?_,?_⟩
 ·rw [er,<- V6 (b.toList.take t),<- ed]
  exact h.p
 ·rw [er]
  refine V9.mpr ⟨BQ.2.1,h.s,fun x hx y hV=>h.ub x ?_ y (by simpa using hV)⟩
  rw [ed]
  exact Wp _ hx
 ·intro x hx y hV
  rw [e] at hV
  rcases Wh.mp hV with z | z
  ·exact h.ua x hx y z
  ·exact hy x hx y (by simpa using z)
 ·intro x hx y hV
  rw [e] at hV
  rcases Wh.mp hV with z | z
  ·exact h.ub x (by rw [ed]; exact Xc _ hx) y z
  ·exact BQ.2.2 x hx y (by simpa using z)
theorem wS {a out:Array Keyed} {i:Nat} (h0:0 < i) (h:i <= a.size):out.push (a[i - 1]'(by omega)) = out ++ (a.extract (i - 1) i).reverse:=by
 apply Array.toList_inj.mp
 rw [Array.toList_push,WB,X6,bT,show i - (i - 1) = 1 by omega,take1 (l:=a.toList) (by rw [VW]; omega)]
 simp
theorem MH.tJ (h:MH rk a b out i j) (sa:gv rk a.toList) (h0:0 < i) (hy:∀ x ∈ b.toList.take j,rk x <= rk (a[i - 1]'(by have:=h.hi; omega))):MH rk a b (out.push (a[i - 1]'(by have:=h.hi; omega))) (i - 1) j:=by
 have hi:=h.hi
 rw [wS h0 hi]
 refine h.vM sa (by omega) fun x hx y hV=>?_
 rw [show i - (i - 1) = 1 by omega,take1 (l:=a.toList) (by rw [VW]; omega)] at hV
 rw [Wo.mp hV]
 simpa using hy x hx
theorem MH.sY (h:MH rk a b out i j) (sb:gv rk b.toList) (h0:0 < j) (hy:∀ x ∈ a.toList.take i,rk x <= rk (b[j - 1]'(by have:=h.hj; omega))):MH rk a b (out.push (b[j - 1]'(by have:=h.hj; omega))) i (j - 1):=by
 have hj:=h.hj
 rw [wS h0 hj]
 refine h.vc sb (by omega) fun x hx y hV=>?_
 rw [show j - (j - 1) = 1 by omega,take1 (l:=b.toList) (by rw [VW]; omega)] at hV
 rw [Wo.mp hV]
 simpa using hy x hx
theorem sJ (a b out:Array Keyed) (i j:Nat):(jA a b out i j).toList = a.toList.take i ++ (b.toList.take j ++ out.toList.reverse):=by
 unfold jA
 rw [WB,WB,bT,bT,X6,V6]
 simp
theorem su (a b out:Array Keyed) (i j:Nat):(qx a b out i j).toList = b.toList.take j ++ (a.toList.take i ++ out.toList.reverse):=by
 unfold qx
 rw [WB,WB,bT,bT,X6,V6]
 simp
theorem MH.Ds (h:MH rk a b out i j) (sa:gv rk a.toList) (sb:gv rk b.toList) (e:i = 0 \/ j = 0):Res rk a b (jA a b out i j):=by
 refine ⟨by rw [sJ]; exact h.p,?_⟩
 rw [sJ]
 refine V9.mpr ⟨sa.sublist (Xi _ _),V9.mpr ⟨sb.sublist (Xi _ _),h.s,fun x hx y hy=>h.ub x hx y (by simpa using hy)⟩,fun x hx y hy=>?_⟩
 rcases Wh.mp hy with z | z
 ·rcases e with e | e
  ·rw [e] at hx; simp at hx
  ·rw [e] at z; simp at z
 ·exact h.ua x hx y (by simpa using z)
theorem MH.Ew (h:MH rk a b out i j) (sa:gv rk a.toList) (sb:gv rk b.toList) (e:j = 1) (first:∀ y ∈ a.toList,∀ x,b.toList[0]? = some x->rk x <= rk y):Res rk a b (qx a b out i j):=by
 have hj:=h.hj
 refine ⟨?_,?_⟩
 ·rw [su]
  refine List.Perm.trans ?_ h.p
  rw [<- V6,<- V6]
  exact XX _ X0
 ·rw [su]
  refine V9.mpr ⟨sb.sublist (Xi _ _),V9.mpr ⟨sa.sublist (Xi _ _),h.s,fun x hx y hy=>h.ua x hx y (by simpa using hy)⟩,fun x hx y hy=>?_⟩
  have OD:b.toList[0]? = some x:=by
   rw [e] at hx
   cases hb:b.toList with
   | nil=>rw [hb] at hx; simp at hx
   | cons z r=>rw [hb] at hx; simp at hx; rw [hx]; rfl
  rcases Wh.mp hy with z | z
  ·exact first y (Xb z) x OD
  ·exact h.ub x hx y (by simpa using z)
theorem nq {l:List Keyed} (h:gv rk l) {i:Nat} (h0:0 < i) (hi:i <= l.length):∀ y ∈ l.take i,rk y <= rk (l[i - 1]'(by omega)):=fun y hy=>by
 obtain ⟨m,hm,rfl⟩:=W1.mp hy
 have FK:m < i:=by rw [Wb] at hm; omega
 rw [X3]
 exact jn h (by omega) _
end
section
variable {prog:Program} {w:World} {A:Around} {E:Value->Shared->Prop} {s:Shared} {rk:Keyed->Nat} {S:Keyed->Prop} {kd:SortKind} {a b:Array Keyed} {aR:SortSt}
def Bc (rk:Keyed->Nat) (a b:Array Keyed) (n i j:Nat) (out:Array Keyed):Prop:=MH rk a b out i j /\ 0 < i /\ 1 < j /\ n < out.size
def F1 (rk:Keyed->Nat) (a b:Array Keyed) (aR:SortSt) (n:Nat) (r:ForInStep H1) (aI:SortSt):Prop:=Gq aR aI /\ match r with
 | .done c=>(∃ z,c.1 = some z /\ Res rk a b z) \/ (c.1 = none /\ Bc rk a b n c.2.1 c.2.2.1 c.2.2.2.1)
 | .yield c=>c.1 = none /\ Bc rk a b n c.2.1 c.2.2.1 c.2.2.2.1
def F2 (rk:Keyed->Nat) (a b:Array Keyed) (aR:SortSt) (n:Nat) (r:ForInStep H2) (aI:SortSt):Prop:=Gq aR aI /\ match r with
 | .done c=>(∃ z,c.1 = some z /\ Res rk a b z) \/ (c.1 = none /\ Bc rk a b n c.2.1 c.2.2.1 c.2.2.2.1)
 | .yield c=>c.1 = none /\ Bc rk a b n c.2.1 c.2.2.1 c.2.2.2.1
theorem Fm {out:Array Keyed} {g i j ca cb n:Nat} {st:SortSt} (hc:oB prog w A E s rk S kd) (T:rT rk S a b) (gq:Gq aR st) (kk:kindOf aR = kd) (M:MH rk a b out i j) (h0:0 < i) (h1:1 < j) (hn:n <= out.size) :
  wpS (model prog w) A E s (Ox a b g i j out ca cb) (F1 rk a b aR n) st:=by
 unfold Ox
 have hi:=M.hi
 have hj:=M.hj
 have qi:i - 1 < a.size:=by omega
 have qj:j - 1 < b.size:=by omega
 refine VX (bj qj (VX (bj qi (VX (hc _ _ st _ (T.zI qj) (T.zf qi) (gq.kind.trans kk) ?_)))))
 dsimp only
 by_cases hb:rk b[j - 1] < rk a[i - 1]
 ·rw [V0 hb,if_pos rfl]
  refine VX (bj qi ?_)
  have M':=M.tJ T.sa h0 fun x hx=>by
   have:=nq T.sb (i:=j) (by omega) (by simpa using hj) x hx
   simp at this
   omega
  by_cases e:(i - 1 == 0) = true
  ·rw [if_pos e]
   exact V5 ⟨gq,.inl ⟨_,rfl,M'.Ds T.sa T.sb (.inl (by simpa using e))⟩⟩
  ·rw [if_neg e]
   have e':i - 1 ≠ 0:=by simpa using e
   have rest:Bc rk a b n (i - 1) j (out.push a[i - 1]):=⟨M',by omega,h1,by rw [Xw]; omega⟩
   split
   ·exact V5 ⟨gq,.inr ⟨rfl,rest⟩⟩
   ·exact V5 ⟨gq,rfl,rest⟩
 ·rw [We hb,if_neg VU]
  refine VX (bj qj ?_)
  have M':=M.sY T.sb (by omega) fun x hx=>by
   have:=nq T.sa (i:=i) h0 (by simpa using hi) x hx
   simp at this
   omega
  by_cases e:(j - 1 == 1) = true
  ·rw [if_pos e]
   exact V5 ⟨gq,.inl ⟨_,rfl,M'.Ew T.sa T.sb (by simpa using e) T.first⟩⟩
  ·rw [if_neg e]
   have e':j - 1 ≠ 1:=by simpa using e
   have rest:Bc rk a b n i (j - 1) (out.push b[j - 1]):=⟨M',h0,by omega,by rw [Xw]; omega⟩
   split
   ·exact V5 ⟨gq,.inr ⟨rfl,rest⟩⟩
   ·exact V5 ⟨gq,rfl,rest⟩
theorem zA {out:Array Keyed} {i j g ca cb n:Nat} {st:SortSt} (T:rT rk S a b) (gq:Gq aR st) (M:MH rk a b out i j) (h0:0 < i) (h1:1 < j) (hn:n <= out.size) (ok:∀ x ∈ b.toList.take j,rk x <= rk (a[i - 1]'(by have:=M.hi; omega))) :
  wpS (model prog w) A E s (L5 a b i j out g ca cb) (F2 rk a b aR n) st:=by
 unfold L5
 have hi:=M.hi
 have qi:i - 1 < a.size:=by omega
 refine VX (bj qi ?_)
 have M':=M.tJ T.sa h0 ok
 by_cases e:(i - 1 == 0) = true
 ·rw [if_pos e]
  exact V5 ⟨gq,.inl ⟨_,rfl,M'.Ds T.sa T.sb (.inl (by simpa using e))⟩⟩
 ·rw [if_neg e]
  have e':i - 1 ≠ 0:=by simpa using e
  have rest:Bc rk a b n (i - 1) j (out.push a[i - 1]):=⟨M',by omega,h1,by rw [Xw]; omega⟩
  split
  ·exact V5 ⟨gq,.inr ⟨rfl,rest⟩⟩
  ·exact V5 ⟨gq,rfl,rest⟩
theorem vY (l:List Keyed) (t i:Nat):((l.drop 0).take i).drop t = (l.drop t).take (i - t):=by rw [List.drop_zero,List.drop_take]
theorem EJ {out:Array Keyed} {i j g ca cb n:Nat} {st:SortSt} (hc:oB prog w A E s rk S kd) (T:rT rk S a b) (gq:Gq aR st) (kk:kindOf aR = kd) (M:MH rk a b out i j) (h0:0 < i) (h1:1 < j) (hn:n <= out.size) :
  wpS (model prog w) A E s (NK a b i j out g ca cb) (F2 rk a b aR n) st:=by
 unfold NK
 have hi:=M.hi
 have hj:=M.hj
 have qi:i - 1 < a.size:=by omega
 refine VX (bj qi (VX (kG hc (by omega) (by omega) T.Sb (T.zf qi) (gq.kind.trans kk) (by rw [List.drop_zero]; exact T.sb.sublist (Xi _ _)) fun t ht g1 g2=>?_)))
 rw [vY] at g2
 rw [List.drop_zero] at g1
 have Ed:∀ x ∈ b.toList.take t,rk x <= rk a[i - 1]:=fun x hx=>by
  have:=g1 x hx
  unfold Pb at this
  simp only [Xe] at this
  omega
 have JX:∀ x ∈ a.toList.take i,∀ y ∈ (b.toList.drop t).take (j - t),rk x <= rk y:=fun x hx y hy=>by
  have:=g2 y hy
  unfold Pb at this
  simp only [Xe] at this
  have:=nq T.sa (i:=i) h0 (by simpa using hi) x hx
  simp at this
  omega
 dsimp only
 by_cases BU:j - t > 0
 ·rw [if_pos BU]
  have M':=M.vc T.sb ht JX
  by_cases e:(t == 1) = true
  ·rw [if_pos e]
   exact V5 ⟨gq,.inl ⟨_,rfl,M'.Ew T.sa T.sb (by simpa using e) T.first⟩⟩
  ·rw [if_neg e]
   have e':t ≠ 1:=by simpa using e
   by_cases f:(t == 0) = true
   ·rw [if_pos f]
    exact V5 ⟨gq,.inl ⟨_,rfl,M'.Ds T.sa T.sb (.inr (by simpa using f))⟩⟩
   ·rw [if_neg f]
    have f':t ≠ 0:=by simpa using f
    exact zA T gq M' h0 (by omega) (by rw [Xj]; omega) Ed
 ·rw [if_neg BU]
  have:t = j:=by omega
  subst this
  exact zA T gq M h0 h1 hn Ed
theorem zH {out:Array Keyed} {i j g ca cb n:Nat} {st:SortSt} (hc:oB prog w A E s rk S kd) (T:rT rk S a b) (gq:Gq aR st) (kk:kindOf aR = kd) (M:MH rk a b out i j) (h0:0 < i) (h1:1 < j) (hn:n <= out.size) (ok:∀ x ∈ a.toList.take i,rk x <= rk (b[j - 1]'(by have:=M.hj; omega))) :
  wpS (model prog w) A E s (Lr a b i j out g ca cb) (F2 rk a b aR n) st:=by
 unfold Lr
 have hj:=M.hj
 have qj:j - 1 < b.size:=by omega
 refine VX (bj qj ?_)
 have M':=M.sY T.sb (by omega) ok
 by_cases e:(j - 1 == 1) = true
 ·rw [if_pos e]
  exact V5 ⟨gq,.inl ⟨_,rfl,M'.Ew T.sa T.sb (by simpa using e) T.first⟩⟩
 ·rw [if_neg e]
  have e':j - 1 ≠ 1:=by simpa using e
  exact EJ hc T gq kk M' h0 (by omega) (by rw [Xw]; omega)
theorem yB {out:Array Keyed} {i j g ca cb n:Nat} {st:SortSt} (hc:oB prog w A E s rk S kd) (T:rT rk S a b) (gq:Gq aR st) (kk:kindOf aR = kd) (M:MH rk a b out i j) (h0:0 < i) (h1:1 < j) (hn:n <= out.size) :
  wpS (model prog w) A E s (Mc a b i j out g ca cb) (F2 rk a b aR n) st:=by
 unfold Mc
 have hi:=M.hi
 have hj:=M.hj
 have qj:j - 1 < b.size:=by omega
 refine VX (mL (VX (bj qj (VX (kG hc (by omega) (by omega) T.Sa (T.zI qj) ((gq.set g).kind.trans kk) (by rw [List.drop_zero]; exact T.sa.sublist (Xi _ _)) fun t ht g1 g2=>?_)))))
 have Go:=gq.set g
 rw [vY] at g2
 rw [List.drop_zero] at g1
 have Ed:∀ x ∈ a.toList.take t,rk x <= rk b[j - 1]:=fun x hx=>by
  have:=g1 x hx
  unfold Pb at this
  simpa using this
 have JX:∀ x ∈ b.toList.take j,∀ y ∈ (a.toList.drop t).take (i - t),rk x <= rk y:=fun x hx y hy=>by
  have:=g2 y hy
  unfold Pb at this
  simp only [Wc,WH] at this
  have:=nq T.sb (i:=j) (by omega) (by simpa using hj) x hx
  simp at this
  omega
 dsimp only
 by_cases BU:i - t > 0
 ·rw [if_pos BU]
  have M':=M.vM T.sa ht JX
  by_cases e:(t == 0) = true
  ·rw [if_pos e]
   exact V5 ⟨Go,.inl ⟨_,rfl,M'.Ds T.sa T.sb (.inl (by simpa using e))⟩⟩
  ·rw [if_neg e]
   have e':t ≠ 0:=by simpa using e
   exact zH hc T Go kk M' (by omega) h1 (by rw [Xj]; omega) Ed
 ·rw [if_neg BU]
  have:t = i:=by omega
  subst this
  exact zH hc T Go kk M h0 h1 hn Ed
theorem Fj {out:Array Keyed} {i j g ca cb n:Nat} {st:SortSt} (hc:oB prog w A E s rk S kd) (T:rT rk S a b) (gq:Gq aR st) (kk:kindOf aR = kd) (M:MH rk a b out i j) (h0:0 < i) (h1:1 < j) (hn:n <= out.size) :
  wpS (model prog w) A E s (BI a b i j out g ca cb) (F2 rk a b aR n) st:=by
 unfold BI
 split
 ·exact yB hc T gq kk M h0 h1 hn
 ·exact yB hc T gq kk M h0 h1 hn
theorem Fp {out:Array Keyed} {i j g n:Nat} {st:SortSt} (hc:oB prog w A E s rk S kd) (T:rT rk S a b) (gq:Gq aR st) (kk:kindOf aR = kd) (M:MH rk a b out i j) (h0:0 < i) (h1:1 < j) (hn:n <= out.size) :
  wpS (model prog w) A E s (LM a b i j out g) (fun r aI=>Gq aR aI /\ match r with | .done c=>∃ z,c.1 = some z /\ Res rk a b z | .yield c=>c.1 = none /\ Bc rk a b n c.2.1 c.2.2.1 c.2.2.2.1) st:=by
 unfold LM
 have hi:=M.hi
 have hj:=M.hj
 refine VX (Xf (WU (I:=fun x (c:H1) aI=>Gq aR aI /\ c.1 = none /\ MH rk a b c.2.2.2.1 c.2.1 c.2.2.1 /\ 0 < c.2.1 /\ 1 < c.2.2.1 /\ n + min x 1 <= c.2.2.2.1.size)
  (Q:=fun (c:H1) aI=>Gq aR aI /\ ((∃ z,c.1 = some z /\ Res rk a b z) \/ (c.1 = none /\ Bc rk a b n c.2.1 c.2.2.1 c.2.2.2.1))) ?step ?fin ⟨gq,rfl,M,h0,h1,by simpa using hn⟩) ?post)
 case fin =>
  rintro c aI ⟨h1,h2,h3,h4,h5,h6⟩
  exact ⟨h1,.inr ⟨h2,h3,h4,h5,by omega⟩⟩
 case step =>
  rintro x c aI _ hx ⟨h1,h2,h3,h4,h5,h6⟩
  refine Xf (Fm hc T h1 kk h3 h4 h5 (VP _)) fun r bP hr=>?_
  obtain ⟨g1,g2⟩:=hr
  cases r with
  | done d =>
   rcases g2 with z | ⟨z1,z2,z3,z4,z5⟩
   ·exact ⟨g1,.inl z⟩
   ·exact ⟨g1,.inr ⟨z1,z2,z3,z4,by omega⟩⟩
  | yield d =>
   obtain ⟨z1,z2,z3,z4,z5⟩:=g2
   exact ⟨g1,z1,z2,z3,z4,by omega⟩
 case post =>
  rintro ⟨c1,i,j,out,ca,cb⟩ aI ⟨g1,h⟩
  rcases h with ⟨z,hz,hr⟩ | ⟨hz,h1,h2,h3,h4⟩
  ·have ph:c1 = some z:=hz
   subst ph
   exact V5 ⟨g1,z,rfl,hr⟩
  ·have ph:c1 = none:=hz
   subst ph
   dsimp only
   refine VX (wpS_lift (Xl ⟨rfl,?_⟩))
   refine VX (Xf (WU (I:=fun x (c:H2) aI=>Gq aR aI /\ c.1 = none /\ Bc rk a b n c.2.1 c.2.2.1 c.2.2.2.1)
    (Q:=fun (c:H2) aI=>Gq aR aI /\ ((∃ z,c.1 = some z /\ Res rk a b z) \/ (c.1 = none /\ Bc rk a b n c.2.1 c.2.2.1 c.2.2.2.1))) ?BG (fun c aI h=>⟨h.1,.inr h.2⟩) ⟨g1,rfl,h1,h2,h3,h4⟩) ?Dt)
   case BG =>
    rintro x c bP _ hx ⟨h1,h2,h3,h4,h5,h6⟩
    refine Xf (Fj hc T h1 kk h3 h4 h5 (VP _)) fun r FW hr=>?_
    obtain ⟨g1,g2⟩:=hr
    cases r with
    | done d =>
     rcases g2 with z | ⟨z1,z2,z3,z4,z5⟩
     ·exact ⟨g1,.inl z⟩
     ·exact ⟨g1,.inr ⟨z1,z2,z3,z4,by omega⟩⟩
    | yield d =>
     obtain ⟨z1,z2,z3,z4,z5⟩:=g2
     exact ⟨g1,z1,z2,z3,z4,by omega⟩
   case Dt =>
    rintro ⟨c1,i,j,out,g,ca,cb⟩ bP ⟨g1,h⟩
    rcases h with ⟨z,hz,hr⟩ | ⟨hz,h1⟩
    ·have ph:c1 = some z:=hz
     subst ph
     exact V5 ⟨g1,z,rfl,hr⟩
    ·have ph:c1 = none:=hz
     subst ph
     exact VX (mL (V5 ⟨g1.set _,rfl,h1⟩))
theorem MH.zero (rk:Keyed->Nat) (a b:Array Keyed):MH rk a b #[] a.size b.size :=
 ⟨VP _,VP _,by simp,by rw [V1 (by simp),V1 (by simp)]; simp,by simp,fun x _ y hy=>by simp at hy,fun x _ y hy=>by simp at hy⟩
theorem Es {st:SortSt} {Q:Array Keyed->SortSt->Prop} (hc:oB prog w A E s rk S kd) (T:rT rk S a b) (ha:1 <= a.size) (hb:1 <= b.size) (kk:kindOf st = kd) (h:∀ r aI,Gq st aI->Res rk a b r->Q r aI) :
  wpS (model prog w) A E s (Ml a b) Q st:=by
 rw [Fz]
 refine VX (wpS_lift (Xl ⟨rfl,?_⟩))
 have qa:a.size - 1 < a.size:=by omega
 refine VX (bj qa ?_)
 have el:a.toList[a.size - 1]? = some a[a.size - 1]:=by rw [VS (show a.size - 1 < a.toList.length by rw [VW]; omega)]; simp
 have M:MH rk a b #[a[a.size - 1]] (a.size - 1) b.size:=(MH.zero rk a b).tJ T.sa ha fun x hx=>T.last x (Xb hx) _ el
 by_cases e:(a.size - 1 == 0) = true
 ·rw [if_pos e]
  exact V5 (h _ _ (Gq.refl st) (M.Ds T.sa T.sb (.inl (by simpa using e))))
 rw [if_neg e]
 have e':a.size - 1 ≠ 0:=by simpa using e
 by_cases f:(b.size == 1) = true
 ·rw [if_pos f]
  exact V5 (h _ _ (Gq.refl st) (M.Ew T.sa T.sb (by simpa using f) T.first))
 rw [if_neg f]
 have f':b.size ≠ 1:=by simpa using f
 refine VX (wpS_get ?_)
 refine VX (Xf (WU (I:=fun x (c:H3) aI=>Gq st aI /\ c.1 = none /\ Bc rk a b x c.2.1 c.2.2.1 c.2.2.2.1)
  (Q:=fun (c:H3) aI=>Gq st aI /\ ∃ z,c.1 = some z /\ Res rk a b z) ?step ?fin ⟨Gq.refl st,rfl,M,(by show 0 < a.size - 1; omega),(by show 1 < b.size; omega),by show 0 < 1; decide⟩) ?post)
 case fin =>
  rintro c aI ⟨h1,h2,h3,h4,h5,h6⟩
  have:=h3.sz
  omega
 case step =>
  rintro x c aI _ hx ⟨h1,h2,h3,h4,h5,h6⟩
  refine Xf (Fp hc T h1 kk h3 h4 h5 (VP _)) fun r bP hr=>?_
  obtain ⟨g1,g2⟩:=hr
  cases r with
  | done d=>exact ⟨g1,g2⟩
  | yield d =>
   obtain ⟨z1,z2,z3,z4,z5⟩:=g2
   exact ⟨g1,z1,z2,z3,z4,by omega⟩
 case post =>
  rintro ⟨c1,i,j,out,g⟩ aI ⟨g1,z,hz,hr⟩
  have ph:c1 = some z:=hz
  subst ph
  exact V5 (h z aI g1 hr)
end
abbrev sg (l:List Keyed) (lo n:Nat):List Keyed:=(l.drop lo).take n
def back (m:Array Keyed) (lo:Nat) (xs:Array Keyed):Array Keyed:=m.toList.zipIdx.foldl (fun a (p,j)=>a.setIfInBounds (lo + j) p) xs
theorem Ii (i:Nat):mergeAt' i = (do
  let s <- get
  let (some (sa,na,pw),some (sb,nb,_)):=((pendingOf s)[i]?,(pendingOf s)[i + 1]?) | unsupported "internal:list.sort.pending"
  set (setPending s (((pendingOf s).setIfInBounds i (sa,na + nb,pw)).eraseIdxIfInBounds (i + 1)))
  let some k <- AY false (<- elem' (arrOf s) sb) (arrOf s) sa na 0 | return false
  let (sa,na):=(sa + k,na - k)
  if na == 0 then return true
  let some nb <- AY true (<- elem' (arrOf s) (sa + na - 1)) (arrOf s) sb nb (nb - 1) | return false
  if nb == 0 then return true
  let x:=(arrOf s).extract sa sb
  let y:=(arrOf s).extract sb (sb + nb)
  let m <- if na <= nb then Lo x y else Ml x y
  modify fun s=>setArr s (back m sa (arrOf s))
  return (failedOf (<- get)).isNone):=rfl
theorem sx (lo:Nat):∀ (l:List Keyed) (n:Nat) (xs:Array Keyed),lo + n + l.length <= xs.size->((l.zipIdx n).foldl (fun a (p:Keyed × Nat)=>a.setIfInBounds (lo + p.2) p.1) xs).toList = xs.toList.take (lo + n) ++ l ++ xs.toList.drop (lo + n + l.length)
 | [],n,xs,h=>by simp
 | p :: l,n,xs,h=>by
  rw [WE] at h
  rw [List.zipIdx_cons,XC,sx lo l (n + 1) _ (by rw [Array.size_setIfInBounds]; omega),Array.toList_setIfInBounds]
  have hl:lo + n < xs.toList.length:=by rw [VW]; omega
  have e1:(xs.toList.set (lo + n) p).take (lo + (n + 1)) = xs.toList.take (lo + n) ++ [p]:=by
   rw [<- Nat.add_assoc,Wd,List.take_set_of_le (VP _),List.getElem?_set_self hl]
   rfl
  have e2:(xs.toList.set (lo + n) p).drop (lo + (n + 1) + l.length) = xs.toList.drop (lo + n + (p :: l).length):=by
   rw [List.drop_set_of_lt (by omega),WE]
   congr 1
   omega
  rw [e1,e2]
  simp
theorem Ae (m:Array Keyed) (lo:Nat) (xs:Array Keyed) (h:lo + m.size <= xs.size):(back m lo xs).toList = xs.toList.take lo ++ m.toList ++ xs.toList.drop (lo + m.size):=by
 have:=sx lo m.toList 0 xs (by simpa using h)
 simp at this
 unfold back
 rw [<- V6] at this
 exact this
theorem jh (l:List Keyed) (lo m n:Nat):sg l lo (m + n) = sg l lo m ++ sg l (lo + m) n:=by
 unfold sg
 rw [List.take_add,Xg]
theorem ug (l:List Keyed) (lo n:Nat):l = l.take lo ++ sg l lo n ++ l.drop (lo + n):=by
 unfold sg
 rw [V6,<- Xg,XA,XA]
theorem y9 (l:List Keyed) (lo k n:Nat) (h:k <= n):(sg l lo n).drop k = sg l (lo + k) (n - k):=by
 unfold sg
 rw [List.drop_take,Xg]
theorem fK (l:List Keyed) (lo n:Nat) (h:lo + n <= l.length):(sg l lo n).length = n:=by
 unfold sg
 rw [Wb,Yc]
 omega
theorem lC (l:List Keyed) (lo n i:Nat) (h:i < n):(sg l lo n)[i]? = l[lo + i]?:=by
 unfold sg
 rw [List.getElem?_take,if_pos h,List.getElem?_drop]
theorem Da {l:List Keyed} {lo n:Nat} {x:Keyed} (h:x ∈ sg l lo n):x ∈ l:=List.mem_of_mem_drop (Xb h)
theorem EW {rk:Keyed->Nat} {l:List Keyed} {lo n:Nat} {y:Keyed} (s:gv rk (sg l lo n)) (hy:l[lo]? = some y) (h:lo + n <= l.length):∀ x ∈ sg l lo n,rk y <= rk x:=fun x hx=>by
 obtain ⟨m,hm,e⟩:=W1.mp hx
 have h0:0 < (sg l lo n).length:=by omega
 have g0:(sg l lo n)[0]? = some y:=by
  rw [lC _ _ _ _ (by rw [fK l lo n h] at h0; exact h0)]
  exact hy
 have:=jn s (Wl m) hm
 rw [VS h0] at g0
 rw [WM g0,e] at this
 exact this
theorem zE {rk:Keyed->Nat} {l:List Keyed} {lo n:Nat} {y:Keyed} (s:gv rk (sg l lo n)) (hn:1 <= n) (hy:l[lo + n - 1]? = some y) (h:lo + n <= l.length):∀ x ∈ sg l lo n,rk x <= rk y:=fun x hx=>by
 obtain ⟨m,hm,e⟩:=W1.mp hx
 have len:=fK l lo n h
 have h0:n - 1 < (sg l lo n).length:=by omega
 have g0:(sg l lo n)[n - 1]? = some y:=by
  rw [lC _ _ _ _ (by omega),show lo + (n - 1) = lo + n - 1 by omega]
  exact hy
 have:=jn s (show m <= n - 1 by omega) h0
 rw [VS h0] at g0
 rw [WM g0,e] at this
 exact this
section
variable {prog:Program} {w:World} {A:Around} {E:Value->Shared->Prop} {s:Shared} {rk:Keyed->Nat} {S:Keyed->Prop} {kd:SortKind}
theorem DX {st aI:SortSt} {Q:PUnit->SortSt->Prop} (h:Q ⟨⟩ aI):wpS (model prog w) A E s (set aI:SM PUnit) Q st:=by
 unfold wpS
 exact VM ⟨rfl,h⟩
theorem Fo {i sa na pw sb nb IX:Nat} {st:SortSt} {Q:Bool->SortSt->Prop} (hc:oB prog w A E s rk S kd) (kk:kindOf st = kd) (hf:failedOf st = none) (hS:∀ x ∈ (arrOf st).toList,S x)
  (p1:(pendingOf st)[i]? = some (sa,na,pw)) (p2:(pendingOf st)[i + 1]? = some (sb,nb,IX)) (e:sb = sa + na) (n1:1 <= na) (n2:1 <= nb) (hsz:sb + nb <= (arrOf st).size)
  (s1:gv rk (sg (arrOf st).toList sa na)) (s2:gv rk (sg (arrOf st).toList sb nb))
  (h:∀ aI (l:List Keyed),kindOf aI = kd->failedOf aI = none->pendingOf aI = ((pendingOf st).setIfInBounds i (sa,na + nb,pw)).eraseIdxIfInBounds (i + 1)->l.Perm (sg (arrOf st).toList sa (na + nb))->gv rk l ->
   (arrOf aI).toList = (arrOf st).toList.take sa ++ l ++ (arrOf st).toList.drop (sa + (na + nb))->Q true aI):wpS (model prog w) A E s (mergeAt' i) Q st:=by
 rw [Ii]
 refine VX (wpS_get ?_)
 rw [p1,p2]
 dsimp only
 refine VX (DX ?_)
 have L:(arrOf st).toList.length = (arrOf st).size:=VW
 have qb:sb < (arrOf st).size:=by omega
 refine VX (bj qb (VX (kG hc (by omega) (by omega) hS (hS _ (by simp)) kk s1 fun k hk g1 g2=>?_)))
 dsimp only
 have ky:(arrOf st).toList[sb]? = some (arrOf st)[sb]:=by rw [VS (by rw [L]; exact qb)]; simp
 generalize (arrOf st)[sb] = y0 at ky g1 g2
 have Ed:∀ x ∈ sg (arrOf st).toList sa k,rk x <= rk y0:=fun x hx=>by
  have:=g1 x hx
  unfold Pb at this
  simpa using this
 have JX:∀ x ∈ sg (arrOf st).toList (sa + k) (na - k),rk y0 < rk x:=fun x hx=>by
  have:=g2 x (by rw [y9 _ _ _ _ hk]; exact hx)
  unfold Pb at this
  simpa using this
 have hd:=EW s2 ky (by rw [L]; omega)
 have eA:sg (arrOf st).toList sa na = sg (arrOf st).toList sa k ++ sg (arrOf st).toList (sa + k) (na - k):=by
  have:=jh (arrOf st).toList sa k (na - k)
  rw [show k + (na - k) = na by omega] at this
  exact this
 have PB:sg (arrOf st).toList sa (na + nb) = sg (arrOf st).toList sa na ++ sg (arrOf st).toList sb nb:=by rw [jh,e]
 have whole:∀ {aI:SortSt},kindOf aI = kd->failedOf aI = none->pendingOf aI = ((pendingOf st).setIfInBounds i (sa,na + nb,pw)).eraseIdxIfInBounds (i + 1)->arrOf aI = arrOf st->(∀ x ∈ sg (arrOf st).toList sa na,∀ y ∈ sg (arrOf st).toList sb nb,rk x <= rk y)->Q true aI:=fun {aI} a1 a2 a3 a4 a5=>by
  refine h aI (sg (arrOf st).toList sa (na + nb)) a1 a2 a3 (List.Perm.refl _) ?_ (by rw [a4]; exact ug _ _ _)
  rw [PB]
  exact V9.mpr ⟨s1,s2,a5⟩
 by_cases hz:(na - k == 0) = true
 ·rw [if_pos hz]
  have ph:na - k = 0:=by simpa using hz
  have:k = na:=by omega
  subst this
  exact V5 (whole kk hf rfl rfl fun x hx y hy=>VZ (Ed x hx) (hd y hy))
 rw [if_neg hz]
 have ph:na - k ≠ 0:=by simpa using hz
 have qa:sa + k + (na - k) - 1 < (arrOf st).size:=by omega
 refine VX (bj qa (VX (kG hc (by omega) (by omega) hS (hS _ (by simp)) kk s2 fun t ht g3 g4=>?_)))
 dsimp only
 have kl:(arrOf st).toList[sa + k + (na - k) - 1]? = some (arrOf st)[sa + k + (na - k) - 1]:=by rw [VS (by rw [L]; exact qa)]; simp
 generalize (arrOf st)[sa + k + (na - k) - 1] = y1 at kl g3 g4
 have R0:∀ x ∈ sg (arrOf st).toList sb t,rk x < rk y1:=fun x hx=>by
  have:=g3 x hx
  unfold Pb at this
  simpa using this
 have OK:∀ x ∈ sg (arrOf st).toList (sb + t) (nb - t),rk y1 <= rk x:=fun x hx=>by
  have:=g4 x (by rw [y9 _ _ _ _ ht]; exact hx)
  unfold Pb at this
  simpa using this
 have Qd:=zE s1 n1 (by rw [show sa + na - 1 = sa + k + (na - k) - 1 by omega]; exact kl) (by rw [L]; omega)
 have eB:sg (arrOf st).toList sb nb = sg (arrOf st).toList sb t ++ sg (arrOf st).toList (sb + t) (nb - t):=by
  have:=jh (arrOf st).toList sb t (nb - t)
  rw [show t + (nb - t) = nb by omega] at this
  exact this
 by_cases hy:(t == 0) = true
 ·rw [if_pos hy]
  have hV:t = 0:=by simpa using hy
  subst hV
  refine V5 (whole kk hf rfl rfl fun x hx y hy=>VZ (Qd x hx) (OK y ?_))
  simpa using hy
 rw [if_neg hy]
 have hV:t ≠ 0:=by simpa using hy
 have tX:((arrOf st).extract (sa + k) sb).toList = sg (arrOf st).toList (sa + k) (na - k):=by rw [bT,show sb - (sa + k) = na - k by omega]
 have tY:((arrOf st).extract sb (sb + t)).toList = sg (arrOf st).toList sb t:=by rw [bT,Yr]
 have zX:((arrOf st).extract (sa + k) sb).size = na - k:=by rw [XW]; omega
 have zY:((arrOf st).extract sb (sb + t)).size = t:=by rw [XW]; omega
 have pA:=V9.mp (eA ▸ s1)
 have pB:=V9.mp (eB ▸ s2)
 have T:rT rk S ((arrOf st).extract (sa + k) sb) ((arrOf st).extract sb (sb + t)):=by
  refine ⟨by rw [tX]; exact pA.2.1,by rw [tY]; exact pB.1,fun x hx=>hS x (Da (by rw [<- tX]; exact hx)),fun x hx=>hS x (Da (by rw [<- tY]; exact hx)),fun y hy x hx=>?_,fun y hy x hx=>?_⟩
  ·rw [tX,zX,lC _ _ _ _ (by omega),show sa + k + (na - k - 1) = sa + k + (na - k) - 1 by omega,kl] at hx
   rw [<- WM hx]
   exact X9 (R0 y (by rw [<- tY]; exact hy))
  ·rw [tY,lC _ _ _ _ (by omega),Nat.add_zero,ky] at hx
   rw [<- WM hx]
   exact X9 (JX y (by rw [<- tX]; exact hy))
 have fin:∀ (m:Array Keyed) (aI:SortSt),Gq (setPending st (((pendingOf st).setIfInBounds i (sa,na + nb,pw)).eraseIdxIfInBounds (i + 1))) aI->Res rk ((arrOf st).extract (sa + k) sb) ((arrOf st).extract sb (sb + t)) m ->
   wpS (model prog w) A E s (do modify fun s=>setArr s (back m (sa + k) (arrOf s)); return (failedOf (<- get)).isNone:SM Bool) Q aI:=by
  rintro m aI ⟨g,rfl⟩ ⟨mp,ms⟩
  rw [tX,tY] at mp
  have zm:m.size = (na - k) + t:=by
   have:=mp.length_eq
   rw [Wf,VW,fK _ _ _ (by rw [L]; omega),fK _ _ _ (by rw [L]; omega)] at this
   exact this
  refine VX (X4 (VX (wpS_get (V5 ?_))))
  have MO:(failedOf st).isNone = true:=by rw [hf]; rfl
  show Q (failedOf st).isNone _
  rw [MO]
  refine h _ (sg (arrOf st).toList sa k ++ m.toList ++ sg (arrOf st).toList (sb + t) (nb - t)) kk hf rfl ?_ ?_ ?_
  ·rw [PB,eA,eB]
   refine List.Perm.trans (XX _ (XB _ mp)) ?_
   simp
  ·refine V9.mpr ⟨V9.mpr ⟨pA.1,ms,fun x hx y hy=>?_⟩,pB.2.1,fun x hx y hy=>?_⟩
   ·rcases Wh.mp (mp.mem_iff.mp hy) with z | z
    ·exact pA.2.2 x hx y z
    ·exact VZ (Ed x hx) (hd y (by rw [eB]; exact Xc _ z))
   ·rcases Wh.mp hx with z | z
    ·exact VZ (Ed x z) (hd y (by rw [eB]; exact Wp _ hy))
    ·rcases Wh.mp (mp.mem_iff.mp z) with z | z
     ·exact VZ (Qd x (by rw [eA]; exact Wp _ z)) (OK y hy)
     ·exact pB.2.2 x z y hy
  ·show (back m (sa + k) (arrOf st)).toList = _
   rw [Ae _ _ _ (by omega),zm]
   have c1:(arrOf st).toList.take (sa + k) = (arrOf st).toList.take sa ++ sg (arrOf st).toList sa k:=List.take_add
   have c2:(arrOf st).toList.drop (sa + k + (na - k + t)) = sg (arrOf st).toList (sb + t) (nb - t) ++ (arrOf st).toList.drop (sa + (na + nb)):=by
    rw [show sa + k + (na - k + t) = sb + t by omega,show sa + (na + nb) = (sb + t) + (nb - t) by omega]
    unfold sg
    rw [<- Xg (i:=nb - t),XA]
   rw [c1,c2]
   simp
 split
 ·exact VX (D8 hc T (by rw [zX]; omega) (by rw [zY]; omega) kk fin)
 ·exact VX (Es hc T (by rw [zX]; omega) (by rw [zY]; omega) kk fin)
end
def kW (xs ys:List Keyed) (lo n:Nat):Prop:=∃ l:List Keyed,l.Perm (sg xs lo n) /\ ys = xs.take lo ++ l ++ xs.drop (lo + n)
theorem kW.refl (xs:List Keyed) (lo n:Nat):kW xs xs lo n:=⟨_,List.Perm.refl _,ug xs lo n⟩
theorem kW.len {xs ys:List Keyed} {lo n:Nat} (h:kW xs ys lo n):ys.length = xs.length:=by
 obtain ⟨l,hp,e⟩:=h
 have h1:=W0 List.length (ug xs lo n)
 rw [e,Wf,Wf,hp.length_eq]
 rw [Wf,Wf] at h1
 omega
theorem kW.perm {xs ys:List Keyed} {lo n:Nat} (h:kW xs ys lo n):ys.Perm xs:=by
 obtain ⟨l,hp,e⟩:=h
 rw [e]
 conv=>rhs; rw [ug xs lo n]
 exact XX _ (XB _ hp)
theorem kW.parts {xs ys l:List Keyed} {lo n:Nat} (hp:l.Perm (sg xs lo n)) (e:ys = xs.take lo ++ l ++ xs.drop (lo + n)) (h:lo + n <= xs.length):ys.take lo = xs.take lo /\ sg ys lo n = l /\ ys.drop (lo + n) = xs.drop (lo + n):=by
 have l1:(xs.take lo).length = lo:=by rw [Wb]; omega
 have l2:l.length = n:=by rw [hp.length_eq,fK xs lo n h]
 refine ⟨?_,?_,?_⟩
 ·rw [e,V6,List.take_left' l1]
 ·unfold sg
  rw [e,V6,List.drop_left' l1,List.take_left' l2]
 ·rw [e,<- Xg,V6,List.drop_left' l1,List.drop_left' l2]
theorem kW.ahead {xs ys:List Keyed} {lo n p m:Nat} (h:kW xs ys lo n) (hl:lo + n <= xs.length) (hp:p + m <= lo):sg ys p m = sg xs p m:=by
 obtain ⟨l,h1,e⟩:=h
 obtain ⟨e1,_,_⟩:=kW.parts h1 e hl
 have f:∀ zs:List Keyed,sg zs p m = sg (zs.take lo) p m:=fun zs=>by
  unfold sg
  rw [List.drop_take,List.take_take,Nat.min_eq_left (by omega)]
 rw [f ys,f xs,e1]
theorem kW.behind {xs ys:List Keyed} {lo n p m:Nat} (h:kW xs ys lo n) (hl:lo + n <= xs.length) (hp:lo + n <= p):sg ys p m = sg xs p m:=by
 obtain ⟨l,h1,e⟩:=h
 obtain ⟨_,_,e3⟩:=kW.parts h1 e hl
 have f:∀ zs:List Keyed,zs.drop p = (zs.drop (lo + n)).drop (p - (lo + n)):=fun zs=>by rw [Xg]; congr 1; omega
 unfold sg
 rw [f ys,f xs,e3]
theorem kW.trans {xs ys zs:List Keyed} {lo n m:Nat} (h1:kW xs ys lo n) (h2:kW ys zs lo m) (VI:n <= m) (hl:lo + m <= xs.length):kW xs zs lo m:=by
 obtain ⟨l1,p1,e1⟩:=h1
 obtain ⟨l2,p2,e2⟩:=h2
 obtain ⟨a1,a2,a3⟩:=kW.parts p1 e1 (by omega)
 refine ⟨l2,p2.trans ?_,?_⟩
 ·have b1:sg ys lo m = sg ys lo n ++ sg ys (lo + n) (m - n):=by rw [<- jh,show n + (m - n) = m by omega]
  have b2:sg xs lo m = sg xs lo n ++ sg xs (lo + n) (m - n):=by rw [<- jh,show n + (m - n) = m by omega]
  rw [b1,b2,a2]
  refine List.Perm.append p1 ?_
  unfold sg
  rw [a3]
 ·rw [e2,a1]
  congr 1
  have f:∀ zs:List Keyed,zs.drop (lo + m) = (zs.drop (lo + n)).drop (m - n):=fun zs=>by rw [Xg]; congr 1; omega
  rw [f ys,f xs,a3]
structure Sa (st aI:SortSt):Prop where
 k:kindOf aI = kindOf st
 f:failedOf aI = failedOf st
 p:pendingOf aI = pendingOf st
theorem Sa.refl (st:SortSt):Sa st st:=⟨rfl,rfl,rfl⟩
theorem Sa.set {st aI:SortSt} (h:Sa st aI) (xs:Array Keyed):Sa st (setArr aI xs):=⟨h.k,h.f,h.p⟩
theorem wq (xs:Array Keyed) (lo n:Nat) (h:lo + n <= xs.size):(mirror xs lo (lo + n) ((lo + n - lo) / 2)).toList = xs.toList.take lo ++ (sg xs.toList lo n).reverse ++ xs.toList.drop (lo + n):=by
 apply List.ext_getElem?
 intro k
 rw [WN,getElem?_mirror_all h]
 have L:xs.toList.length = xs.size:=VW
 have lt:(xs.toList.take lo).length = lo:=by rw [Wb]; omega
 have ls:(sg xs.toList lo n).length = n:=fK _ _ _ (by rw [L]; exact h)
 by_cases h1:k < lo
 ·rw [if_neg (by omega),V6,W4 (by omega),List.getElem?_take,if_pos h1,WN]
 by_cases h2:k < lo + n
 ·rw [if_pos ⟨by omega,h2⟩,V6,WD (by omega),lt,W4 (by rw [List.length_reverse]; omega),List.getElem?_reverse (by omega),ls,lC _ _ _ _ (by omega),WN]
  congr 1
  omega
 ·rw [if_neg (by omega),WD (by rw [Wf,List.length_reverse]; omega),Wf,List.length_reverse,lt,ls,List.getElem?_drop,WN]
  congr 1
  omega
theorem vI (xs:Array Keyed) (lo k l:Nat) (hl:l <= k) (h:lo + k < xs.size):(bubble xs (lo + k) (lo + k - (lo + l))).toList = xs.toList.take lo ++ (sg xs.toList lo l ++ (xs[lo + k]'h :: sg xs.toList (lo + l) (k - l))) ++ xs.toList.drop (lo + (k + 1)):=by
 apply List.ext_getElem?
 intro i
 rw [WN,getElem?_bubble h _ (by omega)]
 have L:xs.toList.length = xs.size:=VW
 have lt:(xs.toList.take lo).length = lo:=by rw [Wb]; omega
 have l1:(sg xs.toList lo l).length = l:=fK _ _ _ (by omega)
 have l2:(sg xs.toList (lo + l) (k - l)).length = k - l:=fK _ _ _ (by omega)
 by_cases h1:i < lo
 ·rw [if_neg (by omega),if_neg (by omega),V6,W4 (by omega),List.getElem?_take,if_pos h1,WN]
 by_cases h2:i < lo + l
 ·rw [if_neg (by omega),if_neg (by omega),V6,WD (by omega),lt,V6,W4 (by omega),lC _ _ _ _ (by omega),WN]
  congr 1
  omega
 by_cases h3:i = lo + l
 ·rw [if_pos (by omega),V6,WD (by omega),lt,V6,WD (by omega),l1,show i - lo - l = 0 by omega]
  simp
 by_cases h4:i <= lo + k
 ·rw [if_neg (by omega),if_pos (by omega),V6,WD (by omega),lt,V6,WD (by omega),l1,show i - lo - l = (i - lo - l - 1) + 1 by omega,List.cons_append,List.getElem?_cons_succ,W4 (by omega),lC _ _ _ _ (by omega),WN]
  congr 1
  omega
 ·rw [if_neg (by omega),if_neg (by omega),WD (by simp only [Wf,WE]; omega),Wf,Wf,WE,lt,l1,l2,List.getElem?_drop,WN]
  congr 1
  omega
section
variable {prog:Program} {w:World} {A:Around} {E:Value->Shared->Prop} {s:Shared} {rk:Keyed->Nat} {S:Keyed->Prop} {kd:SortKind}
theorem mn {st:SortSt} {i j:Nat} {Q:Option Bool->SortSt->Prop} (hc:oB prog w A E s rk S kd) (kk:kindOf st = kd) (hS:∀ x ∈ (arrOf st).toList,S x) (hi:i < (arrOf st).size) (hj:j < (arrOf st).size)
  (h:Q (some (decide (rk (arrOf st)[i] < rk (arrOf st)[j]))) st):wpS (model prog w) A E s (ltAt' i j) Q st:=by
 rw [ltAt'_eq]
 refine VX (wpS_get ?_)
 refine VX (bj hi (VX (bj hj ?_)))
 exact hc _ _ st Q (hS _ (by simp)) (hS _ (by simp)) kk h
theorem AD {lo n ok:Nat} {st:SortSt} {Q:Bool->SortSt->Prop} (hc:oB prog w A E s rk S kd) (kk:kindOf st = kd) (hS:∀ x ∈ (arrOf st).toList,S x) (hn:lo + n <= (arrOf st).size) (h1:1 <= ok) (ba:ok <= n) (s1:gv rk (sg (arrOf st).toList lo ok))
  (h:∀ aI,Sa st aI->kW (arrOf st).toList (arrOf aI).toList lo n->gv rk (sg (arrOf aI).toList lo n)->Q true aI):wpS (model prog w) A E s (binarySort' lo n ok) Q st:=by
 rw [binarySort'_eq]
 have L:(arrOf st).toList.length = (arrOf st).size:=VW
 refine VX (Xf (WU (I:=fun k c aI=>c = (none,()) /\ Sa st aI /\ (arrOf aI).size = (arrOf st).size /\ kW (arrOf st).toList (arrOf aI).toList lo (min k n) /\ gv rk (sg (arrOf aI).toList lo (min k n)))
  (Q:=fun c aI=>c = (none,()) /\ Sa st aI /\ kW (arrOf st).toList (arrOf aI).toList lo n /\ gv rk (sg (arrOf aI).toList lo n)) ?step ?fin ?init) ?post)
 case init=>exact ⟨rfl,Sa.refl st,rfl,kW.refl _ _ _,by rw [show min (max ok 1) n = ok by omega]; exact s1⟩
 case fin =>
  rintro c aI ⟨xc,sa,_,pt,so⟩
  rw [show min (max (max ok 1) n) n = n by omega] at pt so
  exact ⟨xc,sa,pt,so⟩
 case post =>
  rintro c aI ⟨rfl,sa,pt,so⟩
  exact V5 (h aI sa pt so)
 case step =>
  rintro k c aI Vp VA ⟨rfl,sa,sz,pt,so⟩
  rw [show min k n = k by omega] at pt so
  have L':(arrOf aI).toList.length = (arrOf aI).size:=VW
  have qk:lo + k < (arrOf aI).size:=by omega
  have uR:∀ x ∈ (arrOf aI).toList,S x:=fun x hx=>hS x (pt.perm.mem_iff.mp hx)
  have gk:∀ i (hi:i < k),(sg (arrOf aI).toList lo k)[i]'(by rw [fK _ _ _ (by omega)]; exact hi) = (arrOf aI)[lo + i]'(by omega):=fun i hi=>by
   unfold sg
   rw [X3,XE]
   simp
  refine VX (Xf (WU (I:=fun x c bP=>bP = aI /\ ∃ l r,c = (none,l,r) /\ l <= r /\ r <= k /\ r - l <= k - x /\ (∀ i (hi:i < k),i < l->rk ((arrOf aI)[lo + i]'(by omega)) <= rk (arrOf aI)[lo + k]) /\ (∀ i (hi:i < k),r <= i->rk (arrOf aI)[lo + k] <= rk ((arrOf aI)[lo + i]'(by omega))))
   (Q:=fun c bP=>bP = aI /\ ∃ l r,c = (none,l,r) /\ l <= k /\ (∀ i (hi:i < k),i < l->rk ((arrOf aI)[lo + i]'(by omega)) <= rk (arrOf aI)[lo + k]) /\ (∀ i (hi:i < k),l <= i->rk (arrOf aI)[lo + k] <= rk ((arrOf aI)[lo + i]'(by omega)))) ?Kg ?Nm ?Kr) ?Le)
  case Kr=>exact ⟨rfl,0,k,rfl,by omega,by omega,by omega,fun i hi h=>by omega,fun i hi h=>by omega⟩
  case Nm =>
   rintro c bP ⟨rfl,l,r,rfl,a1,a2,a3,a4,a5⟩
   have:l = r:=by omega
   subst this
   exact ⟨rfl,l,l,rfl,a2,a4,a5⟩
  case Kg =>
   rintro x c bP _ hx ⟨rfl,l,r,rfl,a1,a2,a3,a4,a5⟩
   dsimp only
   by_cases uQ:l >= r
   ·rw [if_pos uQ]
    have:l = r:=by omega
    subst this
    exact V5 ⟨rfl,l,l,rfl,a2,a4,a5⟩
   ·rw [if_neg uQ]
    have qm:lo + (l + r) / 2 < (arrOf bP).size:=by omega
    refine VX (mn hc (sa.k.trans kk) uR qk qm ?_)
    dsimp only
    by_cases hb:rk (arrOf bP)[lo + k] < rk (arrOf bP)[lo + (l + r) / 2]
    ·rw [V0 hb,if_pos rfl]
     refine V5 ⟨rfl,l,(l + r) / 2,rfl,by omega,by omega,by omega,a4,fun i hi hm=>?_⟩
     have:=jn so (show (l + r) / 2 <= i from hm) (by rw [fK _ _ _ (by omega)]; exact hi)
     rw [gk _ (by omega),gk i hi] at this
     omega
    ·rw [We hb,if_neg VU]
     refine V5 ⟨rfl,(l + r) / 2 + 1,r,rfl,by omega,by omega,by omega,fun i hi hm=>?_,a5⟩
     have:=jn so (show i <= (l + r) / 2 by omega) (by rw [fK _ _ _ (by omega)]; omega)
     rw [gk i hi,gk ((l + r) / 2) (by omega)] at this
     omega
  case Le =>
   rintro c bP ⟨rfl,l,r,rfl,a2,a4,a5⟩
   dsimp only
   rw [moveDown'_eq]
   refine VX (X4 (V5 ?_))
   have bl:=vI (arrOf bP) lo k l a2 qk
   have es:sg (arrOf bP).toList lo k = sg (arrOf bP).toList lo l ++ sg (arrOf bP).toList (lo + l) (k - l):=by rw [<- jh,show l + (k - l) = k by omega]
   have ek:sg (arrOf bP).toList (lo + k) 1 = [(arrOf bP)[lo + k]]:=by
    unfold sg
    rw [take1 (by rw [L']; exact qk)]
    simp
   have pm:(sg (arrOf bP).toList lo l ++ ((arrOf bP)[lo + k] :: sg (arrOf bP).toList (lo + l) (k - l))).Perm (sg (arrOf bP).toList lo (k + 1)):=by
    rw [jh,es,ek,V6]
    exact XB _ (X0 (l₁:=[(arrOf bP)[lo + k]]))
   have p2:kW (arrOf bP).toList (bubble (arrOf bP) (lo + k) (lo + k - (lo + l))).toList lo (k + 1):=⟨_,pm,bl⟩
   obtain ⟨_,b2,_⟩:=kW.parts pm bl (by omega)
   refine ⟨rfl,sa.set _,by show (bubble _ _ _).size = _; rw [bubble_size]; exact sz,?_,?_⟩
   ·rw [show min (k + 1) n = k + 1 by omega]
    exact pt.trans p2 (by omega) (by omega)
   ·rw [show min (k + 1) n = k + 1 by omega]
    show gv rk (sg (bubble _ _ _).toList lo (k + 1))
    rw [b2]
    rw [es] at so
    have pw:=V9.mp so
    refine V9.mpr ⟨pw.1,WG.mpr ⟨fun y hy=>?_,pw.2.1⟩,fun x hx y hy=>?_⟩
    ·obtain ⟨m,hm,e⟩:=W1.mp hy
     have FK:m < k - l:=by rw [fK _ _ _ (by omega)] at hm; exact hm
     have:y = (arrOf bP)[lo + (l + m)]'(by omega):=by
      rw [<- e]
      unfold sg
      rw [X3,XE]
      simp [Nat.add_assoc]
     rw [this]
     exact a5 (l + m) (by omega) (by omega)
    ·obtain ⟨m,hm,e⟩:=W1.mp hx
     have FK:m < l:=by rw [fK _ _ _ (by omega)] at hm; exact hm
     have ex:x = (arrOf bP)[lo + m]'(by omega):=by
      rw [<- e]
      unfold sg
      rw [X3,XE]
      simp
     rcases VT.mp hy with z | z
     ·rw [z,ex]
      exact a4 m (by omega) FK
     ·exact pw.2.2 x hx y z
end
theorem mT (xs:Array Keyed) (lo n:Nat) (h:lo + n < xs.size):sg xs.toList lo (n + 1) = sg xs.toList lo n ++ [xs[lo + n]]:=by
 rw [jh]
 congr 1
 unfold sg
 rw [take1 (by rw [VW]; exact h)]
 simp
theorem qw {rk:Keyed->Nat} (xs:Array Keyed) (lo n:Nat) (h:lo + n <= xs.size) (h1:1 <= n) (s:gv rk (sg xs.toList lo n)):∀ x ∈ sg xs.toList lo n,rk x <= rk (xs[lo + n - 1]'(by omega)) :=
 zE s h1 (by rw [VS (by rw [VW]; omega)]; simp) (by rw [VW]; exact h)
theorem Gr {rk:Keyed->Nat} {xs:Array Keyed} (nd:(xs.toList.map rk).Nodup) {i j:Nat} (hi:i < xs.size) (hj:j < xs.size) (Bh:i ≠ j):rk xs[i] ≠ rk xs[j]:=fun e=>by
 have h:=List.nodup_iff_pairwise_ne.mp nd
 rw [WK] at h
 rw [List.pairwise_iff_getElem] at h
 rcases Nat.lt_or_gt_of_ne Bh with z | z
 ·exact h i j (by rw [VW]; exact hi) (by rw [VW]; exact hj) z (by simpa using e)
 ·exact h j i (by rw [VW]; exact hj) (by rw [VW]; exact hi) z (by simpa using e.symm)
abbrev AS:=Option (Option Nat) × Nat
abbrev DS:=Option (Option Nat) × Nat × Nat
def asc (lo a bJ:Nat):SM AS:=forIn [a:bJ] ((none,a):AS) fun _ c=>do
 match <- ltAt' (lo + c.2) (lo + c.2 - 1) with
 | some sm=>if sm = true then pure (.done (none,c.2)) else pure (.yield (none,c.2 + 1))
 | _=>pure (.done (some none,c.2))
def Lj (lo a bJ:Nat):SM DS:=forIn [a:bJ] ((none,a,0):DS) fun _ c=>do
 match <- ltAt' (lo + c.2.1) (lo + c.2.1 - 1) with
 | some sm =>
  if sm = true then
   if c.2.2 > 0 then do
    reverseSlice' (lo + c.2.1 - (c.2.2 + 1)) (lo + c.2.1)
    pure (.yield (none,c.2.1 + 1,0))
   else pure (.yield (none,c.2.1 + 1,0))
  else do
   match <- ltAt' (lo + c.2.1 - 1) (lo + c.2.1) with
   | some lg=>if lg = true then pure (.done (none,c.2.1,c.2.2)) else pure (.yield (none,c.2.1 + 1,c.2.2 + 1))
   | _=>pure (.done (some none,c.2.1,c.2.2))
 | _=>pure (.done (some none,c.2.1,c.2.2))
def Bl (lo n bJ:Nat):SM (Option Nat):=do
 reverseSlice' lo (lo + n)
 let c <- asc lo n bJ
 match c.1 with
 | some r=>pure r
 | none=>pure (some c.2)
def KO (lo n bJ:Nat):SM (Option Nat):=do
 rule "list.sort.descending-run"
 let c <- Lj lo (n + 1) bJ
 match c.1 with
 | some r=>pure r
 | none =>
  if c.2.2 > 0 then do
   reverseSlice' (lo + c.2.1 - (c.2.2 + 1)) (lo + c.2.1)
   Bl lo c.2.1 bJ
  else Bl lo c.2.1 bJ
theorem Cz (lo bJ:Nat):countRun' lo bJ = (do
  let c <- asc lo 1 bJ
  match c.1 with
  | some r=>pure r
  | none =>
   if (c.2 == bJ) = true then pure (some c.2)
   else if c.2 > 1 then do
    match <- ltAt' lo (lo + c.2 - 1) with
    | some Js =>
     if Js = true then pure (some c.2)
     else do
      reverseSlice' lo (lo + c.2)
      KO lo c.2 bJ
    | _=>pure none
   else KO lo c.2 bJ):=by
 rw [countRun'_eq]
 show (asc lo 1 bJ >>= _) = (asc lo 1 bJ >>= _)
 refine WF fun c=>?_
 have t2:∀ n,(do
   reverseSlice' lo (lo + n)
   let c <- asc lo n bJ
   match c.1 with
   | some r=>pure r
   | none=>pure (some c.2):SM (Option Nat)) = Bl lo n bJ:=fun n=>rfl
 rcases c with ⟨_ | r,n⟩
 ·refine ite_congr rfl (fun _=>rfl) (fun _=>?_)
  have T1:∀ n,(do
    rule "list.sort.descending-run"
    let c <- Lj lo (n + 1) bJ
    match c.1 with
    | some r=>pure r
    | none =>
     if c.2.2 > 0 then do
      reverseSlice' (lo + c.2.1 - (c.2.2 + 1)) (lo + c.2.1)
      Bl lo c.2.1 bJ
     else Bl lo c.2.1 bJ:SM (Option Nat)) = KO lo n bJ:=fun n=>rfl
  have key:∀ (f:DS->SM (Option Nat)),(∀ r m q,f (some r,m,q) = pure r)->(∀ m q,f (none,m,q) = (if q > 0 then do
      reverseSlice' (lo + m - (q + 1)) (lo + m)
      Bl lo m bJ
     else Bl lo m bJ))->(do
    rule "list.sort.descending-run"
    let c <- Lj lo (n + 1) bJ
    f c) = KO lo n bJ:=fun f h1 h2=>by
   rw [<- T1 n]
   refine WF fun _=>WF fun c=>?_
   rcases c with ⟨_ | r,m,q⟩
   ·exact h2 m q
   ·exact h1 r m q
  have f2:∀ m q,(if q > 0 then (do
       reverseSlice' (lo + m - (q + 1)) (lo + m)
       Bl lo m bJ:SM (Option Nat)) else Bl lo m bJ) = (if q > 0 then do
      reverseSlice' (lo + m - (q + 1)) (lo + m)
      Bl lo m bJ
     else Bl lo m bJ):=fun _ _=>rfl
  refine ite_congr rfl (fun _=>?_) (fun _=>?_)
  ·refine WF fun x=>?_
   cases x with
   | none=>rfl
   | some Js =>
    refine ite_congr rfl (fun _=>rfl) (fun _=>?_)
    refine WF fun _=>?_
    refine key _ (fun r m q=>rfl) (fun m q=>?_)
    refine ite_congr rfl (fun _=>?_) (fun _=>?_)
    ·refine WF fun _=>WF fun _=>WF fun e=>?_
     rcases e with ⟨_ | r,n⟩
     ·rfl
     ·rfl
    ·refine WF fun _=>WF fun e=>?_
     rcases e with ⟨_ | r,n⟩
     ·rfl
     ·rfl
  ·refine key _ (fun r m q=>rfl) (fun m q=>?_)
   refine ite_congr rfl (fun _=>?_) (fun _=>?_)
   ·refine WF fun _=>WF fun _=>WF fun e=>?_
    rcases e with ⟨_ | r,n⟩
    ·rfl
    ·rfl
   ·refine WF fun _=>WF fun e=>?_
    rcases e with ⟨_ | r,n⟩
    ·rfl
    ·rfl
 ·rfl
section
variable {prog:Program} {w:World} {A:Around} {E:Value->Shared->Prop} {s:Shared} {rk:Keyed->Nat} {S:Keyed->Prop} {kd:SortKind}
theorem zi {lo a bJ:Nat} {st:SortSt} {Q:AS->SortSt->Prop} (hc:oB prog w A E s rk S kd) (kk:kindOf st = kd) (hS:∀ x ∈ (arrOf st).toList,S x) (h1:1 <= a) (ha:a <= bJ) (hn:lo + bJ <= (arrOf st).size) (s1:gv rk (sg (arrOf st).toList lo a))
  (h:∀ n,a <= n->n <= bJ->gv rk (sg (arrOf st).toList lo n)->(∀ iz:n < bJ,rk ((arrOf st)[lo + n]'(by omega)) < rk ((arrOf st)[lo + n - 1]'(by omega)))->Q (none,n) st):wpS (model prog w) A E s (asc lo a bJ) Q st:=by
 unfold asc
 refine WU (I:=fun x c aI=>aI = st /\ c = (none,x) /\ x <= bJ /\ gv rk (sg (arrOf st).toList lo x)) ?step ?fin ⟨rfl,rfl,ha,s1⟩
 case fin =>
  rintro c aI ⟨rfl,rfl,hx,hs⟩
  rw [show max a bJ = bJ by omega] at hs ⊢
  exact h bJ ha (VP _) hs fun iz=>by omega
 case step =>
  rintro x c aI Oi hx ⟨rfl,rfl,_,hs⟩
  dsimp only
  refine VX (mn hc kk hS (by omega) (by omega) ?_)
  dsimp only
  by_cases hb:rk ((arrOf aI)[lo + x]'(by omega)) < rk ((arrOf aI)[lo + x - 1]'(by omega))
  ·rw [V0 hb,if_pos rfl]
   exact V5 (h x Oi (by omega) hs fun _=>hb)
  ·rw [We hb,if_neg VU]
   refine V5 ⟨rfl,rfl,by omega,?_⟩
   rw [mT _ _ _ (by omega)]
   refine V9.mpr ⟨hs,Ys _ _,fun y hy z hz=>?_⟩
   rw [Wo.mp hz]
   have:=qw (arrOf aI) lo x (by omega) (by omega) hs y hy
   omega
theorem DU {lo a bJ:Nat} {st:SortSt} {Q:DS->SortSt->Prop} (hc:oB prog w A E s rk S kd) (kk:kindOf st = kd) (hS:∀ x ∈ (arrOf st).toList,S x) (nd:((arrOf st).toList.map rk).Nodup) (h1:1 <= a) (ha:a <= bJ) (hn:lo + bJ <= (arrOf st).size)
  (s1:gv rk (sg (arrOf st).toList lo a).reverse) (h:∀ n,a <= n->n <= bJ->gv rk (sg (arrOf st).toList lo n).reverse->Q (none,n,0) st):wpS (model prog w) A E s (Lj lo a bJ) Q st:=by
 unfold Lj
 refine WU (I:=fun x c aI=>aI = st /\ c = (none,x,0) /\ x <= bJ /\ gv rk (sg (arrOf st).toList lo x).reverse) ?step ?fin ⟨rfl,rfl,ha,s1⟩
 case fin =>
  rintro c aI ⟨rfl,rfl,hx,hs⟩
  rw [show max a bJ = bJ by omega] at hs ⊢
  exact h bJ ha (VP _) hs
 case step =>
  rintro x c aI Oi hx ⟨rfl,rfl,_,hs⟩
  dsimp only
  refine VX (mn hc kk hS (by omega) (by omega) ?_)
  dsimp only
  by_cases hb:rk ((arrOf aI)[lo + x]'(by omega)) < rk ((arrOf aI)[lo + x - 1]'(by omega))
  ·rw [V0 hb,if_pos rfl,if_neg (by omega)]
   refine V5 ⟨rfl,rfl,by omega,?_⟩
   rw [mT _ _ _ (by omega),List.reverse_append]
   refine WG.mpr ⟨fun y hy=>?_,hs⟩
   obtain ⟨m,hm⟩:∃ m,x = m + 1:=⟨x - 1,by omega⟩
   subst hm
   rw [mT _ _ _ (by omega),List.reverse_append] at hs hy
   have hp:=WG.mp hs
   have e:lo + (m + 1) - 1 = lo + m:=by omega
   have Bj:rk ((arrOf aI)[lo + (m + 1)]'(by omega)) < rk ((arrOf aI)[lo + m]'(by omega)):=by
    have:=hb
    simp only [e] at this
    exact this
   rcases VT.mp hy with z | z
   ·rw [z]; exact X9 Bj
   ·exact VZ (X9 Bj) (hp.1 y z)
  ·rw [We hb,if_neg VU]
   refine VX (mn hc kk hS (by omega) (by omega) ?_)
   dsimp only
   have rM:=Gr nd (show lo + x < (arrOf aI).size by omega) (show lo + x - 1 < (arrOf aI).size by omega) (by omega)
   rw [V0 (show rk ((arrOf aI)[lo + x - 1]'(by omega)) < rk ((arrOf aI)[lo + x]'(by omega)) by omega),if_pos rfl]
   exact V5 (h x Oi (by omega) hs)
theorem Ci {lo bJ:Nat} {st:SortSt} {Q:Option Nat->SortSt->Prop} (hc:oB prog w A E s rk S kd) (kk:kindOf st = kd) (hS:∀ x ∈ (arrOf st).toList,S x) (nd:((arrOf st).toList.map rk).Nodup) (h1:1 <= bJ) (hn:lo + bJ <= (arrOf st).size)
  (h:∀ n aI,1 <= n->n <= bJ->Sa st aI->kW (arrOf st).toList (arrOf aI).toList lo n->gv rk (sg (arrOf aI).toList lo n)->Q (some n) aI):wpS (model prog w) A E s (countRun' lo bJ) Q st:=by
 rw [Cz]
 have L:(arrOf st).toList.length = (arrOf st).size:=VW
 have one:∀ (xs:Array Keyed) (p:Nat),gv rk (sg xs.toList p 1):=fun xs p=>by
  unfold sg
  cases hd:xs.toList.drop p with
  | nil=>exact .nil
  | cons y r=>exact Ys _ _
 refine VX (zi hc kk hS (VP _) h1 hn (one _ _) fun n n1 n2 s1 brk=>?_)
 dsimp only
 by_cases e:(n == bJ) = true
 ·rw [if_pos e]
  exact V5 (h n st n1 n2 (Sa.refl st) (kW.refl _ _ _) s1)
 rw [if_neg e]
 have e':n ≠ bJ:=by simpa using e
 by_cases Ly:n > 1
 ·rw [if_pos Ly]
  refine VX (mn hc kk hS (by omega) (by omega) ?_)
  have hle:rk ((arrOf st)[lo]'(by omega)) <= rk ((arrOf st)[lo + n - 1]'(by omega)):=by
   refine qw (arrOf st) lo n (by omega) n1 s1 _ ?_
   obtain ⟨m,hm⟩:∃ m,n = 1 + m:=⟨n - 1,by omega⟩
   rw [hm,jh]
   refine Xc _ ?_
   unfold sg
   rw [take1 (by rw [L]; omega)]
   simp
  have rM:=Gr nd (show lo < (arrOf st).size by omega) (show lo + n - 1 < (arrOf st).size by omega) (by omega)
  dsimp only
  rw [V0 (show rk ((arrOf st)[lo]'(by omega)) < rk ((arrOf st)[lo + n - 1]'(by omega)) by omega),if_pos rfl]
  exact V5 (h n st n1 n2 (Sa.refl st) (kW.refl _ _ _) s1)
 rw [if_neg Ly]
 have:n = 1:=by omega
 subst this
 unfold KO
 refine VX (wpS_lift (Xl ⟨rfl,?_⟩))
 have b1:=brk (by omega)
 have s2:gv rk (sg (arrOf st).toList lo 2).reverse:=by
  rw [mT _ _ 1 (by omega),mT _ _ 0 (by omega)]
  have e0:sg (arrOf st).toList lo 0 = []:=by unfold sg; simp
  rw [e0]
  refine WG.mpr ⟨fun y hy=>?_,Ys _ _⟩
  have hV:y = (arrOf st)[lo + 0]'(by omega):=by simpa using hy
  rw [hV]
  have:=b1
  simp only [Nat.add_sub_cancel] at this
  exact X9 this
 refine VX (DU hc kk hS nd (by omega) (by omega) hn s2 fun m m1 m2 s3=>?_)
 dsimp only
 rw [if_neg (by omega)]
 unfold Bl
 rw [reverseSlice'_eq]
 refine VX (X4 ?_)
 have ml:=wq (arrOf st) lo m (by omega)
 have pm:(sg (arrOf st).toList lo m).reverse.Perm (sg (arrOf st).toList lo m):=List.reverse_perm _
 have pt:kW (arrOf st).toList (mirror (arrOf st) lo (lo + m) ((lo + m - lo) / 2)).toList lo m:=⟨_,pm,ml⟩
 obtain ⟨_,p2,_⟩:=kW.parts pm ml (by omega)
 have S1:(mirror (arrOf st) lo (lo + m) ((lo + m - lo) / 2)).size = (arrOf st).size:=mirror_size _ _ _ _
 refine VX (zi (st:=setArr st (mirror (arrOf st) lo (lo + m) ((lo + m - lo) / 2))) hc kk (fun x hx=>hS x (pt.perm.mem_iff.mp hx)) (by omega) m2 (by show lo + bJ <= (mirror _ _ _ _).size; rw [S1]; exact hn) (by rw [p2]; exact s3) fun n n1 n2 s4 _=>?_)
 dsimp only
 refine V5 (h n _ (by omega) n2 ((Sa.refl st).set _) ?_ s4)
 exact pt.trans (kW.refl _ _ _) n1 (by omega)
end
def Ch:Nat->List (Nat × Nat)->Nat->Prop
 | a,[],b=>a = b
 | a,x :: r,b=>x.1 = a /\ 1 <= x.2 /\ Ch (a + x.2) r b
theorem Ch.le:∀ {p:List (Nat × Nat)} {a b:Nat},Ch a p b->a + p.length <= b
 | [],a,b,h=>by cases h; simp
 | x :: r,a,b,h=>by have:=h.2.2.le; have:=h.2.1; simp only [WE]; omega
theorem Ch.app:∀ {p q:List (Nat × Nat)} {a b:Nat},Ch a (p ++ q) b ↔ ∃ m,Ch a p m /\ Ch m q b
 | [],q,a,b=>⟨fun h=>⟨a,rfl,h⟩,fun ⟨m,e,h⟩=>by cases e; exact h⟩
 | x :: r,q,a,b=>by
  constructor
  ·intro h
   obtain ⟨m,h1,h2⟩:=Ch.app.1 h.2.2
   exact ⟨m,⟨h.1,h.2.1,h1⟩,h2⟩
  ·rintro ⟨m,h1,h2⟩
   exact ⟨h1.1,h1.2.1,Ch.app.2 ⟨m,h1.2.2,h2⟩⟩
theorem Ch.mem:∀ {p:List (Nat × Nat)} {a b:Nat},Ch a p b->∀ q ∈ p,a <= q.1 /\ q.1 + q.2 <= b
 | [],a,b,h,q,hq=>by cases hq
 | x :: r,a,b,h,q,hq=>by
  have hb:=h.2.2.le
  rcases VT.1 hq with rfl | hq
  ·have:=h.1; exact ⟨by omega,by omega⟩
  ·have:=h.2.2.mem q hq
   exact ⟨by omega,this.2⟩
abbrev xi (p:Array (Nat × Nat × Nat)):List (Nat × Nat):=p.toList.map fun q=>(q.1,q.2.1)
section
variable {prog:Program} {w:World} {A:Around} {E:Value->Shared->Prop} {s:Shared} {rk:Keyed->Nat} {S:Keyed->Prop} {kd:SortKind} {a₀:Array Keyed}
structure Inv (rk:Keyed->Nat) (kd:SortKind) (a₀:Array Keyed) (lo:Nat) (st:SortSt):Prop where
 k:kindOf st = kd
 f:failedOf st = none
 pm:(arrOf st).toList.Perm a₀.toList
 le:lo <= a₀.size
 ch:Ch 0 (xi (pendingOf st)) lo
 so:∀ q ∈ xi (pendingOf st),gv rk (sg (arrOf st).toList q.1 q.2)
theorem Inv.sz {lo:Nat} {st:SortSt} (I:Inv rk kd a₀ lo st):(arrOf st).size = a₀.size:=by
 have:=I.pm.length_eq
 simpa using this
theorem Inv.put {lo n:Nat} {st aI:SortSt} (I:Inv rk kd a₀ lo st) (a:Sa st aI) (P:kW (arrOf st).toList (arrOf aI).toList lo n) (h:lo + n <= a₀.size):Inv rk kd a₀ lo aI:=by
 refine ⟨a.k.trans I.k,a.f.trans I.f,P.perm.trans I.pm,I.le,by rw [a.p]; exact I.ch,fun q hq=>?_⟩
 rw [a.p] at hq
 have hb:=(I.ch.mem q hq).2
 rw [P.ahead (by have:=I.sz; simp; omega) hb]
 exact I.so q hq
theorem rJ {i lo:Nat} {st:SortSt} {Q:Bool->SortSt->Prop} (hc:oB prog w A E s rk S kd) (hS:∀ x ∈ a₀.toList,S x) (I:Inv rk kd a₀ lo st) (hi:i + 1 < (pendingOf st).size)
  (h:∀ aI,Inv rk kd a₀ lo aI->(pendingOf aI).size + 1 = (pendingOf st).size->(∀ p m,lo <= p->sg (arrOf aI).toList p m = sg (arrOf st).toList p m)->Q true aI):wpS (model prog w) A E s (mergeAt' i) Q st:=by
 obtain ⟨⟨sa,na,pw⟩,e1⟩:∃ x,(pendingOf st)[i]? = some x:=⟨_,getElem?_pos _ i (by omega)⟩
 obtain ⟨⟨sb,nb,IX⟩,e2⟩:∃ x,(pendingOf st)[i + 1]? = some x:=⟨_,getElem?_pos _ (i + 1) hi⟩
 obtain ⟨pre,post,ep,el⟩:∃ pre post,(pendingOf st).toList = pre ++ (sa,na,pw) :: (sb,nb,IX) :: post /\ pre.length = i:=by
  have f1:(pendingOf st).toList[i]? = some (sa,na,pw):=by simpa using e1
  have f2:(pendingOf st).toList[i + 1]? = some (sb,nb,IX):=by simpa using e2
  obtain ⟨l1,g1⟩:=Wa.1 f1
  obtain ⟨l2,g2⟩:=Wa.1 f2
  refine ⟨(pendingOf st).toList.take i,(pendingOf st).toList.drop (i + 2),?_,by rw [Wb]; omega⟩
  conv=>lhs; rw [<- XA i (pendingOf st).toList,Yd l1,Yd l2,g1,g2]
 have ch:=I.ch
 have so:=I.so
 unfold xi at ch so
 rw [ep,VV,V8,V8] at ch so
 obtain ⟨m,c1,c2⟩:=Ch.app.1 ch
 obtain ⟨rfl,n1,c3⟩:=c2
 obtain ⟨rfl,n2,c4⟩:=c3
 dsimp only at *
 have Vr:=c4.le
 have LE:=I.le
 have SZ:=I.sz
 have L:(arrOf st).toList.length = (arrOf st).size:=VW
 refine Fo hc I.k I.f (fun x hx=>hS x (I.pm.mem_iff.1 hx)) e1 e2 rfl n1 n2 (by omega) (so (sa,na) (by simp)) (so (sa + na,nb) (by simp)) fun aI l k' f' p' lp ls al=>?_
 have P:kW (arrOf st).toList (arrOf aI).toList sa (na + nb):=⟨l,lp,al⟩
 have DI:(pendingOf aI).toList = pre ++ (sa,na + nb,pw) :: post:=by
  rw [p',Array.toList_eraseIdxIfInBounds,Array.toList_setIfInBounds,ep,List.set_append_right _ _ (by omega),el,Nat.sub_self,List.set_cons_zero,List.eraseIdx_append_of_length_le (by omega),el,
   show i + 1 - i = 1 by omega]
  rfl
 refine h aI ⟨k',f',P.perm.trans I.pm,I.le,?_,fun q hq=>?_⟩ ?_ fun p m hp=>P.behind (by omega) (by omega)
 ·unfold xi
  rw [DI,VV,V8]
  exact Ch.app.2 ⟨_,c1,rfl,by dsimp only; omega,by dsimp only; rw [<- Nat.add_assoc]; exact c4⟩
 ·unfold xi at hq
  rw [DI,VV,V8] at hq
  rcases Wh.1 hq with hq | hq
  ·have:=(c1.mem q hq).2
   rw [P.ahead (by omega) this]
   exact so q (Xc _ hq)
  ·rcases VT.1 hq with rfl | hq
   ·have:=(kW.parts lp al (by omega)).2.1
    dsimp only
    rw [this]
    exact ls
   ·have:=(c4.mem q hq).1
    rw [P.behind (by omega) (by omega)]
    exact so q (Wp _ (VQ _ (VQ _ hq)))
 ·rw [<- VW,<- VW (xs:=pendingOf st),DI,ep]
  simp only [Wf,WE]
  omega
end
section
variable {prog:Program} {w:World} {A:Around} {E:Value->Shared->Prop} {s:Shared} {rk:Keyed->Nat} {S:Keyed->Prop} {kd:SortKind} {a₀:Array Keyed}
structure BC (rk:Keyed->Nat) (kd:SortKind) (a₀:Array Keyed) (lo n:Nat) (st:SortSt):Prop where
 I:Inv rk kd a₀ lo st
 n1:1 <= n
 le:lo + n <= a₀.size
 so:gv rk (sg (arrOf st).toList lo n)
theorem BC.push {lo n:Nat} {st:SortSt} (C:BC rk kd a₀ lo n st):Inv rk kd a₀ (lo + n) (setPending st ((pendingOf st).push (lo,n,0))):=by
 have e:xi (pendingOf (setPending st ((pendingOf st).push (lo,n,0)))) = xi (pendingOf st) ++ [(lo,n)]:=by
  show xi ((pendingOf st).push (lo,n,0)) = _
  unfold xi
  rw [Array.toList_push,VV]
  rfl
 refine ⟨C.I.k,C.I.f,C.I.pm,C.le,?_,fun q hq=>?_⟩
 ·rw [e]
  exact Ch.app.2 ⟨lo,C.I.ch,rfl,C.n1,rfl⟩
 ·rw [e] at hq
  rcases Wh.1 hq with hq | hq
  ·exact C.I.so q hq
  ·cases Wo.1 hq
   exact C.so
theorem qg (f:Nat × Nat × Nat->Nat × Nat × Nat) (hf:∀ q,((f q).1,(f q).2.1) = (q.1,q.2.1)):∀ (l:List (Nat × Nat × Nat)) (i:Nat),(l.modify i f).map (fun q=>(q.1,q.2.1)) = l.map fun q=>(q.1,q.2.1)
 | [],i=>by cases i <;> rfl
 | x :: r,0=>by rw [List.modify_zero_cons,V8,V8]; exact W0 (· :: _) (hf x)
 | x :: r,i + 1=>by rw [List.modify_succ_cons,V8,V8,qg f hf r i]
theorem BC.pow {lo n pw:Nat} {st:SortSt} (C:BC rk kd a₀ lo n st):BC rk kd a₀ lo n (setPending st ((pendingOf st).modify ((pendingOf st).size - 1) fun q=>(q.1,q.2.1,pw))):=by
 have e:xi ((pendingOf st).modify ((pendingOf st).size - 1) fun q=>(q.1,q.2.1,pw)) = xi (pendingOf st):=by
  unfold xi
  rw [Array.toList_modify]
  exact qg (fun q=>(q.1,q.2.1,pw)) (fun q=>rfl) _ _
 refine ⟨⟨C.I.k,C.I.f,C.I.pm,C.I.le,?_,fun q hq=>?_⟩,C.n1,C.le,C.so⟩
 ·show Ch 0 (xi _) lo
  rw [e]
  exact C.I.ch
 ·have hq:q ∈ xi ((pendingOf st).modify ((pendingOf st).size - 1) fun q=>(q.1,q.2.1,pw)):=hq
  rw [e] at hq
  exact C.I.so q hq
theorem wY {st:SortSt} {Q:Unit->SortSt->Prop} (hc:oB prog w A E s rk S kd) (hS:∀ x ∈ a₀.toList,S x) (nd:(a₀.toList.map rk).Nodup) (kk:kindOf st = kd) (hf:failedOf st = none) (ha:arrOf st = a₀) (hp:pendingOf st = #[])
  (h:∀ aI,(arrOf aI).toList.Perm a₀.toList->failedOf aI = none->gv rk (arrOf aI).toList->Q () aI):wpS (model prog w) A E s sortRuns' Q st:=by
 rw [sortRuns'_eq]
 refine VX (wpS_get ?_)
 dsimp only
 simp only [ha]
 have I0:Inv rk kd a₀ 0 st:=⟨kk,hf,by rw [ha],Wl _,by rw [hp]; rfl,by rw [hp]; intro q hq; cases hq⟩
 refine VX (Xf (WU
  (I:=fun x c aI=>∃ lo,c = (none,lo) /\ (x <= lo \/ lo = a₀.size) /\ Inv rk kd a₀ lo aI)
  (Q:=fun c aI=>c = (none,a₀.size) /\ Inv rk kd a₀ a₀.size aI) ?step ?fin ⟨0,rfl,.inl (VP _),I0⟩) ?post)
 case fin =>
  rintro c aI ⟨lo,rfl,hx,I⟩
  have:lo = a₀.size:=by have:=I.le; omega
  subst this
  exact ⟨rfl,I⟩
 case step =>
  rintro x c aI _ hx ⟨lo,rfl,Vf,I⟩
  dsimp only
  by_cases uQ:lo >= a₀.size
  ·rw [if_pos uQ]
   have:lo = a₀.size:=by have:=I.le; omega
   subst this
   exact V5 ⟨rfl,I⟩
  rw [if_neg uQ]
  have uR:∀ aI,Inv rk kd a₀ lo aI->∀ x ∈ (arrOf aI).toList,S x:=fun aI I x hx=>hS x (I.pm.mem_iff.1 hx)
  have Ug:((arrOf aI).toList.map rk).Nodup:=((I.pm.map rk).nodup_iff).2 nd
  refine VX (Ci hc I.k (uR _ I) Ug (by omega) (by have:=I.sz; omega) fun n DK n1 n2 a2 P2 s2=>?_)
  dsimp only
  have C2:BC rk kd a₀ lo n DK:=⟨I.put a2 P2 (by omega),n1,by omega,s2⟩
  by_cases iz:n < minRun' a₀.size a₀.size 0
  ·rw [if_pos iz]
   refine VX (wpS_lift (Xl ⟨rfl,?_⟩))
   refine VX (AD hc C2.I.k (uR _ C2.I) (by have:=C2.I.sz; omega) n1 (by omega) s2 fun FW a3 P3 s3=>?_)
   simp only [WQ,Wc,WH]
   have C3:BC rk kd a₀ lo (min (a₀.size - lo) (minRun' a₀.size a₀.size 0)) FW:=⟨C2.I.put a3 P3 (by omega),by omega,by omega,s3⟩
   refine VX (wpS_get ?_)
   cases hb:(pendingOf FW).back? with
   | none =>
    dsimp only
    exact VX (X4 (V5 ⟨_,rfl,by have:=C3.n1; omega,C3.push⟩))
   | some y =>
    obtain ⟨s1,Qe,SJ⟩:=y
    dsimp only
    refine VX (Xf (WU (I:=fun _ c sF=>c = (none,()) /\ BC rk kd a₀ lo (min (a₀.size - lo) (minRun' a₀.size a₀.size 0)) sF) (Q:=fun c sF=>c = (none,()) /\ BC rk kd a₀ lo (min (a₀.size - lo) (minRun' a₀.size a₀.size 0)) sF) ?_ (fun _ _ hh=>hh) ⟨rfl,C3⟩) ?_)
    ·rintro z c sF _ _ ⟨rfl,C4⟩
     refine VX (wpS_get ?_)
     by_cases Gd:(pendingOf sF).size > 1
     ·rw [if_pos Gd]
      obtain ⟨⟨q1,q2,J5⟩,eq⟩:∃ q,(pendingOf sF)[(pendingOf sF).size - 2]? = some q:=⟨_,getElem?_pos _ _ (by omega)⟩
      rw [eq]
      dsimp only
      split
      ·exact V5 ⟨rfl,C4⟩
      ·refine VX (rJ hc hS C4.I (by omega) fun K0 I5 _ b5=>?_)
       simp only [WQ,Wc,WH]
       exact V5 ⟨rfl,I5,C4.n1,C4.le,by rw [b5 lo _ (VP _)]; exact C4.so⟩
     ·rw [if_neg Gd]
      exact V5 ⟨rfl,C4⟩
    ·rintro c sF ⟨rfl,C4⟩
     dsimp only
     exact VX (X4 (VX (X4 (V5 ⟨_,rfl,by have:=C3.n1; omega,C4.pow.push⟩))))
  ·rw [if_neg iz]
   refine VX (wpS_get ?_)
   cases hb:(pendingOf DK).back? with
   | none =>
    dsimp only
    exact VX (X4 (V5 ⟨_,rfl,by have:=C2.n1; omega,C2.push⟩))
   | some y =>
    obtain ⟨s1,Qe,SJ⟩:=y
    dsimp only
    refine VX (Xf (WU (I:=fun _ c sF=>c = (none,()) /\ BC rk kd a₀ lo n sF) (Q:=fun c sF=>c = (none,()) /\ BC rk kd a₀ lo n sF) ?_ (fun _ _ hh=>hh) ⟨rfl,C2⟩) ?_)
    ·rintro z c sF _ _ ⟨rfl,C4⟩
     refine VX (wpS_get ?_)
     by_cases Gd:(pendingOf sF).size > 1
     ·rw [if_pos Gd]
      obtain ⟨⟨q1,q2,J5⟩,eq⟩:∃ q,(pendingOf sF)[(pendingOf sF).size - 2]? = some q:=⟨_,getElem?_pos _ _ (by omega)⟩
      rw [eq]
      dsimp only
      split
      ·exact V5 ⟨rfl,C4⟩
      ·refine VX (rJ hc hS C4.I (by omega) fun K0 I5 _ b5=>?_)
       simp only [WQ,Wc,WH]
       exact V5 ⟨rfl,I5,C4.n1,C4.le,by rw [b5 lo _ (VP _)]; exact C4.so⟩
     ·rw [if_neg Gd]
      exact V5 ⟨rfl,C4⟩
    ·rintro c sF ⟨rfl,C4⟩
     dsimp only
     exact VX (X4 (VX (X4 (V5 ⟨_,rfl,by have:=C2.n1; omega,C4.pow.push⟩))))
 case post =>
  rintro c aI ⟨rfl,I⟩
  dsimp only
  have LP:(pendingOf aI).size <= a₀.size:=by
   have:=I.ch.le
   rw [VO,VW] at this
   omega
  refine VX (Xf (WU (I:=fun x c bP=>c = (none,()) /\ Inv rk kd a₀ a₀.size bP /\ (pendingOf bP).size - 1 <= a₀.size - x) (Q:=fun c bP=>c = (none,()) /\ Inv rk kd a₀ a₀.size bP /\ (pendingOf bP).size <= 1) ?_ ?_ ⟨rfl,I,by omega⟩) ?_)
  ·rintro x c bP _ hx ⟨rfl,I,hm⟩
   refine VX (wpS_get ?_)
   by_cases h1:(pendingOf bP).size <= 1
   ·rw [if_pos h1]
    exact V5 ⟨rfl,I,h1⟩
   rw [if_neg h1]
   refine VX (rJ hc hS I ?_ fun FW I3 e3 _=>?_)
   ·have:∀ (c:Prop) [Decidable c] (a b:Nat),(if c then a - b else a) <= a:=fun c _ a b=>by split <;> omega
    have:=this (Option.any (fun x=>decide (x < ((pendingOf bP)[(pendingOf bP).size - 2 + 1]?.elim 0 fun x=>x.2.1))) (if (pendingOf bP).size - 2 > 0 then (pendingOf bP)[(pendingOf bP).size - 2 - 1]?.map fun x=>x.2.1 else none) = true) ((pendingOf bP).size - 2) 1
    omega
   ·simp only [WQ,Wc,WH]
    exact V5 ⟨rfl,I3,by omega⟩
  ·rintro c bP ⟨rfl,I,hm⟩
   exact ⟨rfl,I,by omega⟩
  ·rintro c bP ⟨rfl,I,h1⟩
   refine V5 (h _ I.pm I.f ?_)
   have SZ:=I.sz
   have ch:=I.ch
   have so:=I.so
   have lp:(xi (pendingOf bP)).length <= 1:=by rw [VO,VW]; exact h1
   cases hp:xi (pendingOf bP) with
   | nil =>
    rw [hp] at ch
    have:(arrOf bP).toList = []:=List.eq_nil_of_length_eq_zero (by rw [VW,SZ]; exact ch.symm)
    rw [this]
    exact .nil
   | cons y r =>
    rw [hp] at ch lp so
    have:r = []:=List.eq_nil_of_length_eq_zero (by simp only [WE] at lp; omega)
    subst this
    obtain ⟨e1,_,e2⟩:=ch
    have:=so y (VR)
    rw [e1] at this
    have e2:0 + y.2 = a₀.size:=e2
    unfold sg at this
    rw [List.drop_zero,V1 (by rw [VW]; omega)] at this
    exact this
end
end SO
namespace L2
open PySem PySem.Spec PyProof.Rows
theorem mD {c:Str->NameKind->Bool}:∀ (names:List (Str × NameKind)) (x:Str),
  (names.map fun (n,k)=>if c n k then (n,NameKind.cell) else (n,k)).lookup x = (names.lookup x).map fun k=>if c x k then NameKind.cell else k
 | [],_=>rfl
 | (n,k) :: r,x=>by
  have ih:=mD (c:=c) r x
  show List.lookup x ((if c n k = true then (n,NameKind.cell) else (n,k)) :: _) = _
  cases hx:x == n with
  | true =>
   have e:x = n:=eq_of_beq hx
   subst e
   by_cases hc:c x k = true
   ·rw [if_pos hc]; simp [XO,hc]
   ·rw [if_neg hc]; simp [XO,hc]
  | false =>
   by_cases hc:c n k = true
   ·rw [if_pos hc]; simp only [XO,hx]; exact ih
   ·rw [if_neg hc]; simp only [XO,hx]; exact ih
theorem oN (scope:Scope) (cl:List (Str × Addr)) (C:Addr) (env:Env) (x:Str) :
  (compEnvC scope cl C env).kindOf x = (scope.names.lookup x).map fun k=>if (k == .free && env.scope.kind == .function && env.kindOf x == some .cell) then NameKind.cell else k :=
 mD (c:=fun n k=>(k == .free && env.scope.kind == .function && env.kindOf n == some .cell)) scope.names x
theorem n0 {scope:Scope} {cl:List (Str × Addr)} {C:Addr} {env:Env} {x:Str} (h:scope.names.lookup x = some .free):(compEnvC scope cl C env).kindOf x = some .cell \/ (compEnvC scope cl C env).kindOf x = some .free:=by
 rw [oN,h]
 show some (if _ then _ else _) = _ \/ some (if _ then _ else _) = _
 split
 ·exact .inl rfl
 ·exact .inr rfl
theorem o7 {scope:Scope} {cl:List (Str × Addr)} {C:Addr} {env:Env} {x:Str} (nc:∀ y ∈ scope.names,y.2 ≠ .cell) (h:(compEnvC scope cl C env).kindOf x = some .cell \/ (compEnvC scope cl C env).kindOf x = some .free):scope.names.lookup x = some .free:=by
 rw [oN] at h
 cases e:scope.names.lookup x with
 | none=>rw [e] at h; rcases h with h | h <;> cases h
 | some k =>
  rw [e] at h
  have hm:=nc _ (Xk e)
  cases k with
  | free=>rfl
  | cell=>exact absurd rfl hm
  | _=>rcases h with h | h <;> cases h
theorem rX {scope:Scope} {env:Env} (h:∀ y ∈ scope.names,y.2 = .free->∃ c,env.cells.lookup y.1 = some c) :
  ∃ cl,closureFor scope env = pure cl /\ (∀ x c,cl.lookup x = some c->env.cells.lookup x = some c) /\ (∀ x,(x,NameKind.free) ∈ scope.names->∃ c,cl.lookup x = some c):=by
 have go:∀ (l:List (Str × NameKind)) (acc:List (Str × Addr)),(∀ y ∈ l,y.2 = .free->∃ c,env.cells.lookup y.1 = some c)->(∀ x c,acc.lookup x = some c->env.cells.lookup x = some c) ->
   ∃ cl,(forIn l acc (fun (x:Str × NameKind) (r:List (Str × Addr))=>if (x.2 == NameKind.free) = true then (do let a <- cellOf env x.1; pure (ForInStep.yield ((x.1,a) :: r))) else pure (ForInStep.yield r)):Sem (List (Str × Addr))) = pure cl /\
    (∀ x c,cl.lookup x = some c->env.cells.lookup x = some c) /\ (∀ x,(acc.lookup x).isSome = true \/ (x,NameKind.free) ∈ l->∃ c,cl.lookup x = some c):=by
  intro l
  induction l with
  | nil=>exact fun acc _ ha=>⟨acc,rfl,ha,fun x hx=>by
    rcases hx with hx | hx
    ·exact Xo.mp hx
    ·cases hx⟩
  | cons y l ih =>
   intro acc hl ha
   obtain ⟨n,k⟩:=y
   by_cases hk:k = .free
   ·subst hk
    obtain ⟨c,hc⟩:=hl (n,.free) VR rfl
    obtain ⟨cl,e1,e2,e3⟩:=ih ((n,c) :: acc) (fun y hy=>hl y (VQ _ hy)) (fun x d hd=>by
     rw [XO] at hd
     cases q:x == n with
     | true=>rw [q] at hd; cases hd; rw [eq_of_beq q]; exact hc
     | false=>rw [q] at hd; exact ha x d hd)
    refine ⟨cl,?_,e2,fun x hx=>e3 x ?_⟩
    ·rw [W8]
     have ec:cellOf env n = pure c:=by unfold cellOf; rw [hc]
     show ((if (NameKind.free == NameKind.free) = true then (do let a <- cellOf env n; pure (ForInStep.yield ((n,a) :: acc))) else pure (ForInStep.yield acc)) >>= _) = _
     rw [if_pos (by decide),ec,pure_bind,pure_bind]
     exact e1
    ·rcases hx with hx | hx
     ·refine .inl ?_
      rw [XO]
      cases q:x == n with
      | true=>rfl
      | false=>exact hx
     ·rcases VT.mp hx with hx | hx
      ·cases hx
       exact .inl (by rw [XO,beq_self_eq_true]; rfl)
      ·exact .inr hx
   ·obtain ⟨cl,e1,e2,e3⟩:=ih acc (fun y hy=>hl y (VQ _ hy)) ha
    refine ⟨cl,?_,e2,fun x hx=>e3 x ?_⟩
    ·rw [W8]
     show ((if (k == NameKind.free) = true then (do let a <- cellOf env n; pure (ForInStep.yield ((n,a) :: acc))) else pure (ForInStep.yield acc)) >>= _) = _
     rw [if_neg (by simpa using hk),pure_bind]
     exact e1
    ·rcases hx with hx | hx
     ·exact .inl hx
     ·rcases VT.mp hx with hx | hx
      ·cases hx; exact absurd rfl hk
      ·exact .inr hx
 obtain ⟨cl,e1,e2,e3⟩:=go scope.names [] h (fun x c hx=>by cases hx)
 refine ⟨cl,?_,e2,fun x hx=>e3 x (.inr hx)⟩
 rw [<- e1]
 simp only [closureFor,bind_pure]
theorem uO {prog:Program} {w:World} {A:Around} {R:Result->Shared->Prop} {s:Shared} {elt target iter:Expr} {ifs:List Expr} {scope:Scope} {pos:Pos} {it acc:Value} {env:Env} (I:Nat->Shared->Prop)
  (turn:∀ n s,I n s->wpAny (model prog w) A (pyNext it) (fun r s₁=>match r with
   | none=>R (.ok .next) s₁
   | some v=>wpAny (model prog w) A (letOwnedTupleGo target it v) (fun _ FE=>wpAny (model prog w) A (assign target env v) (fun _ s₂ =>
     wpAny (model prog w) A (forIn ifs true fun c r=>if r = true then do let ok <- isTrue c env (eval c env); pure (ForInStep.yield ok) else pure (ForInStep.yield r)) (fun ok s₃ =>
      if ok = true then wpAny (model prog w) A (eval elt env) (fun x s₄ =>
       wpAny (model prog w) A (call (.builtin "list.append") [acc,x]) (fun _ s₅=>∃ m,m < n /\ I m s₅) (fun _ _=>False) s₄) (fun _ _=>False) s₃
      else ∃ m,m < n /\ I m s₃) (fun _ _=>False) s₂) (fun _ _=>False) FE) (fun _ _=>False) s₁) (fun _ _=>False) s)
  (n:Nat) (h:I n s) :
  codeAny (model prog w) A (.compLoop (.ListComp elt [⟨target,iter,ifs,0⟩] scope pos) 0 it acc env) R s:=by
 refine codeAny_loop rfl I (fun n s hI=>?_) n h
 show wpAny _ A ((compTurn (.ListComp elt [⟨target,iter,ifs,0⟩] scope pos) 0 it acc env).onRaise (fun x=>do noteFrame x env; theTreesLotGoes x)) _ _ s
 refine wpAny_noted ?_
 rw [compTurn_list]
 refine VL (wpAny_standAt (VL (W5 (turn n s hI) (fun r s₁ h₁=>?_) fun _ _ h'=>h'.elim)))
 cases r with
 | none=>exact VM h₁
 | some v =>
  refine VL (W5 h₁ (fun _ FE Kp=>?_) fun _ _ h'=>h'.elim)
  refine VL (W5 Kp (fun _ s₂ h₂=>VL (W5 h₂ (fun ok s₃ h₃=>?_) fun _ _ h'=>h'.elim)) fun _ _ h'=>h'.elim)
  cases ok with
  | false=>exact VM ⟨rfl,h₃⟩
  | true =>
   exact VL (VL (W5 h₃ (fun x s₄ h₄=>VL (W5 h₄ (fun _ s₅ h₅=>VM (VM ⟨rfl,h₅⟩)) fun _ _ h'=>h'.elim)) fun _ _ h'=>h'.elim))
structure CP where
 cl:List (Str × Addr)
 C:Addr
 s:Shared
 H:Hp
 fp:List Addr
 pn:List (Addr × Obj)
abbrev Cx.comp (X:Cx) (N':List Str) (scope:Scope) (p:CP):Cx where
 prog:=X.prog
 w:=X.w
 K:=X.K
 mg:=X.mg
 base:=X.base
 A:=X.A
 N:=N'
 s₀:=p.s
 H₀:=p.H
 env:=compEnvC scope p.cl p.C X.env
 outer:=X.stack
 stack:=X.stack
 ex:=p.fp
 fn:=fun _=>false
 calm:=X.calm
 pn:=p.pn
 xe:=fun _ _=>False
def CT (X:Cx) (ifs:List Expr) (t:TT):Prop :=
 ∀ (pins:List (Addr × Obj)) (s:Shared) (σ:St) (H:Hp) (Q:Bool->Hp->Prop),Inv X pins σ H s->t σ H Q ->
  wpAny (model X.prog X.w) X.A (forIn ifs true fun c r=>if r = true then do let ok <- isTrue c X.env (eval c X.env); pure (ForInStep.yield ok) else pure (ForInStep.yield r)) (TP X pins σ Q) X.xe s
def MT:TT:=fun _ H Q=>Q true H
theorem ce {X:Cx}:CT X [] MT:=fun _ _ _ H _ I h=>wpAny_tests_nil ⟨H,I,h⟩
theorem cy {X:Cx} {c:Expr} {t:TT} (h:PT X c t):CT X [c] t:=fun pins s σ H Q I hw=>wpAny_tests_one (h pins s σ H Q I hw)
def nZ (N:List Str) (kinds:List (Str × NameKind)) (N':List Str) (cap:List (Option Nat)) (names:List (Str × NameKind)):Bool :=
 names.all (fun y=>y.2 != .cell) && names.all (fun y=>y.2 != .local || names.lookup y.1 == some .local) &&
 names.all (fun y=>y.2 != .free || (kinds.lookup y.1 == some .cell || kinds.lookup y.1 == some .free)) && (cap.length == N'.length) &&
 (N'.zip cap).all (fun q=>match q.2 with
  | none=>true
  | some j=>N[j]? == some q.1 && (kinds.lookup q.1 == some .cell || kinds.lookup q.1 == some .free) && names.lookup q.1 == some .free)
structure bZ (X:Cx) (N':List Str) (cap:List (Option Nat)) (scope:Scope):Prop where
 kind:scope.kind = .function
 ok:nZ X.N X.env.scope.names N' cap scope.names = true
section
variable {X:Cx} {N':List Str} {cap:List (Option Nat)} {scope:Scope}
theorem bZ.Cp (S:bZ X N' cap scope):∀ y ∈ scope.names,y.2 ≠ .cell:=by
 have h:=S.ok
 simp only [nZ,Wu,WP] at h
 intro y hy
 simpa using h.1.1.1.1 y hy
theorem bZ.names (S:bZ X N' cap scope):∀ y ∈ scope.names,y.2 = .local->scope.names.lookup y.1 = some .local:=by
 have h:=S.ok
 simp only [nZ,Wu,WP] at h
 intro y hy hl
 have q:=h.1.1.1.2 y hy
 rw [hl] at q
 simpa using q
theorem bZ.free (S:bZ X N' cap scope):∀ y ∈ scope.names,y.2 = .free->X.env.kindOf y.1 = some .cell \/ X.env.kindOf y.1 = some .free:=by
 have h:=S.ok
 simp only [nZ,Wu,WP] at h
 intro y hy hl
 have q:=h.1.1.2 y hy
 rw [hl] at q
 have q':X.env.scope.names.lookup y.1 = some .cell \/ X.env.scope.names.lookup y.1 = some .free:=by simpa using q
 exact q'
theorem bZ.len (S:bZ X N' cap scope):cap.length = N'.length:=by
 have h:=S.ok
 simp only [nZ,Wu,WP] at h
 simpa using h.1.2
theorem bZ.NW (S:bZ X N' cap scope) {i j:Nat} {x:Str} (h1:N'[i]? = some x) (h2:cap[i]? = some (some j)) :
  X.N[j]? = some x /\ (X.env.kindOf x = some .cell \/ X.env.kindOf x = some .free) /\ scope.names.lookup x = some .free:=by
 have h:=S.ok
 simp only [nZ,Wu,WP] at h
 have hm:(x,some j) ∈ N'.zip cap:=X1.mpr ⟨i,by rw [List.getElem?_zip_eq_some]; exact ⟨h1,h2⟩⟩
 have q:=h.2 _ hm
 have q':X.N[j]? = some x /\ (X.env.scope.names.lookup x = some .cell \/ X.env.scope.names.lookup x = some .free) /\ scope.names.lookup x = some .free:=by simpa [and_assoc] using q
 exact q'
end
def gD (cap:List (Option Nat)) (σ:St):St:=cap.map fun o=>match o with
 | some j=>(σ[j]?).getD none
 | none=>none
def b8 (σ σ':St):Prop:=σ'.length = σ.length /\ ∀ (i:Nat) v,σ[i]? = some (some v)->σ'[i]? = some (some v)
theorem b8.refl (σ:St):b8 σ σ:=⟨rfl,fun _ _ h=>h⟩
theorem b8.trans {a b c:St} (h:b8 a b) (h':b8 b c):b8 a c:=⟨h'.1.trans h.1,fun i v e=>h'.2 i v (h.2 i v e)⟩
theorem b8.set {σ:St} {i:Nat} {v:Option V} (h:σ[i]? = some none):b8 σ (σ.set i v):=⟨List.length_set ..,fun j u e=>by
 have hj:i ≠ j:=fun z=>by subst z; rw [h] at e; cases e
 rw [List.getElem?_set_ne hj]; exact e⟩
def qo (J:It) (D:Addr) (cap:List (Option Nat)) (σ:St) (H1:Hp) (g:TG) (tc:TT) (te:TE) (Q:VK):Prop:=∃ (n:Nat) (Pv:Nat->List V->Hp->Prop),
 Pv 0 [] (upd H1 D (.lst [])) /\ ∀ i xs H2,i <= n->Pv i xs H2->H2 D = some (.lst xs) /\ ((i = n /\ J.stop i H2 /\ Q (.ref D) H2) \/ (i < n /\ J.go i H2 /\ ∀ x H3,J.Gw i H2 x H3->g x (gD cap σ) H3 fun σ2 H4=>b8 (gD cap σ) σ2 /\
  tc σ2 H4 fun b H5=>if b = true then te σ2 H5 fun y H6=>H6 D = some (.lst xs) /\ xs.length < sizeLine /\ Pv (i + 1) (xs ++ [y]) (upd H6 D (.lst (xs ++ [y]))) else Pv (i + 1) xs H5))
def CN (cap:List (Option Nat)) (wi:TI) (g:TG) (tc:TT) (te:TE):TE:=fun σ H Q=>wi σ H fun J H1=>∀ D,H1 D = none->qo J D cap σ H1 g tc te Q
section
variable {X:Cx} {pins:List (Addr × Obj)} {σ:St} {H:Hp} {s:Shared} {N':List Str} {cap:List (Option Nat)} {scope:Scope} {elt iter tg:Expr} {ifs:List Expr} {pos:Pos} {wi:TI} {g:TG} {tc:TT} {te:TE}
theorem sL {pos':Pos} {use:Option (Value->Sem Unit)} {Q:VK} {Qf:Value->Shared->Prop} (HN:X.calm = true) (S:bZ X N' cap scope) (hi:PI X tg iter wi) (hg:∀ p,PG (X.comp N' scope p) tg g) (hc:∀ p,CT (X.comp N' scope p) ifs tc) (he:∀ p,PE (X.comp N' scope p) elt te)
  (hs:∀ x,foldedSetIterable iter X.env x = pure x) (I:Inv X pins σ H s) (h:CN cap wi g tc te σ H Q)
  (fin:∀ D C H' s',Inv X pins σ H' s'->Q (.ref D) H'->(∃ m,s'.heap.Ns C m)->H' C = none->C ≠ X.env.locals->X.s₀.heap.objs.size <= C->(∀ x c,X.env.cells.lookup x = some c->c ≠ C)->(∀ p ∈ X.pn ++ pins,p.1 ≠ C) ->
   compPost (model X.prog X.w) X.A X.xe use Qf (.ref D) C (.ok .next) s') :
  wpAny (model X.prog X.w) X.A (comprehension (.ListComp elt [⟨tg,iter,ifs,0⟩] scope pos) scope X.env pos' (newList []) false (eval iter X.env) use) Qf X.xe s:=by
 obtain ⟨cl,Hr,Iv,PQ⟩:=rX (scope:=scope) (env:=X.env) fun y hy hf=>I.ok.has _ (S.free y hy hf)
 refine wpAny_comprehension_free (g:=⟨tg,iter,ifs,0⟩) (gs:=[]) rfl hs Hr S.kind S.names ?_
 refine cn (hi pins s σ H _ I h) fun xv s1 h1=>cn h1 fun MC s2 h2=>?_
 obtain ⟨it,fp,tn,J,H2,e,I2,T,DK,f2,h2⟩:=h2
 subst e
 refine Wz ?_ (by size_fits)
 have hD:H2 s2.heap.objs.size = none:=I2.ba.fresh (VP _)
 obtain ⟨cnt,Pv,w0,turn⟩:=h2 s2.heap.objs.size hD
 refine wpAny_newFunctionEnv S.Cp (by intro y hy; cases hy) (fun h₁ xD uB=>?_) S.kind
 dsimp only at xD uB ⊢
 generalize Nc:s2.heap.push { cls:=.type "list",dict:=none,data:=.seq ([]:List Value).toArray } = A2 at xD uB ⊢
 have hC:A2.objs.size = s2.heap.objs.size + 1:=by rw [<- Nc,XN]
 have old:∀ b o,s2.heap.get? b = some o->h₁.get? b = some o:=fun b o e=>by
  have lt:@LT.lt Nat instLTNat b s2.heap.objs.size:=V4 e
  exact uB.extBut b o (Wj (by omega)) (VN _ (Nc ▸ VN _ e))
 have Mu:h₁.get? s2.heap.objs.size = some { cls:=.type "list",dict:=none,data:=.seq ([]:List Value).toArray } :=
  uB.extBut _ _ (Wj (by omega)) (VN _ (Nc ▸ VY _ rfl))
 have BF:∀ x c,X.env.cells.lookup x = some c->@LT.lt Nat instLTNat c s2.heap.objs.size:=fun x c e=>by obtain ⟨v,q⟩:=I2.cell x c e; exact q.lt
 have Gy:∀ p ∈ X.pn ++ pins,@LT.lt Nat instLTNat p.1 s2.heap.objs.size:=fun p hp=>V4 (I2.pin p hp).1
 have JY:∀ b ∈ fp,@LT.lt Nat instLTNat b s2.heap.objs.size:=fun b hb=>by obtain ⟨o,e,_⟩:=T.obj 0 _ DK b hb; exact V4 e
 let p:CP:=⟨cl,A2.objs.size,s2,H2,fp,X.pn ++ pins⟩
 have ok:(X.comp N' scope p).Ok:={
  mod:=I2.ok.mod
  kind:=S.kind
  glob:=I2.ok.glob
  blt:=I2.ok.blt
  above:=by show s2.heap.objs.size <= A2.objs.size; omega
  inj:=fun x y c h1 h2=>I2.ok.inj x y c (Iv x c h1) (Iv y c h2)
  has:=fun x hx=>PQ x (Xk (o7 S.Cp hx))
  IJ:=fun x c hf _=>by cases hf
  hd:=I2.ok.hd
  frames:=I2.ok.frames
  Jo:=.inl rfl
  JI:=fun b hb=>⟨Wj (show @LT.lt Nat instLTNat b A2.objs.size by have:=JY b hb; omega),fun x c e=>(f2 b hb).2.2.2.2.1 x c (Iv x c e)⟩
  bs:=I2.bs
  Bm:=VZ I2.ok.Bm I2.sz
  Aa:=fun b o e hb=>by
   rcases (f2 b hb).2.2.2.1 with z | z
   ·exact I2.ok.Aa b o e z
   ·exact absurd (Wn (Wn (V4 e) I2.ok.Bm) z) (WX _)
  Aq:=fun b hb hf=>by
   rcases VT.mp (I2.lO b hf) with z | z
   ·exact (f2 b hb).2.1 z
   ·exact (f2 b hb).2.2.1 z
  me:=I2.stack
  EE:=I2.pK }
 have J9:Un (l3 X.stack) fp H2 (upd H2 s2.heap.objs.size (.lst [])) s2.heap h₁:=Un.laid old (VP _) hD
 have I0:∀ tk,Inv (X.comp N' scope p) [] (gD cap σ) (upd H2 s2.heap.objs.size (.lst [])) { s2 with heap:=h₁,toks:=tk }:=fun tk=>{
  ok:=ok
  os:=rfl
  bare:=I2.bare
  base:=J9
  loc:=by
   refine ⟨_,xD,fun i x v h1 h2 h3=>?_⟩
   unfold gD at h2
   rw [V3] at h2
   cases hq:cap[i]? with
   | none=>rw [hq] at h2; cases h2
   | some o =>
    rw [hq] at h2
    cases o with
    | none=>cases h2
    | some j =>
     have fL:(σ[j]?).getD none = some v:=WM h2
     have M7:σ[j]? = some (some v):=by
      cases hz:σ[j]? with
      | none=>rw [hz] at fL; cases fL
      | some z=>rw [hz] at fL; exact W0 some fL
     obtain ⟨n1,n2,n3⟩:=S.NW h1 hq
     obtain ⟨m,hn,hl⟩:=I2.loc
     obtain ⟨u,r,l⟩:=hl j x v n1 M7 (by rcases n2 with z | z; exact .inr (.inl z); exact .inr (.inr z))
     refine ⟨u,r,.inr ⟨n0 n3,?_⟩⟩
     obtain ⟨c,hc⟩:=PQ x (Xk n3)
     refine ⟨c,hc,?_⟩
     rcases l with ⟨z,_⟩ | ⟨_,c',xc,sN⟩
     ·rcases n2 with n2 | n2 <;> (rw [n2] at z; cases z)
     ·have:=Iv x c hc
      rw [xc] at this; cases this
      obtain ⟨o,ho,hd⟩:=sN
      exact ⟨o,old _ _ ho,hd⟩
  cell:=fun x c e=>by
   obtain ⟨v,o,ho,hd⟩:=I2.cell x c (Iv x c e)
   exact ⟨v,o,old _ _ ho,hd⟩
  free:=by
   show upd H2 s2.heap.objs.size (.lst []) A2.objs.size = none
   rw [aq (X8 (by omega))]
   exact I2.ba.fresh (by omega)
  jH:=fun x c e=>by
   have:=BF x c (Iv x c e)
   show upd H2 s2.heap.objs.size (.lst []) c = none
   rw [aq (Wj this)]
   exact I2.jH x c (Iv x c e)
  pin:=fun q hq=>by
   have xj:q ∈ X.pn ++ pins:=by
    have z:q ∈ (X.pn ++ pins) ++ ([]:List (Addr × Obj)):=hq
    simpa using z
   have lt:=Gy q xj
   obtain ⟨e,n,ne,nf,d⟩:=I2.pin q xj
   refine ⟨old _ _ e,by rw [aq (Wj lt)]; exact n,Wj (show @LT.lt Nat instLTNat q.1 A2.objs.size by omega),fun hf=>?_,d⟩
   rcases VT.mp (I2.lO _ hf) with z | z
   ·exact ne z
   ·exact nf z
  ba:=I2.ba.laid old (VP _) ⟨Wl _,[],_,.nil,Mu⟩
  len:=by show (gD cap σ).length = N'.length; unfold gD; rw [VO,S.len] }
 have HK:∀ {H':Hp},(∀ b ∈ fp,H' b = none)->∀ b ∈ fp,uk (X.comp N' scope p) [] H' b:=fun hn b hb =>
  ⟨hn b hb,(ok.JI b hb).1,ok.Aq b hb,.inl hb,(ok.JI b hb).2,fun q hq=>(f2 b hb).2.2.2.2.2 q (by
   have z:q ∈ (X.pn ++ pins) ++ ([]:List (Addr × Obj)):=hq
   simpa using z)⟩
 have Uy:∀ b ∈ fp,(upd H2 s2.heap.objs.size (.lst [])) b = none:=fun b hb=>by
  rw [aq (Wj (JY b hb))]
  exact (f2 b hb).1
 have loop:∀ s3:Shared,(∃ tk,s3 = { s2 with heap:=h₁,toks:=tk })->codeAny (model X.prog X.w) X.A (.compLoop (.ListComp elt [⟨tg,iter,ifs,0⟩] scope pos) 0 (.ref it) (.ref s2.heap.objs.size) (compEnvC scope cl A2.objs.size X.env))
   (compPost (model X.prog X.w) X.A X.xe use Qf (.ref s2.heap.objs.size) A2.objs.size) s3:=by
  rintro s3 ⟨tk,rfl⟩
  refine uO (fun n s'=>∃ i xs H',Inv (X.comp N' scope p) [] (gD cap σ) H' s' /\ tn i s'.heap /\ (∀ b ∈ fp,H' b = none) /\ n = cnt - i /\ i <= cnt /\ Pv i xs H') ?_ cnt
   ⟨0,[],_,I0 tk,T.keep 0 _ _ DK (fun b _ o e=>old b o e),Uy,rfl,Wl _,w0⟩
  rintro n s4 ⟨i,xs,H4,I4,sF,OQ,en,oU,w4⟩
  obtain ⟨RZ,w4⟩:=turn i xs H4 oU w4
  rcases w4 with ⟨_,stop,qn⟩ | ⟨iz,go,step⟩
  ·refine cn (T.done (X.comp N' scope p) rfl rfl rfl HN i [] s4 _ H4 _ I4 (HK OQ) sF stop) fun r s5 ⟨hr,I5⟩=>?_
   subst hr
   have I6:Inv X pins σ H4 s5:=I2.Gv I5.os I5.base I5.ba I5.bare fun b hb=>⟨(f2 b hb).2.2.2.1,(f2 b hb).2.1,(f2 b hb).2.2.2.2.1,(f2 b hb).2.2.2.2.2⟩
   obtain ⟨m,hm,_⟩:=I5.loc
   refine fin _ _ H4 s5 I6 qn ⟨m,hm⟩ I5.free ?_ ?_ (fun x c e=>?_) fun q hq=>?_
   ·exact X8 (by have:@LT.lt Nat instLTNat X.env.locals s2.heap.objs.size:=I2.lt; omega)
   ·have:=I2.sz; omega
   ·exact Wj (by have:=BF x c e; omega)
   ·exact Wj (by have:=Gy q hq; omega)
  ·refine cn (T.item (X.comp N' scope p) rfl rfl rfl HN i [] s4 _ H4 _ I4 (HK OQ) sF go) fun r s5 ⟨u,hr,h5⟩=>?_
   subst hr
   refine cn h5 fun _ s6 ⟨x,H6,I6,r6,y6,N7,RR⟩=>?_
   have Rn:=I6.pinned (HK RR) (T.obj _ _ N7)
   refine cn (hg p _ s6 _ H6 x u _ Rn r6 (step x H6 y6)) fun _ s7 ⟨σ7,H7,I7,O9,q7⟩=>?_
   refine cn (hc p _ s7 σ7 H7 _ I7 q7) fun b s8 ⟨H8,I8,q8⟩=>?_
   have again:∀ {H9:Hp} {s9:Shared} {zs:List V},Inv (X.comp N' scope p) ([] ++ qA fp s6.heap) σ7 H9 s9->Pv (i + 1) zs H9 ->
     ∃ m,m < n /\ ∃ i xs H',Inv (X.comp N' scope p) [] (gD cap σ) H' s9 /\ tn i s9.heap /\ (∀ b ∈ fp,H' b = none) /\ m = cnt - i /\ i <= cnt /\ Pv i xs H':=fun {H9 s9 zs} I9 w9=>by
    refine ⟨cnt - (i + 1),by omega,i + 1,zs,H9,I9.mW.weak O9.1.symm (fun i v e=>O9.2 i v e),T.keep _ _ _ N7 fun b hb o e=>(I9.pin (b,o) (Wp _ (Wp _ (jt hb e)))).1,fun b hb=>?_,rfl,iz,w9⟩
    obtain ⟨o,e,d⟩:=T.obj _ _ N7 b hb
    exact (I9.pin (b,o) (Wp _ (Wp _ (jt hb e)))).2.1
   cases b with
   | false =>
    exact again I8 q8
   | true =>
    refine cn (he p _ s8 σ7 H8 _ I8 q8) fun yv s9 ⟨y,H9,I9,ry,Ms,hz,w9⟩=>?_
    refine cn (de (X:=X.comp N' scope p) _ s9 σ7 H9 (.ref s2.heap.objs.size) [y] (.ref s2.heap.objs.size) [yv] (fun v H'=>v = .dR /\ H' = upd H9 s2.heap.objs.size (.lst (xs ++ [y]))) I9 rfl (.cons ry .nil) ⟨_,xs,y,rfl,rfl,Ms,hz,rfl,rfl⟩) fun _ Vy ⟨_,Vu,RP,_,_,T3⟩=>?_
    subst T3
    exact again RP w9
 refine codeAny_compStart_list (loop _ ⟨_,rfl⟩) (T.self _ 0 _ _ _ (T.keep 0 _ _ DK fun b _ o e=>old b o e) (loop _ ⟨_,rfl⟩))
theorem bv (HN:X.calm = true) (S:bZ X N' cap scope) (hi:PI X tg iter wi) (hg:∀ p,PG (X.comp N' scope p) tg g) (hc:∀ p,CT (X.comp N' scope p) ifs tc) (he:∀ p,PE (X.comp N' scope p) elt te)
  (hs:∀ x,foldedSetIterable iter X.env x = pure x:=by intro _; rfl):PE X (.ListComp elt [⟨tg,iter,ifs,0⟩] scope pos) (CN cap wi g tc te):=by
 intro pins s σ H Q I h
 rw [eval_ListComp]
 refine sL (use:=none) (Q:=Q) HN S hi hg hc he hs I h ?_
 intro D C H' s' I' q ns hC hL h1 h2 h3
 obtain ⟨m,hm⟩:=ns
 exact ⟨m,hm,fun Lm sb=>⟨.ref D,H',I'.turned (t':=s'.toks) (fun b o hb e=>(sb.2 b hb).trans e) hC hL (.inr h1) h2 h3,rfl,q⟩⟩
theorem pI {j:Nat} {y:Str} {py Hv:Pos} (HN:X.calm = true) (S:bZ X N' cap scope) (hi:PI X tg iter wi) (hg:∀ p,PG (X.comp N' scope p) tg g) (hc:∀ p,CT (X.comp N' scope p) ifs tc) (he:∀ p,PE (X.comp N' scope p) elt te)
  (hN:X.N.Nodup) (hj:X.N[j]? = some y) (hy:X.env.scope.names.lookup y = some .local)
  (R1:swapsWith (.ListComp elt [⟨tg,iter,ifs,0⟩] scope pos) (some (.Name y py)) Hv.line X.env = pure true)
  (hs:∀ x,foldedSetIterable iter X.env x = pure x:=by intro _; rfl):PS X (.Assign [.Name y py] (.ListComp elt [⟨tg,iter,ifs,0⟩] scope pos) Hv) (Ea (CN cap wi g tc te) (sX j)):=by
 intro pins s σ H D I h
 rw [exec_Assign_Name_used _ _ _ _ R1]
 refine VL (wpAny_standAt (VL ?_))
 show wpAny _ X.A (do let _ <- comprehension (.ListComp elt [⟨tg,iter,ifs,0⟩] scope pos) scope X.env _ (newList []) false (eval iter X.env) (some (assign (.Name y py) X.env))) _ _ s
 refine VL (W5 (sL (use:=some (assign (.Name y py) X.env)) (Qf:=fun _ s'=>SP X pins D .next s') HN S hi hg hc he hs I h ?_) (fun _ s' hq=>VM (VM hq)) fun _ _ e=>e)
 intro D' C H' s' I' q ns hC hL h1 h2 h3
 obtain ⟨m,hm⟩:=ns
 show wpAny _ X.A (assign (.Name y py) X.env (.ref D')) _ _ _
 refine wpAny_assign_Name (sP I' hN hj (.inl hy) (v:=.ref D') rfl (fun u5 Td ⟨a,sb,ha⟩=>?_) (.inr hy))
 have ne:C ≠ a:=fun z=>by
  rcases ha with e | e
  ·exact hL (z.trans e)
  ·exact h2 y a e z.symm
 exact ⟨m,hm.sameBut sb ne,fun Lm TN=>⟨_,H',Td.turned (t':=u5.toks) (fun b o hb e=>(TN.2 b hb).trans e) hC hL (.inr h1) h2 h3,q⟩⟩
end
section
variable {K:Yt} {cap:List (Option Nat)} {σ:St} {H:Hp} {g:TG} {tc:TT} {te:TE} {Q:VK} {D:Addr}
theorem fH {lo:Int} {n:Nat} (Pv:Nat->List V->Hp->Prop) (h0:Pv 0 [] (upd H D (.lst []))) (hD:∀ i xs H,i <= n->Pv i xs H->H D = some (.lst xs))
  (hs:∀ i xs H,i < n->Pv i xs H->g (.int (lo + i)) (gD cap σ) H fun σ2 H4=>b8 (gD cap σ) σ2 /\
   tc σ2 H4 fun b H5=>if b = true then te σ2 H5 fun y H6=>H6 D = some (.lst xs) /\ xs.length < sizeLine /\ Pv (i + 1) (xs ++ [y]) (upd H6 D (.lst (xs ++ [y]))) else Pv (i + 1) xs H5)
  (hd:∀ xs H,Pv n xs H->Q (.ref D) H):qo (HW lo n) D cap σ H g tc te Q:=by
 refine ⟨n,Pv,h0,fun i xs H2 hi p=>⟨hD i xs H2 hi p,?_⟩⟩
 by_cases iz:i < n
 ·refine .inr ⟨iz,iz,fun x H' y=>?_⟩
  obtain ⟨e,y⟩:=y
  subst e y
  exact hs i xs _ iz p
 ·have e:i = n:=by omega
  subst e
  exact .inl ⟨rfl,VP _,hd xs H2 p⟩
theorem cM {a:Addr} {ys:List V} (Pv:Nat->List V->Hp->Prop) (h0:Pv 0 [] (upd H D (.lst []))) (hD:∀ i xs H,i <= ys.length->Pv i xs H->H D = some (.lst xs) /\ aZ K H a ys)
  (hs:∀ i x xs H,ys[i]? = some x->Pv i xs H->g x (gD cap σ) H fun σ2 H4=>b8 (gD cap σ) σ2 /\
   tc σ2 H4 fun b H5=>if b = true then te σ2 H5 fun y H6=>H6 D = some (.lst xs) /\ xs.length < sizeLine /\ Pv (i + 1) (xs ++ [y]) (upd H6 D (.lst (xs ++ [y]))) else Pv (i + 1) xs H5)
  (hd:∀ xs H,Pv ys.length xs H->Q (.ref D) H):qo (IY K a) D cap σ H g tc te Q:=by
 refine ⟨ys.length,Pv,h0,fun i xs H2 hi p=>⟨(hD i xs H2 hi p).1,?_⟩⟩
 have q:=(hD i xs H2 hi p).2
 by_cases iz:i < ys.length
 ·refine .inr ⟨iz,⟨ys,ys[i],q,by simp [iz]⟩,fun x H' y=>?_⟩
  obtain ⟨e,y⟩:=y
  subst e
  exact hs i x xs _ (y ys q) p
 ·have e:i = ys.length:=by omega
  subst e
  exact .inl ⟨rfl,⟨ys,q,VP _⟩,hd xs H2 p⟩
theorem dJ {a:Addr} {ys:List V} (Pv:Nat->List V->Hp->Prop) (h0:Pv 0 [] (upd H D (.lst []))) (hD:∀ i xs H,i <= ys.length->Pv i xs H->H D = some (.lst xs) /\ a7 K H a ys)
  (hs:∀ i x xs H,ys[i]? = some x->Pv i xs H->g x (gD cap σ) H fun σ2 H4=>b8 (gD cap σ) σ2 /\
   tc σ2 H4 fun b H5=>if b = true then te σ2 H5 fun y H6=>H6 D = some (.lst xs) /\ xs.length < sizeLine /\ Pv (i + 1) (xs ++ [y]) (upd H6 D (.lst (xs ++ [y]))) else Pv (i + 1) xs H5)
  (hd:∀ xs H,Pv ys.length xs H->Q (.ref D) H):qo (IV K a) D cap σ H g tc te Q:=by
 refine ⟨ys.length,Pv,h0,fun i xs H2 hi p=>⟨(hD i xs H2 hi p).1,?_⟩⟩
 have q:=(hD i xs H2 hi p).2
 by_cases iz:i < ys.length
 ·refine .inr ⟨iz,⟨ys,ys[i],q,by simp [iz]⟩,fun x H' y=>?_⟩
  obtain ⟨e,y⟩:=y
  subst e
  exact hs i x xs _ (y ys q) p
 ·have e:i = ys.length:=by omega
  subst e
  exact .inl ⟨rfl,⟨ys,q,VP _⟩,hd xs H2 p⟩
end
mutual
inductive DV (H:Hp):PyData->V->Prop
 | dR:DV H .none .dR
 | bl (b:Bool):DV H (.bool b) (.bl b)
 | int (i:Int):DV H (.int i) (.int i)
 | str (x:Str):DV H (.str x) (.str x)
 | lst {a:Addr} {ds:List PyData} {vs:List V}:H a = some (.lst vs)->bK H ds vs->DV H (.list ds) (.ref a)
 | tup {a:Addr} {ds:List PyData} {vs:List V}:H a = some (.tup vs)->bK H ds vs->DV H (.tuple ds) (.ref a)
inductive bK (H:Hp):List PyData->List V->Prop
 | nil:bK H [] []
 | cons {d:PyData} {v:V} {ds:List PyData} {vs:List V}:DV H d v->bK H ds vs->bK H (d :: ds) (v :: vs)
end
section
variable {H H':Hp}
mutual
theorem DV.mono (e:ak H H'):∀ {d:PyData} {v:V},DV H d v->DV H' d v
 | _,_,.dR=>.dR
 | _,_,.bl b=>.bl b
 | _,_,.int i=>.int i
 | _,_,.str x=>.str x
 | _,_,.lst h t=>.lst (e _ _ h) (bK.mono e t)
 | _,_,.tup h t=>.tup (e _ _ h) (bK.mono e t)
theorem bK.mono (e:ak H H'):∀ {ds:List PyData} {vs:List V},bK H ds vs->bK H' ds vs
 | _,_,.nil=>.nil
 | _,_,.cons h t=>.cons (DV.mono e h) (bK.mono e t)
end
theorem bK.length:∀ {ds:List PyData} {vs:List V},bK H ds vs->ds.length = vs.length
 | _,_,.nil=>rfl
 | _,_,.cons _ t=>W0 (· + 1) (bK.length t)
theorem bK.get:∀ {ds:List PyData} {vs:List V} {i:Nat} {d:PyData},bK H ds vs->ds[i]? = some d->∃ v,vs[i]? = some v /\ DV H d v
 | _,_,_,_,.nil,e=>by simp at e
 | _,_,0,_,.cons h _,e=>by simp at e; subst e; exact ⟨_,rfl,h⟩
 | _,_,i + 1,d,.cons _ t,e=>by
  obtain ⟨v,h1,h2⟩:=bK.get (i:=i) (d:=d) t (by simpa using e)
  exact ⟨v,by simpa using h1,h2⟩
theorem bK.get':∀ {ds:List PyData} {vs:List V} {i:Nat} {v:V},bK H ds vs->vs[i]? = some v->∃ d,ds[i]? = some d /\ DV H d v
 | _,_,_,_,.nil,e=>by simp at e
 | _,_,0,_,.cons h _,e=>by simp at e; subst e; exact ⟨_,rfl,h⟩
 | _,_,i + 1,v,.cons _ t,e=>by
  obtain ⟨d,h1,h2⟩:=bK.get' (i:=i) (v:=v) t (by simpa using e)
  exact ⟨d,by simpa using h1,h2⟩
theorem bK.append:∀ {ds es:List PyData} {vs ws:List V},bK H ds vs->bK H es ws->bK H (ds ++ es) (vs ++ ws)
 | _,_,_,_,.nil,s=>s
 | _,_,_,_,.cons h t,s=>.cons h (bK.append t s)
theorem bK.snoc {ds:List PyData} {vs:List V} {d:PyData} {v:V} (h:bK H ds vs) (hd:DV H d v):bK H (ds ++ [d]) (vs ++ [v]):=h.append (.cons hd .nil)
theorem bK.take:∀ {ds:List PyData} {vs:List V} (n:Nat),bK H ds vs->bK H (ds.take n) (vs.take n)
 | _,_,0,_=>.nil
 | _,_,_ + 1,.nil=>.nil
 | _,_,n + 1,.cons h t=>.cons h (bK.take n t)
theorem bK.drop:∀ {ds:List PyData} {vs:List V} (n:Nat),bK H ds vs->bK H (ds.drop n) (vs.drop n)
 | _,_,0,t=>t
 | _,_,_ + 1,.nil=>.nil
 | _,_,n + 1,.cons _ t=>bK.drop n t
theorem bK.ints (ns:List Int):bK H (ns.map PyData.int) (ns.map V.int):=by
 induction ns with
 | nil=>exact .nil
 | cons n r ih=>exact .cons (.int n) ih
theorem DV.int_inv {i:Int} {v:V} (h:DV H (.int i) v):v = .int i:=by cases h; rfl
theorem DV.Ha {b:Bool} {v:V} (h:DV H (.bool b) v):v = .bl b:=by cases h; rfl
theorem DV.gK {ds:List PyData} {v:V} (h:DV H (.tuple ds) v):∃ a vs,v = .ref a /\ H a = some (.tup vs) /\ bK H ds vs:=by cases h with | tup h t=>exact ⟨_,_,rfl,h,t⟩
theorem bK.mU:∀ {ns:List Int} {vs:List V},bK H (ns.map PyData.int) vs->vs = ns.map V.int
 | [],_,h=>by cases h; rfl
 | n :: r,_,h=>by
  cases h with
  | cons h t =>
   cases h
   show _ = V.int n :: r.map V.int
   rw [bK.mU t]
theorem bK.uU {a b:PyData} {vs:List V} (h:bK H [a,b] vs):∃ v w,vs = [v,w] /\ DV H a v /\ DV H b w:=by
 cases h with
 | cons h t=>cases t with
  | cons h' t'=>cases t'; exact ⟨_,_,rfl,h,h'⟩
theorem bK.kH {a b c:PyData} {vs:List V} (h:bK H [a,b,c] vs):∃ v w u,vs = [v,w,u] /\ DV H a v /\ DV H b w /\ DV H c u:=by
 cases h with
 | cons h t =>
  obtain ⟨v,w,rfl,h1,h2⟩:=bK.uU t
  exact ⟨_,_,_,rfl,h,h1,h2⟩
variable {P:Program} {w:World} {h:Heap}
mutual
theorem DV.reads (ok:jN P w H h):∀ {d:PyData} {v:V} {u:Value},DV H d v->RelV v u->∃ as,Reads h u d as
 | _,_,_,.dR,r=>by cases r; exact ⟨_,.none⟩
 | _,_,_,.bl b,r=>by cases r; exact ⟨_,.bool b⟩
 | _,_,_,.int i,r=>by obtain ⟨t,rfl⟩:=r; exact ⟨_,.int i t⟩
 | _,_,_,.str x,r=>by obtain ⟨t,rfl⟩:=r; exact ⟨_,.str x t⟩
 | _,_,_,.lst e t,r=>by
  cases r
  obtain ⟨_,aH,n,rv,eo⟩:=ok _ _ e
  obtain ⟨as,q⟩:=bK.reads ok t rv
  exact ⟨_,.list eo rfl rfl (by simpa using q)⟩
 | _,_,_,.tup e t,r=>by
  cases r
  obtain ⟨_,aH,rv,o,eo,hc,n,hd⟩:=ok _ _ e
  obtain ⟨as,q⟩:=bK.reads ok t rv
  exact ⟨_,.tuple eo hc hd (by simpa using q)⟩
theorem bK.reads (ok:jN P w H h):∀ {ds:List PyData} {vs:List V} {us:List Value},bK H ds vs->Vals vs us->∃ as,ReadsAll h us ds as
 | _,_,_,.nil,r=>by cases r; exact ⟨_,.nil⟩
 | _,_,_,.cons e t,r=>by
  cases r with
  | cons r rr =>
   obtain ⟨as,q⟩:=DV.reads ok e r
   obtain ⟨bs,q'⟩:=bK.reads ok t rr
   exact ⟨_,.cons q q'⟩
end
end
section
variable {X:Cx}
def Kd (neg:Bool):R2:=fun x y H Q=>∃ d e,DV H d x /\ DV H e y /\ d.canLay0 = true /\ e.canLay0 = true /\ min d.depth e.depth <= 60 /\ Q (.bl (if neg then !PyData.eqv d e else PyData.eqv d e)) H
theorem CK (hu:X.A.units + 64 < cLine):iL X (compareOp .Eq) (Kd false):=by
 intro pins s σ H x y v u Q I rx ry h
 obtain ⟨d,e,hd,he,c1,c2,dp,q⟩:=h
 obtain ⟨as,ra⟩:=hd.reads I.ba rx
 obtain ⟨bs,rb⟩:=he.reads I.ba ry
 exact SeqAt.compareEq_reads ra rb c1 c2 (by omega) ⟨.bl _,H,I,rfl,q⟩
theorem Dp (hu:X.A.units + 64 < cLine):iL X (compareOp .NotEq) (Kd true):=by
 intro pins s σ H x y v u Q I rx ry h
 obtain ⟨d,e,hd,he,c1,c2,dp,q⟩:=h
 obtain ⟨as,ra⟩:=hd.reads I.ba rx
 obtain ⟨bs,rb⟩:=he.reads I.ba ry
 exact SeqAt.compareNe_reads ra rb c1 c2 (by omega) ⟨.bl _,H,I,rfl,q⟩
def JK (neg:Bool):R2:=fun x y H Q=>∃ d es,DV H d x /\ (DV H (.list es) y \/ DV H (.tuple es) y) /\ d.canLay0 = true /\ PyData.canLayAll0 es = true /\ d.depth <= 60 /\
 Q (.bl (if neg then !(es.any fun e=>PyData.eqv e d) else es.any fun e=>PyData.eqv e d)) H
theorem Hg (hu:X.A.units + 64 < cLine):iL X (compareOp .In) (JK false):=by
 intro pins s σ H x y v u Q I rx ry h
 obtain ⟨d,es,hd,he,c1,c2,dp,q⟩:=h
 obtain ⟨as,ra⟩:=hd.reads I.ba rx
 rcases he with he | he
 ·obtain ⟨bs,rb⟩:=he.reads I.ba ry
  exact SeqAt.in_list_reads rb ra c2 c1 (by omega) ⟨.bl _,H,I,rfl,q⟩
 ·obtain ⟨bs,rb⟩:=he.reads I.ba ry
  exact SeqAt.in_tuple_reads rb ra c2 c1 (by omega) ⟨.bl _,H,I,rfl,q⟩
theorem kE (hu:X.A.units + 64 < cLine):iL X (compareOp .NotIn) (JK true):=by
 intro pins s σ H x y v u Q I rx ry h
 obtain ⟨d,es,hd,he,c1,c2,dp,q⟩:=h
 obtain ⟨as,ra⟩:=hd.reads I.ba rx
 rcases he with he | he
 ·obtain ⟨bs,rb⟩:=he.reads I.ba ry
  exact SeqAt.notIn_list_reads rb ra c2 c1 (by omega) ⟨.bl _,H,I,rfl,q⟩
 ·obtain ⟨bs,rb⟩:=he.reads I.ba ry
  exact SeqAt.notIn_tuple_reads rb ra c2 c1 (by omega) ⟨.bl _,H,I,rfl,q⟩
theorem du:dI X (.builtin "isinstance") (fun xs H Q=>∃ x t T b,xs = [x,.ty T] /\ nP X.K H x t /\ PySem.W.kitOne X.K t (.type T) = some b /\ Q (.bl b) H):=by
 intro pins s σ H xs us Q I r h
 obtain ⟨x,t,T,b,rfl,ty,e,q⟩:=h
 obtain ⟨u,w',rfl,r1,r2⟩:=vals2 r
 cases r2
 exact AI I r1 ty e fun tk=>⟨.bl b,H,I.tok tk,rfl,q⟩
theorem gp (K:Yt) (T:String):PySem.W.kitOne K (.type T) (.type T) = some true:=by
 unfold PySem.W.kitOne
 rw [if_pos (by simp)]
theorem ui (K:Yt):PySem.W.kitOne K (.type "int") (.type "bool") = some false:=by
 show (if ((Value.type "int") == Value.type "bool") = true then some true else (if PySem.W.kitMeta "bool" = true then (fastBuiltinMro "int").map (·.contains (.type "bool")) else none)) = some false
 decide +kernel
end
end L2
namespace PySem
open Sem (wp)
open AutoSeq1 (wpAny_loadPart')
section
variable {prog:Program} {w:World} {A:Around} {E:Value->Shared->Prop} {s:Shared}
theorem rN {Q:List Value->Shared->Prop} {r:Addr} {a b c:Int} {t u v:Tok} {n:Nat} (hh:A.handled = none) (hr:IsRange s.heap r a b c t u v) (qe:Builtin.Range.small a b c = true)
  (hn:Builtin.Range.rangeSize a b c = n) (hlen:n <= 2 ^ 24)
  (hQ:∀ s' acc,(∀ b o,s.heap.get? b = some o->s'.heap.get? b = some o)->s'.gens = s.gens->s'.drawn = s.drawn->s'.os = s.os->ItemsOf (fun i v=>∃ t,v = .int (a + i * c) t) acc n->Q acc.toList s') :
  wpAny (model prog w) A (collect (.ref r)) Q E s:=by
 unfold collect
 refine VL (wpAny_runValue (codeAny_builtin F.entry_proto_collect ?_))
 rw [Around.under_plainId F.plain_proto_collect _]
 show wpAny _ A.in1 (newList [] >>= fun l=>again (.builtin "list.__iadd__" ⟨[l,.ref r],[]⟩)) _ _ s
 refine VL (Wz ?_)
 refine VM ⟨plainId_quiet F.plain_list_iadd _,codeAny_builtin F.entry_list_iadd ?_⟩
 rw [Around.under_plainId F.plain_list_iadd _]
 show wpAny _ A.in1 (Builtin.List.listExtendWith (.ref s.heap.objs.size) (.ref r) (.ref s.heap.objs.size)) _ _ _
 have hS:(s.heap.push { cls:=.type "list",data:=.seq ([]:List Value).toArray }).get? s.heap.objs.size = some { cls:=.type "list",data:=.seq #[] 0 }:=VY _ rfl
 have Jr:∀ (h':Heap) (tk:Nat) (acc:Array Value) (c':Nat),(∀ b o,b ≠ s.heap.objs.size->(s.heap.push { cls:=.type "list",data:=.seq ([]:List Value).toArray }).get? b = some o->h'.get? b = some o) ->
   h'.get? s.heap.objs.size = some { cls:=.type "list",dict:=none,data:=.seq acc c',slots:=#[] }->ItemsOf (fun i v=>∃ t,v = .int (a + i * c) t) acc n ->
   wpAny (model prog w) A (match Value.ref s.heap.objs.size with
   | Value.ref a=>do
    match (<- load a).data with
     | Data.seq xs _=>pure xs.toList
     | _=>unsupported "internal:collect"
   | _=>unsupported "internal:collect") Q E { s with heap:=h',toks:=tk }:=by
  intro h' tk acc c' hk uR pF
  show wpAny _ A (load s.heap.objs.size >>= _) _ _ _
  refine VL (wpAny_load uR ?_)
  refine VM ?_
  exact hQ { s with heap:=h',toks:=tk } acc (fun b o' hb=>hk b o' (Wj (V4 hb)) (VN _ hb)) rfl rfl rfl pF
 refine W5 (wpAny_extend_range (A:=A) (R:=fun r s'=>r = .ok (.ret (.ref s.heap.objs.size)) /\ ∃ (h':Heap) (tk:Nat) (acc:Array Value) (c':Nat),s' = { s with heap:=h',toks:=tk } /\
   (∀ b o,b ≠ s.heap.objs.size->(s.heap.push { cls:=.type "list",data:=.seq ([]:List Value).toArray }).get? b = some o->h'.get? b = some o) /\
   h'.get? s.heap.objs.size = some { cls:=.type "list",dict:=none,data:=.seq acc c',slots:=#[] } /\ ItemsOf (fun i v=>∃ t,v = .int (a + i * c) t) acc n)
  (s:={ s with heap:=s.heap.push { cls:=.type "list",data:=.seq ([]:List Value).toArray } }) hh (VN _ hr) qe hn hlen s.heap.objs.size (.ref s.heap.objs.size) 0 hS
  fun h' tk Nz c' hk uR pF=>⟨rfl,h',tk,Nz,c',rfl,hk,uR,pF⟩) (fun fin s' h=>?_) (fun e s' h=>?_)
 ·cases fin with
  | done f =>
   obtain ⟨e,h',tk,acc,c',rfl,hk,uR,pF⟩:=h
   cases e
   exact Jr h' tk acc c' hk uR pF
  | again c'=>exact ⟨h.1,codeAny_mono h.2 fun r u5 hr=>by obtain ⟨rfl,h',tk,acc,c',rfl,hk,uR,pF⟩:=hr; exact Jr h' tk acc c' hk uR pF⟩
 ·exact absurd h.1 (by simp)
end
theorem jK (r:Addr) (a b c:Int) (t u v:Tok) (n:Nat) (qe:Builtin.Range.small a b c = true) (hn:Builtin.Range.rangeSize a b c = n) (hlen:n <= 2 ^ 20) :
  Meets (Builtin.«tuple.__new__» ⟨[.type "tuple",.ref r],[]⟩)
   (fun A R s=>A.handled = none /\ IsRange s.heap r a b c t u v /\ ∀ (s':Shared) (acc:Array Value),(∀ b o,s.heap.get? b = some o->s'.heap.get? b = some o)->s'.gens = s.gens->s'.drawn = s.drawn->s'.os = s.os->ItemsOf (fun i v=>∃ t,v = .int (a + i * c) t) acc n ->
    R (.ok (.ret (.ref s'.heap.objs.size))) { s' with heap:=s'.heap.push { cls:=.type "tuple",data:=.seq acc } }) :=
 .of_wp fun prog w A R s h=>by
  obtain ⟨hh,hr,h⟩:=h
  have Aj:=sub_tuple_self
  have OU:=init_tuple_lookup
  have Vl:=madeHere_tuple
  have hT:s.TypeIs (.ref r) "range":=⟨_,hr,rfl⟩
  have Qx:A.in1.handled = none:=hh
  wp_walk using wpAny_loadPart' hr,wpAny_typeOf hT,rN (n:=n) Qx hr qe hn (by omega)
  intro s' acc hk hg hd Dz pF
  show wpAny _ _ (Builtin.Tuple.tupleExact acc.toList.toArray >>= fun v=>ret v) _ _ _
  unfold Builtin.Tuple.tupleExact
  refine VL (Wz ?_ (show acc.toList.toArray.size <= sizeLine by simp only [XG]; rw [pF.1,Xy]; omega))
  refine VM ⟨_,rfl,?_⟩
  have e:acc.toList.toArray = acc:=by simp
  rw [e]
  exact h s' acc hk hg hd Dz pF
section
variable {prog:Program} {w:World} {A:Around} {E:Value->Shared->Prop} {s:Shared}
theorem rz {Q:Value->Shared->Prop} {r:Addr} {a b c:Int} {t u v:Tok} {n:Nat} (hh:A.handled = none) (hr:IsRange s.heap r a b c t u v) (qe:Builtin.Range.small a b c = true)
  (hn:Builtin.Range.rangeSize a b c = n) (hlen:n <= 2 ^ 20)
  (h:∀ (h':Heap) (tk:Nat) (acc:Array Value),(∀ b o,s.heap.get? b = some o->h'.get? b = some o)->ItemsOf (fun i v=>∃ t,v = .int (a + i * c) t) acc n->Q (.ref h'.objs.size) { s with heap:=h'.push { cls:=.type "tuple",data:=.seq acc },toks:=tk }) :
  wpAny (model prog w) A (call (.type "tuple") [.ref r]) Q E s:=by
 refine callType_new F.called_tuple (by decide) (F.typeCall_tuple_1 _) (F.newCall_tuple_1 _) (fun obj=>F.args_object_init_2 obj _) F.entry_tuple_new
  (jK r a b c t u v n qe hn hlen) ⟨hh,hr,fun s' acc hk hg hd Dz pF=>⟨⟨_,VY _ rfl,rfl⟩,?_⟩⟩
 obtain ⟨h',g',d',UC,MW⟩:=s'
 have e1:g' = s.gens:=hg
 have e2:d' = s.drawn:=hd
 have e3:MW = s.os:=Dz
 subst e1 e2 e3
 exact h h' UC acc hk pF
end
end PySem
namespace L2
open PySem PySem.Spec PyProof.Rows
theorem yS:∀ {xs:List V} {us:List Value},xs.length = us.length->(∀ (i:Nat) x u,xs[i]? = some x->us[i]? = some u->RelV x u)->Vals xs us
 | [],[],_,_=>.nil
 | [],_ :: _,h,_=>by simp at h
 | _ :: _,[],h,_=>by simp at h
 | x :: xs,u :: us,h,f=>.cons (f 0 x u rfl rfl) (yS (by simpa using h) fun i y z h1 h2=>f (i + 1) y z (by simpa using h1) (by simpa using h2))
def be (n:Nat):List Int:=(List.range n).map fun k:Nat=>(k:Int)
theorem aT (n:Nat):(be n).length = n:=by simp [be]
theorem Dh {n i:Nat} (h:i < n):(be n)[i]? = some (i:Int):=by simp [be,h]
theorem dO (n:Nat):be (n + 1) = be n ++ [(n:Int)]:=by simp [be,List.range_succ]
theorem cZ {n:Nat} {i:Int}:i ∈ be n ↔ 0 <= i /\ i < n:=by
 simp only [be,Wq,List.mem_range]
 constructor
 ·rintro ⟨k,hk,rfl⟩; omega
 ·rintro ⟨h0,h1⟩; exact ⟨i.toNat,by omega,by omega⟩
section
variable {X:Cx}
theorem oG:dI X (.type "range") (fun xs H Q=>∃ j,xs = [.int j] /\ ∀ p,H p = none->Q (.ref p) (upd H p (.DB 0 j))):=by
 intro pins s σ H xs us Q I r h
 obtain ⟨j,rfl,q⟩:=h
 obtain ⟨u,rfl,t,rfl⟩:=vals1 r
 refine call_range_1 ?_
 exact ⟨.ref s.heap.objs.size,_,I.laid (o:=.DB 0 j) (fun b o e=>VN _ e) (VP _) ⟨_,_,_,VY _ rfl⟩,rfl,q _ (I.ba.fresh (VP _))⟩
theorem i0 (hc:X.calm = true):dI X (.type "tuple") (fun xs H Q=>∃ p n,xs = [.ref p] /\ H p = some (.DB 0 (n:Nat)) /\ n <= 1000 /\ ∀ l,H l = none->Q (.ref l) (upd H l (.tup ((be n).map V.int)))):=by
 intro pins s σ H xs us Q I r h
 obtain ⟨p,n,rfl,hp,hn,q⟩:=h
 obtain ⟨u,rfl,rx⟩:=vals1 r
 cases rx
 obtain ⟨t,u,v,e⟩:=I.ba p _ hp
 have hsz:Builtin.Range.rangeSize 0 (n:Int) 1 = n:=by rw [rangeSize_one]; split <;> omega
 refine rz (n:=n) (I.ok.hd hc) e (small_one (by omega) (by omega) (by omega) (by omega)) hsz (by omega) fun h' tk acc kp items=>?_
 have I1:Inv X pins σ H { s with heap:=h',toks:=tk }:=I.kept (t':=tk) kp
 have hv:Vals ((be n).map V.int) acc.toList:=by
  refine yS (by rw [VO,aT,VW,items.1]) fun i x u h1 h2=>?_
  have hi:i < n:=by
   have:=(Wa.mp h1).1
   rw [VO,aT] at this
   exact this
  rw [V3,Dh hi] at h1
  cases h1
  obtain ⟨t',e'⟩:=items.2 i u (by simpa using h2)
  exact ⟨t',by rw [e']; congr 1; omega⟩
 have hz:((be n).map V.int).length <= sizeLine:=by rw [VO,aT,Xy]; omega
 have I2:Inv X pins σ (upd H h'.objs.size (.tup ((be n).map V.int))) { s with heap:=h'.push { cls:=.type "tuple",data:=.seq acc },toks:=tk } :=
  I1.laid (t':=tk) (fun b o e=>VN _ e) (VP _) (show ck X.prog X.w _ _ _ (.tup ((be n).map V.int)) from ⟨hz,acc.toList,hv,⟨_,VY _ rfl,rfl,0,by simp⟩⟩)
 exact ⟨.ref h'.objs.size,_,I2,rfl,q _ (I1.ba.fresh (VP _))⟩
end
theorem ck.there {P:Program} {w:World} {H:Hp} {h:Heap} {a:Addr} {o:HO} (x:ck P w H h a o):∃ ob,h.get? a = some ob:=by
 cases o with
 | lst xs=>obtain ⟨_,_,_,_,e⟩:=x; exact ⟨_,e⟩
 | tup xs=>obtain ⟨_,_,_,o,e,_⟩:=x; exact ⟨o,e⟩
 | dK kvs=>obtain ⟨_,_,_,_,o,_,_,e,_⟩:=x; exact ⟨o,e⟩
 | dT kvs=>obtain ⟨_,_,_,_,o,_,_,e,_⟩:=x; exact ⟨o,e⟩
 | set S n=>obtain ⟨o,_,_,_,e,_⟩:=x; exact ⟨o,e⟩
 | ins C dx fs=>obtain ⟨_,_,_,e,_⟩:=x; exact ⟨_,e⟩
 | own y=>exact x
 | xd fs=>obtain ⟨_,⟨o,_,_,e,_⟩,_⟩:=x; exact ⟨o,e⟩
 | DB lo hi=>obtain ⟨_,_,_,e⟩:=x; exact ⟨_,e⟩
 | xb ob u=>obtain ⟨e,_⟩:=x; exact ⟨_,e⟩
 | FQ ps=>exact ⟨_,x⟩
 | met f y=>exact ⟨_,x⟩
 | ext φ=>obtain ⟨_,e,_⟩:=x; exact e
def zj (P:Program) (w:World):xQ:=fun outer H s E e s'=>∃ (a C:Addr) (a0:Value) (B:Heap) (H':Hp),e = .ref a /\ s'.os = s.os /\ AllBare s'.gens /\ Un (l3 outer) [] H H' s.heap s'.heap /\ jN P w H' s'.heap /\
 Heap.FlyingW B outer a (.ref C) a0 s'.heap /\ (∀ b o,s.heap.get? b = some o->H b = none->b ∉ l3 outer->B.get? b = some o) /\ (∀ b o,s.heap.get? b = some o->b ∉ l3 outer->∃ o',B.get? b = some o') /\
 (∀ b u,H' b = some u->∃ ob,s'.heap.get? b = some ob /\ B.get? b = some ob) /\ E (.ref C) none H'
section
variable {X:Cx} {pins:List (Addr × Obj)} {σ:St} {H H':Hp} {s:Shared} {h':Heap}
theorem Dk (I:Inv X pins σ H s) (hex:X.ex = []) (u:Un (l3 X.stack) [] H H' s.heap h'):Un X.fs [] X.H₀ H' X.s₀.heap h':=by
 have Sq:∀ b o,X.s₀.heap.get? b = some o->b ∉ X.fs->b ∉ l3 X.stack:=fun b o e hb hm=>by
  rcases VT.mp (I.lO b hm) with z | z
  ·exact absurd (Wn (V4 e) I.ok.above) (by rw [z]; exact WX _)
  ·exact hb z
 have nx:∀ b:Addr,b ∉ X.ex:=fun b hb=>by rw [hex] at hb; cases hb
 have ne:∀ b:Addr,b ∉ ([]:List Addr):=fun b hb=>by cases hb
 refine ⟨fun b o e n hb _=>?_,fun b o e n hb _=>?_,fun b o e n _=>?_,fun b o e _=>?_,fun b xs e=>u.fC b xs (I.base.fC b xs e),fun b o v e=>u.jI b o v (I.base.jI b o v e),fun b ps e=>?_⟩
 ·exact u.keep b o (I.base.keep b o e n hb (nx b)) (I.base.free b o e n (nx b)) (Sq b o e hb) (ne b)
 ·obtain ⟨sl,e1⟩:=I.base.slot b o e n hb (nx b)
  obtain ⟨Eg,e2⟩:=u.any e1 (I.base.free b o e n (nx b)) (ne b)
  exact ⟨Eg,e2⟩
 ·obtain ⟨o',e1⟩:=I.base.there b o e (nx b)
  exact u.free b o' e1 (I.base.free b o e n (nx b)) (ne b)
 ·obtain ⟨o',e1⟩:=I.base.there b o e (nx b)
  exact u.there b o' e1 (ne b)
 ·obtain ⟨m1,e1⟩:=I.base.kh b ps e
  obtain ⟨m2,e2⟩:=u.kh b _ e1
  exact ⟨m1 ++ m2,by rw [e2,Array.append_assoc]⟩
theorem uG (I:Inv X pins σ H s) {b:Addr} {o:Obj} (e:X.s₀.heap.get? b = some o) (hb:b ∉ X.fs):b ∉ l3 X.stack:=fun hm=>by
 rcases VT.mp (I.lO b hm) with z | z
 ·exact absurd (Wn (V4 e) I.ok.above) (by rw [z]; exact WX _)
 ·exact hb z
end
def Kz (X:Cx) (E:XK):Prop:=∀ (pins:List (Addr × Obj)) (σ:St) (H:Hp) (s:Shared) (h':Heap) (a C:Addr) (vs:List Value),Inv X pins σ H s->Heap.MadeExcOf s.heap h' a (.ref C) vs->E (.ref C) none H->X.xe (.ref a) { s with heap:=h' }
section
variable {P:Program} {w:World} {K:Yt} {mg:Str->Option Value} {base:Heap} {N:List Str} {qual:Str} {scope:Scope} {f:Addr} {cd:Value} {A:Around} {outer:List Env} {s₀:Shared} {H₀:Hp} {E:XK}
abbrev uY (P:Program) (w:World) (K:Yt) (mg:Str->Option Value) (base:Heap) (N:List Str) (qual:Str) (scope:Scope) (f:Addr) (cd:Value) (A:Around) (outer:List Env) (s₀:Shared) (H₀:Hp) (E:XK):Cx :=
 vL (zj P w) P w K mg base N qual scope f cd A outer s₀ H₀ E
theorem u9:Kz (uY P w K mg base N qual scope f cd A outer s₀ H₀ E) E:=by
 intro pins σ H s h' a C vs I hx hE
 have jM:(uY P w K mg base N qual scope f cd A outer s₀ H₀ E).stack = envOfC qual scope s₀.heap.objs.size f cd :: outer:=rfl
 have oU:∀ env ∈ (uY P w K mg base N qual scope f cd A outer s₀ H₀ E).stack,∀ b,env.frame = some b->b ∈ l3 (uY P w K mg base N qual scope f cd A outer s₀ H₀ E).stack:=fun env he b hb=>List.mem_filterMap.mpr ⟨env,he,hb⟩
 show wpAny (model P w) (A.deeper (envOfC qual scope s₀.heap.objs.size f cd)) («leaving» (envOfC qual scope s₀.heap.objs.size f cd) (.ref a)) _ _ _
 refine wpAny_leaves_madeW (base:=PySem.W.hideAll s.heap (l3 (uY P w K mg base N qual scope f cd A outer s₀ H₀ E).stack)) I.ok.frames rfl (fun b o q=>PySem.W.of_hideAll _ q) (PySem.W.funFrames_hide I.stack oU) hx fun h2 t fl tup ht up=>?_
 have gB:∀ b o,s.heap.get? b = some o->b ∉ l3 (uY P w K mg base N qual scope f cd A outer s₀ H₀ E).stack->(PySem.W.hideAll s.heap (l3 (uY P w K mg base N qual scope f cd A outer s₀ H₀ E).stack)).get? b = some o:=fun b o e hb=>PySem.W.hideAll_get _ e hb
 have gF:∀ b o,s.heap.get? b = some o->b ∈ l3 (uY P w K mg base N qual scope f cd A outer s₀ H₀ E).stack->∃ sl,h2.get? b = some { o with slots:=sl }:=fun b o e hb=>by
  obtain ⟨_,o',e',hd⟩:=I.stack.mem hb
  rw [e] at e'; cases e'
  exact up b o (hx.keeps b o e) hd
 have GA:∀ b u,H b = some u->b ∉ l3 (uY P w K mg base N qual scope f cd A outer s₀ H₀ E).stack:=fun b u e hb=>by rw [I.pK b hb] at e; cases e
 have un:Un (l3 (uY P w K mg base N qual scope f cd A outer s₀ H₀ E).stack) [] H H s.heap h2:=by
  refine ⟨fun b o e _ hb _=>fl.1 b o (gB b o e hb),fun b o e _ hb _=>gF b o e hb,fun _ _ _ n _=>n,fun b o e _=>?_,fun _ _ q=>q,fun _ _ _ q=>q,fun _ ps q=>⟨#[],by rw [q]; simp⟩⟩
  by_cases hb:b ∈ l3 (uY P w K mg base N qual scope f cd A outer s₀ H₀ E).stack
  ·obtain ⟨sl,q⟩:=gF b o e hb
   exact ⟨_,q⟩
  ·exact ⟨o,fl.1 b o (gB b o e hb)⟩
 have nx:∀ b:Addr,b ∉ (uY P w K mg base N qual scope f cd A outer s₀ H₀ E).ex:=fun b hb=>by cases hb
 refine ⟨a,C,.ref t,_,H,rfl,I.os,I.bare,Dk I rfl un,fun b u e=>?_,fl,fun b o e n hb=>?_,fun b o e hb=>?_,fun b u e=>?_,hE⟩
 ·refine (I.ba b u e).lZ (fun c v hc q=>?_) (fun _ q=>q) fun _ _ q=>q
  have hH:∃ u',H c = some u':=by
   rcases hc with z | z
   ·exact ⟨u,by rw [z]; exact e⟩
   ·exact ⟨_,z⟩
  obtain ⟨u',u3⟩:=hH
  exact fl.1 c v (gB c v q (GA c u' u3))
 ·exact gB b o (I.base.keep b o e n hb (nx b)) (uG I e hb)
 ·obtain ⟨o',e1⟩:=I.base.there b o e (nx b)
  exact ⟨o',gB b o' e1 (uG I e hb)⟩
 ·obtain ⟨ob,q⟩:=(I.ba b u e).there
  have z:=gB b ob q (GA b u e)
  exact ⟨ob,fl.1 b ob z,z⟩
theorem lX:Passes (zj P w) (uY P w K mg base N qual scope f cd A outer s₀ H₀ E) E:=by
 intro pins σ H s e s' I h
 obtain ⟨a,C,a0,B,H',rfl,os,bare,un,ba,fl,O4,PZ,tr,hE⟩:=h
 show wpAny (model P w) (A.deeper (envOfC qual scope s₀.heap.objs.size f cd)) («leaving» (envOfC qual scope s₀.heap.objs.size f cd) (.ref a)) _ _ _
 refine wpAny_leaves_onW I.ok.frames rfl fl fun h2 fB up=>?_
 have ne:∀ b:Addr,b ∉ ([]:List Addr):=fun b hb=>by cases hb
 have nx:∀ b:Addr,b ∉ (uY P w K mg base N qual scope f cd A outer s₀ H₀ E).ex:=fun b hb=>by cases hb
 have gF:∀ b o,s.heap.get? b = some o->b ∈ l3 (uY P w K mg base N qual scope f cd A outer s₀ H₀ E).stack->∃ sl,h2.get? b = some { o with slots:=sl }:=fun b o e hb=>by
  obtain ⟨_,o',e',hd⟩:=I.stack.mem hb
  rw [e] at e'; cases e'
  obtain ⟨sl,q⟩:=un.slot b o e (I.pK b hb) hb (ne b)
  obtain ⟨Eg,q'⟩:=up b _ q hd
  exact ⟨Eg,q'⟩
 have Q3:Un (l3 (uY P w K mg base N qual scope f cd A outer s₀ H₀ E).stack) [] H H' s.heap h2:=by
  refine ⟨fun b o e n hb _=>fB.1 b o (O4 b o e n hb),fun b o e _ hb _=>gF b o e hb,un.free,fun b o e _=>?_,un.fC,un.jI,un.kh⟩
  by_cases hb:b ∈ l3 (uY P w K mg base N qual scope f cd A outer s₀ H₀ E).stack
  ·obtain ⟨sl,q⟩:=gF b o e hb
   exact ⟨_,q⟩
  ·obtain ⟨o',q⟩:=PZ b o e hb
   exact ⟨o',fB.1 b o' q⟩
 refine ⟨a,C,a0,B,H',rfl,os.trans I.os,bare,Dk I rfl Q3,fun b u e=>?_,fB,fun b o e n hb=>?_,fun b o e hb=>?_,fun b u e=>?_,hE⟩
 ·refine (ba b u e).lZ (fun c v hc q=>?_) (fun _ q=>q) fun _ _ q=>q
  have hH:∃ u',H' c = some u':=by
   rcases hc with z | z
   ·exact ⟨u,by rw [z]; exact e⟩
   ·exact ⟨_,z⟩
  obtain ⟨u',u3⟩:=hH
  obtain ⟨ob,q1,q2⟩:=tr c u' u3
  rw [q] at q1; cases q1
  exact fB.1 c v q2
 ·exact O4 b o (I.base.keep b o e n hb (nx b)) (I.base.free b o e n (nx b)) (uG I e hb)
 ·obtain ⟨o',e1⟩:=I.base.there b o e (nx b)
  exact PZ b o' e1 (uG I e hb)
 ·obtain ⟨ob,q1,q2⟩:=tr b u e
  exact ⟨ob,fB.1 b ob q2,q2⟩
end
theorem DO {K:Yt} {h:Heap} {C:Addr} {K5:List Value} {newId:String} (X:K.In h) (q:PySem.W.excIn K C K5 newId = true):∃ bm N nm qn bs hdct sn sub ab col dd k0 k1 k2 k3 k5 mN,
  h.get? C = some (excClassObj nm qn C N bs bm hdct sn sub ab col dd k0 k1 k2 k3 k5 newId) /\ h.Ns N mN /\ mN "__init__" = none /\ OwnTail h K5 bm:=by
 unfold PySem.W.excIn at q
 split at q
 ·rename_i dd cd sl ho
  split at q
  ·rename_i C' bm k0 k1 k2 k3 n k5 hm hs
   simp only [Wu,XH,Bool.not_eq_true'] at q
   obtain ⟨⟨⟨⟨⟨rfl,rfl⟩,K4⟩,ht⟩,ba⟩,Mf⟩:=q
   obtain ⟨nm,bs,mro,ns,qn,hd,sn,sub,ab,col,del⟩:=cd
   dsimp only at hm K4 ba Mf
   subst hm K4
   have TQ:sl = #[k0,k1,k2,k3,some (.builtin n),k5]:=by
    obtain ⟨l⟩:=sl
    simp only at hs
    rw [hs]
   subst TQ
   exact ⟨bm,ns,nm,qn,bs,hd,sn,sub,ab,col,dd,k0,k1,k2,k3,k5,_,X _ _ ho,.of_isNs (PySem.W.isNs_of_in X ba),PySem.W.nsMap_none_of_in X ba Mf,PySem.W.tail_of_in X ht⟩
  ·cases q
 ·cases q
section
variable {X:Cx} {E:XK} {x:Str} {C:Addr} {B newId HG:String} {K5:List Value} {np i7 pos:Pos} {e₀:Expr} {rest:List Expr} {ta:TA}
def GY (C:Addr) (E:XK) (ta:TA):TS:=fun _ σ H=>ta σ H fun vs H1=>vs.length <= sizeLine /\ E (.ref C) none H1
theorem vT (ho:Kz X E) (hc:X.calm = true) (hg:Gl X x) (hm:X.mg x = some (.ref C)) (q:PySem.W.excIn X.K C K5 newId = true) (FB:ExcBaseFacts B newId HG K5) (ha:PA X (e₀ :: rest) ta)
  (he:starEach (e₀ :: rest) X.env = (false,eval e₀ X.env) :: starEach rest X.env:=by rfl) (xR:(backTo i7 (starEach rest X.env)).any (·.1) = false:=by rfl) (hd:(x == ("__debug__":Str)) = false:=by decide) :
  PS X (.Raise (some (.Call (.Name x np) (e₀ :: rest) [] i7)) none pos) (GY C E ta):=by
 intro pins s σ H D I h
 obtain ⟨bm,N,nm,qn,bs,hdct,sn,sub,ab,col,dd,k0,k1,k2,k3,k5,mN,hC,hN,Mf,T⟩:=DO I.mod.y8 q
 refine wpAny_Raise_call_subT (C:=C) (nm:=nm) (q:=qn) (N:=N) (bs:=bs) (bm:=bm) (hdct:=hdct) (sn:=sn) (sub:=sub) (ab:=ab) (col:=col) (dd:=dd) (k0:=k0) (k1:=k1) (k2:=k2) (k3:=k3) (k5:=k5)
  FB (mN:=mN) (T.hasType FB.hasBase) (I.ok.hd hc) (by rw [he]; show (false || (backTo i7 (starEach rest X.env)).any (·.1)) = false; rw [xR]; rfl) Mf (ma I hg hm ⟨rfl,?_⟩ hd)
 have hA:=ha i7 pins s σ H _ I h
 rw [he] at hA ⊢
 refine Calls.evalArgs_plain (cn hA fun us s2 ⟨vs,H2,I2,r2,hl,hE⟩=>⟨rfl,by rw [<- r2.length]; exact hl,I2.bk _ _ hC,hN.keeps I2.bk,T.keeps I2.bk,fun h' e hx=>?_⟩)
 exact ho pins σ H2 s2 h' e C us I2 hx hE
end
theorem Fd.Lv {P:Program} {w:World} {K:Yt} {mg:Str->Option Value} {base:Heap} {x qual:Str} {st:Stmt} {f:Addr} {fd:FuncData} {N ps:List Str} {k:Nat} {sp:Sp} (F:Fd K x qual st f fd) (S:av N ps (am st)) (len:∀ vs H Q E,sp vs H Q E->vs.length = ps.length)
  (wo:∀ (cm:Value) (A:Around) (outer:List Env) (s:Shared) (H:Hp) (vs:List V) (Q:VK) (E:XK),eT k (A.deeper (envOfC qual (am st) s.heap.objs.size f cm))->sp vs H Q E ->
   ∃ t,tN (uY P w K mg base N qual (am st) f cm A outer s H E) (cw st) t /\ t { nx:=fun _ H'=>Q .dR H',rt:=Q } (start N vs) H):au P w K mg base (zj P w) (k + 1) f fd ps sp:=by
 obtain ⟨oc,od,kV,doc,pm,an,cm,ct,Fu,rfl,lk,x8⟩:=F.ex
 exact Gj lk x8 S len fun A outer s H vs Q E hr yW=>wo cm A outer s H vs Q E hr yW
end L2
namespace PyProof.Rows
open PySem PySem.W
section
variable {prog:Program} {w:World} {A:Around} {E:Value->Shared->Prop} {s:Shared}
theorem B7 {T:String} {l:Addr} {o:Obj} {vs:List Value} {n:Nat} {Q:List Value->Shared->Prop} (hT:T = "list" \/ T = "tuple") (ho:s.heap.get? l = some o) (hc:o.cls = .type T) (hd:o.data = .seq vs.toArray n) (hz:vs.length <= sizeLine)
  (hQ:Q vs { s with heap:=(s.heap.push (seqObj "list" #[] 0)).update s.heap.objs.size (Obj.mapSeq (· ++ vs.toArray)) }):wpAny (model prog w) A (collect (.ref l)) Q E s:=by
 have up:(s.heap.push (seqObj "list" #[] 0)).get? l = some o:=VN _ ho
 have nw:(s.heap.push (seqObj "list" #[] 0)).get? s.heap.objs.size = some (seqObj "list" #[] 0):=VY _ rfl
 have cond:∀ x y:Value,(Builtin.List.listSameRef x y || Value.type T == Value.type "list" || Value.type T == Value.type "tuple") = true:=fun x y=>by
  rcases hT with rfl | rfl <;> simp
 unfold collect
 refine VL (wpAny_runValue (codeAny_builtin entry_proto_collect' ?run))
 case run =>
  refine VL (wpAny_newList (VM ⟨Code.quiet_builtin _ (by decide +kernel),codeAny_builtin entry_list_iadd' ?ext⟩))
  case ext =>
   show wpAny _ _ (Builtin.List.listExtendWith (.ref s.heap.objs.size) (.ref l) (.ref s.heap.objs.size)) _ _ _
   unfold Builtin.List.listExtendWith
   refine VL (wpAny_typeOf (T:=T) ⟨o,up,hc⟩ ?_); rw [if_pos (cond _ _)]
   refine VL (listItems_at up hd (VL (listItems_at nw rfl ?_))); rw [if_neg (by simp)]
   refine VL (Yh nw rfl (VM ?_) (Wl _) (by show (#[] ++ vs.toArray).size <= sizeLine + 1; simp only [Xj,V2,List.length_nil]; omega))
   refine VL (wpAny_load (get?_update_seq nw _) ?_)
   have e:(#[] ++ vs.toArray:Array Value).toList = vs:=by simp
   show wpAny _ _ (pure (#[] ++ vs.toArray:Array Value).toList) Q E _
   rw [e]; exact VM hQ
theorem zR {a:Addr} {vs out:List Value} {n:Nat} {P:PySem.Fin->Shared->Prop} (ho:s.heap.get? a = some (seqObj "list" vs.toArray n)) (hz:vs.length <= sizeLine) (hlen:out.length = vs.length) (short:vs.length < 2->out = vs)
  (run:2 <= vs.length->∀ h':Heap,(∀ b o,b ≠ a->s.heap.get? b = some o->h'.get? b = some o)->wpAny (model prog w) A (keyKind' vs.toArray) (fun κ s1=>s1 = { s with heap:=h' } /\
   wpAny (model prog w) A ((sortRuns').run (SortSt.mk' κ (vs.toArray.zip vs.toArray) #[] 7 none)) (fun r s2=>s2 = { s with heap:=h' } /\ failedOf r.2 = none /\ (arrOf r.2).map (·.2) = out.toArray) E s1) E { s with heap:=h' })
  (hP:P (.done (.ret .none)) { s with heap:=sortedHeap s.heap a vs out.toArray }):wpAny (model prog w) A (Builtin.«list.sort» ⟨[.ref a],[]⟩) P E s:=by
 have ha:a < s.heap.objs.size:=V4 ho
 have yI:vs.toArray.size <= sizeLine:=hz
 have G0:out.toArray.size <= sizeLine + 1:=Nat.le_succ_of_le (by show out.length <= sizeLine; rw [hlen]; exact hz)
 obtain ⟨e1,qJ⟩:∃ e1,(s.heap.update a (Obj.mapSeq fun _=>#[])).get? a = some (seqObj "list" #[] e1):=⟨_,get?_update_seq ho fun _=>#[]⟩
 have old:∀ b o,b ≠ a->s.heap.get? b = some o->(((s.heap.update a (Obj.mapSeq fun _=>#[])).push (seqObj "tuple" vs.toArray 0)).push (seqObj "list" #[] 0)).get? b = some o:=fun b o hb e =>
  VN _ (VN _ ((Heap.get?_update_ne _ _ _ _ hb).trans e))
 have KG:(((s.heap.update a (Obj.mapSeq fun _=>#[])).push (seqObj "tuple" vs.toArray 0)).push (seqObj "list" #[] 0)).get? a = some (seqObj "list" #[] e1):=VN _ (VN _ qJ)
 rw [list_sort_plain]
 refine VL (listItems_at ho rfl (VL (Yh ho rfl (VL (seqEpoch_at qJ rfl (VL (wpAny_newTuple (VL (wpAny_newList (W2 ?_) (Wl _))) hz))) ) yI (Wl _))))
 show wpAny _ _ _ _ _ { s with heap:=((s.heap.update a (Obj.mapSeq fun _=>#[])).push (seqObj "tuple" vs.toArray 0)).push (seqObj "list" #[] 0) }
 dsimp only
 have fin:∀ st:SortSt,failedOf st = none->(arrOf st).map (·.2) = out.toArray->wpAny (model prog w) A (do
   let touched <- (do let x <- seqEpoch a; pure (x != e1))
   Builtin.List.listUpdate (.ref a) fun _=>(arrOf st).map (·.2)
   if let some e:=failedOf st then do rule "list.sort.comparison-raised"; throw e
   if touched then do rule "list.sort.modified"; raiseError "ValueError" "list modified during sort"
   ret .none) P E { s with heap:=((s.heap.update a (Obj.mapSeq fun _=>#[])).push (seqObj "tuple" vs.toArray 0)).push (seqObj "list" #[] 0) }:=by
  intro st hf NO
  rw [hf,NO]
  refine VL (VL (seqEpoch_at KG rfl (VM (VL (Yh KG rfl ?_ (Wl _) G0)))))
  simp only [bne_self_eq_false,Wc,WH]
  exact VM hP
 by_cases h2:vs.toArray.size < 2
 ·have ev:=short h2
  rw [if_pos h2,if_pos h2]
  refine VL (VM ?_)
  rw [StateT.run_pure]
  refine VL (VM ?_)
  have ez:(arrOf (SortSt.mk' general' (vs.toArray.zip vs.toArray) #[] 7 none)).map (·.2) = out.toArray:=by
   show (vs.toArray.zip vs.toArray).map (·.2) = out.toArray
   rw [ev]; apply Array.toList_inj.mp; simp [List.map_snd_zip]
  have q:=fin (SortSt.mk' general' (vs.toArray.zip vs.toArray) #[] 7 none) rfl ez
  simp only [bind_assoc,pure_bind] at q
  exact q
 ·rw [if_neg h2,if_neg h2]
  refine VL (W5 (run (Nat.le_of_not_lt h2) _ old) (fun κ s1 hk=>?_) fun _ _ x=>x)
  obtain ⟨rfl,hk⟩:=hk
  refine VL (W5 hk (fun r s2 hr=>?_) fun _ _ x=>x)
  obtain ⟨rfl,hf,NO⟩:=hr
  obtain ⟨⟨⟩,st⟩:=r
  have q:=fin st hf NO
  simp only [bind_assoc,pure_bind] at q
  exact q
theorem oF {T:String} {l:Addr} {o:Obj} {vs:List Value} {n:Nat} {Q:Value->Shared->Prop} (hT:T = "list" \/ T = "tuple") (ho:s.heap.get? l = some o) (hc:o.cls = .type T) (hd:o.data = .seq vs.toArray n) (hz:vs.length <= sizeLine)
  (hb:∀ h':Heap,h' = (((s.heap.push (seqObj "list" #[] 0)).update s.heap.objs.size (Obj.mapSeq (· ++ vs.toArray))).push (seqObj "list" vs.toArray 0))->h'.get? (s.heap.objs.size + 1) = some (seqObj "list" vs.toArray 0)->(∀ b o,s.heap.get? b = some o->h'.get? b = some o) ->
   wpAny (model prog w) A.in1.in1 (Builtin.«list.sort» ⟨[.ref (s.heap.objs.size + 1)],[]⟩) (fun fin s'=>fin = .done (.ret .none) /\ Q (.ref (s.heap.objs.size + 1)) s') E { s with heap:=h' }):wpAny (model prog w) A (call (.builtin "sorted") [.ref l]) Q E s:=by
 have zs:((s.heap.push (seqObj "list" #[] 0)).update s.heap.objs.size (Obj.mapSeq (· ++ vs.toArray))).objs.size = s.heap.objs.size + 1:=by rw [Heap.size_update,size_push']
 have k7:(((s.heap.push (seqObj "list" #[] 0)).update s.heap.objs.size (Obj.mapSeq (· ++ vs.toArray))).push (seqObj "list" vs.toArray 0)).get? (s.heap.objs.size + 1) = some (seqObj "list" vs.toArray 0):=by
  have q:=VY ((s.heap.push (seqObj "list" #[] 0)).update s.heap.objs.size (Obj.mapSeq (· ++ vs.toArray))) (o:=seqObj "list" vs.toArray 0) rfl
  rwa [zs] at q
 have old:∀ b o,s.heap.get? b = some o->(((s.heap.push (seqObj "list" #[] 0)).update s.heap.objs.size (Obj.mapSeq (· ++ vs.toArray))).push (seqObj "list" vs.toArray 0)).get? b = some o:=fun b o e =>
  VN _ ((Heap.get?_update_ne _ _ _ _ (Wj (V4 e))).trans (VN _ e))
 refine Calls.call_function_entry kind_sorted plain_sorted entry_sorted (args_sorted1 _) ?body
 case body =>
  unfold Builtin.«sorted»
  refine VL (m:=checkCount "sorted" 1 1 _) (VM (VL (B7 hT ho hc hd hz (VL (wpAny_newList ?_ hz)))))
  show wpAny _ _ _ _ _ { s with heap:=((s.heap.push (seqObj "list" #[] 0)).update s.heap.objs.size (Obj.mapSeq (· ++ vs.toArray))).push (seqObj "list" vs.toArray 0) }
  rw [zs]
  refine VL (W2 (Wt slot_list_sort ⟨_,k7,rfl⟩ entry_list_sort (W5 (hb _ rfl k7 old) (fun fin s' q=>?_) fun _ _ z=>z) (args_list_sort _)))
  obtain ⟨rfl,q⟩:=q
  exact ⟨_,rfl,VM ⟨_,rfl,q⟩⟩
theorem zO {T:String} {l:Addr} {o:Obj} {vs out:List Value} {n:Nat} {Q:Value->Shared->Prop} (hT:T = "list" \/ T = "tuple") (ho:s.heap.get? l = some o) (hc:o.cls = .type T) (hd:o.data = .seq vs.toArray n) (hz:vs.length <= sizeLine)
  (hlen:out.length = vs.length) (short:vs.length < 2->out = vs)
  (run:2 <= vs.length->∀ h':Heap,(∀ b o,s.heap.get? b = some o->h'.get? b = some o)->wpAny (model prog w) A.in1.in1 (keyKind' vs.toArray) (fun κ s1=>s1 = { s with heap:=h' } /\
   wpAny (model prog w) A.in1.in1 ((sortRuns').run (SortSt.mk' κ (vs.toArray.zip vs.toArray) #[] 7 none)) (fun r s2=>s2 = { s with heap:=h' } /\ failedOf r.2 = none /\ (arrOf r.2).map (·.2) = out.toArray) E s1) E { s with heap:=h' })
  (hQ:Q (.ref (s.heap.objs.size + 1)) { s with heap:=sortedAll s.heap vs out.toArray }):wpAny (model prog w) A (call (.builtin "sorted") [.ref l]) Q E s:=by
 refine oF hT ho hc hd hz fun h1 e1 k7 old=>?_
 subst e1
 exact zR (s:={ s with heap:=_ }) (out:=out) k7 hz hlen short (fun h2 h' kp=>run h2 h' fun b o e=>kp b o (Wj (Nat.lt_succ_of_lt (V4 e))) (old b o e)) ⟨rfl,hQ⟩
end
theorem jd {α:Type} (d:α) (l:List α):(List.range l.length).map (fun i=>l.getD i d) = l:=by
 apply List.ext_getElem?
 intro i
 rw [V3]
 by_cases h:i < l.length
 ·rw [List.getElem?_range h,VS h]
  simp [h]
 ·rw [List.getElem?_eq_none (by simpa using h),List.getElem?_eq_none (by simpa using h)]
  rfl
end PyProof.Rows
namespace L2
open PySem PySem.Spec PyProof.Rows
section
variable {prog:Program} {w:World} {A:Around} {E:Value->Shared->Prop} {s:Shared}
theorem wI {fin:Bool} {Q:Bool->Shared->Prop}:∀ (g k:List Int) (xs ys:List Value) (i:Nat),Vals (g.map V.int) xs->Vals (k.map V.int) ys->fin = decide (xs.length < ys.length)->Q (HT.lexLt g k) s->PySem.W.KatLex prog w A true fin Q (xs.zip ys) i s
 | [],[],_,_,_,.nil,.nil,hf,q=>by subst hf; exact q
 | [],_ :: _,_,_,_,.nil,.cons _ _,hf,q=>by subst hf; exact q
 | _ :: _,[],_,_,_,.cons _ _,.nil,hf,q=>by subst hf; exact q
 | a :: g,b :: k,x :: xs,y :: ys,i,.cons ra rg,.cons rb rk,hf,q=>by
  obtain ⟨t,rfl⟩:=ra
  obtain ⟨u,rfl⟩:=rb
  refine PySem.W.kat_cons (Ya ?_)
  rw [HT.h9] at q
  refine PySem.W.kat_go (fun h=>?_) (fun h=>?_)
  ·rw [if_pos (eq_of_beq h)] at q
   exact PySem.W.kat_yes (wI g k xs ys (i + 1) rg rk (by rw [hf]; simp) q)
  ·rw [if_neg (fun z=>by rw [z,beq_self_eq_true] at h; cases h)] at q
   refine PySem.W.kat_no ?_
   cases i with
   | zero=>exact oneLt_int q
   | succ j=>exact PySem.W.kat_one _ _ (lt_int q)
theorem sT {vs:List V} {us:List Value} (r:Vals vs us):∀ (p:List Nat),(∀ i ∈ p,i < vs.length)->Vals (p.map fun i=>vs.getD i .dR) (p.map fun i=>us.getD i Value.none)
 | [],_=>.nil
 | i :: p,h=>by
  refine .cons ?_ (sT r p fun j hj=>h j (VQ _ hj))
  have hi:=h i VR
  obtain ⟨u,hu,ru⟩:=r.get (VS hi)
  show RelV (vs.getD i .dR) (us.getD i Value.none)
  rw [V7,V7,VS hi,hu]
  exact ru
theorem wO {α:Type} {H:Hp} {f:α->PyData} {d:α} {l:List α} {vs:List V} (h:bK H (l.map f) vs):∀ (p:List Nat),(∀ i ∈ p,i < l.length)->bK H ((p.map fun i=>l.getD i d).map f) (p.map fun i=>vs.getD i .dR)
 | [],_=>.nil
 | i :: p,hp=>by
  refine .cons ?_ (wO h p fun j hj=>hp j (VQ _ hj))
  have hi:=hp i VR
  obtain ⟨v,hv,dv⟩:=h.get (i:=i) (d:=f l[i]) (by rw [V3,VS hi]; rfl)
  show DV H (f (l.getD i d)) (vs.getD i .dR)
  rw [V7,V7,VS hi,hv]
  exact dv
end
section
variable {X:Cx}
theorem uD:dI X (.builtin "sorted") (fun xs H Q=>∃ (p:Addr) (ns:List Int),xs = [.ref p] /\ a7 X.K H p (ns.map V.int) /\ ns.length < 64 /\ ∀ (l:Addr) (uL:List Int),H l = none->uL.Perm ns->uL.Pairwise (· <= ·)->Q (.ref l) (upd H l (.lst (uL.map V.int)))):=by
 intro pins s σ H xs us Q I r h
 obtain ⟨p,ns,rfl,hp,Tz,q⟩:=h
 obtain ⟨u,rfl,ru⟩:=vals1 r
 cases ru
 obtain ⟨aH,rv,⟨o,ho,hc,n,hd⟩,hz⟩:=I.tuple hp
 have ln:aH.length = ns.length:=by rw [<- rv.length,VO]
 have hI:=intsAre_of rv
 have UT:64 <= sizeLine:=by rw [Xy]; omega
 refine oF (T:="tuple") (.inr rfl) ho hc hd (by omega) fun h1 e1 k7 old=>?_
 subst e1
 refine list_sort_tree (s:={ s with heap:=_ }) k7 hI (by omega) fun out uL i1 i2 i3=>⟨rfl,?_⟩
 obtain ⟨e,he⟩:=sortedAll_at s.heap aH out
 have l1:uL.length = ns.length:=i2.length_eq
 refine ⟨.ref (s.heap.objs.size + 1),_,I.laid (t':=s.toks) (o:=.lst (uL.map V.int)) (fun b o hb=>sortedAll_old hb) (XD _) ⟨by rw [VO]; omega,out.toList,e,nS i1,?_⟩,rfl,q _ _ (I.ba.fresh (XD _)) i2 i3⟩
 rw [XG]; exact he
end
section
variable {X:Cx}
theorem K8 {bs:List Bool} {aH:List Value} (rv:Vals (bs.map V.bl) aH) {i:Nat} {v:Value} (h:aH.toArray[i]? = some v):v = .bool (bs.getD i false):=by
 have hi:i < aH.length:=by
  have:=(Array.getElem?_eq_some_iff.mp h).1
  simpa using this
 have ln:aH.length = bs.length:=by rw [<- rv.length,VO]
 have hb:bs[i]? = some (bs.getD i false):=by simp [show i < bs.length by omega]
 obtain ⟨u,hu,ru⟩:=rv.get (i:=i) (x:=.bl (bs.getD i false)) (by rw [V3,hb]; rfl)
 have e:aH[i]? = some v:=by simpa using h
 rw [e] at hu; cases hu
 exact ru
theorem range_all (bs:List Bool):(List.range bs.length).all (fun i=>bs.getD i false) = bs.all id:=by
 have q:=List.all_map (f:=fun i=>bs.getD i false) (p:=id) (l:=List.range bs.length)
 rw [jd] at q
 exact q.symm
theorem range_any (bs:List Bool):(List.range bs.length).any (fun i=>bs.getD i false) = bs.any id:=by
 have q:=List.any_map (f:=fun i=>bs.getD i false) (p:=id) (l:=List.range bs.length)
 rw [jd] at q
 exact q.symm
theorem wX {prog:Program} {w:World} {A:Around} {bs:List Bool} {aH:List Value} (rv:Vals (bs.map V.bl) aH):TruthOf prog w A (fun i v=>aH.toArray[i]? = some v) (fun i=>bs.getD i false):=fun i v s Q E hv q=>by
 rw [K8 rv hv]
 exact WR q
theorem oq {prog:Program} {w:World} {A:Around} {E:Value->Shared->Prop} {s:Shared} {l:Addr} {aH:Array Value} {Q:Value->Shared->Prop} (hl:s.heap.IsList l aH)
  (h:∀ s₂:Shared,s₂ = { s with heap:=s.heap.push { cls:=.type "list_iterator",data:=.fields #[.ref l,.int 0 0] } }->(s₂.heap.IsListIter s.heap.objs.size l 0 /\ s₂.heap.IsList l aH)->l ≠ s.heap.objs.size ->
   (∀ h':Heap,(∀ b o,b ∉ [s.heap.objs.size]->s₂.heap.get? b = some o->h'.get? b = some o)->∀ b o,s.heap.get? b = some o->h'.get? b = some o)->Q (.ref s.heap.objs.size) s₂):wpAny (model prog w) A (pyIter (.ref l)) Q E s:=by
 have lt:l < s.heap.objs.size:=by obtain ⟨_,e,_⟩:=hl; exact V4 e
 refine wpAny_pyIter_list hl (h _ rfl ⟨⟨_,VY _ rfl,rfl,rfl⟩,hl.push _⟩ (Wj lt) fun h' hk b o e=>hk b o (fun hm=>?_) (VN _ e))
 exact absurd (V4 e) (by rw [Wo.mp hm]; exact WX _)
theorem mw (hc:X.calm = true):dI X (.builtin "all") (fun xs H Q=>∃ (p:Addr) (bs:List Bool),xs = [.ref p] /\ aZ X.K H p (bs.map V.bl) /\ Q (.bl (bs.all id)) H):=by
 intro pins s σ H xs us Q I r h
 obtain ⟨p,bs,rfl,hp,q⟩:=h
 obtain ⟨u,rfl,ru⟩:=vals1 r
 cases ru
 obtain ⟨aH,rv,pl,_⟩:=I.list hp
 have ln:aH.toArray.size = bs.length:=by rw [V2,<- rv.length,VO]
 refine call_all_walk (oq pl.isList fun s₂ e st rM old=>?_)
 subst e
 refine ⟨_,_,_,_,_,_,_,rfl,Walks.list (A:=X.A.in1) (I.ok.hd hc) _ p rM aH.toArray,st,wX rv,fun h' tk hk=>?_⟩
 rw [ln,range_all]
 exact ⟨.bl _,H,I.kept (t':=tk) (old h' hk),rfl,q⟩
theorem B1 (hc:X.calm = true):dI X (.builtin "any") (fun xs H Q=>∃ (p:Addr) (bs:List Bool),xs = [.ref p] /\ aZ X.K H p (bs.map V.bl) /\ Q (.bl (bs.any id)) H):=by
 intro pins s σ H xs us Q I r h
 obtain ⟨p,bs,rfl,hp,q⟩:=h
 obtain ⟨u,rfl,ru⟩:=vals1 r
 cases ru
 obtain ⟨aH,rv,pl,_⟩:=I.list hp
 have ln:aH.toArray.size = bs.length:=by rw [V2,<- rv.length,VO]
 refine call_any_walk (oq pl.isList fun s₂ e st rM old=>?_)
 subst e
 refine ⟨_,_,_,_,_,_,_,rfl,Walks.list (A:=X.A.in1) (I.ok.hd hc) _ p rM aH.toArray,st,wX rv,fun h' tk hk=>?_⟩
 rw [ln,range_any]
 exact ⟨.bl _,H,I.kept (t':=tk) (old h' hk),rfl,q⟩
def xO (ns:List Int):Int:=ns.getD (argBest (fun i j=>decide (ns.getD i 0 > ns.getD j 0)) (ns.length - 1)) 0
theorem lY (bt:Nat->Nat->Bool):∀ k,argBest bt k <= k
 | 0=>VP _
 | k + 1=>by
  unfold argBest
  split
  ·exact VP _
  ·exact Nat.le_succ_of_le (lY bt k)
theorem BL {ns:List Int} (h:ns ≠ []):xO ns ∈ ns:=by
 have hl:0 < ns.length:=Yf.mpr h
 have hk:argBest (fun i j=>decide (ns.getD i 0 > ns.getD j 0)) (ns.length - 1) < ns.length:=by
  have:=lY (fun i j=>decide (ns.getD i 0 > ns.getD j 0)) (ns.length - 1)
  omega
 unfold xO
 rw [V7,VS hk]
 exact Xn hk
theorem qB:∀ {ns:List Int} {aH:List Value},Vals (ns.map V.int) aH->∃ ps:List (Int × Tok),aH = ps.map (fun p=>Value.int p.1 p.2) /\ ps.map (·.1) = ns
 | [],_,.nil=>⟨[],rfl,rfl⟩
 | n :: ns,_,.cons r rr=>by
  obtain ⟨t,rfl⟩:=r
  obtain ⟨ps,e1,e2⟩:=qB rr
  exact ⟨(n,t) :: ps,by rw [e1]; rfl,by rw [<- e2]; rfl⟩
theorem vd (hc:X.calm = true):dI X (.builtin "max") (fun xs H Q=>∃ (p:Addr) (ns:List Int),xs = [.ref p] /\ aZ X.K H p (ns.map V.int) /\ ns ≠ [] /\ Q (.int (xO ns)) H):=by
 intro pins s σ H xs us Q I r h
 obtain ⟨p,ns,rfl,hp,rM,q⟩:=h
 obtain ⟨u,rfl,ru⟩:=vals1 r
 cases ru
 obtain ⟨aH,rv,pl,_⟩:=I.list hp
 obtain ⟨ps,rfl,e2⟩:=qB rv
 have ia:(ps.map fun p=>Value.int p.1 p.2).toArray = intItems ps.toArray:=by unfold intItems; simp
 have hl:(intItems ps.toArray).size = ns.length:=by rw [<- e2]; simp [intItems]
 have oC:ps.toArray.size = ns.length:=by rw [<- e2]; simp
 have na:numAt ps.toArray = fun i=>ns.getD i 0:=by
  funext i
  rw [<- e2]
  unfold numAt
  rw [V7,V3]
  simp
 refine max_intList (I.ok.hd hc) (xs:=ps.toArray) (by rw [<- ia]; exact pl.isList) (by rw [oC]; exact Yf.mpr rM) fun v h' tk hv hk=>?_
 obtain ⟨t,rfl⟩:=intItems_at hv
 rw [na,oC]
 exact ⟨.int (xO ns),H,I.kept (t':=tk) hk,⟨t,rfl⟩,q⟩
def Gz (K:Yt):R2:=fun x y H Q=>∃ a b xs ys,x = .ref a /\ y = .ref b /\ a7 K H a xs /\ a7 K H b ys /\ xs.length + ys.length <= sizeLine /\
 (xs = []->Q (.ref b) H) /\ (xs ≠ []->ys = []->Q (.ref a) H) /\ (xs ≠ []->ys ≠ []->∀ p,H p = none->Q (.ref p) (upd H p (.tup (xs ++ ys))))
theorem yM:iL X (binaryOp .Add) (Gz X.K):=by
 intro pins s σ H x y v u Q I rx ry h
 obtain ⟨a,b,xs,ys,rfl,rfl,ha,hb,hz,q0,q1,q2⟩:=h
 cases rx; cases ry
 obtain ⟨aH,r1,p1,_⟩:=I.tuple ha
 obtain ⟨kU,r2,p2,_⟩:=I.tuple hb
 have n1:∀ z:aH ≠ [],xs ≠ []:=fun z w'=>z (r1.pR.mpr w')
 have n2:∀ z:kU ≠ [],ys ≠ []:=fun z w'=>z (r2.pR.mpr w')
 by_cases h0:aH = []
 ·obtain ⟨⟨c1,d1,Vx,Q1⟩,g1,k1,m1,e1⟩:=id p1
  obtain ⟨⟨c2,d2,VH,Ln⟩,g2,k2,m2,e2⟩:=id p2
  simp only at k1 e1 k2 e2
  subst k1 e1 k2 e2
  exact concat_meets ⟨_,g1,rfl⟩ ⟨_,g2,rfl⟩ noFill_tuple_add seq_tuple_add PySem.F.slot_tuple_add PySem.F.entry_tuple_add (PySem.F.args_tuple_add_2 _ _) (tuple_addW0 a b aH.toArray kU.toArray m1 m2 d1 d2 Q1 Ln (by simp [h0])) ⟨g1,g2,.ref b,H,I,rfl,q0 (r1.pR.mp h0)⟩
 refine HT.Ev p1 p2 h0 (fun z'=>⟨.ref a,H,I,rfl,q1 (n1 h0) (r2.pR.mp z')⟩) (fun z'=>?_) (by rw [<- r1.length,<- r2.length]; exact hz)
 exact ⟨.ref s.heap.objs.size,_,I.laid (t':=s.toks) (o:=.tup (xs ++ ys)) (fun b ob q=>VN _ q) (VP _) ⟨by rw [Wf]; exact hz,_,r1.append r2,IsTup.new _ _⟩,rfl,q2 (n1 h0) (n2 z') _ (I.ba.fresh (VP _))⟩
end
end L2
namespace PySem
open Sem (wp)
open PyProof.Rows
section
variable {prog:Program} {w:World} {A:Around} {E:Value->Shared->Prop} {s:Shared}
theorem lF {it t:Addr} {i:Nat} {aH:Array Value} {x:Value} {Q:Value->Shared->Prop} (hi:s.heap.IsTupleIter it t i) (ht:s.heap.IsTuple t aH) (hx:aH[i]? = some x) (hQ:∀ h',h'.IsTupleIter it t (i + 1)->Heap.SameBut it s.heap h'->Q x { s with heap:=h' }) :
  wpAny (model prog w) A (Builtin.SmallTypes.nextOf (.ref it)) Q E s:=by
 obtain ⟨o,ho,hc,hd⟩:=id hi
 obtain ⟨ol,Nx,_,nl,Op⟩:=ht
 unfold Builtin.SmallTypes.nextOf
 refine VL (WL (name:=Str.ofString "__next__") hi.typeIs X7 (Wt X7 hi.typeIs F.entry_tuple_iterator_next ?b (F.args_tuple_iterator_next_1 _)))
 case b =>
  show wpAny _ _ (field (.ref it) 0 >>= _) _ _ _; refine VL (WT ho hd (x:=.ref t) rfl ?_)
  show wpAny _ _ (if (Value.ref t == Value.none) = true then _ else _) _ _ _; rw [if_neg (show ¬ ((Value.ref t == Value.none) = true) from VU)]
  show wpAny _ _ (field (.ref it) 1 >>= _) _ _ _; refine VL (WT ho hd (x:=.int i 0) rfl ?_)
  show wpAny _ _ (seqItems? (.ref t) >>= _) _ _ _; refine VL (Xq Nx Op ?_)
  simp only [WS,hx]
  exact VL (wpAny_setField ho hd (by simp) (VM ⟨x,rfl,VM (hQ _ ⟨_,Heap.get?_update_self _ ho (Obj.isFreed_of_fields (Obj.data_mapFields hd _)),(Obj.cls_mapFields ..).trans hc,by rw [Obj.data_mapFields hd]; simp [rawInt]⟩ (WO ..))⟩))
theorem tK {it t:Addr} {i:Nat} {aH:Array Value} {Q:Value->Shared->Prop} (hh:A.handled = none) (hi:s.heap.IsTupleIter it t i) (ht:s.heap.IsTuple t aH) (hx:aH[i]? = none)
  (hE:∀ h' e,Heap.ExtBut it s.heap h'->(∃ o,h'.get? e = some o /\ o.cls = .type "StopIteration")->E (.ref e) { s with heap:=h' }):wpAny (model prog w) A (Builtin.SmallTypes.nextOf (.ref it)) Q E s:=by
 obtain ⟨o,ho,hc,hd⟩:=id hi
 obtain ⟨ol,Nx,_,nl,Op⟩:=ht
 unfold Builtin.SmallTypes.nextOf
 refine VL (WL (name:=Str.ofString "__next__") hi.typeIs X7 (Wt X7 hi.typeIs F.entry_tuple_iterator_next ?b (F.args_tuple_iterator_next_1 _)))
 case b =>
  show wpAny _ _ (field (.ref it) 0 >>= _) _ _ _; refine VL (WT ho hd (x:=.ref t) rfl ?_)
  show wpAny _ _ (if (Value.ref t == Value.none) = true then _ else _) _ _ _; rw [if_neg (show ¬ ((Value.ref t == Value.none) = true) from VU)]
  show wpAny _ _ (field (.ref it) 1 >>= _) _ _ _; refine VL (WT ho hd (x:=.int i 0) rfl ?_)
  show wpAny _ _ (seqItems? (.ref t) >>= _) _ _ _; refine VL (Xq Nx Op ?_)
  simp only [WS,hx]
  refine VL (Xl (VL (wpAny_setField ho hd (by simp) ?_)))
  show wpAny _ _ (newExc (.type "StopIteration") [] >>= _) _ _ _; refine VL ?_; simp only [newExc,newTuple]
  refine VL (Wz (VL (m:=firstArgMember _ _) (wpAny_of_eq (a:=Value.none) (by first | rfl | (simp only [firstArgMember]; rfl)) (Wz ?_ (by size_fits)))) (by size_fits))
  simp only [raiseNew]
  refine VL (wpAny_handled ?_)
  first | rw [show A.in1.handled = none from hh] | rw [hh]
  exact VL (VM (wpAny_throw (hE _ _ (((WO ..).extBut.push _).push _) ⟨_,VY _ rfl,rfl⟩)))
structure Cj (h:Heap) (z TI TO i1 i2 l1 l2:Addr) (f0:Value) (k:Nat) (xs ys:Array Value):Prop where
 z:IsZip h z TI TO f0
 i:IsPair h TI (.ref i1) (.ref i2)
 o:∃ a b,IsPair h TO a b
 a:h.IsTupleIter i1 l1 k
 b:h.IsTupleIter i2 l2 k
 xs:h.IsTuple l1 xs
 ys:h.IsTuple l2 ys
theorem AC {z TI TO i1 i2 l1 l2:Addr} {k:Nat} {xs ys:Array Value} {x y:Value} {Q:Option Value->Shared->Prop} (D:ZipApart z TI TO i1 i2 l1 l2) (Z:Cj s.heap z TI TO i1 i2 l1 l2 .none k xs ys) (hx:xs[k]? = some x) (hy:ys[k]? = some y)
  (hQ:∀ h',IsZip h' z TI TO (rawInt s.heap.objs.size)->IsPair h' TO x y->h'.IsTupleIter i1 l1 (k + 1)->h'.IsTupleIter i2 l2 (k + 1)->IsPair h' s.heap.objs.size x y->h'.objs.size = s.heap.objs.size + 1 ->
   (∀ c o,c ≠ z->c ≠ TO->c ≠ i1->c ≠ i2->s.heap.get? c = some o->h'.get? c = some o)->Q (some (.ref s.heap.objs.size)) { s with heap:=h' }):wpAny (model prog w) A (pyNext (.ref z)) Q E s:=by
 obtain ⟨hz,Nh,⟨a,b,Oe⟩,h1,h2,Bf,oC⟩:=Z
 have hT:s.TypeIs (.ref z) "zip":=⟨_,hz,rfl⟩
 unfold pyNext
 refine VL (XI (WL (name:=Str.ofString "__next__") hT F.slot_zip_next (Wt F.slot_zip_next hT F.entry_zip_next ?b (F.args_zip_next_1 _))))
 case b =>
  show wpAny _ _ (field (.ref z) 2 >>= _) _ _ _; refine VL (WT hz rfl (x:=.bool false) rfl ?_)
  show wpAny _ _ (field (.ref z) 3 >>= _) _ _ _; refine VL (WT hz rfl (x:=.ref TI) rfl (VL (Xq Nh rfl ?_)))
  show wpAny _ _ (Builtin.SmallTypes.ownedTupleIsFree (.ref z) >>= _) _ _ _; refine VL ?_; unfold Builtin.SmallTypes.ownedTupleIsFree
  refine VL (WT hz rfl (x:=.none) rfl (VM ?_)); simp only [Xe]
  refine VL (Xl (VL (WT hz rfl (x:=.ref TO) rfl (VL (WV hz (by simp) fun g1 yI s1=>?_)))))
  replace yI:IsZip g1 z TI TO .ellipsis:=yI
  refine VL ?_; simp only [List.zipIdx_cons,List.zipIdx_nil,W8,X5]
  refine VL (VL (wpAny_onRaise (show wpAny _ _ (Builtin.SmallTypes.nextOf (.ref i1) >>= _) _ _ _ from VL (lF (h1.extBut s1.extBut D.i1z) (Bf.extBut s1.extBut D.l1z) hx fun g2 j1 s2=>VM ?_))))
  have o2:IsPair g2 TO a b:=s2.extBut _ _ D.TOi1 (s1.extBut _ _ D.TOz Oe)
  refine VL (Xq o2 rfl (VL (wpAny_updateSeq_pair o2 fun g3 o3 s3=>VL (wpAny_letGo (VM ?_)))))
  replace o3:IsPair g3 TO x b:=o3
  refine VL (VL (wpAny_onRaise (show wpAny _ _ (Builtin.SmallTypes.nextOf (.ref i2) >>= _) _ _ _ from VL (lF (((h2.extBut s1.extBut D.i2z).extBut s2.extBut D.i12.symm).extBut s3.extBut D.TOi2.symm) (((oC.extBut s1.extBut D.l2z).extBut s2.extBut D.l2i1).extBut s3.extBut D.l2TO) hy fun g4 j2 s4=>VM ?_))))
  have o4:IsPair g4 TO x b:=s4.extBut _ _ D.TOi2 o3
  refine VL (Xq o4 rfl (VL (wpAny_updateSeq_pair o4 fun g5 o5 s5=>VL (wpAny_letGo (VM (VM ?_))))))
  replace o5:IsPair g5 TO x y:=o5
  refine VL (Xq o5 rfl (VL (wpAny_newTuple ?_)))
  have sz:g5.objs.size = s.heap.objs.size:=by rw [s5.1,s4.1,s3.1,s2.1,s1.1]
  have z5:IsZip g5 z TI TO .ellipsis:=s5.extBut _ _ D.TOz.symm (s4.extBut _ _ D.i2z.symm (s3.extBut _ _ D.TOz.symm (s2.extBut _ _ D.i1z.symm yI)))
  have k5:∀ c o,c ≠ z->c ≠ TO->c ≠ i1->c ≠ i2->s.heap.get? c = some o->g5.get? c = some o:=fun c o c1 c2 c3 c4 e=>s5.extBut _ _ c2 (s4.extBut _ _ c4 (s3.extBut _ _ c2 (s2.extBut _ _ c3 (s1.extBut _ _ c1 e))))
  have a5:g5.IsTupleIter i1 l1 (k + 1):=((j1.extBut s3.extBut D.TOi1.symm).extBut s4.extBut D.i12).extBut s5.extBut D.TOi1.symm
  have b5:g5.IsTupleIter i2 l2 (k + 1):=j2.extBut s5.extBut D.TOi2.symm
  have Pk:z < g5.objs.size:=V4 z5
  show wpAny _ _ (Builtin.SmallTypes.ownedTupleHandOut (.ref z) (.ref g5.objs.size) >>= _) _ _ _; refine VL ?_; unfold Builtin.SmallTypes.ownedTupleHandOut
  refine VL (WV (show IsZip (g5.push { cls:=.type "tuple",data:=.seq #[x,y] }) z TI TO .ellipsis from VN _ z5) (by simp) fun g7 z7 s7=>?_)
  replace z7:IsZip g7 z TI TO (rawInt g5.objs.size):=z7
  refine WV z7 (by simp) fun g8 z8 s8=>?_
  replace z8:IsZip g8 z TI TO (rawInt g5.objs.size):=z8
  have up:∀ c o,c ≠ z->g5.get? c = some o->g8.get? c = some o:=fun c o c1 e=>s8.extBut _ _ c1 (s7.extBut _ _ c1 (VN _ e))
  have t8:IsPair g8 g5.objs.size x y:=s8.extBut _ _ (X8 Pk) (s7.extBut _ _ (X8 Pk) (VY _ rfl))
  have n8:g8.objs.size = g5.objs.size + 1:=by rw [s8.1,s7.1,XN]
  refine VM ⟨_,rfl,VM ?_⟩
  rw [sz] at z8 t8 n8
  have fin:=hQ g8 z8 (up _ _ D.TOz o5) (a5.at fun o e=>up _ o D.i1z e) (b5.at fun o e=>up _ o D.i2z e) t8 n8 fun c o c1 c2 c3 c4 e=>up c o c1 (k5 c o c1 c2 c3 c4 e)
  rw [<- sz] at fin
  exact fin
theorem Dm {z TI TO i1 i2 l1 l2:Addr} {k:Nat} {xs ys:Array Value} {Q:Option Value->Shared->Prop} (hh:A.handled = none) (D:ZipApart z TI TO i1 i2 l1 l2) (Z:Cj s.heap z TI TO i1 i2 l1 l2 .none k xs ys) (Hb:xs[k]? = none \/ ys[k]? = none)
  (hQ:∀ h',(∀ c o,c ≠ z->c ≠ TO->c ≠ i1->c ≠ i2->s.heap.get? c = some o->h'.get? c = some o)->Q none { s with heap:=h' }):wpAny (model prog w) A (pyNext (.ref z)) Q E s:=by
 obtain ⟨hz,Nh,⟨a,b,Oe⟩,h1,h2,Bf,oC⟩:=Z
 have hT:s.TypeIs (.ref z) "zip":=⟨_,hz,rfl⟩
 have last:∀ (h':Heap) (e:Addr),(∀ c o,c ≠ z->c ≠ TO->c ≠ i1->c ≠ i2->s.heap.get? c = some o->h'.get? c = some o)->(∃ o,h'.get? e = some o /\ o.cls = .type "StopIteration") ->
   wpAny (model prog w) A (do if <- isInstance (.ref e) (.type "StopIteration") then pure none else throw (.ref e)) Q E { s with heap:=h' }:=fun h' e hk ⟨o,ho,hc⟩ =>
  VL (Xm (T:="StopIteration") (b:=true) ⟨o,ho,hc⟩ isSubtype_stop (VM (hQ _ hk)))
 unfold pyNext
 refine VL (XI (WL (name:=Str.ofString "__next__") hT F.slot_zip_next (Wt F.slot_zip_next hT F.entry_zip_next ?b (F.args_zip_next_1 _))))
 case b =>
  show wpAny _ _ (field (.ref z) 2 >>= _) _ _ _; refine VL (WT hz rfl (x:=.bool false) rfl ?_)
  show wpAny _ _ (field (.ref z) 3 >>= _) _ _ _; refine VL (WT hz rfl (x:=.ref TI) rfl (VL (Xq Nh rfl ?_)))
  show wpAny _ _ (Builtin.SmallTypes.ownedTupleIsFree (.ref z) >>= _) _ _ _; refine VL ?_; unfold Builtin.SmallTypes.ownedTupleIsFree
  refine VL (WT hz rfl (x:=.none) rfl (VM ?_)); simp only [Xe]
  refine VL (Xl (VL (WT hz rfl (x:=.ref TO) rfl (VL (WV hz (by simp) fun g1 yI s1=>?_)))))
  replace yI:IsZip g1 z TI TO .ellipsis:=yI
  refine VL ?_; simp only [List.zipIdx_cons,List.zipIdx_nil,W8,X5]
  refine VL (VL (wpAny_onRaise (show wpAny _ _ (Builtin.SmallTypes.nextOf (.ref i1) >>= _) _ _ _ from VL ?_)))
  cases ex:xs[k]? with
  | none =>
   refine tK hh (h1.extBut s1.extBut D.i1z) (Bf.extBut s1.extBut D.l1z) ex fun g2 e s2 he=>?_
   obtain ⟨oe,GQ,KH⟩:=he
   have z2:IsZip g2 z TI TO .ellipsis:=s2 _ _ D.i1z.symm yI
   have ez:e ≠ z:=fun q=>by subst q; rw [z2] at GQ; cases GQ; simp at KH
   exact WV z2 (by simp) fun g3 _ s3=>last g3 e (fun c o c1 _ c3 _ q=>s3.extBut _ _ c1 (s2 _ _ c3 (s1.extBut _ _ c1 q))) ⟨oe,s3.extBut _ _ ez GQ,KH⟩
  | some x =>
   have ey:ys[k]? = none:=by rcases Hb with h | h; rw [ex] at h; cases h; exact h
   refine lF (h1.extBut s1.extBut D.i1z) (Bf.extBut s1.extBut D.l1z) ex fun g2 j1 s2=>VM ?_
   have o2:IsPair g2 TO a b:=s2.extBut _ _ D.TOi1 (s1.extBut _ _ D.TOz Oe)
   refine VL (Xq o2 rfl (VL (wpAny_updateSeq_pair o2 fun g3 o3 s3=>VL (wpAny_letGo (VM ?_)))))
   refine VL (VL (wpAny_onRaise (show wpAny _ _ (Builtin.SmallTypes.nextOf (.ref i2) >>= _) _ _ _ from VL ?_)))
   refine tK hh (((h2.extBut s1.extBut D.i2z).extBut s2.extBut D.i12.symm).extBut s3.extBut D.TOi2.symm) (((oC.extBut s1.extBut D.l2z).extBut s2.extBut D.l2i1).extBut s3.extBut D.l2TO) ey fun g4 e s4 he=>?_
   obtain ⟨oe,GQ,KH⟩:=he
   have z4:IsZip g4 z TI TO .ellipsis:=s4 _ _ D.i2z.symm (s3.extBut _ _ D.TOz.symm (s2.extBut _ _ D.i1z.symm yI))
   have ez:e ≠ z:=fun q=>by subst q; rw [z4] at GQ; cases GQ; simp at KH
   exact WV z4 (by simp) fun g5 _ s5=>last g5 e (fun c o c1 c2 c3 c4 q=>s5.extBut _ _ c1 (s4 _ _ c4 (s3.extBut _ _ c2 (s2.extBut _ _ c3 (s1.extBut _ _ c1 q))))) ⟨oe,s5.extBut _ _ ez GQ,KH⟩
end
abbrev LA (h:Heap) (l1:Addr):Heap:=h.push { cls:=.type "tuple_iterator",data:=.fields #[.ref l1,.int 0 0] }
abbrev Me (h:Heap) (l1 l2:Addr):Heap:=(LA h l1).push { cls:=.type "tuple_iterator",data:=.fields #[.ref l2,.int 0 0] }
abbrev Lq (h:Heap) (l1 l2:Addr):Heap:=(Me h l1 l2).push { cls:=.type "tuple",data:=.seq #[.ref h.objs.size,.ref (LA h l1).objs.size] }
abbrev Mn (h:Heap) (l1 l2:Addr):Heap:=(Lq h l1 l2).push { cls:=.type "tuple",data:=.seq #[.none,.none] }
abbrev Ib (h:Heap) (l1 l2:Addr):Heap:=(Mn h l1 l2).push { cls:=.type "zip",data:=.fields #[.none,.bool false,.bool false,.ref (Me h l1 l2).objs.size,.ref (Lq h l1 l2).objs.size] }
theorem xz (l1 l2:Addr) (xs ys:Array Value):Meets (Builtin.«zip.__new__» ⟨[.type "zip",.ref l1,.ref l2],[]⟩) (fun _ R s=>s.heap.IsTuple l1 xs /\ s.heap.IsTuple l2 ys /\ R (.ok (.ret (.ref (Mn s.heap l1 l2).objs.size))) { s with heap:=Ib s.heap l1 l2 }) :=
 .of_wp fun prog w A R s hs=>by
  obtain ⟨hp,g,d,tk,os⟩:=s; obtain ⟨t1,t2,hR⟩:=hs
  have Aj:=sub_zip
  have T1:Heap.IsTuple (Shared.heap ⟨hp,g,d,tk,os⟩) l1 xs:=t1
  have T2:Heap.IsTuple (Shared.heap ⟨hp.push { cls:=.type "tuple_iterator",data:=.fields #[.ref l1,.int 0 0] },g,d,tk,os⟩) l2 ys:=by
   obtain ⟨o,ho,r⟩:=t2; exact ⟨o,VN _ ho,r⟩
  wp_walk using wpAny_pyIter_tuple T1,wpAny_pyIter_tuple T2
  exact ⟨_,rfl,hR⟩
section
variable {prog:Program} {w:World} {A:Around} {E:Value->Shared->Prop} {s:Shared}
theorem A6 {l1 l2:Addr} {xs ys:Array Value} {Q:Value->Shared->Prop} (t1:s.heap.IsTuple l1 xs) (t2:s.heap.IsTuple l2 ys)
  (h:∀ h',Cj h' (s.heap.objs.size + 4) (s.heap.objs.size + 2) (s.heap.objs.size + 3) s.heap.objs.size (s.heap.objs.size + 1) l1 l2 .none 0 xs ys->(∀ c o,s.heap.get? c = some o->h'.get? c = some o)->Q (.ref (s.heap.objs.size + 4)) { s with heap:=h' }) :
  wpAny (model prog w) A (call (.type "zip") [.ref l1,.ref l2]) Q E s:=by
 have y1:(LA s.heap l1).objs.size = s.heap.objs.size + 1:=XN ..
 have y2:(Me s.heap l1 l2).objs.size = s.heap.objs.size + 2:=by rw [XN,y1]
 have y3:(Lq s.heap l1 l2).objs.size = s.heap.objs.size + 3:=by rw [XN,y2]
 have y4:(Mn s.heap l1 l2).objs.size = s.heap.objs.size + 4:=by rw [XN,y3]
 have up:∀ c o,s.heap.get? c = some o->(Ib s.heap l1 l2).get? c = some o:=fun c o x=>VN _ (VN _ (VN _ (VN _ (VN _ x))))
 have p5:(Ib s.heap l1 l2).get? (Mn s.heap l1 l2).objs.size = some _:=VY _ rfl
 have p4:(Ib s.heap l1 l2).get? (Lq s.heap l1 l2).objs.size = some _:=VN _ (VY _ rfl)
 have p3:(Ib s.heap l1 l2).get? (Me s.heap l1 l2).objs.size = some _:=VN _ (VN _ (VY _ rfl))
 have p2:(Ib s.heap l1 l2).get? (LA s.heap l1).objs.size = some _:=VN _ (VN _ (VN _ (VY _ rfl)))
 have p1:(Ib s.heap l1 l2).get? s.heap.objs.size = some _:=VN _ (VN _ (VN _ (VN _ (VY _ rfl))))
 rw [y4,y2,y3] at p5; rw [y3] at p4; rw [y2,y1] at p3; rw [y1] at p2
 refine callType_new F.called_zip (by decide) (F.typeCall_zip_2 _ _) (F.newCall_zip_2 _ _) (fun obj=>F.args_object_init_3 obj _ _) F.entry_zip_new (xz l1 l2 xs ys) ⟨t1,t2,?_⟩
 rw [y4]
 refine ⟨⟨_,p5,rfl⟩,h _ ⟨p5,p3,⟨_,_,p4⟩,⟨_,p1,rfl,rfl⟩,⟨_,p2,rfl,rfl⟩,?_,?_⟩ up⟩
 ·obtain ⟨o,ho,r⟩:=t1; exact ⟨o,up _ _ ho,r⟩
 ·obtain ⟨o,ho,r⟩:=t2; exact ⟨o,up _ _ ho,r⟩
end
end PySem
namespace L2
open PySem PySem.Spec PyProof.Rows
section
variable {X:Cx} {pins:List (Addr × Obj)} {σ:St} {H:Hp} {s:Shared}
theorem Inv.drawn {h':Heap} {ch:List Addr} {p:Addr} {o:HO} {t':Nat} (I:Inv X pins σ H s) (pO:∀ b ∈ ch,uk X pins H b) (k:∀ b u,b ∉ ch->s.heap.get? b = some u->h'.get? b = some u) (hp:s.heap.objs.size <= p)
  (new:ck X.prog X.w (upd H p o) h' p o):Inv X pins σ (upd H p o) { s with heap:=h',toks:=t' }:=by
 have hn:H p = none:=I.ba.fresh hp
 have Cc:∀ b u,H b = some u->b ∉ ch:=fun b u e hb=>by rw [(pO b hb).1] at e; cases e
 refine I.step (g':=s.gens) (d':=s.drawn) (ch:=ch) (fun b hb=>⟨(pO b hb).2.2.2.1,(pO b hb).2.1,(pO b hb).2.2.2.2.1,(pO b hb).2.2.2.2.2⟩) (fun b u _ _ hc e _=>k b u hc e) (fun b u _ _ hc e _=>⟨u.slots,k b u hc e⟩) (fun b u hc e n=>?_) (fun b u hc e=>⟨u,k b u hc e⟩)
  (fun b xs e=>by rw [aq (aG e hn)]; exact e) (fun b _ _ e=>by rw [aq (aG e hn)]; exact e) (fun b ps e=>⟨#[],by rw [aq (aG e hn),e]; simp⟩) (fun m hm=>?_) (fun b u e=>?_) I.bare
 ·rw [aq (Wj (Wn (V4 e) hp))]; exact n
 ·obtain ⟨ob,es,ep,rK,r⟩:=hm
  exact ⟨ob,es,ep,k _ ob (fun z=>(pO _ z).2.1 rfl) rK,r⟩
 ·by_cases hb:b = p
  ·subst hb; rw [ae] at e; cases e; exact new
  ·rw [aq hb] at e
   refine (I.ba b u e).lZ (fun c v hc q=>k c v ?_ q) (fun c q=>by rw [aq (aG q hn)]; exact q) fun c xs q=>by rw [aq (aG q hn)]; exact q
   rcases hc with z | z
   ·rw [z]; exact Cc b u e
   ·exact Cc c _ z
end
def NF (a b:Addr):It :=
 ⟨fun i H=>∃ xs ys x y,H a = some (.tup xs) /\ H b = some (.tup ys) /\ xs[i]? = some x /\ ys[i]? = some y,
  fun i H v H'=>∃ p x y,v = .ref p /\ H p = none /\ H' = upd H p (.tup [x,y]) /\ ∀ xs ys,H a = some (.tup xs)->H b = some (.tup ys)->xs[i]? = some x /\ ys[i]? = some y,
  fun i H=>∃ xs ys,H a = some (.tup xs) /\ H b = some (.tup ys) /\ (xs.length <= i \/ ys.length <= i)⟩
structure Jq (z TI TO i1 i2:Addr):Prop where
 a1:TI ≠ z
 a2:TO ≠ z
 a3:i1 ≠ z
 a4:i2 ≠ z
 b2:TI ≠ TO
 b3:TI ≠ i1
 b4:TI ≠ i2
 c3:TO ≠ i1
 c4:TO ≠ i2
 d4:i1 ≠ i2
def Ua (z TI TO i1 i2 a b:Addr) (f0:Value) (i:Nat) (h:Heap):Prop:=IsZip h z TI TO f0 /\ IsPair h TI (.ref i1) (.ref i2) /\ (∃ x y,IsPair h TO x y) /\ h.IsTupleIter i1 a i /\ h.IsTupleIter i2 b i
theorem Di {P:Program} {w:World} {K:Yt} {elts:List Expr} {kk:Nat} {Fc:Pos} {a b z TI TO i1 i2:Addr} (N:Jq z TI TO i1 i2):Turn P w K (.Tuple elts kk Fc) (NF a b) [z,TI,TO,i1,i2] z (Ua z TI TO i1 i2 a b .none) where
 mem:=by simp
 obj:=fun i h st c hc=>by
  obtain ⟨h1,h2,⟨x,y,h3⟩,⟨o4,e4,_,d4⟩,⟨o5,e5,_,d5⟩⟩:=st
  simp only [VT,Yb,or_false] at hc
  rcases hc with rfl | rfl | rfl | rfl | rfl
  ·exact ⟨_,h1,fun v q=>by cases q⟩
  ·exact ⟨_,h2,fun v q=>by cases q⟩
  ·exact ⟨_,h3,fun v q=>by cases q⟩
  ·exact ⟨_,e4,fun v q=>by rw [d4] at q; cases q⟩
  ·exact ⟨_,e5,fun v q=>by rw [d5] at q; cases q⟩
 keep:=fun i h h' st k=>by
  obtain ⟨h1,h2,⟨x,y,h3⟩,⟨o4,e4,r4⟩,⟨o5,e5,r5⟩⟩:=st
  exact ⟨k z (by simp) _ h1,k TI (by simp) _ h2,⟨x,y,k TO (by simp) _ h3⟩,⟨o4,k i1 (by simp) _ e4,r4⟩,⟨o5,k i2 (by simp) _ e5,r5⟩⟩
 item:=by
  intro X hP hw hK hc i pins s σ H E I hf st hg
  subst hP hw hK
  obtain ⟨xs,ys,x,y,ha,hb,hx,hy⟩:=hg
  obtain ⟨_,us,ru,o1,e1,c1,n1,d1⟩:=I.ba a _ ha
  obtain ⟨_,vs,rv,o2,e2,c2,n2,d2⟩:=I.ba b _ hb
  obtain ⟨ux,fx,rx⟩:=ru.get hx
  obtain ⟨uy,fy,ry⟩:=rv.get hy
  have na:∀ c ∈ [z,TI,TO,i1,i2],a ≠ c:=fun c hc q=>by have:=(hf c hc).1; rw [<- q,ha] at this; cases this
  have nb:∀ c ∈ [z,TI,TO,i1,i2],b ≠ c:=fun c hc q=>by have:=(hf c hc).1; rw [<- q,hb] at this; cases this
  have D:ZipApart z TI TO i1 i2 a b:=⟨N.a1,N.a2,N.a3,N.a4,N.b2,N.b3,N.b4,N.c3,N.c4,N.d4,na z (by simp),na TO (by simp),na i1 (by simp),na i2 (by simp),nb z (by simp),nb TO (by simp),nb i1 (by simp),nb i2 (by simp)⟩
  obtain ⟨s1,s2,s3,s4,s5⟩:=st
  have Z:Cj s.heap z TI TO i1 i2 a b .none i us.toArray vs.toArray:=⟨s1,s2,s3,s4,s5,⟨o1,e1,c1,n1,d1⟩,⟨o2,e2,c2,n2,d2⟩⟩
  refine AC D Z (x:=ux) (y:=uy) (by simpa using fx) (by simpa using fy) fun h' z1 z2 z3 z4 z5 z6 kp=>?_
  refine ⟨_,rfl,wpAny_letOwnedTupleGo_zip (s:={ s with heap:=h' }) z1 fun h2 y1 sb=>?_⟩
  have lt:∀ c ∈ [z,TI,TO,i1,i2],c < s.heap.objs.size:=fun c hc=>by
   simp only [VT,Yb,or_false] at hc
   obtain ⟨x',y',h3⟩:=s3
   obtain ⟨o4,e4,_⟩:=s4
   obtain ⟨o5,e5,_⟩:=s5
   rcases hc with rfl | rfl | rfl | rfl | rfl
   ·exact V4 s1
   ·exact V4 s2
   ·exact V4 h3
   ·exact V4 e4
   ·exact V4 e5
  have pz:s.heap.objs.size ≠ z:=X8 (lt z (by simp))
  have RJ:∀ c o,c ∉ [z,TI,TO,i1,i2]->s.heap.get? c = some o->h2.get? c = some o:=fun c o hc e=>by
   simp only [VT,Yb,or_false,not_or] at hc
   exact sb.extBut _ _ hc.1 (kp c o hc.1 hc.2.2.1 hc.2.2.2.1 hc.2.2.2.2 e)
  have tp:h2.get? s.heap.objs.size = some { cls:=.type "tuple",data:=.seq #[ux,uy] }:=sb.extBut _ _ pz z5
  have I2:Inv X pins σ (upd H s.heap.objs.size (.tup [x,y])) { s with heap:=h2,toks:=s.toks }:=I.drawn (t':=s.toks) hf RJ (VP _) ⟨by show 2 <= sizeLine; decide,[ux,uy],.cons rx (.cons ry .nil),⟨_,tp,rfl,0,by rfl⟩⟩
  refine ⟨.ref s.heap.objs.size,_,I2,rfl,⟨_,x,y,rfl,I.ba.fresh (VP _),rfl,fun IM ww LW Bj=>?_⟩,⟨y1,?_,⟨ux,uy,sb.extBut _ _ N.a2 z2⟩,?_,?_⟩,fun c hc=>?_⟩
  ·rw [ha] at LW; rw [hb] at Bj
   cases LW; cases Bj
   exact ⟨hx,hy⟩
  ·exact sb.extBut _ _ N.a1 (kp TI _ N.a1 N.b2 N.b3 N.b4 s2)
  ·exact z3.extBut sb.extBut N.a3
  ·exact z4.extBut sb.extBut N.a4
  ·rw [aq (Wj (lt c hc))]; exact (hf c hc).1
 done:=by
  intro X hP hw hK hc i pins s σ H E I hf st hg
  subst hP hw hK
  obtain ⟨xs,ys,ha,hb,Hb⟩:=hg
  obtain ⟨_,us,ru,o1,e1,c1,n1,d1⟩:=I.ba a _ ha
  obtain ⟨_,vs,rv,o2,e2,c2,n2,d2⟩:=I.ba b _ hb
  have na:∀ c ∈ [z,TI,TO,i1,i2],a ≠ c:=fun c hc q=>by have:=(hf c hc).1; rw [<- q,ha] at this; cases this
  have nb:∀ c ∈ [z,TI,TO,i1,i2],b ≠ c:=fun c hc q=>by have:=(hf c hc).1; rw [<- q,hb] at this; cases this
  have D:ZipApart z TI TO i1 i2 a b:=⟨N.a1,N.a2,N.a3,N.a4,N.b2,N.b3,N.b4,N.c3,N.c4,N.d4,na z (by simp),na TO (by simp),na i1 (by simp),na i2 (by simp),nb z (by simp),nb TO (by simp),nb i1 (by simp),nb i2 (by simp)⟩
  obtain ⟨s1,s2,s3,s4,s5⟩:=st
  have Z:Cj s.heap z TI TO i1 i2 a b .none i us.toArray vs.toArray:=⟨s1,s2,s3,s4,s5,⟨o1,e1,c1,n1,d1⟩,⟨o2,e2,c2,n2,d2⟩⟩
  refine Dm (I.ok.hd hc) D Z (Hb.imp (fun z=>?_) (fun z=>?_)) fun h' kp=>⟨rfl,?_⟩
  ·rw [ru.length] at z; simp [z]
  ·rw [rv.length] at z; simp [z]
  ·have pO:∀ c ∈ [z,TO,i1,i2],uk X pins H c:=fun c hc=>hf c (by simp only [VT,Yb,or_false] at hc ⊢; rcases hc with q | q | q | q <;> simp [q])
   have k':∀ c o,c ∉ [z,TO,i1,i2]->s.heap.get? c = some o->h'.get? c = some o:=fun c o hc e=>by
    simp only [VT,Yb,or_false,not_or] at hc
    exact kp c o hc.1 hc.2.1 hc.2.2.1 hc.2.2.2 e
   have Cc:∀ c u,H c = some u->c ∉ [z,TO,i1,i2]:=fun c u e hb=>by rw [(pO c hb).1] at e; cases e
   refine I.step (g':=s.gens) (d':=s.drawn) (t':=s.toks) (ch:=[z,TO,i1,i2]) (fun b hb=>⟨(pO b hb).2.2.2.1,(pO b hb).2.1,(pO b hb).2.2.2.2.1,(pO b hb).2.2.2.2.2⟩) (fun b u _ _ hc e _=>k' b u hc e) (fun b u _ _ hc e _=>⟨u.slots,k' b u hc e⟩) (fun _ _ _ _ n=>n) (fun b u hc e=>⟨u,k' b u hc e⟩)
    (fun _ _ e=>e) (fun _ _ _ e=>e) (fun b ps e=>⟨#[],by rw [e]; simp⟩) (fun m hm=>?_) (fun b u e=>?_) I.bare
   ·obtain ⟨ob,es,ep,rK,r⟩:=hm
    exact ⟨ob,es,ep,k' _ ob (fun q=>(pO _ q).2.1 rfl) rK,r⟩
   ·refine (I.ba b u e).lZ (fun c v hc q=>k' c v ?_ q) (fun _ q=>q) fun _ _ q=>q
    rcases hc with q' | q'
    ·rw [q']; exact Cc b u e
    ·exact Cc c _ q'
 self:=fun _ _ _ _ _ st h=>wpAny_pyIter_zip st.1 h
section
variable {X:Cx}
def MG (ta:TA):TI:=fun σ H R=>ta σ H fun vs H1=>∃ a b xs ys,vs = [.ref a,.ref b] /\ H1 a = some (.tup xs) /\ H1 b = some (.tup ys) /\ R (NF a b) H1
theorem GW {elts:List Expr} {kk:Nat} {Fc:Pos} {e1 e2:Expr} {ta:TA} {p pos:Pos} (hg:Gl X "zip") (hm:X.mg "zip" = none) (hv:bootBuiltins "zip" = some (.type "zip")) (ha:PA X [e1,e2] ta)
  (hs:starEach [e1,e2] X.env = [(false,eval e1 X.env),(false,eval e2 X.env)]:=by rfl) (KY:starEach [e2] X.env = [(false,eval e2 X.env)]:=by rfl):PI X (.Tuple elts kk Fc) (.Call (.Name "zip" p) [e1,e2] [] pos) (MG ta):=by
 intro pins s σ H R I h
 refine Call_ (oi I hg hm hv (PyProof.Rows.callWith_type1 (cn (ha pos pins s σ H _ I h) fun us s1 ⟨vs,H1,I1,r1,q1⟩=>?_) (by rw [hs,KY]) (by rw [KY]; rfl)))
 obtain ⟨a,b,xs,ys,rfl,LW,Bj,q⟩:=q1
 obtain ⟨u1,u2,rfl,ra,rb⟩:=vals2 r1
 cases ra; cases rb
 obtain ⟨_,aH,ru,o1,f1,c1,n1,d1⟩:=I1.ba a _ LW
 obtain ⟨_,kU,rv,o2,f2,c2,n2,d2⟩:=I1.ba b _ Bj
 refine A6 (xs:=aH.toArray) (ys:=kU.toArray) ⟨o1,f1,c1,n1,d1⟩ ⟨o2,f2,c2,n2,d2⟩ fun h' Z kp=>?_
 refine wpAny_pyIter_zip Z.z ?_
 have lt:∀ i j:Nat,i ≠ j->s1.heap.objs.size + i ≠ s1.heap.objs.size + j:=fun i j Bh z=>Bh (Nat.add_left_cancel z)
 have F5:Jq (s1.heap.objs.size + 4) (s1.heap.objs.size + 2) (s1.heap.objs.size + 3) s1.heap.objs.size (s1.heap.objs.size + 1):=⟨lt 2 4 (by decide),lt 3 4 (by decide),lt 0 4 (by decide),lt 1 4 (by decide),lt 2 3 (by decide),lt 2 0 (by decide),lt 2 1 (by decide),lt 3 0 (by decide),lt 3 1 (by decide),lt 0 1 (by decide)⟩
 refine ⟨s1.heap.objs.size + 4,[s1.heap.objs.size + 4,s1.heap.objs.size + 2,s1.heap.objs.size + 3,s1.heap.objs.size,s1.heap.objs.size + 1],_,_,H1,rfl,I1.kept (t':=s1.toks) kp,Di F5,⟨Z.z,Z.i,Z.o,Z.a,Z.b⟩,fun c hc=>?_,q⟩
 have uQ:s1.heap.objs.size <= c:=by
  simp only [VT,Yb,or_false] at hc
  rcases hc with rfl | rfl | rfl | rfl | rfl
  ·exact Nat.le_add_right _ 4
  ·exact Nat.le_add_right _ 2
  ·exact Nat.le_add_right _ 3
  ·exact VP _
  ·exact Nat.le_add_right _ 1
 exact I1.BH uQ (I1.ba.fresh uQ)
end
theorem vG {cap:List (Option Nat)} {σ:St} {H:Hp} {g:TG} {tc:TT} {te:TE} {Q:VK} {D a b:Addr} {as bs:List V} {n:Nat} (Pv:Nat->List V->Hp->Prop) (h0:Pv 0 [] (upd H D (.lst []))) (hn:n = min as.length bs.length)
  (hD:∀ i xs H,i <= n->Pv i xs H->H D = some (.lst xs) /\ H a = some (.tup as) /\ H b = some (.tup bs))
  (hs:∀ i x y xs H p,as[i]? = some x->bs[i]? = some y->H p = none->Pv i xs H->g (.ref p) (gD cap σ) (upd H p (.tup [x,y])) fun σ2 H4=>b8 (gD cap σ) σ2 /\
   tc σ2 H4 fun b H5=>if b = true then te σ2 H5 fun y H6=>H6 D = some (.lst xs) /\ xs.length < sizeLine /\ Pv (i + 1) (xs ++ [y]) (upd H6 D (.lst (xs ++ [y]))) else Pv (i + 1) xs H5)
  (hd:∀ xs H,Pv n xs H->Q (.ref D) H):qo (NF a b) D cap σ H g tc te Q:=by
 refine ⟨n,Pv,h0,fun i xs H2 hi p=>⟨(hD i xs H2 hi p).1,?_⟩⟩
 obtain ⟨q0,q1,q2⟩:=hD i xs H2 hi p
 by_cases iz:i < n
 ·have l1:i < as.length:=by omega
  have l2:i < bs.length:=by omega
  refine .inr ⟨iz,⟨as,bs,as[i],bs[i],q1,q2,VS l1,VS l2⟩,fun v H3 y=>?_⟩
  obtain ⟨pp,x,y,rfl,hp,rfl,Ri⟩:=y
  obtain ⟨e1,e2⟩:=Ri as bs q1 q2
  exact hs i x y xs H2 pp e1 e2 hp p
 ·have e:i = n:=by omega
  subst e
  refine .inl ⟨rfl,⟨as,bs,q1,q2,?_⟩,hd xs H2 p⟩
  omega
end L2
namespace HT
open PySem PySem.Spec PyProof.Rows
section
variable {prog:Program} {w:World} {A:Around} {E:Value->Shared->Prop} {s:Shared}
theorem nC {t sl:Addr} {items:Array Value} {vl vu:Value} {lo hi:Option Int} {Q:Value->Shared->Prop} (ht:IsTup s.heap t items) (hs:s.heap.IsSliceOf sl vl vu .none) (pl:IsPart vl lo) (pu:IsPart vu hi)
  (hw:eN items.size 0 lo = 0 /\ eN items.size items.size hi = items.size) (h:Q (.ref t) s):wpAny (model prog w) A (getItem (.ref t) (.ref sl)) Q E s:=by
 obtain ⟨os,Dz,Mi,JL⟩:=id hs
 have TS:s.TypeIs (.ref sl) "slice":=⟨os,Dz,Mi⟩
 have yes:((((eN items.size 0 lo:Nat):Int) == 0 && (1:Int) == 1 && (eN items.size items.size hi - eN items.size 0 lo) == items.size) = true):=by rw [hw.1,hw.2]; simp
 unfold getItem
 try with_reducible refine W2 ?_
 first | refine VL (VM ?_) | skip
 refine VL (wpAny_sequenceKey ht.typeIs (by decide) (VL (WL (name:=Str.ofString "__getitem__") ht.typeIs WZ (Wt WZ ht.typeIs entry_tuple_getitem ?b (args_tuple_getitem _ _)))))
 case b =>
  show wpAny _ _ (Builtin.Tuple.tupleItemsOf (.ref t) >>= _) _ _ _; refine VL (tupleItemsOf_ ht (VL (wpAny_typeOf TS ?_))); rw [if_pos (by decide)]
  refine VL (iM hs pl pu ?_)
  show wpAny _ _ (if (((eN items.size 0 lo:Nat):Int) == 0 && (1:Int) == 1 && (eN items.size items.size hi - eN items.size 0 lo) == items.size) = true then _ else _) _ _ s
  rw [if_pos yes]
  obtain ⟨ot,Tl,RF,_⟩:=id ht
  have TT:s.TypeIs (.ref t) "tuple":=⟨ot,Tl,RF⟩
  unfold Builtin.Tuple.tupleIsExact
  refine VL (VL (wpAny_typeOf TT (VM ?_)))
  rw [if_pos (by decide)]
  exact VL (Xl (VM ⟨_,rfl,VM h⟩))
end
end HT
namespace L2
open PySem PySem.Spec PyProof.Rows
section
variable {X:Cx}
def Li (K:Yt):V->Option Int->Option Int->Hp->VK->Prop:=fun x lo hi H Q=>∃ a xs,x = .ref a /\ a7 K H a xs /\ (HT.eN xs.length 0 lo = 0 /\ HT.eN xs.length xs.length hi = xs.length) /\ Q (.ref a) H
theorem EV:DH X (Li X.K):=by
 intro pins s σ H x v vl vu lo hi sl Q I rx hs pl pu h
 obtain ⟨a,xs,rfl,hx,hw,q⟩:=h
 cases rx
 obtain ⟨aH,r,ht,hz⟩:=I.tuple hx
 have ln:aH.toArray.size = xs.length:=by rw [V2]; exact r.length.symm
 exact ⟨"tuple",_,WZ.lookup,ht.typeIs,HT.nC ht hs pl pu (by rw [ln]; exact hw) ⟨.ref a,H,I,rfl,q⟩⟩
theorem EM:DH X (fun x lo hi H Q=>JH X.K x lo hi H Q \/ Li X.K x lo hi H Q):=DH.or GX EV
end
end L2
namespace PySem.W
open PySem PySem.Spec PySem.Calls PyProof.Rows
open Builtin Builtin.ObjectAttr Builtin.Getset_descriptor
structure Io (K:Frag) (D:Addr):Prop where
 ga:findIn K (.ref D) "__getattribute__" = some (some (.builtin "BaseException.__getattribute__"))
 hk:findIn K (.ref D) "__getattr__" = some none
 ca:findIn K (.ref D) "__class__" = some (some (.builtin "object.__class__"))
 gt:specialIn K (.builtin "object.__class__") "__get__" = some (some (.builtin "getset_descriptor.__get__"))
 tk:takesIn K (.builtin "object.__class__") = some true
 mo:mroIn K D (.type "object") = some true
 mb:mroIn K D (.type "BaseException") = some true
 cl:(clsIn K D).isSome = true
theorem Io.cls {K:Frag} {D:Addr} (c:Io K D):∃ c' d' cd Eg,K.lookup D = some ⟨c',d',.cls cd,Eg⟩:=by
 have z:=c.cl
 unfold clsIn at z
 split at z
 ·rename_i ho; exact ⟨_,_,_,_,ho⟩
 ·cases z
end PySem.W
namespace L2
open PySem PySem.Spec PyProof.Rows
abbrev TX:=St->Hp->VK->XK->Prop
def XP (X:Cx) (pins:List (Addr × Obj)) (σ:St) (E:XK) (e:Value) (s':Shared):Prop:=∃ H1 s1,Inv X pins σ H1 s1 /\ zj X.prog X.w X.stack H1 s1 E e s'
section
variable {X:Cx} {k:Nat} {f C:Addr} {fd:FuncData} {ps:List Str} {sp:Sp} {jE:List V} {ds:List Value} {x y:Str} {p pos:Pos} {e:Expr} {es:List Expr} {t:TA}
abbrev UQ:=Ends->XK->St->Hp->Prop
variable {tx:TX} {i:Nat} {rest:List Stmt} {u:TS} {Hv pos':Pos}
end
section
variable {X:Cx} {CC:Addr} {j:Nat} {x n:Str} {tb:UQ} {ts:Addr->Addr->TS} {body Pr:List Stmt} {b₀:Stmt} {np Hn pos:Pos} {rest:List ExceptHandler}
theorem FO {P:Program} {w:World} {X:Cx}:Passes (zj P w) X E0:=fun _ _ _ _ _ _ _ h=>by
 obtain ⟨_,_,_,_,_,_,_,_,_,_,_,_,_,_,z⟩:=h
 exact z.elim
end
section
variable {X:Cx} {K:Yt} (h:X.K = K)
include h
theorem ON:iL X (compareOp .In) (Mm K false):=by subst h; exact gO
theorem qz:iL X (compareOp .NotIn) (Mm K true):=by subst h; exact jj
theorem Jw:iL X (binaryOp .Add) (Gz K):=by subst h; exact yM
theorem ER:Dn X (Ku K):=by subst h; exact cE
theorem C1:Dn X (K1 K):=by subst h; exact aM
theorem tupK {es:List Expr} {k n:Nat} {pos:Pos} {t:Gs} (hc:X.calm = true) (ht:JJ X es t) (hn:(assignEach es X.env).length = n:=by rfl) (jM:(assignEach es X.env).findIdx? (·.1) = none:=by rfl):PG X (.Tuple es k pos) (JF K n t):=by subst h; exact l7 hc ht hn jM
end
section
variable {X:Cx}
theorem call_int_bool:dI X (.type "int") (fun xs H Q=>∃ b:Bool,xs = [.bl b] /\ Q (.int (if b then 1 else 0)) H):=by
 intro pins s σ H xs us Q I r h
 obtain ⟨b,rfl,q⟩:=h
 obtain ⟨u,rfl,ru⟩:=vals1 r
 cases ru
 exact PySem.call_int_bool ⟨.int _,H,I.tok _,⟨_,rfl⟩,q⟩
end
section
variable {X:Cx}
theorem AR (hc:X.calm = true):dI X (.builtin "min") (fun xs H Q=>∃ (p:Addr) (ns:List Int),xs = [.ref p] /\ aZ X.K H p (ns.map V.int) /\ ns ≠ [] /\ ∀ m,m ∈ ns->(∀ n ∈ ns,m <= n)->Q (.int m) H):=by
 intro pins s σ H xs us Q I r h
 obtain ⟨p,ns,rfl,hp,rM,q⟩:=h
 obtain ⟨u,rfl,ru⟩:=vals1 r
 cases ru
 obtain ⟨aH,rv,pl,_⟩:=I.list hp
 obtain ⟨ps,rfl,e2⟩:=qB rv
 have ia:(ps.map fun p=>Value.int p.1 p.2).toArray = intItems ps.toArray:=by unfold intItems; simp
 have oC:ps.toArray.size = ns.length:=by rw [<- e2]; simp
 have Hn:0 < ps.toArray.size:=by rw [oC]; exact Yf.mpr rM
 refine min_intList (I.ok.hd hc) (xs:=ps.toArray) (by rw [<- ia]; exact pl.isList) Hn fun v h' tk hv hk=>?_
 obtain ⟨t,rfl⟩:=intItems_at hv
 obtain ⟨h1,h2⟩:=argBest_lt (numAt ps.toArray) (ps.toArray.size - 1)
 have na:numAt ps.toArray = fun i=>ns.getD i 0:=by
  funext i
  rw [<- e2]
  unfold numAt
  rw [V7,V3]
  simp
 refine ⟨.int _,H,I.kept (t':=tk) hk,⟨t,rfl⟩,q _ ?_ fun n hn=>?_⟩
 ·rw [na]
  have hi:argBest (fun i j=>decide (numAt ps.toArray i < numAt ps.toArray j)) (ps.toArray.size - 1) < ns.length:=by omega
  rw [na] at hi
  show ns.getD _ 0 ∈ ns
  rw [V7,VS hi]
  exact Xn hi
 ·obtain ⟨j,hj⟩:=X1.mp hn
  have VG:j < ns.length:=(Wa.mp hj).1
  have:=h2 j (by omega)
  rw [na] at this ⊢
  have e:ns.getD j 0 = n:=by rw [V7,hj]; rfl
  have Gc:ns.getD (argBest (fun i j=>decide (ns.getD i 0 < ns.getD j 0)) (ps.toArray.size - 1)) 0 <= ns.getD j 0:=this
  rw [e] at Gc
  exact Gc
end
end L2
namespace FN
open PySem L2
theorem kZ {α:Type} {x:α} {r:List α}:yX (x :: r) 0 = some x:=fg (j:=0) (xs:=x :: r) rfl
theorem k7 {α:Type} {x y:α} {r:List α}:yX (x :: y :: r) 1 = some y:=fg (j:=1) (xs:=x :: y :: r) rfl
theorem at2 {α:Type} {x y z:α} {r:List α}:yX (x :: y :: z :: r) 2 = some z:=fg (j:=2) (xs:=x :: y :: z :: r) rfl
theorem uS {α:Type} {xs:List α} {i:Int} (h0:0 <= i) (h1:i < xs.length):∃ v,v ∈ xs /\ yX xs i = some v:=by
 have hj:i.toNat < xs.length:=by omega
 have e:xs[i.toNat]? = some xs[i.toNat]:=VS hj
 refine ⟨xs[i.toNat],Xn hj,?_⟩
 have q:=fg e
 rwa [show ((i.toNat:Nat):Int) = i by omega] at q
theorem bF {c:Bool} {A B:Prop} (h1:c = true->A) (h2:c = false->B):if c = true then A else B:=by
 cases c with
 | true=>exact h1 rfl
 | false=>exact h2 rfl
theorem aL {n:Nat} (h:n <= 1000000):n <= sizeLine:=by rw [Xy]; omega
theorem aO {n:Nat} (h:n <= 1000000):n < sizeLine:=by rw [Xy]; omega
mutual
def gf:PyData->Bool
 | .list _=>false
 | .tuple ds=>dF ds
 | .dict _=>false
 | _=>true
def dF:List PyData->Bool
 | []=>true
 | d :: ds=>gf d && dF ds
end
theorem aK {α:Type} {f:α->PyData} (hf:∀ x,gf (f x) = true):∀ l:List α,dF (l.map f) = true
 | []=>rfl
 | x :: r=>by
  simp only [V8,dF,Wu]
  exact ⟨hf x,aK hf r⟩
section
variable {H:Hp} {D:Addr} {o:HO} {ys:List V}
mutual
theorem cS (hD:H D = some (.lst ys)):∀ {d:PyData} {v:V},DV H d v->gf d = true->DV (upd H D o) d v
 | _,_,.dR,_=>.dR
 | _,_,.bl b,_=>.bl b
 | _,_,.int i,_=>.int i
 | _,_,.str x,_=>.str x
 | _,_,.lst _ _,n=>by simp [gf] at n
 | _,_,.tup h t,n=>.tup (by rw [aq (dY h hD (by intro z; cases z))]; exact h) (bp hD t (by simpa [gf] using n))
theorem bp (hD:H D = some (.lst ys)):∀ {ds:List PyData} {vs:List V},bK H ds vs->dF ds = true->bK (upd H D o) ds vs
 | _,_,.nil,_=>.nil
 | _,_,.cons h t,n=>by
  simp only [dF,Wu] at n
  exact .cons (cS hD h n.1) (bp hD t n.2)
end
end
section
variable {H H':Hp}
mutual
theorem nH (e:∀ b vs,H b = some (.tup vs)->H' b = some (.tup vs)):∀ {d:PyData} {v:V},DV H d v->gf d = true->DV H' d v
 | _,_,.dR,_=>.dR
 | _,_,.bl b,_=>.bl b
 | _,_,.int i,_=>.int i
 | _,_,.str x,_=>.str x
 | _,_,.lst _ _,n=>by simp [gf] at n
 | _,_,.tup h t,n=>.tup (e _ _ h) (pN e t (by simpa [gf] using n))
theorem pN (e:∀ b vs,H b = some (.tup vs)->H' b = some (.tup vs)):∀ {ds:List PyData} {vs:List V},bK H ds vs->dF ds = true->bK H' ds vs
 | _,_,.nil,_=>.nil
 | _,_,.cons h t,n=>by
  simp only [dF,Wu] at n
  exact .cons (nH e h n.1) (pN e t n.2)
end
end
theorem ao {H0 H:Hp} {D:Addr} {o:HO} (e:ak H0 H) (h:H0 D = none):ak H0 (upd H D o):=fun b u q=>by
 rw [aq (aG q h)]
 exact e b u q
theorem ah {H:Hp} {D:Addr} {o:HO} (h:H D = none):ak H (upd H D o):=ao (ak.refl H) h
theorem eJ {α:Type} {f:α->PyData} (hf:∀ x,(f x).canLay0 = true):∀ l:List α,PyData.canLayAll0 (l.map f) = true
 | []=>by simp [PyData.canLayAll0]
 | x :: r=>by simp only [V8,PyData.canLayAll0,hf x,eJ hf r,Bool.and_self]
theorem E5 (i:Int):(PyData.int i).canLay0 = true:=by simp [PyData.canLay0]
theorem Dw (g:List Int):PyData.canLayAll0 (g.map PyData.int) = true:=eJ E5 g
theorem mC {α:Type} {f:α->PyData} {n:Nat} (hf:∀ x,(f x).depth <= n):∀ l:List α,PyData.depthAll (l.map f) <= n
 | []=>by simp [PyData.depthAll]
 | x :: r=>by
  simp only [V8,PyData.depthAll]
  exact Nat.max_le.mpr ⟨hf x,mC hf r⟩
abbrev Th:=Int × Bool
abbrev Qu:=Int × Int × Int
def xk (t:Th):PyData:=.tuple [.int t.1,.bool t.2]
def zJ (q:Qu):PyData:=.tuple [.int q.1,.int q.2.1,.int q.2.2]
theorem zo (t:Th):gf (xk t) = true:=rfl
theorem yQ (q:Qu):gf (zJ q) = true:=rfl
section
variable {H:Hp}
theorem KJ {t:Th} {b:Addr} (h:H b = some (.tup [.int t.1,.bl t.2])):DV H (xk t) (.ref b):=.tup h (.cons (.int _) (.cons (.bl _) .nil))
theorem Kh {q:Qu} {b:Addr} (h:H b = some (.tup [.int q.1,.int q.2.1,.int q.2.2])):DV H (zJ q) (.ref b):=.tup h (.cons (.int _) (.cons (.int _) (.cons (.int _) .nil)))
theorem CJ {t:Th} {v:V} (h:DV H (xk t) v):∃ b,v = .ref b /\ H b = some (.tup [.int t.1,.bl t.2]):=by
 obtain ⟨a,vs,rfl,e,q⟩:=h.gK
 obtain ⟨v,w,rfl,h1,h2⟩:=q.uU
 cases h1.int_inv
 cases h2.Ha
 exact ⟨a,rfl,e⟩
theorem xZ {q:Qu} {v:V} (h:DV H (zJ q) v):∃ b,v = .ref b /\ H b = some (.tup [.int q.1,.int q.2.1,.int q.2.2]):=by
 obtain ⟨a,vs,rfl,e,q⟩:=h.gK
 obtain ⟨v,w,u,rfl,h1,h2,h3⟩:=q.kH
 cases h1.int_inv
 cases h2.int_inv
 cases h3.int_inv
 exact ⟨a,rfl,e⟩
theorem bi {α:Type} {f:α->PyData} {l:List α} {vs:List V} {i:Nat} {v:V} (h:bK H (l.map f) vs) (e:vs[i]? = some v):∃ x,l[i]? = some x /\ DV H (f x) v:=by
 obtain ⟨d,h1,h2⟩:=h.get' e
 rw [V3] at h1
 cases q:l[i]? with
 | none=>rw [q] at h1; cases h1
 | some x =>
  rw [q] at h1
  cases h1
  exact ⟨x,rfl,h2⟩
theorem az {α:Type} {f:α->PyData} {l:List α} {vs:List V} (h:bK H (l.map f) vs):vs.length = l.length:=by
 have:=h.length
 rw [VO] at this
 exact this.symm
end
structure IS (n:Int) (q:Qu):Prop where
 a0:0 <= q.1
 a1:q.1 < n
 b0:0 <= q.2.1
 b1:q.2.1 < n
 ab:q.1 ≠ q.2.1
 k:q.2.2 = -1 \/ (0 <= q.2.2 /\ q.2.2 < n /\ q.2.2 ≠ q.1 /\ q.2.2 ≠ q.2.1)
structure yT (ts:List Th):Prop where
 l1:1 <= ts.length
 l6:ts.length <= 6
 p:∀ t ∈ ts,1 <= t.1 /\ t.1 <= 1000000000
def LstAt {α:Type} (f:α->PyData) (H:Hp) (a:Addr) (l:List α):Prop:=∃ vs,H a = some (.lst vs) /\ bK H (l.map f) vs
def TupAt {α:Type} (f:α->PyData) (H:Hp) (a:Addr) (l:List α):Prop:=∃ vs,H a = some (.tup vs) /\ bK H (l.map f) vs
section
variable {α:Type} {f:α->PyData} {H H':Hp} {a:Addr} {l:List α}
theorem LstAt.mono (h:LstAt f H a l) (e:ak H H'):LstAt f H' a l:=let ⟨vs,h1,h2⟩:=h; ⟨vs,e _ _ h1,h2.mono e⟩
theorem TupAt.mono (h:TupAt f H a l) (e:ak H H'):TupAt f H' a l:=let ⟨vs,h1,h2⟩:=h; ⟨vs,e _ _ h1,h2.mono e⟩
theorem LstAt.dv (h:LstAt f H a l):DV H (.list (l.map f)) (.ref a):=let ⟨_,h1,h2⟩:=h; .lst h1 h2
theorem TupAt.dv (h:TupAt f H a l):DV H (.tuple (l.map f)) (.ref a):=let ⟨_,h1,h2⟩:=h; .tup h1 h2
end
def bad (g:List Int) (q:Qu):Bool:=g.contains q.1 && g.contains q.2.1 && !g.contains q.2.2
def gV (qs:List Qu) (g:List Int):Bool:=!(qs.any (bad g))
theorem b7 (i:Int) (g:List Int):wl (.int i) (g.map V.int) = g.contains i:=by
 unfold wl
 rw [List.any_map,List.contains_eq_any_beq]
 congr 1
 funext y
 show (y == i) = (i == y)
 rw [Bool.beq_comm]
theorem b6 (g:List Int):(g.map V.int).all mV = true:=by
 rw [List.all_map]
 exact WP.mpr fun _ _=>rfl
def cr:Nat->Int->Int->List Int
 | 0,_,_=>[]
 | k + 1,t,num=>(if num % 2 = 1 then [t] else []) ++ cr k (t + 1) (num / 2)
def bits (n:Nat) (num:Int):List Int:=cr n 0 num
def groups (n:Nat):List (List Int):=(be (2 ^ n)).map (bits n)
def gu (g:List Int):PyData:=.tuple (g.map PyData.int)
theorem eR (g:List Int):gf (gu g) = true:=by
 show dF (g.map PyData.int) = true
 exact aK (fun _=>rfl) g
theorem fM {H:Hp} {g:List Int} {v:V} (h:DV H (gu g) v):∃ b,v = .ref b /\ H b = some (.tup (g.map V.int)):=by
 obtain ⟨a,vs,rfl,e,q⟩:=h.gK
 cases q.mU
 exact ⟨a,rfl,e⟩
theorem gY {H:Hp} {g:List Int} {b:Addr} (h:H b = some (.tup (g.map V.int))):DV H (gu g) (.ref b):=.tup h (bK.ints g)
theorem B0 (cell:Int) (n:Nat) (h2:2 <= n) (h6:n <= 6):0 <= cell % (n:Int) /\ cell % (n:Int) < n /\ 0 <= (cell % (n:Int) + 1 + cell / (n:Int) % ((n:Int) - 1)) % (n:Int) /\
  (cell % (n:Int) + 1 + cell / (n:Int) % ((n:Int) - 1)) % (n:Int) < n /\ cell % (n:Int) ≠ (cell % (n:Int) + 1 + cell / (n:Int) % ((n:Int) - 1)) % (n:Int):=by
 have c:n = 2 \/ n = 3 \/ n = 4 \/ n = 5 \/ n = 6:=by omega
 rcases c with rfl | rfl | rfl | rfl | rfl <;> omega
theorem ET (n:Nat) (h2:2 <= n) (h6:n <= 6):(0:Int) < (n:Int) * ((n:Int) - 1) /\ (n:Int) * ((n:Int) - 1) < 1073741824:=by
 have c:n = 2 \/ n = 3 \/ n = 4 \/ n = 5 \/ n = 6:=by omega
 rcases c with rfl | rfl | rfl | rfl | rfl <;> decide
abbrev bX (P:Program) (w:World) (K:Yt) (mg:Str->Option Value) (base:Heap) (N:List Str) (qual:Str) (st:Stmt) (f:Addr) (cm:Value) (A:Around) (outer:List Env) (s:Shared) (H:Hp) (E:XK):Cx :=
 (vL br P w K mg base N qual (am st) f cm A outer s H E).Ej
abbrev bD (Q:VK):Ends:={ nx:=fun _ H'=>Q .dR H',rt:=Q }
structure Fn (K:Yt) (mg:Str->Option Value) (x:Str) (st:Stmt) (f:Addr) (fd:FuncData) (ps:List Str):Prop where
 fn:Fd K x x st f fd
 b:Binds K fd ps []
 g:mg x = some (.ref f)
structure Mt (K:Yt) (x qual:Str) (st:Stmt) (f:Addr) (fd:FuncData) (ps:List Str):Prop where
 fn:Fd K x qual st f fd
 b:Binds K fd ps []
end FN
namespace L2
open PySem PySem.Spec PyProof.Rows
section
variable {X:Cx} {x:Str} {pos:Pos}
theorem gn (i:Nat) (hN:X.N.Nodup) (hi:X.N[i]? = some x:=by rfl) (hx:Loc X.env.scope x:=by first | exact Or.inl rfl | exact Or.inr rfl) (hf:X.fn x = true \/ X.env.scope.names.lookup x = some .local:=by first | exact .inl rfl | exact .inr rfl | assumption):PG X (.Name x pos) (sX i):=El hN hi hx hf
theorem sn (i:Nat) {e:Expr} {te:TE} {pos':Pos} (hN:X.N.Nodup) (he:PE X e te) (hi:X.N[i]? = some x:=by rfl) (hx:Loc X.env.scope x:=by first | exact Or.inl rfl | exact Or.inr rfl) (hs:swapsWith e (some (.Name x pos')) pos.line X.env = pure false:=by rfl)
  (hf:X.fn x = true \/ X.env.scope.names.lookup x = some .local:=by first | exact .inl rfl | exact .inr rfl | assumption):PS X (.Assign [.Name x pos'] e pos) (Ea te (sX i)):=Hk hN hi hx he hs hf
theorem fZ {N P:List Str} {sc:Scope} (h1:sc.kind = .function:=by rfl) (h2:sc.isCoroutine = false:=by rfl) (h3:sc.isGenerator = false:=by rfl) (h4:N.Nodup:=by decide +kernel) (h5:N.take P.length = P:=by rfl)
  (h6:∀ x ∈ P,sc.names.lookup x = some .local \/ sc.names.lookup x = some .cell:=by decide +kernel) (h7:∀ y ∈ sc.names,y.2 ≠ .free:=by decide +kernel):av N P sc:=⟨h1,h2,h3,h4,h5,h6,h7⟩
theorem cl {CX:xQ} {k j:Nat} {f:Addr} {fd:FuncData} {ps:List Str} {sp:Sp} {E:XK} {st:Stmt} {e:Expr} {es:List Expr} {t:TA} {p:Pos} (F:au X.prog X.w X.K X.mg X.base CX k f fd ps sp) (N:FN.Fn X.K X.mg x st f fd ps) (hr:eT j X.A) (hx:Passes CX X E) (ha:PA X (e :: es) t)
  (hk:k <= j:=by decide) (hg:Gl X x:=by rfl) (rn:(x == ("__debug__":Str)) = false:=by decide) (he:starEach (e :: es) X.env = (false,eval e X.env) :: starEach es X.env:=by rfl) (xm:(backTo pos (starEach es X.env)).any (·.1) = false:=by rfl) :
  PE X (.Call (.Name x p) (e :: es) [] pos) (FJ sp [] E t):=Ex F (hr.mono hk) hg N.g N.fn.kp N.b .nil hx ha rn he xm
end
section
variable {prog:Program} {w:World} {A:Around} {E:Value->Shared->Prop} {s:Shared}
def ie (h:Heap) (a:Addr) (g:List Int):Prop:=∃ aH:List Value,Vals (g.map V.int) aH /\ IsTup h a aH.toArray
theorem ie.typeIs {a:Addr} {g:List Int} (h:ie s.heap a g):s.TypeIs (.ref a) "tuple":=let ⟨_,_,o,ho,hc,_⟩:=h; ⟨o,ho,hc⟩
theorem lm {g k:List Int} {a b:Addr} {P:PySem.Fin->Shared->Prop} (hx:ie s.heap a g) (hy:ie s.heap b k) (h:P (.done (.ret (.bool (HT.lexLt g k)))) s) :
  wpAny (model prog w) A (Builtin.«tuple.__lt__» ⟨[.ref a,.ref b],[]⟩) P E s:=by
 have Kf:=hy.typeIs
 obtain ⟨xs,rx,oa,Bd,_,na,Bk⟩:=hx
 obtain ⟨ys,ry,ob,rK,_,nb,rn⟩:=hy
 show wpAny _ _ (isInstance (.ref b) (.type "tuple") >>= _) _ _ s
 refine VL (Xm Kf isSubtype_tuple_tuple ?_)
 simp only [WQ,Wc,WH]
 refine VL (Yp Bd Bk ?_)
 refine VL (Yp rK rn ?_)
 refine VL ?_
 refine wpAny_forIn_list _
  (fun rest r s'=>s' = s /\ ((r.1 = none /\ ∃ g' k' IM ww,rest = List.zip IM ww /\ Vals (g'.map V.int) IM /\ Vals (k'.map V.int) ww /\ HT.lexLt g' k' = HT.lexLt g k /\ (decide (IM.length < ww.length)) = (decide (xs.toArray.size < ys.toArray.size))) ))
  _ ?_ ?_ _ _ ⟨rfl,rfl,g,k,xs,ys,by simp,rx,ry,rfl,by simp⟩
 ·rintro ⟨u,v⟩ rest r s' ⟨rfl,hr,g',k',IM,ww,hz,hg,hk,xF,hlen⟩
  cases g' with
  | nil=>cases hg; simp at hz
  | cons m g' =>
   cases k' with
   | nil=>cases hk; rw [List.zip_nil_right] at hz; cases hz
   | cons n k' =>
    cases hg with
    | cons r1 Og =>
    cases hk with
    | cons r2 Oa =>
    obtain ⟨t1,rfl⟩:=r1
    obtain ⟨t2,rfl⟩:=r2
    rw [XT] at hz
    injection hz with yI G0
    injection yI with e1 e2
    subst e1 e2 G0
    rw [HT.h9] at xF
    refine VL (Ya ?_)
    by_cases LG:m = n
    ·rw [if_pos LG] at xF
     rw [show (m == n) = true from XH.mpr LG]
     simp only [WQ,Wc,WH]
     exact VM ⟨rfl,rfl,g',k',_,_,rfl,Og,Oa,xF,by simpa using hlen⟩
    ·rw [if_neg LG] at xF
     rw [show (m == n) = false from WY.mpr LG]
     simp only [Bool.not_false,Xe]
     refine VL (Xl (VL (show wpAny (model prog w) A (compareOp .Lt (.int m t1) (.int n t2)) _ E s' from lt_int ?_)))
     rw [xF]
     exact VL (VM (VM (VM h)))
 ·rintro ⟨r1,r2⟩ s' ⟨rfl,hr,g',k',IM,ww,hz,hg,hk,xF,hlen⟩
  simp only at hr
  subst hr
  refine VM ?_
  have Oc:decide (xs.toArray.size < ys.toArray.size) = HT.lexLt g k:=by
   rw [<- xF,<- hlen]
   cases g' with
   | nil =>
    cases hg
    cases k' with
    | nil=>cases hk; rfl
    | cons n k'=>cases hk; simp [HT.lexLt]
   | cons m g' =>
    cases hg
    cases k' with
    | nil=>cases hk; simp [HT.lexLt]
    | cons n k'=>cases hk; simp at hz
  show P (.done (.ret (.bool (decide (xs.toArray.size < ys.toArray.size))))) s'
  rw [Oc]; exact h
theorem wz {g k:List Int} {a b:Addr} {Q:Value->Shared->Prop} (hu:A.units < cLine) (hx:ie s.heap a g) (hy:ie s.heap b k) (h:Q (.bool (HT.lexLt g k)) s) :
  wpAny (model prog w) A (compareOp .Lt (.ref a) (.ref b)) Q E s :=
 show wpAny (model prog w) A (richCompare .Lt (.ref a) (.ref b)) Q E s from
 wpAny_richCompare_same_room (op:=.Lt) hx.typeIs hy.typeIs F.slot_tuple_lt
   (Wt F.slot_tuple_lt hx.typeIs F.entry_tuple_lt (lm hx hy ⟨_,rfl,(fun e=>nomatch e),h⟩) (F.args_tuple_lt_2 _ _)) hu
theorem km {g k:List Int} {a b:Addr} {o:Bool} {Q:Bool->Shared->Prop} (hu:A.units < cLine) (hx:ie s.heap a g) (hy:ie s.heap b k) (h:Q (HT.lexLt g k) s) :
  wpAny (model prog w) A (oneLt' o (.ref a) (.ref b)) Q E s:=by
 cases o with
 | false=>exact PySem.W.kat_one _ _ (wz hu hx hy h)
 | true =>
  rw [oneLt'_eq]
  simp only [Xe]
  refine VL (wpAny_cRoomFor_or (.inr hu) ?_)
  refine VL (wpAny_callSpecialIfBound?_slot hx.typeIs F.slot_tuple_lt (Wt F.slot_tuple_lt hx.typeIs F.entry_tuple_lt (lm hx hy ⟨_,rfl,?_⟩) (F.args_tuple_lt_2 _ _)))
  exact WR h
theorem qv:∀ {g:List Int} {aH:List Value},Vals (g.map V.int) aH->ItemsAre (intKind prog w) g aH
 | [],_,.nil=>.nil
 | _ :: _,_,.cons ⟨_,e⟩ r=>by subst e; exact .cons (by first | rfl | simp [intKind,Value.isInt]) (qv r)
theorem ie.key {h:Heap} {a:Addr} {g:List Int}:ie h a g->IsTupleKey (intKind prog w) h g a
 | ⟨aH,rv,o,ho,hc,n,hd⟩=>⟨o,aH.toArray,n,ho,hc,hd,by rw [List.toList_toArray]; exact qv rv⟩
theorem jV {g k:List Int} {a b:Addr} {Q:Bool->Shared->Prop} (hu:A.units < cLine) (hx:ie s.heap a g) (hy:ie s.heap b k) (h:Q (decide (g = k)) s) :
  wpAny (model prog w) A (eqBool (.ref a) (.ref b)) Q E s:=by
 exact wpAny_eqBool_tuple hu hx.key hy.key h
def jJ (h:Heap) (k:Value) (p:Int × List Int):Prop:=∃ a b t,k = .ref a /\ IsTup h a #[.int p.1 t,.ref b] /\ ie h b p.2
def aJ (p q:Int × List Int):Bool:=if p.1 = q.1 then HT.lexLt p.2 q.2 else decide (p.1 < q.1)
theorem iZ:∀ g:List Int,HT.lexLt g g = false
 | []=>rfl
 | m :: g=>by rw [HT.h9,if_pos rfl,iZ g]
theorem xX {x y:Value} {p q:Int × List Int} {Q:Bool->Shared->Prop} (hu:A.units < cLine) (hx:jJ s.heap x p) (hy:jJ s.heap y q) (h:Q (aJ p q) s):wpAny (model prog w) A (keyLt' (tuples' true) x y) Q E s:=by
 obtain ⟨a,b,t,rfl,⟨o,ho,hc,n,hd⟩,hb⟩:=hx
 obtain ⟨a',b',t',rfl,⟨o',lP,xc,n',xa⟩,Bj⟩:=hy
 refine PySem.W.kat_lt ho hd lP xa ?_
 show PySem.W.KatLex prog w A true (decide (2 < 2)) Q [(.int p.1 t,.int q.1 t'),(.ref b,.ref b')] 0 s
 refine PySem.W.kat_cons (Ya ?_)
 unfold aJ at h
 refine PySem.W.kat_go (fun e=>?_) fun e=>?_
 ·rw [if_pos (eq_of_beq e)] at h
  refine PySem.W.kat_yes (PySem.W.kat_cons (jV hu hb Bj ?_))
  refine PySem.W.kat_go (fun e=>?_) fun e=>?_
  ·have e:=Wi e
   rw [e,iZ] at h
   exact PySem.W.kat_yes (PySem.W.kat_nil h)
  ·exact PySem.W.kat_no (km hu hb Bj h)
 ·rw [if_neg (fun z=>by rw [z,beq_self_eq_true] at e; cases e)] at h
  exact PySem.W.kat_no (oneLt_int h)
end
section
theorem lex_trans:∀ {a b c:List Int},HT.lexLt a b = true->HT.lexLt b c = true->HT.lexLt a c = true
 | [],_,[],h1,h2=>by rename_i b; cases b <;> simp [HT.lexLt] at h1 h2
 | [],_,_ :: _,_,_=>by simp [HT.lexLt]
 | _ :: _,[],_,h1,_=>by simp [HT.lexLt] at h1
 | _ :: _,_ :: _,[],_,h2=>by simp [HT.lexLt] at h2
 | x :: a,y :: b,z :: c,h1,h2=>by
  rw [HT.h9] at h1 h2 ⊢
  by_cases e1:x = y
  ·rw [if_pos e1] at h1
   by_cases e2:y = z
   ·rw [if_pos e2] at h2
    rw [if_pos (e1.trans e2)]
    exact lex_trans h1 h2
   ·rw [if_neg e2] at h2
    rw [if_neg (fun e=>e2 (e1.symm.trans e)),e1]
    exact h2
  ·rw [if_neg e1] at h1
   by_cases e2:y = z
   ·rw [<- e2,if_neg e1]
    exact h1
   ·rw [if_neg e2] at h2
    have h1:=Wi h1
    have h2:=Wi h2
    rw [if_neg (by omega)]
    exact V0 (by omega)
theorem kJ:∀ {a b:List Int},a ≠ b->HT.lexLt a b = false->HT.lexLt b a = true
 | [],[],h,_=>absurd rfl h
 | [],_ :: _,_,h=>by simp [HT.lexLt] at h
 | _ :: _,[],_,_=>by simp [HT.lexLt]
 | x :: a,y :: b,h,h1=>by
  rw [HT.h9] at h1 ⊢
  by_cases e:x = y
  ·rw [if_pos e] at h1
   rw [if_pos e.symm]
   exact kJ (fun z=>h (by rw [e,z])) h1
  ·rw [if_neg e] at h1
   rw [if_neg (fun z=>e z.symm)]
   have:=of_decide_eq_false h1
   exact V0 (by omega)
theorem iQ (p:Int × List Int):aJ p p = false:=by unfold aJ; rw [if_pos rfl,iZ]
theorem m5 {p q r:Int × List Int} (h1:aJ p q = true) (h2:aJ q r = true):aJ p r = true:=by
 unfold aJ at *
 by_cases e1:p.1 = q.1
 ·rw [if_pos e1] at h1
  by_cases e2:q.1 = r.1
  ·rw [if_pos e2] at h2
   rw [if_pos (e1.trans e2)]
   exact lex_trans h1 h2
  ·rw [if_neg e2] at h2
   rw [if_neg (fun e=>e2 (e1.symm.trans e)),e1]
   exact h2
 ·rw [if_neg e1] at h1
  by_cases e2:q.1 = r.1
  ·rw [<- e2,if_neg e1]
   exact h1
  ·rw [if_neg e2] at h2
   have h1:=Wi h1
   have h2:=Wi h2
   rw [if_neg (by omega)]
   exact V0 (by omega)
theorem C0 {p q:Int × List Int} (h:p ≠ q) (h1:aJ p q = false):aJ q p = true:=by
 unfold aJ at *
 by_cases e:p.1 = q.1
 ·rw [if_pos e] at h1
  rw [if_pos e.symm]
  exact kJ (fun z=>h (Prod.ext e z)) h1
 ·rw [if_neg e] at h1
  rw [if_neg (fun z=>e z.symm)]
  have:=of_decide_eq_false h1
  exact V0 (by omega)
def eQ (ps:List (Int × List Int)) (p:Int × List Int):Nat:=ps.countP fun x=>aJ x p
theorem countP_le {α:Type} {f g:α->Bool} (h:∀ x,f x = true->g x = true):∀ l:List α,l.countP f <= l.countP g
 | []=>VP _
 | x :: l=>by
  rw [Xa,Xa]
  have:=countP_le h l
  by_cases e:f x = true
  ·rw [if_pos e,if_pos (h x e)]; omega
  ·rw [if_neg e]; omega
theorem ox {α:Type} {f g:α->Bool} (h:∀ x,f x = true->g x = true) {y:α} (h1:f y = false) (h2:g y = true):∀ {l:List α},y ∈ l->l.countP f < l.countP g
 | x :: l,hy=>by
  rw [Xa,Xa]
  rcases VT.mp hy with rfl | hy
  ·rw [if_neg (by rw [h1]; simp),if_pos h2]
   have:=countP_le h l
   omega
  ·have:=ox h h1 h2 hy
   by_cases e:f x = true
   ·rw [if_pos e,if_pos (h x e)]; omega
   ·rw [if_neg e]; omega
theorem m3 {ps:List (Int × List Int)} {p q:Int × List Int} (hp:p ∈ ps):decide (eQ ps p < eQ ps q) = aJ p q:=by
 cases e:aJ p q with
 | true=>exact V0 (ox (f:=fun x=>aJ x p) (g:=fun x=>aJ x q) (fun x hx=>m5 hx e) (iQ p) e hp)
 | false =>
  refine We (Nat.not_lt.mpr ?_)
  by_cases LF:p = q
  ·rw [LF]; exact VP _
  ·exact countP_le (f:=fun x=>aJ x q) (g:=fun x=>aJ x p) (fun x hx=>m5 hx (C0 LF e)) ps
theorem jJ.inj {h:Heap} {k:Value} {p q:Int × List Int} (h1:jJ h k p) (h2:jJ h k q):p = q:=by
 obtain ⟨a,b,t,rfl,⟨o,ho,_,n,hd⟩,aH,rv,o1,qJ,_,n1,Hj⟩:=h1
 obtain ⟨a',b',t',e,⟨o',lP,_,n',xa⟩,its',Ot,Vi,KQ,_,Qe,Kk⟩:=h2
 cases e
 rw [ho] at lP; cases lP
 rw [hd] at xa
 injection xa with e1 e2
 have e1:[Value.int p.1 t,.ref b] = [Value.int q.1 t',.ref b']:=W0 Array.toList e1
 injection e1 with e3 e4
 injection e4 with e5 e6
 injection e3 with e7 e8
 injection e5 with e5
 subst e5
 rw [qJ] at KQ; cases KQ
 rw [Hj] at Kk
 injection Kk with e1 e2
 have e1:aH = its':=W0 Array.toList e1
 subst e1
 refine Prod.ext e7 ?_
 clear Hj qJ hd ho
 have aux:∀ (g k:List Int) (aH:List Value),Vals (g.map V.int) aH->Vals (k.map V.int) aH->g = k:=by
  intro g
  induction g with
  | nil=>intro k aH r1 r2; cases r1; cases k with
   | nil=>rfl
   | cons x k=>cases r2
  | cons m g ih =>
   intro k aH r1 r2
   cases r1 with
   | cons a1 b1 =>
    cases k with
    | nil=>cases r2
    | cons x k =>
     cases r2 with
     | cons a2 b2 =>
      obtain ⟨t1,e1⟩:=a1
      obtain ⟨t2,e2⟩:=a2
      rw [e1] at e2
      injection e2 with e3
      rw [e3,ih k _ b1 b2]
 exact aux _ _ _ rv Ot
end
section
variable {X:Cx} {H H' Gu:Hp} {s s':Shared} {h':Heap}
structure nG (X:Cx) (H:Hp) (s:Shared) (H':Hp) (s':Shared):Prop where
 os:s'.os = s.os
 bare:AllBare s'.gens
 un:Un (l3 X.stack) [] H H' s.heap s'.heap
 ba:jN X.prog X.w H' s'.heap
 same:ak H H'
theorem nG.inv {pins:List (Addr × Obj)} {σ:St} (I:Inv X pins σ H s) (M:nG X H s H' s'):Inv X pins σ H' s':=I.Gv M.os M.un M.ba M.bare fun b z=>absurd z (by simp)
theorem nG.start {pins:List (Addr × Obj)} {σ:St} (I:Inv X pins σ H s):nG X H s H s:=⟨rfl,I.bare,Un.refl,I.ba,ak.refl _⟩
theorem nG.keep {t:Nat} (M:nG X H s H' s') (k:∀ b u,s'.heap.get? b = some u->h'.get? b = some u):nG X H s H' { s' with heap:=h',toks:=t } :=
 ⟨M.os,M.bare,M.un.trans (Un.kept k),M.ba.kept k,M.same⟩
theorem nG.DY {a:Addr} {t:Nat} (M:nG X H s H' s') (ha:s.heap.get? a = none) (hn:H' a = none) (k:∀ b u,b ≠ a->s'.heap.get? b = some u->h'.get? b = some u):nG X H s H' { s' with heap:=h',toks:=t }:=by
 have na:∀ b o,s.heap.get? b = some o->b ≠ a:=fun b o e z=>by rw [z,ha] at e; cases e
 have nt:∀ b o,H' b = some o->b ≠ a:=fun b o e z=>by rw [z,hn] at e; cases e
 refine ⟨M.os,M.bare,⟨fun b o e n f x=>k b o (na b o e) (M.un.keep b o e n f x),fun b o e n f x=>?_,M.un.free,fun b o e x=>?_,M.un.fC,M.un.jI,M.un.kh⟩,fun b o e=>?_,M.same⟩
 ·obtain ⟨sl,q⟩:=M.un.slot b o e n f x
  exact ⟨sl,k b _ (na b o e) q⟩
 ·obtain ⟨o',q⟩:=M.un.there b o e x
  exact ⟨o',k b _ (na b o e) q⟩
 ·refine (M.ba b o e).lZ (fun c v hc q=>k c v ?_ q) (fun _ q=>q) fun _ _ q=>q
  rcases hc with z | z
  ·rw [z]; exact nt b o e
  ·exact nt c _ z
theorem nG.Ks {a:Addr} {o:HO} (M:nG X H s H' s') (ha:s.heap.get? a = none) (hn:H' a = none) (new:ck X.prog X.w (upd H' a o) s'.heap a o):nG X H s (upd H' a o) s':=by
 have na:∀ b o,s.heap.get? b = some o->b ≠ a:=fun b o e z=>by rw [z,ha] at e; cases e
 have nt:∀ b o,H' b = some o->b ≠ a:=fun b o e z=>by rw [z,hn] at e; cases e
 refine ⟨M.os,M.bare,⟨M.un.keep,M.un.slot,fun b u e n x=>by rw [aq (na b u e)]; exact M.un.free b u e n x,M.un.there,fun b xs e=>?_,fun b u xs e=>?_,fun b ps e=>?_⟩,fun b u e=>?_,fun b u e=>?_⟩
 ·have q:=M.un.fC b xs e
  rw [aq (nt b _ q)]; exact q
 ·have q:=M.un.jI b u xs e
  rw [aq (nt b _ q)]; exact q
 ·obtain ⟨m,q⟩:=M.un.kh b ps e
  exact ⟨m,by rw [aq (nt b _ q)]; exact q⟩
 ·by_cases hb:b = a
  ·subst hb; rw [ae] at e; cases e; exact new
  ·rw [aq hb] at e
   exact (M.ba b u e).lZ (fun c v _ q=>q) (fun c q=>by rw [aq (nt c _ q)]; exact q) fun c xs q=>by rw [aq (nt c _ q)]; exact q
 ·have q:=M.same b u e
  rw [aq (nt b _ q)]; exact q
theorem nG.trans (M:nG X H s H' s') {u5:Shared} (N:nG X H' s' Gu u5):nG X H s Gu u5:=⟨N.os.trans M.os,N.bare,M.un.trans N.un,N.ba,M.same.trans N.same⟩
def rq (X:Cx) (f:Addr) (ys:List V) (H:Hp) (kf:V->Int × List Int):Prop :=
 ∀ (H':Hp) (s':Shared) (y:V) (u:Value),y ∈ ys->RelV y u->pX X.prog X.w X.K X.mg X.base X.A X.stack s' H'->ak H H' ->
  wpAny (model X.prog X.w) X.A.in1.in1 (call (.ref f) [u]) (fun v u5=>∃ q b:Addr,v = .ref q /\ nG X H' s' (upd H' q (.tup [.int (kf y).1,.ref b])) u5 /\ H' q = none /\ H b = some (.tup ((kf y).2.map V.int))) (fun _ _=>False) s'
theorem A7 {a:Addr} {o:HO} (hn:H a = none):ak H (upd H a o):=fun b u e=>by rw [aq (aG e hn)]; exact e
theorem rq.of {CX:xQ} {k:Nat} {f:Addr} {fd:FuncData} {x:Str} {sp:Sp} {ys:List V} {kf:V->Int × List Int} (F:au X.prog X.w X.K X.mg X.base CX k f fd [x] sp) (hr:eT (k + 2) X.A) (hb:Binds X.K fd [x] [])
  (OD:∀ outer H s e s',¬ CX outer H s (fun _ _ _=>False) e s')
  (yW:∀ y ∈ ys,∃ b,H b = some (.tup ((kf y).2.map V.int)) /\ ∀ H',ak H H'->∀ Q:VK,(∀ q,H' q = none->Q (.ref q) (upd H' q (.tup [.int (kf y).1,.ref b])))->sp [y] H' Q (fun _ _ _=>False)):rq X f ys H kf:=by
 intro H' s' y u hy ru e0 sm
 obtain ⟨b,Dl,h⟩:=yW y hy
 have y8:X.K.In s'.heap:=e0.mod.y8.keeps fun b o e=>(e0.bs b o e).1
 refine wpAny_call (codeAny_mono (F.run X.A.in1.in1 X.stack s' H' ⟨[u],[]⟩ [u] [y] (fun v Gu=>∃ q,v = .ref q /\ H' q = none /\ Gu = upd H' q (.tup [.int (kf y).1,.ref b])) (fun _ _ _=>False) hr.in1.in1 e0.in1.in1 ?_ (.cons ru .nil) (h H' sm _ fun q hq=>⟨q,rfl,hq,rfl⟩)) fun r u5 hq=>?_)
 ·exact hb s' [u] y8 rfl
 cases r with
 | error e=>exact (OD _ _ _ _ _ hq).elim
 | ok fl =>
  cases fl with
  | ret v =>
   obtain ⟨v',Gu,os,bare,un,ba,r,q,rfl,hn,rfl⟩:=hq
   cases r
   exact ⟨q,b,rfl,⟨os,bare,un,ba,A7 hn⟩,hn,Dl⟩
  | next=>exact False.elim hq
  | brk=>exact False.elim hq
  | cont=>exact False.elim hq
end
open Classical in
noncomputable def keyOf (h:Heap) (k:Value):Int × List Int:=if e:∃ p,jJ h k p then Classical.choose e else (0,[])
theorem mI {h:Heap} {k:Value} {p:Int × List Int} (e:jJ h k p):keyOf h k = p:=by
 unfold keyOf
 rw [dif_pos ⟨p,e⟩]
 exact (Classical.choose_spec (⟨p,e⟩:∃ p,jJ h k p)).inj e
theorem jJ.mono {h h':Heap} {k:Value} {p:Int × List Int} (e:jJ h k p) (kp:∀ b o,h.get? b = some o->h'.get? b = some o):jJ h' k p:=by
 obtain ⟨a,b,t,rfl,⟨o,ho,c,n,hd⟩,aH,rv,o1,qJ,c1,n1,Hj⟩:=e
 exact ⟨a,b,t,rfl,⟨o,kp _ _ ho,c,n,hd⟩,aH,rv,o1,kp _ _ qJ,c1,n1,Hj⟩
def i6 (ps:List (Int × List Int)) (vs out:List Value):Prop:=∃ qs:List ((Int × List Int) × Value),qs.Perm (ps.zip vs) /\ out = qs.map Prod.snd /\ qs.Pairwise fun x y=>aJ x.1 y.1 = true
theorem Dj {h:Heap}:∀ {ks:List Value} {ps:List (Int × List Int)},Paired (jJ h) ks ps->∃ fs,fs.length = ps.length /\ (∀ f ∈ fs,∃ i t,f = Value.int i t) /\ PySem.W.KatTups h ks fs
 | [],_,.nil=>⟨[],rfl,(fun _ z=>by cases z),trivial⟩
 | _ :: _,p :: ps,.cons e r=>by
  obtain ⟨fs,hl,hi,hk⟩:=Dj r
  obtain ⟨a,b,t,rfl,⟨o,ho,c,n,hd⟩,_⟩:=e
  refine ⟨.int p.1 t :: fs,by simp [hl],fun f hf=>?_,PySem.W.KatTups.cons ho c hd (by simp) hk⟩
  rcases VT.mp hf with rfl | z
  ·exact ⟨_,t,rfl⟩
  ·exact hi f z
theorem uc {h:Heap}:∀ {ks:List Value} {ps:List (Int × List Int)} {vs:List Value},Paired (jJ h) ks ps->(ks.zip vs).map (fun x=>(keyOf h x.1,x.2)) = ps.zip vs
 | [],_,_,.nil=>by simp
 | _ :: _,_ :: _,[],.cons _ _=>by simp
 | _ :: _,_ :: _,v :: vs,.cons e r=>by
  rw [XT,XT,V8,mI e,uc r]
theorem qG {h:Heap}:∀ {ks:List Value} {ps:List (Int × List Int)} {k:Value},Paired (jJ h) ks ps->k ∈ ks->∃ p ∈ ps,jJ h k p
 | _,_,_,.nil,hk=>by cases hk
 | _ :: _,_ :: _,k,.cons e r,hk=>by
  rcases VT.mp hk with rfl | hk
  ·exact ⟨_,VR,e⟩
  ·obtain ⟨p,hp,q⟩:=qG r hk
   exact ⟨p,VQ _ hp,q⟩
section
variable {prog:Program} {w:World} {A:Around} {E:Value->Shared->Prop} {s:Shared}
theorem CF {ks vs:List Value} {ps:List (Int × List Int)} (hu:A.units < cLine) (hk:Paired (jJ s.heap) ks ps) (hl:ks.length = vs.length) (nd:ps.Nodup) :
  wpAny (model prog w) A ((sortRuns').run (SortSt.mk' (tuples' true) (ks.toArray.zip vs.toArray) #[] 7 none)) (fun r s2=>s2 = s /\ failedOf r.2 = none /\ i6 ps vs ((arrOf r.2).map (·.2)).toList) E s:=by
 have lp:ks.length = ps.length:=hk.length
 have zl:(ks.toArray.zip vs.toArray).toList = ks.zip vs:=by simp
 have BY:(ks.zip vs).map (fun x=>eQ ps (keyOf s.heap x.1)) = ps.map (eQ ps):=by
  have e:=W0 (List.map fun y:(Int × List Int) × Value=>eQ ps y.1) (uc (vs:=vs) hk)
  rw [Wx] at e
  rw [show (ps.zip vs).map (fun y=>eQ ps y.1) = (((ps.zip vs).map Prod.fst).map (eQ ps)) by rw [Wx]; rfl,List.map_fst_zip (by omega)] at e
  exact e
 have JV:(ps.map (eQ ps)).Nodup:=by
  refine List.Pairwise.map _ (R:=fun p q=>p ∈ ps /\ q ∈ ps /\ p ≠ q) (fun p q h e=>?_) ?_
  ·have e1:=m3 (q:=q) h.1
   have e2:=m3 (q:=p) h.2.1
   rw [e] at e1 e2
   rw [We (WX _)] at e1
   rw [We (WX _)] at e2
   have:=C0 h.2.2 e1.symm
   rw [<- e2] at this
   cases this
  ·exact Xp (fun {p q} hp hq rM=>⟨hp,hq,rM⟩) nd
 refine SO.wY (prog:=prog) (w:=w) (A:=A) (E:=E) (s:=s) (rk:=fun x=>eQ ps (keyOf s.heap x.1)) (S:=fun x=>∃ p ∈ ps,jJ s.heap x.1 p) (kd:=tuples' true) (a₀:=ks.toArray.zip vs.toArray) (st:=SortSt.mk' (tuples' true) (ks.toArray.zip vs.toArray) #[] 7 none)
  (Q:=fun _ st=>failedOf st = none /\ i6 ps vs ((arrOf st).map (·.2)).toList) ?cmp ?mem ?nd rfl rfl rfl rfl ?fin
 case cmp =>
  intro x y st Q hx hy kk q
  obtain ⟨p,hp,e1⟩:=hx
  obtain ⟨p',Si,e2⟩:=hy
  have ee:decide (eQ ps (keyOf s.heap x.1) < eQ ps (keyOf s.heap y.1)) = aJ p p':=by rw [mI e1,mI e2,m3 hp]
  have q:Q (some (decide (eQ ps (keyOf s.heap x.1) < eQ ps (keyOf s.heap y.1)))) st:=q
  rw [ee] at q
  rw [lt'_eq]
  refine VX (wpS_get ?_)
  refine VX (wpS_lift ?_)
  rw [kk]
  refine XI (xX hu e1 e2 ?_)
  exact ⟨rfl,V5 q⟩
 case mem =>
  intro x hx
  rw [zl] at hx
  obtain ⟨k,v⟩:=x
  exact qG hk (List.of_mem_zip hx).1
 case nd=>rw [zl,BY]; exact JV
 case fin =>
  intro st hp hf hs
  rw [zl] at hp
  refine ⟨hf,(arrOf st).toList.map (fun x=>(keyOf s.heap x.1,x.2)),?_,?_,?_⟩
  ·rw [<- uc hk]; exact hp.map _
  ·rw [Array.toList_map,Wx]; rfl
  ·have vX:((arrOf st).toList.map fun x=>eQ ps (keyOf s.heap x.1)).Nodup:=by
    have:=(hp.map fun x=>eQ ps (keyOf s.heap x.1)).nodup_iff.mpr (by rw [BY]; exact JV)
    exact this
   rw [WK]
   have Uc:=WK.mp vX
   refine Xp (fun {x y} hx hy h=>?_) (hs.and Uc)
   obtain ⟨h1,h2⟩:=h
   have oR:=hp.mem_iff.mp hx
   obtain ⟨x1,x2⟩:=x
   obtain ⟨p,R3,e⟩:=qG hk (List.of_mem_zip oR).1
   have:=m3 (ps:=ps) (p:=keyOf s.heap x1) (q:=keyOf s.heap y.1) (by rw [mI e]; exact R3)
   rw [<- this]
   exact V0 (Nat.lt_of_le_of_ne h1 h2)
end
section
variable {X:Cx} {pins:List (Addr × Obj)} {σ:St} {H H':Hp} {s s0:Shared} {A:Around} {E:Value->Shared->Prop} {a kS:Addr} {keys:Array Value} {vs:List Value} {ps:List (Int × List Int)} {e e1:Nat} {P:PySem.Fin->Shared->Prop}
structure Own (X:Cx) (H:Hp) (s0:Shared) (H':Hp) (s:Shared) (a kS:Addr) (keys:Array Value) (e e1:Nat):Prop where
 M:nG X H s0 H' s
 nk:s.heap.get? kS = some (seqObj "list" keys e)
 na:s.heap.get? a = some (seqObj "list" #[] e1)
 ne:kS ≠ a
 k0:s0.heap.objs.size <= kS
 a0:s0.heap.objs.size <= a
 kn:H' kS = none
 an:H' a = none
theorem zh {st:SortSt} (O:Own X H s0 H' s a kS keys e e1) (hz:keys.size <= sizeLine) (G0:(arrOf st).size <= sizeLine) (Rq:failedOf st = none)
  (h:∀ s' c,nG X H s0 H' s'->s'.heap.get? a = some (seqObj "list" ((arrOf st).map (·.2)) c)->P (.done (.ret .none)) s'):wpAny (model X.prog X.w) A (ksk_tail a false e1 (.ref kS) st) P E s:=by
 have s1:=WO s.heap kS (Obj.mapSeq fun _=>(#[]:Array Value))
 have Oq:(s.heap.update kS (Obj.mapSeq fun _=>(#[]:Array Value))).get? a = some (seqObj "list" #[] e1):=(s1.2 a O.ne.symm).trans O.na
 have s2:=WO (s.heap.update kS (Obj.mapSeq fun _=>(#[]:Array Value))) a (Obj.mapSeq fun _=>(arrOf st).map (·.2))
 obtain ⟨c2,DE⟩:∃ c2,((s.heap.update kS (Obj.mapSeq fun _=>(#[]:Array Value))).update a (Obj.mapSeq fun _=>(arrOf st).map (·.2))).get? a = some (seqObj "list" ((arrOf st).map (·.2)) c2) :=
  ⟨_,get?_update_seq Oq fun _=>(arrOf st).map (·.2)⟩
 unfold ksk_tail
 dsimp only
 refine VL (Yh O.nk rfl ?_ hz (Wl _))
 refine VL (wpAny_letGo ?_)
 refine VL (seqEpoch_at Oq rfl ?_)
 refine VL (Yh Oq rfl ?_ (Wl _) (by simp only [Wc,WH,Array.size_map]; exact Nat.le_succ_of_le G0))
 rw [Rq]
 simp only [bne_self_eq_false,Wc,WH]
 have M1:nG X H s0 H' { s with heap:=s.heap.update kS (Obj.mapSeq fun _=>(#[]:Array Value)) }:=O.M.DY (t:=s.toks) (XF O.k0) O.kn fun b u hb e=>(s1.2 b hb).trans e
 have M2:nG X H s0 H' { s with heap:=(s.heap.update kS (Obj.mapSeq fun _=>(#[]:Array Value))).update a (Obj.mapSeq fun _=>(arrOf st).map (·.2)) }:=M1.DY (t:=s.toks) (XF O.a0) O.an fun b u hb e=>(s2.2 b hb).trans e
 exact VM (h _ c2 M2 DE)
theorem zQ {ps:List (Int × List Int)} {vs:List Value} (hl:ps.length = vs.length) (h:vs.length < 2):i6 ps vs vs:=by
 refine ⟨ps.zip vs,List.Perm.refl _,(List.map_snd_zip (by omega)).symm,?_⟩
 have:(ps.zip vs).length < 2:=by rw [List.length_zip]; omega
 cases hq:ps.zip vs with
 | nil=>exact .nil
 | cons x r =>
  rw [hq] at this
  have:r = []:=List.eq_nil_of_length_eq_zero (by simp only [WE] at this; omega)
  rw [this]
  exact Ys _ _
theorem i6.len {ps:List (Int × List Int)} {vs out:List Value} (h:i6 ps vs out) (hl:ps.length = vs.length):out.length = vs.length:=by
 obtain ⟨qs,h1,rfl,_⟩:=h
 rw [VO,h1.length_eq,List.length_zip]
 omega
theorem HZ (hu:A.units < cLine) (O:Own X H s0 H' s a kS keys e e1) (hk:Paired (jJ s.heap) keys.toList ps) (hl:ps.length = vs.length) (hz:vs.length <= sizeLine) (nd:ps.Nodup)
  (h:∀ s' out c,nG X H s0 H' s'->s'.heap.get? a = some (seqObj "list" out c)->i6 ps vs out.toList->P (.done (.ret .none)) s'):wpAny (model X.prog X.w) A (ksk_end a false vs.toArray e1 (.ref kS) keys) P E s:=by
 have lk:keys.size = vs.length:=by have:=hk.length; rw [VW] at this; omega
 have zs:(keys.zip vs.toArray).size = vs.length:=by rw [Array.size_zip,lk,V2,Nat.min_self]
 unfold ksk_end
 simp only [Wc,WH]
 by_cases h2:vs.toArray.size < 2
 ·rw [if_pos h2,if_pos h2]
  refine VL (VM ?_)
  rw [StateT.run_pure]
  refine VL (VM ?_)
  dsimp only
  refine zh (st:=SortSt.mk' general' (keys.zip vs.toArray) #[] 7 none) O (by omega) (by show (keys.zip vs.toArray).size <= _; omega) rfl fun s' c M' q=>h s' _ c M' q ?_
  have e:((keys.zip vs.toArray).map (·.2)).toList = vs:=by
   rw [Array.toList_map]
   have:(keys.zip vs.toArray).toList = keys.toList.zip vs:=ksk_zip keys vs
   rw [this]
   exact List.map_snd_zip (by have:=VW (xs:=keys); omega)
  show i6 ps vs ((keys.zip vs.toArray).map (·.2)).toList
  rw [e]
  exact zQ hl (by simpa using h2)
 ·rw [if_neg h2,if_neg h2]
  rw [V2] at h2
  obtain ⟨fs,f1,f2,f3⟩:=Dj hk
  have ek:keys = keys.toList.toArray:=by rw [XG]
  refine VL ?_
  rw [show keyKind' keys = keyKind' keys.toList.toArray by rw [XG]]
  refine PySem.W.kat_kind (T:=.type "int") f3 (by omega) (fun v hv=>?_) rfl ?_
  ·obtain ⟨i,t,rfl⟩:=f2 v hv
   exact PySem.W.Looks.of_pure rfl
  have run:=CF (prog:=X.prog) (w:=X.w) (A:=A) (E:=E) (s:=s) (ks:=keys.toList) (vs:=vs) hu hk (by rw [VW]; exact lk) nd
  rw [XG] at run
  refine VL (W5 run ?_ fun _ _ e=>e)
  rintro ⟨⟨⟩,st⟩ s' ⟨rfl,hf,hs⟩
  dsimp only at hf hs ⊢
  have hlen:=hs.len hl
  refine zh O (by omega) ?_ hf fun s' c M' q=>h s' _ c M' q hs
  rw [VW,Array.size_map] at hlen
  omega
theorem DP {f:Addr} {ys:List V} {kf:V->Int × List Int} (hu:X.A.in1.in1.units < cLine) (K:rq X f ys H kf) (I:Inv X pins σ H s0) (O:Own X H s0 H' s a kS #[] e e1) (rv:Vals ys vs) (hz:vs.length <= sizeLine) (nd:(ys.map kf).Nodup)
  (h:∀ H' s' out c,nG X H s0 H' s'->H' a = none->s'.heap.get? a = some (seqObj "list" out c)->i6 (ys.map kf) vs out.toList->P (.done (.ret .none)) s'):wpAny (model X.prog X.w) X.A.in1.in1 (ksk_rest a (.ref f) false vs.toArray e1 (.ref kS)) P E s:=by
 have lv:ys.length = vs.length:=rv.length
 unfold ksk_rest
 refine VL (Xl ?_)
 rw [List.forIn_toArray]
 have QG:∀ b,s0.heap.objs.size <= b->b ∉ l3 X.stack:=fun b hb z=>by
  rcases VT.mp (I.lO b z) with z | z
  ·rw [z] at hb
   exact absurd I.lt (Nat.not_lt.mpr hb)
  ·exact I.JE hb z
 refine VL (ksk_fold (fun i s'=>∃ H' kA e,Own X H s0 H' s' a kS kA e e1 /\ Paired (fun k p=>∃ q b,k = Value.ref q /\ H' q = some (.tup [.int p.1,.ref b]) /\ H b = some (.tup (p.2.map V.int))) kA.toList ((ys.map kf).take i)) vs 0 s
  ⟨H',#[],e,O,by simpa using Paired.nil⟩ ?step ?done)
 case step =>
  rintro j x s' hx ⟨H',kA,e,O,hk⟩
  simp only [Nat.zero_add] at hk ⊢
  have hj:j < vs.length:=(Wa.mp hx).1
  obtain ⟨y,hy⟩:∃ y,ys[j]? = some y:=⟨_,VS (by omega)⟩
  obtain ⟨u,u3,ru⟩:=rv.get hy
  rw [hx] at u3; cases u3
  have lk:kA.size = j:=by
   have:=hk.length
   rw [VW,Wb,VO] at this
   omega
  have I':=O.M.inv I
  refine VL (XI (W5 (K H' s' y x (Wm hy) ru I'.Hy O.M.same) (fun v u5 he=>?_) fun _ _ hF=>hF.elim))
  obtain ⟨q,b,rfl,M2,hq,hb⟩:=he
  dsimp only
  have y8:∀ c o,s'.heap.get? c = some o->H' c = none->s0.heap.objs.size <= c->u5.heap.get? c = some o:=fun c o e n z=>M2.un.keep c o e n (QG c z) (by simp)
  have nk:=y8 kS _ O.nk O.kn O.k0
  have na:=y8 a _ O.na O.an O.a0
  have qk:kS ≠ q:=fun z=>by
   have:=M2.un.free kS _ O.nk O.kn (by simp)
   rw [z,ae] at this; cases this
  have qa:a ≠ q:=fun z=>by
   have:=M2.un.free a _ O.na O.an (by simp)
   rw [z,ae] at this; cases this
  have s1:=WO u5.heap kS (Obj.mapSeq (·.push (.ref q)))
  obtain ⟨c2,DE⟩:∃ c2,(u5.heap.update kS (Obj.mapSeq (·.push (.ref q)))).get? kS = some (seqObj "list" (kA.push (.ref q)) c2):=⟨_,get?_update_seq nk (·.push (.ref q))⟩
  have ek:(ys.map kf).take (j + 1) = (ys.map kf).take j ++ [kf y]:=by rw [Wd,V3,hy]; rfl
  refine VL (Yh nk rfl ?_ (by omega) (VZ (Nat.le_of_eq (Xw ..)) (by omega)))
  have M3:=(O.M.trans M2).DY (t:=u5.toks) (h':=u5.heap.update kS (Obj.mapSeq (·.push (.ref q)))) (XF O.k0) (by rw [aq qk]; exact O.kn) fun b u hb e=>(s1.2 b hb).trans e
  refine VM ⟨rfl,upd H' q (.tup [.int (kf y).1,.ref b]),kA.push (.ref q),c2,⟨M3,DE,(s1.2 a O.ne.symm).trans na,O.ne,O.k0,O.a0,by rw [aq qk]; exact O.kn,by rw [aq qa]; exact O.an⟩,?_⟩
  rw [Array.toList_push,ek]
  have ap:∀ {l1:List Value} {l2:List (Int × List Int)},Paired (fun k p=>∃ q b,k = Value.ref q /\ H' q = some (.tup [.int p.1,.ref b]) /\ H b = some (.tup (p.2.map V.int))) l1 l2 ->
    Paired (fun k p=>∃ q' b',k = Value.ref q' /\ upd H' q (.tup [.int (kf y).1,.ref b]) q' = some (.tup [.int p.1,.ref b']) /\ H b' = some (.tup (p.2.map V.int))) (l1 ++ [.ref q]) (l2 ++ [kf y]):=by
   intro l1 l2 r
   induction r with
   | nil=>exact .cons ⟨q,b,rfl,ae,hb⟩ .nil
   | cons e _ ih =>
    obtain ⟨q',b',e1,e2,e3⟩:=e
    exact .cons ⟨q',b',e1,by rw [aq (aG e2 hq)]; exact e2,e3⟩ ih
  exact ap hk
 case done =>
  rintro s' ⟨H',kA,e,O,hk⟩
  have e3:(ys.map kf).take (0 + vs.length) = ys.map kf:=V1 (by rw [VO]; omega)
  rw [e3] at hk
  refine VL (listItems_at O.nk rfl ?_)
  refine HZ hu O (Paired.imp' (fun k p he=>?_) hk) (by rw [VO]; exact lv) hz nd fun s' out c M' q o=>h H' s' out c M' O.an q o
  obtain ⟨q,b,rfl,h1,h2⟩:=he
  obtain ⟨_,aH,Na,o1,g1,c1,n1,d1⟩:=O.M.ba q _ h1
  obtain ⟨_,kU,KL,t2⟩:=O.M.ba b _ (O.M.same _ _ h2)
  cases Na with
  | cons ra rb =>
   obtain ⟨t,rfl⟩:=ra
   cases rb with
   | cons rc rd =>
    cases rc
    cases rd
    exact ⟨q,b,t,rfl,⟨o1,g1,c1,n1,d1⟩,kU,KL,t2⟩
theorem DN {f:Addr} {ys:List V} {kf:V->Int × List Int} {n:Nat} (hu:X.A.in1.in1.units < cLine) (K:rq X f ys H kf) (I:Inv X pins σ H s0) (M:nG X H s0 H s) (ho:s.heap.get? a = some (seqObj "list" vs.toArray n)) (ha:s0.heap.objs.size <= a) (an:H a = none) (rv:Vals ys vs) (hz:vs.length <= sizeLine) (nd:(ys.map kf).Nodup)
  (hl:s0.heap.objs.size <= s.heap.objs.size)
  (h:∀ H' s' out c,nG X H s0 H' s'->H' a = none->s'.heap.get? a = some (seqObj "list" out c)->i6 (ys.map kf) vs out.toList->P (.done (.ret .none)) s'):wpAny (model X.prog X.w) X.A.in1.in1 (ksk_tree a (.ref f) false) P E s:=by
 have lt:a < s.heap.objs.size:=V4 ho
 have s1:=WO s.heap a (Obj.mapSeq fun _=>(#[]:Array Value))
 obtain ⟨e1,qJ⟩:∃ e1,(s.heap.update a (Obj.mapSeq fun _=>(#[]:Array Value))).get? a = some (seqObj "list" #[] e1):=⟨_,get?_update_seq ho fun _=>#[]⟩
 have N8:((s.heap.update a (Obj.mapSeq fun _=>(#[]:Array Value))).push (seqObj "tuple" vs.toArray 0)).objs.size = s.heap.objs.size + 1:=by rw [size_push',Heap.size_update]
 unfold ksk_tree
 refine VL (listItems_at ho rfl ?_)
 refine VL (Yh ho rfl ?_ (by rw [V2]; exact hz) (Wl _))
 refine VL (seqEpoch_at qJ rfl ?_)
 refine VL (wpAny_newTuple ?_ (by show vs.length <= _; exact hz))
 refine VL (wpAny_newList ?_ (Wl _))
 refine W2 ?_
 have M1:nG X H s0 H { s with heap:=s.heap.update a (Obj.mapSeq fun _=>(#[]:Array Value)) }:=M.DY (t:=s.toks) (XF ha) an fun b u hb e=>(s1.2 b hb).trans e
 have M2:=M1.keep (t:=s.toks) (h':=((s.heap.update a (Obj.mapSeq fun _=>(#[]:Array Value))).push (seqObj "tuple" vs.toArray 0)).push (seqObj "list" #[] 0)) fun b u e=>VN _ (VN _ e)
 refine DP hu K I (H':=H) (e:=0) (kS:=((s.heap.update a (Obj.mapSeq fun _=>(#[]:Array Value))).push (seqObj "tuple" vs.toArray 0)).objs.size) ⟨M2,VY _ rfl,VN _ (VN _ qJ),by rw [N8]; exact X8 (Nat.lt_succ_of_lt lt),by rw [N8]; omega,ha,?_,an⟩ rv hz nd h
 rw [N8]
 exact M.ba.fresh (XD _)
end
section
variable {X:Cx} {pins:List (Addr × Obj)} {σ:St} {H:Hp} {s:Shared}
def zz (X:Cx) (f:Addr):List V->Hp->VK->Prop:=fun xs H Q=>∃ (p:Addr) (ys:List V) (kf:V->Int × List Int),xs = [.ref p] /\ aZ X.K H p ys /\ rq X f ys H kf /\ (ys.map kf).Nodup /\
 ∀ (H':Hp) (l:Addr) (ww:List V),ak H H'->H' l = none->ww.Perm ys->ww.Pairwise (fun x y=>aJ (kf x) (kf y) = true)->Q (.ref l) (upd H' l (.lst ww))
theorem Ao {ys:List V} {vs:List Value} (rv:Vals ys vs) (kf:V->Int × List Int):∀ {qs:List ((Int × List Int) × Value)},qs.Perm ((ys.map kf).zip vs)->∃ ww:List V,ww.Perm ys /\ Vals ww (qs.map Prod.snd) /\ ww.map kf = qs.map Prod.fst:=by
 intro qs hq
 let f:V × Value->(Int × List Int) × Value:=fun z=>(kf z.1,z.2)
 have e0:(ys.map kf).zip vs = (ys.zip vs).map f:=by
  rw [List.zip_map_left]
  exact Ye fun ⟨x,y⟩ _=>rfl
 rw [e0] at hq
 have key:∀ {l:List (V × Value)} {qs:List ((Int × List Int) × Value)},qs.Perm (l.map f)->∃ l':List (V × Value),l'.Perm l /\ l'.map f = qs:=by
  intro l qs h
  generalize hm:l.map f = m at h
  induction h generalizing l with
  | nil =>
   cases l with
   | nil=>exact ⟨[],.refl _,rfl⟩
   | cons _ _=>cases hm
  | cons x _ ih =>
   cases l with
   | nil=>cases hm
   | cons z l =>
    rw [V8] at hm
    injection hm with h1 h2
    obtain ⟨l',p1,p2⟩:=ih h2
    exact ⟨z :: l',p1.cons z,by rw [V8,h1,p2]⟩
  | swap x y r =>
   cases l with
   | nil=>cases hm
   | cons z l =>
    cases l with
    | nil=>cases hm
    | cons z2 l =>
     rw [V8,V8] at hm
     injection hm with h1 h2
     injection h2 with h3 h4
     exact ⟨z2 :: z :: l,List.Perm.swap _ _ _,by rw [V8,V8,h1,h3,h4]⟩
  | trans _ _ NG Oo =>
   obtain ⟨l2,p2,e2⟩:=Oo hm
   obtain ⟨l1,p1,e1⟩:=NG e2
   exact ⟨l1,p1.trans p2,e1⟩
 obtain ⟨l',p1,p2⟩:=key hq
 have lv:=rv.length
 refine ⟨l'.map Prod.fst,?_,?_,?_⟩
 ·have:=p1.map Prod.fst
  rw [List.map_fst_zip (by omega)] at this
  exact this
 ·rw [<- p2,Wx]
  have hm:∀ z ∈ l',RelV z.1 z.2:=fun z hz=>by
   have hz:=p1.mem_iff.mp hz
   obtain ⟨i,hi⟩:=X1.mp hz
   rw [List.getElem?_zip_eq_some] at hi
   obtain ⟨u,h1,h2⟩:=rv.get hi.1
   rw [hi.2] at h1; cases h1
   exact h2
  clear p1 p2 hq
  induction l' with
  | nil=>exact .nil
  | cons z r ih=>exact .cons (hm z VR) (ih fun y hy=>hm y (VQ _ hy))
 ·rw [<- p2,Wx,Wx]; rfl
theorem Aw {f:Addr} {xs:List V} {us:List Value} {Q:VK} (hu:X.A.in1.in1.units < cLine) (I:Inv X pins σ H s) (r:Vals xs us) (h:zz X f xs H Q) :
  wpAny (model X.prog X.w) X.A (call (.builtin "sorted") us [(Str.ofString "key",.ref f)]) (EP X pins σ Q) X.xe s:=by
 obtain ⟨p,ys,kf,rfl,hp,K,nd,q⟩:=h
 obtain ⟨u,rfl,ru⟩:=vals1 r
 cases ru
 obtain ⟨aH,rv,pl,hz⟩:=I.list hp
 have ln:aH.length = ys.length:=rv.length.symm
 refine call_function_entry_kw kind_sorted plain_sorted entry_sorted (ksk_s1 _ _) ?_
 unfold Builtin.«sorted»
 refine VL (m:=checkCount "sorted" 1 1 _) (VM ?_)
 refine VL (collect_list pl.isList ?_ (by omega))
 refine VL (wpAny_newList ?_ (by show aH.length <= _; omega))
 have hsz:((s.heap.push (seqObj "list" #[] 0)).update s.heap.objs.size (Obj.mapSeq (· ++ aH.toArray))).objs.size = s.heap.objs.size + 1:=by
  rw [Heap.size_update,size_push']
 have LD:(((s.heap.push (seqObj "list" #[] 0)).update s.heap.objs.size (Obj.mapSeq (· ++ aH.toArray))).push (seqObj "list" aH.toArray 0)).get? (s.heap.objs.size + 1) = some (seqObj "list" aH.toArray 0):=by
  rw [<- hsz]; exact VY _ rfl
 have keep:∀ b o,s.heap.get? b = some o->(((s.heap.push (seqObj "list" #[] 0)).update s.heap.objs.size (Obj.mapSeq (· ++ aH.toArray))).push (seqObj "list" aH.toArray 0)).get? b = some o:=fun b o q=>by
  have iz:b < s.heap.objs.size:=V4 q
  rw [Heap.get?_push_ne _ _ _ (by rw [hsz]; exact Wj (Nat.lt_succ_of_lt iz)),Heap.get?_update_ne _ _ _ _ (Wj iz),Heap.get?_push_ne _ _ _ (Wj iz)]
  exact q
 show wpAny _ _ _ _ _ { s with heap:=((s.heap.push (seqObj "list" #[] 0)).update s.heap.objs.size (Obj.mapSeq (· ++ aH.toArray))).push (seqObj "list" aH.toArray 0) }
 rw [hsz]
 refine VL (W2 (wpAny_call_entry_kw slot_list_sort ⟨_,LD,rfl⟩ entry_list_sort ?body (ksk_l1 _ _)))
 case body =>
  show wpAny (model X.prog X.w) X.A.in1.in1 (Builtin.«list.sort» ⟨[.ref (s.heap.objs.size + 1)],[(Str.ofString "key",.ref f)]⟩) _ _ _
  rw [ksk_t1]
  refine DN hu K I (M:=(nG.start I).keep (t:=s.toks) keep) LD (XD _) (I.ba.fresh (XD _)) rv (by omega) nd ?_ fun H' s' out c M' an ho o=>⟨_,rfl,?_⟩
  ·show _ <= Array.size _
   rw [size_push',hsz]
   omega
  obtain ⟨qs,h1,h2,h3⟩:=o
  obtain ⟨ww,y1,y2,y3⟩:=Ao rv kf h1
  rw [<- h2] at y2
  have M2:=M'.Ks (o:=.lst ww) (XF (XD _)) an ⟨by rw [y1.length_eq]; omega,out.toList,c,y2,by rw [XG]; exact ho⟩
  refine VM ⟨.ref (s.heap.objs.size + 1),rfl,.ref (s.heap.objs.size + 1),_,M2.inv I,rfl,q H' _ ww M'.same an y1 ?_⟩
  have h4:(qs.map Prod.fst).Pairwise fun x y=>aJ x y = true:=WK.mpr h3
  rw [<- y3] at h4
  exact WK.mp h4
end
abbrev bV:=List Int × Int
section
variable {prog:Program} {w:World} {A:Around} {E:Value->Shared->Prop} {s:Shared}
def ei (h:Heap) (k:bV) (a:Addr):Prop:=∃ b t,IsTup h a #[.ref b,.int k.2 t] /\ ie h b k.1
theorem ei.typeIs {k:bV} {a:Addr} (h:ei s.heap k a):s.TypeIs (.ref a) "tuple":=let ⟨_,_,⟨o,ho,hc,_⟩,_⟩:=h; ⟨o,ho,hc⟩
theorem Dx:∀ {g k:List Int} {aH:List Value},Vals (g.map V.int) aH->Vals (k.map V.int) aH->g = k:=by
 intro g
 induction g with
 | nil =>
  intro k aH r1 r2
  cases r1
  cases k with
  | nil=>rfl
  | cons x k=>cases r2
 | cons m g ih =>
  intro k aH r1 r2
  cases r1 with
  | cons a1 b1 =>
   cases k with
   | nil=>cases r2
   | cons x k =>
    cases r2 with
    | cons a2 b2 =>
     obtain ⟨t1,e1⟩:=a1
     obtain ⟨t2,e2⟩:=a2
     rw [e1] at e2
     injection e2 with e3
     rw [e3,ih b1 b2]
theorem ie.inj {h:Heap} {a:Addr} {g k:List Int} (x:ie h a g) (y:ie h a k):g = k:=by
 obtain ⟨aH,rv,o,ho,_,n,hd⟩:=x
 obtain ⟨its',Ot,o',lP,_,n',xa⟩:=y
 rw [ho] at lP; cases lP
 rw [hd] at xa
 injection xa with e1 e2
 have e1:aH = its':=W0 Array.toList e1
 subst e1
 exact Dx rv Ot
theorem ei.inj {h:Heap} {a:Addr} {p q:bV} (h1:ei h p a) (h2:ei h q a):p = q:=by
 obtain ⟨b,t,⟨o,ho,_,n,hd⟩,x⟩:=h1
 obtain ⟨b',t',⟨o',lP,_,n',xa⟩,y⟩:=h2
 rw [ho] at lP; cases lP
 rw [hd] at xa
 injection xa with e1 e2
 have e1:[Value.ref b,.int p.2 t] = [Value.ref b',.int q.2 t']:=W0 Array.toList e1
 injection e1 with e3 e4
 injection e4 with e5 e6
 injection e3 with e7
 injection e5 with e5
 subst e7
 refine Prod.ext ?_ e5
 exact x.inj y
theorem ei.keeps {h h':Heap} {k:bV} {a d:Addr} {o:Obj} {es ep} (x:ei h k a) (ho:h.get? d = some o) (hd:o.data = .dict es ep) (hs:Heap.SameBut d h h'):ei h' k a:=by
 obtain ⟨b,t,⟨o1,qJ,c1,n1,Hj⟩,aH,rv,o2,lJ,c2,n2,hd2⟩:=x
 have ne:∀ {c:Addr} {o':Obj} {xs:Array Value} {n:Nat},h.get? c = some o'->o'.data = .seq xs n->c ≠ d:=fun {c o' xs n} e1 e2 z=>by
  rw [z,ho] at e1; cases e1
  rw [hd] at e2; cases e2
 exact ⟨b,t,⟨o1,(hs.2 a (ne qJ Hj)).trans qJ,c1,n1,Hj⟩,aH,rv,o2,(hs.2 b (ne lJ hd2)).trans lJ,c2,n2,hd2⟩
def jo (prog:Program) (w:World) (k:bV):Int:=reduceHash (Builtin.Tuple.tupleHashOf [tupleKeyHash (intKind prog w) k.1,hashInt k.2])
theorem Cg {k:bV} {a:Addr} {Q:Int->Shared->Prop} (hu:A.units + 8 < cLine) (hk:ei s.heap k a) (h:Q (jo prog w k) { s with toks:=s.toks + (k.1.length + 3) }) :
  wpAny (model prog w) A (pyHash (.ref a)) Q E s:=by
 have hT:=hk.typeIs
 obtain ⟨b,t,⟨o,ho,_,n,hd⟩,hb⟩:=hk
 unfold pyHash
 first | unfold pyHashByItsType | skip
 first | refine VL (wpAny_cRoomFor_or (.inr (by omega)) ?_) | skip
 refine VL (Yk hT F.slot_tuple_hash.lookup ?_)
 show wpAny _ _ (if (some (Value.builtin "tuple.__hash__") == some Value.none) = true then _ else _) Q E s
 rw [if_neg (by rw [beq_builtin_none]; exact VU)]
 refine VL (Yk hT F.slot_tuple_hash.lookup ?_)
 show wpAny _ _ (callSpecialIfBoundUnlessNone? (.ref a) "__hash__" _ >>= _) Q E s
 refine VL (wpAny_callSpecialIfBoundUnlessNone?_slot hT F.slot_tuple_hash (Wt F.slot_tuple_hash hT F.entry_tuple_hash ?_ (F.args_tuple_hash_1 _)))
 show wpAny _ _ (Builtin.Tuple.tupleItemsOf (.ref a) >>= _) _ _ s
 refine VL (Yp ho hd ?_)
 refine VL ?_
 rw [<- Array.forIn_toList]
 show wpAny _ _ (forIn [Value.ref b,.int k.2 t] _ _) _ _ s
 rw [W8]
 refine VL (VL (wpAny_pyHash_tuple (knd:=intKind prog w) (by show A.units + 1 < cLine; omega) hb.key (VM ?_)))
 dsimp only
 rw [W8]
 refine VL (VL (wpAny_pyHash_int (VM ?_)))
 dsimp only
 rw [X5]
 refine VM ?_
 show wpAny _ _ (retInt (Builtin.Tuple.tupleHashOf [tupleKeyHash (intKind prog w) k.1,hashInt k.2])) _ _ _
 refine wpAny_ret_mkInt ?_
 show wpAny _ _ (if (decide (-(2:Int) ^ 63 <= Builtin.Tuple.tupleHashOf [tupleKeyHash (intKind prog w) k.1,hashInt k.2]) && decide (Builtin.Tuple.tupleHashOf [tupleKeyHash (intKind prog w) k.1,hashInt k.2] < 2 ^ 63)) = true then _ else _) Q E _
 unfold jo reduceHash at h
 by_cases hr:(decide (-(2:Int) ^ 63 <= Builtin.Tuple.tupleHashOf [tupleKeyHash (intKind prog w) k.1,hashInt k.2]) && decide (Builtin.Tuple.tupleHashOf [tupleKeyHash (intKind prog w) k.1,hashInt k.2] < 2 ^ 63)) = true
 ·rw [if_pos hr]
  rw [if_pos hr] at h
  exact VM (by simpa [Nat.add_assoc] using h)
 ·rw [if_neg hr]
  rw [if_neg hr] at h
  exact VL (Xl (VM (by simpa [Nat.add_assoc] using h)))
theorem wH {x y:bV} {a b:Addr} {P:PySem.Fin->Shared->Prop} (hu:A.units < cLine) (hx:ei s.heap x a) (hy:ei s.heap y b) (h:P (.done (.ret (.bool (decide (x = y))))) s) :
  wpAny (model prog w) A (Builtin.«tuple.__eq__» ⟨[.ref a,.ref b],[]⟩) P E s:=by
 have Kf:=hy.typeIs
 obtain ⟨b1,t1,⟨oa,Bd,_,na,Bk⟩,UY⟩:=hx
 obtain ⟨b2,t2,⟨ob,rK,_,nb,rn⟩,S6⟩:=hy
 show wpAny _ _ (isInstance (.ref b) (.type "tuple") >>= _) _ _ s
 refine VL (Xm Kf isSubtype_tuple_tuple ?_)
 simp only [WQ,Wc,WH]
 refine VL (Yp Bd Bk ?_)
 refine VL (Yp rK rn ?_)
 refine VL ?_
 show wpAny _ _ (forIn [(Value.ref b1,Value.ref b2),(.int x.2 t1,.int y.2 t2)] _ _) _ _ s
 rw [W8]
 refine VL (VL (jV hu UY S6 ?_))
 by_cases h1:x.1 = y.1
 ·rw [V0 h1]
  simp only [WQ,Wc,WH]
  refine VM ?_
  dsimp only
  rw [W8]
  refine VL (VL (Ya ?_))
  by_cases h2:x.2 = y.2
  ·rw [show (x.2 == y.2) = true from XH.mpr h2]
   simp only [WQ,Wc,WH]
   refine VM ?_
   dsimp only
   rw [X5]
   refine VM ?_
   rw [V0 (Prod.ext h1 h2)] at h
   exact VM h
  ·rw [show (x.2 == y.2) = false from WY.mpr h2]
   simp only [Bool.not_false,Xe]
   rw [We (fun e=>h2 (W0 Prod.snd e))] at h
   exact VL (VM (VM (VM (VM h))))
 ·rw [We h1]
  simp only [Bool.not_false,Xe]
  rw [We (fun e=>h1 (W0 Prod.fst e))] at h
  exact VL (VM (VM (VM (VM h))))
theorem HI {x y:bV} {a b:Addr} {Q:Bool->Shared->Prop} (hu:A.units + 8 < cLine) (hx:ei s.heap x a) (hy:ei s.heap y b) (h:Q (decide (x = y)) s):wpAny (model prog w) A (eqBool (.ref a) (.ref b)) Q E s:=by
 unfold eqBool
 try with_reducible refine W2 ?_
 show wpAny _ _ (if (Value.ref a == Value.ref b) = true then _ else _) Q E s
 by_cases IU:(Value.ref a == Value.ref b) = true
 ·rw [if_pos IU]
  have e:a = b:=by have:=eq_of_beq IU; injection this
  subst e
  have e:x = y:=ei.inj hx hy
  subst e
  exact VL (Xl (VM (by simpa using h)))
 ·rw [if_neg IU]
  exact VL (wpAny_richCompare_same_room (op:=.Eq) hx.typeIs hy.typeIs F.slot_tuple_eq
   (Wt F.slot_tuple_eq hx.typeIs F.entry_tuple_eq (wH (by show A.units + 1 < cLine; omega) hx hy ⟨_,rfl,(fun e=>nomatch e),WR h⟩) (F.args_tuple_eq_2 _ _)) (by omega))
theorem Ak {m:Nat} {g:List Int} {a:Addr} {Q:Bool->Shared->Prop} (hk:ie s.heap a g) (h:Q true s):wpAny (model prog w) A (eqIsQuiet (m + 1) (.ref a)) Q E s:=by
 have hT:=hk.typeIs
 have hi:=(hk.key (prog:=prog) (w:=w))
 obtain ⟨o,items,n,ho,_,hd,hi⟩:=hi
 unfold eqIsQuiet
 refine VL (Yk hT F.slot_tuple_eq.lookup ?_)
 show wpAny _ _ (isInstance (.ref a) (.type "tuple") >>= _) _ _ s
 refine VL (Xm hT isSubtype_tuple_tuple ?_)
 simp only [WQ,Wc,WH]
 refine VL (Xq ho hd ?_)
 refine VL ?_
 show wpAny _ _ (forIn items _ _) _ _ s
 rw [<- Array.forIn_toList]
 refine wpAny_forIn_list _ (fun rest r s'=>r.1 = none /\ s' = s /\ ∀ v ∈ rest,carriedByValue v = true) _ ?_ ?_ _ _ ⟨rfl,rfl,hi.byValue⟩
 ·rintro v rest r s' ⟨hr,rfl,zN⟩
  rw [eqIsQuiet_byValue _ (zN v VR)]
  refine VL (VM ?_)
  simp only [WQ,Wc,WH]
  exact VM ⟨rfl,rfl,fun u u3=>zN u (VQ _ u3)⟩
 ·rintro ⟨r1,r2⟩ s' ⟨hr,rfl,_⟩
  simp only at hr
  subst hr
  exact VM h
theorem zM {k:bV} {a:Addr} {Q:Bool->Shared->Prop} (hk:ei s.heap k a) (h:Q true s):wpAny (model prog w) A (eqIsQuiet 8 (.ref a)) Q E s:=by
 have hT:=hk.typeIs
 obtain ⟨b,t,⟨o,ho,_,n,hd⟩,hb⟩:=hk
 unfold eqIsQuiet
 refine VL (Yk hT F.slot_tuple_eq.lookup ?_)
 show wpAny _ _ (isInstance (.ref a) (.type "tuple") >>= _) _ _ s
 refine VL (Xm hT isSubtype_tuple_tuple ?_)
 simp only [WQ,Wc,WH]
 refine VL (Xq ho hd ?_)
 refine VL ?_
 show wpAny _ _ (forIn (#[Value.ref b,.int k.2 t]) _ _) _ _ s
 rw [<- Array.forIn_toList]
 show wpAny _ _ (forIn [Value.ref b,.int k.2 t] _ _) _ _ s
 rw [W8]
 refine VL (VL (Ak hb ?_))
 simp only [WQ,Wc,WH]
 refine VM ?_
 dsimp only
 rw [W8,eqIsQuiet_byValue _ rfl]
 refine VL (VL (VM ?_))
 simp only [WQ,Wc,WH]
 refine VM ?_
 dsimp only
 rw [X5]
 exact VM (VM h)
def bh (prog:Program) (w:World):HeapKind prog w bV where
 is:=ei
 hash:=jo prog w
 draws:=fun k=>k.1.length + 3
 room:=fun A=>A.units + 8 < cLine
 inj:=fun hx hy=>hx.inj hy
 keeps:=fun x ho hd hs=>x.keeps ho hd hs
 pyHash:=fun hu hk h=>Cg hu hk h
 eqBool:=fun hu hx hy h=>HI hu hx hy h
 quiet:=fun hk h=>zM hk h
end
def kT (P:Program) (w:World) (a:Addr) (xs:List (bV × Addr × Value)):HO :=
 .ext fun h=>∃ o es ep,h.get? a = some o /\ o.ExactDict /\ o.data = .dict es ep /\ es.toList = xs.map (entryOfKey (bh P w)) /\ (xs.map (·.1)).Nodup
def l9 (H:Hp) (k:bV) (a:Addr):Prop:=∃ b,H a = some (.tup [.ref b,.int k.2]) /\ H b = some (.tup (k.1.map V.int))
abbrev KS (H:Hp):List (bV × V)->List (bV × Addr × Value)->Prop:=Paired fun p q=>p.1 = q.1 /\ l9 H p.1 q.2.1 /\ RelV p.2 q.2.2
def DS (P:Program) (w:World) (H:Hp) (a:Addr) (kvs:List (bV × V)):Prop:=kvs.length <= sizeLine /\ (a == sysModules) = false /\ ∃ xs,Rd H a (kT P w a xs) /\ KS H kvs xs
def DW (P:Program) (w:World) (H:Hp) (a:Addr) (kvs:List (bV × V)):Prop:=kvs.length <= sizeLine /\ (a == sysModules) = false /\ ∃ xs,H a = some (kT P w a xs) /\ KS H kvs xs
def dX (kvs:List (bV × V)) (k:bV):Option V:=(kvs.find? fun x=>decide (x.1 = k)).map (·.2)
def sh (kvs:List (bV × V)) (k:bV) (v:V):List (bV × V):=if (dX kvs k).isSome then kvs.map (fun x=>if x.1 = k then (x.1,v) else x) else kvs ++ [(k,v)]
section
variable {P:Program} {w:World} {H H':Hp} {h:Heap} {a:Addr} {kvs:List (bV × V)} {xs:List (bV × Addr × Value)} {k:bV}
theorem DW.ds (d:DW P w H a kvs):DS P w H a kvs:=let ⟨h1,h2,xs,h3,h4⟩:=d; ⟨h1,h2,xs,.inl h3,h4⟩
theorem l9.mono (e:∀ b ys,H b = some (.tup ys)->H' b = some (.tup ys)) (x:l9 H k a):l9 H' k a:=let ⟨b,h1,h2⟩:=x; ⟨b,e _ _ h1,e _ _ h2⟩
theorem KS.mono (e:∀ b ys,H b = some (.tup ys)->H' b = some (.tup ys)) (x:KS H kvs xs):KS H' kvs xs:=Paired.yl x fun _ _ z=>⟨z.1,z.2.1.mono e,z.2.2⟩
theorem DS.mono (e:ak H H') (x:DS P w H a kvs):DS P w H' a kvs:=let ⟨h1,h2,xs,h3,h4⟩:=x
 ⟨h1,h2,xs,h3.elim (fun z=>.inl (e _ _ z)) (fun ⟨o,z⟩=>.inr ⟨o,e _ _ z⟩),h4.mono fun _ _=>e _ _⟩
theorem DW.mono (e:ak H H') (x:DW P w H a kvs):DW P w H' a kvs:=let ⟨h1,h2,xs,h3,h4⟩:=x
 ⟨h1,h2,xs,e _ _ h3,h4.mono fun _ _=>e _ _⟩
theorem l9.is (ok:jN P w H h) (x:l9 H k a):ei h k a:=by
 obtain ⟨b,h1,h2⟩:=x
 obtain ⟨_,aH,Na,o1,g1,c1,n1,d1⟩:=ok a _ h1
 obtain ⟨_,kU,KL,t2⟩:=ok b _ h2
 cases Na with
 | cons ra rb =>
  cases ra
  cases rb with
  | cons rc rd =>
   obtain ⟨t,rfl⟩:=rc
   cases rd
   exact ⟨b,t,⟨o1,g1,c1,n1,d1⟩,kU,KL,t2⟩
def dn (k:bV):PyData:=.tuple [.tuple (k.1.map PyData.int),.int k.2]
theorem l9.dv (x:l9 H k a):DV H (dn k) (.ref a):=by
 obtain ⟨b,h1,h2⟩:=x
 exact .tup h1 (.cons (.tup h2 (bK.ints _)) (.cons (.int _) .nil))
theorem l9.of {v:V} (x:DV H (dn k) v):∃ a,v = .ref a /\ l9 H k a:=by
 obtain ⟨a,vs,rfl,ha,hv⟩:=x.gK
 obtain ⟨v1,v2,rfl,d1,d2⟩:=hv.uU
 obtain ⟨b,us,rfl,hb,hu⟩:=d1.gK
 cases d2.int_inv
 cases hu.mU
 exact ⟨a,rfl,b,ha,hb⟩
theorem KS.val (r:KS H kvs xs) (k:bV):n9 (dX kvs k) ((atKey xs k).map (·.2)):=by
 induction r with
 | nil=>exact XS
 | @cons p q ps qs h t ih =>
  obtain ⟨h1,_,h2⟩:=h
  by_cases e:p.1 = k
  ·have e':q.1 = k:=h1.symm.trans e
   have b:atKey (q :: qs) k = some q.2:=by simp [atKey,Xv,e']
   have c:dX (p :: ps) k = some p.2:=by simp [dX,Xv,e]
   rw [c,b]; exact h2
  ·have e':¬ q.1 = k:=fun z=>e (h1.trans z)
   have b:atKey (q :: qs) k = atKey qs k:=by simp [atKey,Xv,e']
   have c:dX (p :: ps) k = dX ps k:=by simp [dX,Xv,e]
   rw [c,b]; exact ih
theorem kq {o:Option V} {u:Option Value} (r:n9 o u):o.isSome = u.isSome:=by
 cases o <;> cases u <;> first | rfl | exact r.elim
theorem KS.OH (r:KS H kvs xs) (k:bV) {y:V} {u:Value} (ry:RelV y u):KS H (kvs.map fun kv=>if kv.1 = k then (kv.1,y) else kv) (xs.map (putAt k u)):=by
 induction r with
 | nil=>exact .nil
 | @cons p q ps qs h t ih =>
  rw [V8,V8]
  refine .cons ?_ ih
  obtain ⟨h1,h2,h3⟩:=h
  unfold putAt
  by_cases e:p.1 = k
  ·rw [if_pos e,if_pos (h1.symm.trans e)]; exact ⟨h1,h2,ry⟩
  ·rw [if_neg e,if_neg (fun z=>e (h1.trans z))]; exact ⟨h1,h2,h3⟩
theorem KS.put (r:KS H kvs xs) (k:bV) {b:Addr} {y:V} {u:Value} (hb:l9 H k b) (ry:RelV y u):KS H (sh kvs k y) (storedH xs k b u):=by
 have e:(dX kvs k).isSome = (atKey xs k).isSome:=by rw [kq (r.val k),W6]
 unfold sh storedH
 rw [e]
 by_cases q:(atKey xs k).isSome = true
 ·rw [if_pos q,if_pos q]; exact r.OH k ry
 ·rw [if_neg q,if_neg q]; exact Paired.snoc r ⟨rfl,hb,ry⟩
theorem CD (kvs:List (bV × V)) (k:bV) (v:V):(sh kvs k v).length <= kvs.length + 1:=by
 unfold sh
 split <;> simp
theorem KS.is (ok:jN P w H h) (r:KS H kvs xs):∀ x ∈ xs,ei h x.1 x.2.1:=by
 induction r with
 | nil=>intro x hx; cases hx
 | cons e _ ih =>
  intro x hx
  rcases VT.mp hx with rfl | hx
  ·rw [<- e.1]; exact e.2.1.is ok
  ·exact ih x hx
theorem oK (ok:jN P w H h) (d:Rd H a (kT P w a xs)) (r:KS H kvs xs):h.DictOfH (bh P w) a xs:=by
 obtain ⟨⟨o,es,ep,h1,h2,h3,h4,h5⟩,_⟩:=(show ck P w H h a (kT P w a xs) from d.ok ok)
 exact ⟨o,es,ep,h1,h2,h3,h4,r.is ok,h5⟩
theorem mz {h':Heap} (d:h'.DictOfH (bh P w) a xs):ck P w H h' a (kT P w a xs):=by
 obtain ⟨o,es,ep,h1,h2,h3,h4,_,h5⟩:=d
 refine ⟨⟨o,es,ep,h1,h2,h3,h4,h5⟩,⟨o,h1⟩,fun g1 g2 φ kp=>?_⟩
 obtain ⟨o,es,ep,h1,h2,h3,h4,h5⟩:=φ
 exact ⟨o,es,ep,kp _ h1,h2,h3,h4,h5⟩
end
section
variable {X:Cx}
theorem Inv.HC {pins:List (Addr × Obj)} {σ:St} {H:Hp} {s:Shared} (I:Inv X pins σ H s):sysModules < s.heap.objs.size:=by
 have h:mainGlobals < s.heap.objs.size:=(I.mod.glob.keeps I.bk).lt
 exact Nat.lt_trans (by decide) h
def KW (X:Cx) (neg:Bool):R2:=fun y x H Q=>∃ a b k kvs,x = .ref a /\ y = .ref b /\ l9 H k b /\ DS X.prog X.w H a kvs /\ Q (.bl (if neg then !(dX kvs k).isSome else (dX kvs k).isSome)) H
theorem HS (hu:X.A.units + 64 < cLine):iL X (compareOp .In) (KW X false):=by
 intro pins s σ H y x u v Q I ry rx h
 obtain ⟨a,b,k,kvs,rfl,rfl,hk,⟨_,hd,xs,rd,r⟩,q⟩:=h
 cases ry; cases rx
 refine wpAny_in_heap (knd:=bh X.prog X.w) (show X.A.in1.units + 8 < cLine by show X.A.units + 1 + 8 < cLine; omega) (hk.is I.ba) hd (oK I.ba rd r) ?_
 have e:=kq (r.val k)
 rw [W6] at e
 rw [<- e]
 exact ⟨.bl (dX kvs k).isSome,H,I.tok _,rfl,q⟩
theorem A9 (hu:X.A.units + 64 < cLine):iL X (compareOp .NotIn) (KW X true):=by
 intro pins s σ H y x u v Q I ry rx h
 obtain ⟨a,b,k,kvs,rfl,rfl,hk,⟨_,hd,xs,rd,r⟩,q⟩:=h
 cases ry; cases rx
 refine wpAny_notIn_heap (knd:=bh X.prog X.w) (show X.A.in1.units + 8 < cLine by show X.A.units + 1 + 8 < cLine; omega) (hk.is I.ba) hd (oK I.ba rd r) ?_
 have e:=kq (r.val k)
 rw [W6] at e
 rw [<- e]
 exact ⟨.bl (!(dX kvs k).isSome),H,I.tok _,rfl,q⟩
def La (X:Cx):R2:=fun x y H Q=>∃ a b k kvs v,x = .ref a /\ y = .ref b /\ l9 H k b /\ DS X.prog X.w H a kvs /\ dX kvs k = some v /\ Q v H
theorem Df (hu:X.A.units + 64 < cLine):Dn X (La X):=by
 intro value slice pins s σ H x y u iv Q I rx ry h hs
 obtain ⟨a,b,k,kvs,v,rfl,rfl,hk,⟨_,hd,xs,rd,r⟩,hv,q⟩:=h
 cases ry; cases rx
 have dd:=oK I.ba rd r
 obtain ⟨w',hw,KU⟩:=n9.some_of (v:=v) (o:=(atKey xs k).map (·.2)) (by rw [<- hv]; exact r.val k)
 obtain ⟨p,hp,uF⟩:=WC.mp hw
 refine subscriptTail_builtinR (x:=w') dd.typeIs PySem.F.slot_dict_getitem.lookup (wpAny_getItem_heap (knd:=bh X.prog X.w) (show X.A.in1.units + 8 < cLine by show X.A.units + 1 + 8 < cLine; omega) (hk.is I.ba) dd hp ?_) hs
 rw [uF]
 exact ⟨rfl,v,H,I.tok _,KU,q⟩
def KZ (X:Cx):V->V->V->Hp->(Hp->Prop)->Prop:=fun o i v H Q=>∃ a b k kvs,o = .ref a /\ i = .ref b /\ l9 H k b /\ DW X.prog X.w H a kvs /\ kvs.length < sizeLine /\ ∀ o',DW X.prog X.w (upd H a o') a (sh kvs k v)->Q (upd H a o')
theorem As (hu:X.A.units + 64 < cLine):GD X (KZ X):=by
 intro pins s σ H o i v ov iv u Q I ro ri rv h
 obtain ⟨a,b,k,kvs,rfl,rfl,hk,⟨hz,hd,xs,e,r⟩,hl,q⟩:=h
 cases ro; cases ri
 have ph:xs.length <= sizeLine:=by rw [<- W3 r]; exact hz
 refine wpAny_setItem_heap (knd:=bh X.prog X.w) (hsz:=ph) (show X.A.in1.units + 8 < cLine by show X.A.units + 1 + 8 < cLine; omega) (hk.is I.ba) (oK I.ba (.inl e) r) fun h' JZ hs=>?_
 have tp:∀ c ys,H c = some (.tup ys)->upd H a (kT X.prog X.w a (storedH xs k b u)) c = some (.tup ys):=fun c ys ec=>by
  rw [aq (dY ec e (fun z=>nomatch z))]; exact ec
 have he:∃ q,h'.get? a = some q:=let ⟨q,_,_,hq,_⟩:=JZ; ⟨q,hq⟩
 refine ⟨_,I.write (x:=a) (e:=a) (o:=kT X.prog X.w a (storedH xs k b u)) (by rw [e]; exact XS) (.inl rfl) (fun b q hb z=>(hs.2 b hb).trans z) he (mz JZ),q _ ⟨?_,hd,_,ae,(r.put k hk rv).mono tp⟩⟩
 have:=CD kvs k v
 omega
def G3 (X:Cx):TE:=fun _ H Q=>∀ p o,H p = none->DW X.prog X.w (upd H p o) p []->Q (.ref p) (upd H p o)
theorem Cr {pos:Pos}:PE X (.Dict [] [] pos) (G3 X):=fun pins s σ H Q I h =>
 wpAny_Dict_empty ⟨.ref s.heap.objs.size,_,I.laid (a:=s.heap.objs.size) (o:=kT X.prog X.w s.heap.objs.size []) (t':=s.toks) (fun _ _ q=>VN _ q) (VP _) (mz (Heap.DictOfH.new s.heap)),rfl,
  h _ _ (I.ba.fresh (VP _)) ⟨Wl _,WY.mpr (X2 (Wj I.HC)),[],ae,.nil⟩⟩
end
def Ax (g:List (bV × Int)) (k:bV):Option Int:=(g.find? fun x=>decide (x.1 = k)).map (·.2)
def FC (f g:List (bV × Int)):Bool:=f.length == g.length && f.all fun p=>decide (Ax g p.1 = some p.2)
abbrev iv (f:List (bV × Int)):List (bV × V):=f.map fun p=>(p.1,V.int p.2)
theorem uM (f:List (bV × Int)) (k:bV):dX (iv f) k = (Ax f k).map V.int:=by
 induction f with
 | nil=>rfl
 | cons p f ih =>
  by_cases e:p.1 = k
  ·have h1:dX (iv (p :: f)) k = some (V.int p.2):=by simp [dX,Xv,e]
   have h2:Ax (p :: f) k = some p.2:=by simp [Ax,Xv,e]
   rw [h1,h2]; rfl
  ·have h1:dX (iv (p :: f)) k = dX (iv f) k:=by simp [dX,Xv,e]
   have h2:Ax (p :: f) k = Ax f k:=by simp [Ax,Xv,e]
   rw [h1,h2]; exact ih
section
variable {prog:Program} {w:World} {A:Around} {E:Value->Shared->Prop} {s:Shared}
theorem KS.at {H:Hp}:∀ {f:List (bV × Int)} {xs:List (bV × Addr × Value)} {i:Nat} {p:bV × Int},KS H (iv f) xs->f[i]? = some p->∃ b t,xs[i]? = some (p.1,b,.int p.2 t) /\ l9 H p.1 b
 | [],_,_,_,.nil,e=>by simp at e
 | q :: f,_,0,p,.cons (b:=y) h _,e=>by
  simp at e; subst e
  obtain ⟨h1,h2,t,h3⟩:=h
  obtain ⟨y1,y2,y3⟩:=y
  cases h1
  have h3:y3 = Value.int q.2 t:=h3
  subst h3
  exact ⟨y2,t,rfl,h2⟩
 | q :: f,_,i + 1,p,.cons _ r,e=>by
  obtain ⟨b,t,h1,h2⟩:=KS.at (i:=i) (p:=p) r (by simpa using e)
  exact ⟨b,t,by simpa using h1,h2⟩
theorem KS.lk {H:Hp} {f:List (bV × Int)} {xs:List (bV × Addr × Value)} (r:KS H (iv f) xs) (hn:(xs.map (·.1)).Nodup) {j:Nat} {k:bV} {p:Addr × Value} (h:xs[j]? = some (k,p)):∃ i t,p.2 = .int i t /\ Ax f k = some i:=by
 have e1:=atKey_of_get hn h
 have e2:=r.val k
 rw [e1,uM] at e2
 cases h3:Ax f k with
 | none=>rw [h3] at e2; exact e2.elim
 | some i =>
  rw [h3] at e2
  obtain ⟨t,e2⟩:=e2
  exact ⟨i,t,e2,rfl⟩
theorem KS.SW {H:Hp} {f:List (bV × Int)} {xs:List (bV × Addr × Value)} (r:KS H (iv f) xs) {k:bV} (h:∀ (j:Nat) (p:Addr × Value),xs[j]? ≠ some (k,p)):Ax f k = none:=by
 have e1:=atKey_none_of_get h
 have e2:=r.val k
 rw [e1,uM] at e2
 cases h3:Ax f k with
 | none=>rfl
 | some i=>rw [h3] at e2; exact e2.elim
theorem xM {H:Hp} {nm:String} {a b:Addr} {f g:List (bV × Int)} {xs ys:List (bV × Addr × Value)} {Q:Bool->Shared->Prop} (hu:A.units + 8 < cLine) (ok:jN prog w H s.heap) (ha:(a == sysModules) = false) (hb:(b == sysModules) = false)
  (da:s.heap.DictOfH (bh prog w) a xs) (db:s.heap.DictOfH (bh prog w) b ys) (ra:KS H (iv f) xs) (rb:KS H (iv g) ys) (h:Q (FC f g) s) :
  wpAny (model prog w) A (Builtin.Dict.samePairs nm a b) Q E s:=by
 obtain ⟨oa,es,ep,Bd,_,Bk,P1,Ve,Vo⟩:=da
 obtain ⟨ob,Bx,DI,rK,_,rn,Nu,Sy,Qh⟩:=db
 have MD:f.length = es.size:=by rw [Yl P1,<- W3 ra,VO]
 have Bn:g.length = Bx.size:=by rw [Yl Nu,<- W3 rb,VO]
 unfold FC at h
 rw [MD,Bn] at h
 unfold Builtin.Dict.samePairs Builtin.Dict.showsAll
 rw [if_neg (show ¬ (a == sysModules) = true by rw [ha]; exact VU),if_neg (show ¬ (b == sysModules) = true by rw [hb]; exact VU)]
 refine VL (VM (VL (VM ?_)))
 refine VL (WJ Bd Bk ?_)
 dsimp only
 refine VL (WJ rK rn ?_)
 by_cases hsz:es.size = Bx.size
 case neg =>
  rw [if_pos (by simpa using hsz)]
  have RM:(es.size == Bx.size) = false:=by simpa using hsz
  rw [RM,Ww] at h
  exact VL (Xl (VM h))
 case pos =>
  rw [show (es.size == Bx.size) = true from XH.mpr hsz,Yj] at h
  rw [if_neg (by rw [hsz]; simp)]
  refine VL (Xu Bd Bk ?_)
  refine VL ?_
  rw [Std.Legacy.Range.forIn_eq_forIn_range']
  simp only [Std.Legacy.Range.size,Nat.sub_zero,Nat.add_sub_cancel,Nat.div_one]
  refine wpAny_forIn_list _
   (fun rest q s'=>s' = s /\ q = (none,()) /\ ∃ i,rest = List.range' i (es.size - i) /\ i <= es.size /\ ((f.drop i).all fun p=>decide (Ax g p.1 = some p.2)) = (f.all fun p=>decide (Ax g p.1 = some p.2)))
   _ ?_ ?_ _ _ ⟨rfl,rfl,0,by simp,Wl _,rfl⟩
  ·rintro x rest q s' ⟨rfl,rfl,i,hr,hi,kY⟩
   have iz:i < es.size:=by
    rcases Nat.lt_or_ge i es.size with h | h
    ·exact h
    ·rw [Nat.sub_eq_zero_of_le h] at hr; simp at hr
   obtain ⟨rfl,Kw⟩:x = i /\ rest = List.range' (i + 1) (es.size - (i + 1)):=by
    have e:es.size - i = (es.size - (i + 1)) + 1:=by omega
    rw [e,List.range'_succ] at hr
    injection hr with h1 h2
    exact ⟨h1,h2⟩
   refine VL (WJ Bd Bk ?_)
   have Ki:x < f.length:=by rw [MD]; exact iz
   obtain ⟨c,t,hx,kc⟩:=ra.at (VS Ki)
   have hex:es[x]? = some (entryOfKey (bh prog w) (f[x].1,c,.int f[x].2 t)):=by rw [entry_at P1,hx]; rfl
   have Ju:f.drop x = f[x] :: f.drop (x + 1):=Yd Ki
   rw [hex]
   rw [Ju,List.all_cons] at kY
   show wpAny _ _ (holding [Value.ref c,Value.int f[x].2 t] _ >>= _) _ _ _
   refine VL (W2 (VL (wpAny_dictFind_heap (knd:=bh prog w) hu (kc.is ok) rK rn Nu Sy Qh (fun Ce=>?_) fun j p hj=>?_)))
   ·rw [rb.SW Ce] at kY
    rw [<- kY] at h
    refine VM ?_
    show wpAny _ _ (if (!false) = true then _ else _) _ _ _
    rw [if_pos (by decide)]
    exact VM (VM h)
   ·obtain ⟨n,u,hp,hl⟩:=rb.lk Qh hj
    have UM:Bx[j]? = some (entryOfKey (bh prog w) (f[x].1,p)):=by rw [entry_at Nu,hj]; rfl
    refine VL (WJ rK rn ?_)
    rw [UM]
    obtain ⟨p1,p2⟩:=p
    have hp:p2 = Value.int n u:=hp
    subst hp
    refine W2 (Ya ?_)
    rw [hl] at kY
    by_cases en:f[x].2 = n
    ·rw [show (f[x].2 == n) = true from XH.mpr en]
     rw [V0 (by rw [en]),Yj] at kY
     show wpAny _ _ (if (!true) = true then _ else _) _ _ _
     rw [if_neg (by decide)]
     refine VL (Xu Bd Bk ?_)
     rw [if_neg (by simp)]
     exact VM ⟨rfl,rfl,x + 1,Kw,iz,kY⟩
    ·rw [show (f[x].2 == n) = false from WY.mpr en]
     rw [We (fun z=>en (WM z).symm),Ww] at kY
     rw [<- kY] at h
     show wpAny _ _ (if (!false) = true then _ else _) _ _ _
     rw [if_pos (by decide)]
     exact VM (VM h)
  ·rintro q s' ⟨rfl,rfl,i,hr,hi,kY⟩
   have oU:i = es.size:=by
    rcases Nat.lt_or_ge i es.size with h | h
    ·have e:es.size - i = (es.size - (i + 1)) + 1:=by omega
     rw [e,List.range'_succ] at hr; exact nomatch hr
    ·exact Nat.le_antisymm hi h
   refine VM ?_
   rw [oU,<- MD,List.drop_length] at kY
   rw [<- kY] at h
   exact h
end
section
variable {X:Cx}
def MZ (X:Cx):R2:=fun x y H Q=>∃ a b f g,x = .ref a /\ y = .ref b /\ DS X.prog X.w H a (iv f) /\ DS X.prog X.w H b (iv g) /\ Q (.bl (!FC f g)) H
theorem HY (hu:X.A.units + 64 < cLine):iL X (compareOp .NotEq) (MZ X):=by
 intro pins s σ H x y u v Q I rx ry h
 obtain ⟨a,b,f,g,rfl,rfl,⟨_,ha,xs,d1,r1⟩,⟨_,hb,ys,d2,r2⟩,q⟩:=h
 cases rx; cases ry
 have da:=oK I.ba d1 r1
 have db:=oK I.ba d2 r2
 refine wpAny_richCompare_same_room (op:=.NotEq) da.typeIs db.typeIs PySem.F.slot_dict_ne (Wt PySem.F.slot_dict_ne da.typeIs PySem.F.entry_dict_ne ?_ (PySem.F.args_dict_ne_2 _ _)) (by omega)
 show wpAny _ _ (Builtin.Dict.dictSlotArgs "__ne__" ⟨[.ref a,.ref b],[]⟩ >>= _) _ _ s
 refine VL ?_
 unfold Builtin.Dict.dictSlotArgs
 refine VL (wpAny_notOrdered_dict da.typeIs ?_)
 show wpAny _ _ (pure (Value.ref a,Value.ref b)) _ _ s
 refine VM ?_
 refine VL (Xm (T:="dict") db.typeIs PySem.F.sub_dict_dict ?_)
 simp only [WQ,Wc,WH]
 refine VL (VM (VL (VM ?_)))
 refine VL (xM (by show X.A.units + 1 + 8 < cLine; omega) I.ba ha hb da db r1 r2 ?_)
 refine VM ⟨_,rfl,?_,?_⟩
 ·exact fun x=>nomatch x
 ·refine ⟨.bl (!FC f g),H,I,?_,q⟩
  show Value.bool (FC f g == false) = Value.bool (!FC f g)
  cases FC f g <;> rfl
end
theorem qX {α:Type} (h:α->Int):∀ {l:List α},(l.map h).Nodup->∀ x ∈ l,(l.filter fun e=>h e == h x).length <= 1
 | [],_,_,hx=>by cases hx
 | y :: l,nd,x,hx=>by
  rw [V8,WW] at nd
  rw [Wr]
  by_cases e:h y = h x
  ·rw [if_pos (XH.mpr e)]
   have:l.filter (fun e=>h e == h x) = []:=by
    rw [List.filter_eq_nil_iff]
    intro z hz q
    exact nd.1 (by rw [e,<- eq_of_beq q]; exact WI hz)
   rw [this]; exact VP _
  ·rw [if_neg (by simpa using e)]
   rcases VT.mp hx with rfl | hx
   ·exact absurd rfl e
   ·exact qX h nd.2 x hx
section
variable {prog:Program} {w:World} {A:Around} {E:Value->Shared->Prop} {s:Shared}
theorem AF {nm:String} {d o:Addr} {xs:List (bV × Addr × Value)} {Q:Unit->Shared->Prop} (Ny:d ≠ o) (M9:(o == sysModules) = false) (hd:s.heap.DictOfH (bh prog w) d []) (ho:s.heap.DictOfH (bh prog w) o xs)
  (hh:(xs.map fun x=>jo prog w x.1).Nodup) (hsz:xs.length <= sizeLine) (hQ:∀ h',h'.DictOfH (bh prog w) d xs->Heap.SameBut d s.heap h'->Q () { s with heap:=h' }) :
  wpAny (model prog w) A (Builtin.Dict.mergeDict nm d o) Q E s:=by
 obtain ⟨od,UX,UK,xf,x8,vV,Rf,Lf,Vb⟩:=id hd
 obtain ⟨oo,Az,Vk,LJ,U7,DR,AE,O1,OF⟩:=id ho
 have h0:UX = #[]:=by
  have:=Yl Rf
  exact Array.size_eq_zero_iff.mp this
 have hlen:Az.size = xs.length:=Yl AE
 unfold Builtin.Dict.mergeDict
 rw [if_neg (by simpa using Ny)]
 unfold Builtin.Dict.showsAll
 rw [if_neg (by rw [M9]; exact VU)]
 refine VL (VM ?_)
 refine VL (WJ LJ DR ?_)
 dsimp only
 cases xs with
 | nil =>
  have e0:Az = #[]:=Array.size_eq_zero_iff.mp hlen
  subst e0
  rw [if_neg (by simp)]
  refine VL (Xu LJ DR ?_)
  refine VL (WJ LJ DR ?_)
  refine VL ?_
  rw [Std.Legacy.Range.forIn_eq_forIn_range']
  show wpAny _ _ (forIn (List.range' 0 0 1) _ _) _ _ _
  rw [List.range'_zero,X5]
  exact VM (VM (hQ _ hd (Heap.SameBut.refl _ _)))
 | cons x xs =>
  have Sz:(!(decide (Az.size <= 8) && Az.all fun e=>(keyPart e.key).isSome)) = true:=by
   have:(Az.all fun e=>(keyPart e.key).isSome) = false:=by
    rw [<- Array.all_toList,AE,V8,List.all_cons]
    rfl
   rw [this,Xh]; rfl
  rw [if_pos Sz]
  refine VL (WJ xf vV ?_)
  rw [h0,if_pos (by rfl)]
  refine VL ?_
  unfold Builtin.Dict.entriesForEmpty
  refine VL (WJ LJ DR ?_)
  refine VL ?_
  rw [<- Array.forIn_toList]
  refine wpAny_forIn_list _ (fun rest _ s'=>s' = s /\ ∀ e ∈ rest,e ∈ Az.toList) _ ?_ ?_ _ _ ⟨rfl,fun e he=>he⟩
  ·rintro e rest r s' ⟨rfl,hr⟩
   have he:=hr e VR
   rw [AE] at he
   obtain ⟨y,hy,rfl⟩:=Wq.mp he
   have hT:=(show ei s'.heap y.1 y.2.1 from O1 y hy).typeIs
   refine VL ?_
   show wpAny _ _ (Builtin.Dict.quietEq (.ref y.2.1)) _ _ _
   unfold Builtin.Dict.quietEq
   refine VL (Yk hT PySem.F.slot_tuple_eq.lookup (VM ?_))
   rw [show ((some (Value.builtin "tuple.__eq__"):Option Value) == some (Value.builtin "object.__eq__")) = false from by decide]
   simp only [Bool.not_false,Xe]
   have one:¬ (Az.filter fun e=>e.hash == (entryOfKey (bh prog w) y).hash).size > 1:=by
    have h1:=qX (fun e:DictEntry=>e.hash) (l:=Az.toList) (by rw [AE,Wx]; exact hh) (entryOfKey (bh prog w) y) (by rw [AE]; exact WI hy)
    have h2:(Az.filter fun e=>e.hash == (entryOfKey (bh prog w) y).hash).size = (Az.toList.filter fun e=>e.hash == (entryOfKey (bh prog w) y).hash).length:=by
     rw [<- Array.toList_filter,VW]
    omega
   rw [if_neg one]
   exact VM ⟨rfl,fun e he=>hr e (VQ _ he)⟩
  ·rintro r s' ⟨rfl,_⟩
   refine VM ?_
   have ne:(!Az.isEmpty) = true:=by
    cases hq:Az.isEmpty with
    | false=>rfl
    | true =>
     have:=Array.isEmpty_iff.mp hq
     rw [this] at hlen
     simp at hlen
   rw [if_pos ne]
   subst h0
   refine VL (wpAny_updateDictKeysTo xf vV (VM (hQ _ ⟨_,Az,UK + 1,Heap.get?_update_self _ xf (Obj.isFreed_of_dict (Obj.data_mapDictKeys vV _)),x8.mapDictKeys _,Obj.data_mapDictKeys vV _,AE,fun z hz=>?_,OF⟩ (WO ..))) (by omega))
   exact (show ei s'.heap z.1 z.2.1 from O1 z hz).keeps xf vV (WO ..)
theorem DictOfH.G6 {h:Heap} {a:Addr} {xs:List (bV × Addr × Value)} (o':Obj) (d:h.DictOfH (bh prog w) a xs):(h.push o').DictOfH (bh prog w) a xs:=by
 obtain ⟨o,es,ep,h1,h2,h3,h4,h5,h6⟩:=d
 refine ⟨o,es,ep,VN _ h1,h2,h3,h4,fun x hx=>?_,h6⟩
 obtain ⟨b,t,⟨o1,g1,c1⟩,aH,rv,o2,g2,c2⟩:=(show ei h x.1 x.2.1 from h5 x hx)
 exact ⟨b,t,⟨o1,VN _ g1,c1⟩,aH,rv,o2,VN _ g2,c2⟩
theorem rS {o:Addr} {xs:List (bV × Addr × Value)} {Q:Value->Shared->Prop} (M9:(o == sysModules) = false) (ho:s.heap.DictOfH (bh prog w) o xs) (hh:(xs.map fun x=>jo prog w x.1).Nodup) (hsz:xs.length <= sizeLine)
  (h:∀ h',h'.DictOfH (bh prog w) s.heap.objs.size xs->Heap.SameBut s.heap.objs.size (s.heap.push { cls:=.type "dict",data:=.dict #[] }) h'->Q (.ref s.heap.objs.size) { s with heap:=h' }) :
  wpAny (model prog w) A (call (.type "dict") [.ref o]) Q E s:=by
 refine callType_codes (Q₁:=fun obj s₁=>obj = .ref s.heap.objs.size /\ s₁ = { s with heap:=s.heap.push { cls:=.type "dict",data:=.dict #[] } }) F.kt_called_dict (F.kt_typeCall_dict_1 _) F.entry_dict_init (kt_code_dict_new _ ⟨rfl,rfl⟩) ?_
 rintro obj s₁ ⟨rfl,rfl⟩
 have GG:(s.heap.push { cls:=.type "dict",data:=.dict #[] }).DictOfH (bh prog w) s.heap.objs.size []:=Heap.DictOfH.new s.heap
 have lP:=DictOfH.G6 { cls:=.type "dict",data:=.dict #[] } ho
 have Ny:s.heap.objs.size ≠ o:=by
  obtain ⟨_,_,_,hg,_⟩:=ho
  exact fun e=>absurd (V4 hg) (by rw [e]; exact WX _)
 refine ⟨GG.typeIs,F.args_dict_init_2 _ _,?_⟩
 unfold Builtin.«dict.__init__»
 refine VL ?_
 unfold Builtin.Dict.selfAndRest
 refine VL (wpAny_notOrdered_dict GG.typeIs ?_)
 show wpAny _ _ (pure (s.heap.objs.size,[Value.ref o])) _ _ _
 refine VM ?_
 show wpAny _ _ (Builtin.Dict.updateFrom "dict.__init__" s.heap.objs.size (.ref o) [] .none) _ _ _
 unfold Builtin.Dict.updateFrom
 refine VL (wpAny_typeOf (s:={ s with heap:=s.heap.push { cls:=.type "dict",data:=.dict #[] } }) lP.typeIs ?_)
 rw [if_neg (by decide)]
 refine VL ?_
 unfold Builtin.Dict.merge
 refine VL ?_
 unfold Builtin.Dict.readDirectly
 refine VL (Xm (s:={ s with heap:=s.heap.push { cls:=.type "dict",data:=.dict #[] } }) lP.typeIs isSubtype_dict_dict ?_)
 simp only [WQ,Wc,WH]
 refine VL (Yk (s:={ s with heap:=s.heap.push { cls:=.type "dict",data:=.dict #[] } }) lP.typeIs F.slot_dict_iter.lookup (VM ?_))
 simp only [beq_self_eq_true,Xe]
 refine VL (VM ?_)
 refine AF Ny M9 GG lP hh hsz fun h' xa P9=>?_
 show wpAny _ _ (Builtin.Dict.addKeywords s.heap.objs.size [] >>= _) _ _ _
 exact VL (VM (VM ⟨rfl,h h' xa P9⟩))
end
def qN (P:Program) (w:World) (kvs:List (bV × V)):Prop:=(kvs.map fun p=>jo P w p.1).Nodup
theorem KS.keys {H:Hp} {kvs:List (bV × V)} {xs:List (bV × Addr × Value)} (r:KS H kvs xs) {β:Type} (f:bV->β):(xs.map fun x=>f x.1) = kvs.map fun p=>f p.1:=by
 induction r with
 | nil=>rfl
 | cons h _ ih=>rw [V8,V8,ih,h.1]
section
variable {X:Cx}
def Il (X:Cx):List V->Hp->VK->Prop:=fun xs H Q=>∃ a kvs,xs = [.ref a] /\ DS X.prog X.w H a kvs /\ qN X.prog X.w kvs /\ ∀ p o,H p = none->DW X.prog X.w (upd H p o) p kvs->Q (.ref p) (upd H p o)
theorem xx:dI X (.type "dict") (Il X):=by
 intro pins s σ H ys us Q I rs h
 obtain ⟨a,kvs,rfl,⟨hz,hd,xs,rd,r⟩,hh,q⟩:=h
 obtain ⟨u,rfl,ru⟩:=vals1 rs
 cases ru
 have ph:xs.length <= sizeLine:=by rw [<- W3 r]; exact hz
 refine rS hd (oK I.ba rd r) (by rw [r.keys]; exact hh) ph fun h' dd hs=>?_
 have kp:∀ b u,s.heap.get? b = some u->h'.get? b = some u:=fun b u e=>(hs.2 b (Wj (V4 e))).trans (VN _ e)
 have hn:H s.heap.objs.size = none:=I.ba.fresh (VP _)
 have tp:∀ c ys,H c = some (.tup ys)->upd H s.heap.objs.size (kT X.prog X.w s.heap.objs.size xs) c = some (.tup ys):=fun c ys ec=>by
  rw [aq (aG ec hn)]; exact ec
 exact ⟨.ref s.heap.objs.size,_,I.laid (t':=s.toks) (o:=kT X.prog X.w s.heap.objs.size xs) kp (VP _) (mz dd),rfl,q _ _ hn ⟨hz,WY.mpr (X2 (Wj I.HC)),xs,ae,r.mono tp⟩⟩
end
def hI (g:List Int):Int:=reduceHash (Builtin.Tuple.tupleHashOf (g.map hashInt))
def hS (k:bV):Int:=reduceHash (Builtin.Tuple.tupleHashOf [hI k.1,hashInt k.2])
def subs:Nat->Nat->List (List Int)
 | 0,_=>[[]]
 | n + 1,m=>let r:=subs n (m + 1); r ++ r.map fun g=>(m:Int) :: g
def gA:List bV:=(subs 6 0).flatMap fun g=>[(g,0),(g,1)]
def yi:List Int->Bool
 | []=>true
 | x :: l=>!(l.contains x) && yi l
theorem tw:∀ {l:List Int},yi l = true->l.Nodup
 | [],_=>.nil
 | x :: l,h=>by
  unfold yi at h
  rw [Wu] at h
  refine WW.mpr ⟨fun hm=>?_,tw h.2⟩
  have:=h.1
  rw [List.contains_iff_mem.mpr hm] at this
  cases this
theorem DA:(gA.map hS).Nodup:=tw (by decide +kernel)
theorem sG {α β:Type} {f:α->β}:∀ {l:List α},(l.map f).Nodup->∀ {x y:α},x ∈ l->y ∈ l->f x = f y->x = y
 | a :: l,nd,x,y,hx,hy,e=>by
  rw [V8,WW] at nd
  rcases VT.mp hx with h1 | oR <;> rcases VT.mp hy with h2 | hV
  ·rw [h1,h2]
  ·rw [h1] at e
   exact absurd (e ▸ WI hV) nd.1
  ·rw [h2] at e
   exact absurd (e ▸ WI oR) nd.1
  ·exact sG nd.2 oR hV e
theorem zZ {P:Program} {w:World} {kvs:List (bV × V)} (nd:(kvs.map (·.1)).Nodup) (h:∀ p ∈ kvs,p.1 ∈ gA):qN P w kvs:=by
 unfold qN
 have e:(kvs.map fun p=>jo P w p.1) = (kvs.map (·.1)).map hS:=by rw [Wx]; rfl
 rw [e]
 refine List.Pairwise.map _ (R:=fun x y=>x ∈ gA /\ y ∈ gA /\ x ≠ y) (fun x y q z=>q.2.2 (sG DA q.1 q.2.1 z)) ?_
 refine Xp (fun {x y} hx hy rM=>?_) nd
 obtain ⟨p,hp,rfl⟩:=Wq.mp hx
 obtain ⟨q,hq,rfl⟩:=Wq.mp hy
 exact ⟨h p hp,h q hq,rM⟩
section
variable {X:Cx} {k v:Expr} {tk tv:TE} {pos:Pos}
def HU (X:Cx) (tk tv:TE):TE:=fun σ H Q=>∀ p o,H p = none->DW X.prog X.w (upd H p o) p []->tk σ (upd H p o) fun x H1=>tv σ H1 fun y H2 =>
 ∃ b k,x = .ref b /\ l9 H2 k b /\ DW X.prog X.w H2 p [] /\ ∀ o',DW X.prog X.w (upd H2 p o') p [(k,y)]->Q (.ref p) (upd H2 p o')
theorem BW (hu:X.A.units + 64 < cLine) (hk:PE X k tk) (hv:PE X v tv):PE X (.Dict [some k] [v] pos) (HU X tk tv):=by
 intro pins s σ H Q I q
 have hn:=I.ba.fresh (VP s.heap.objs.size)
 have I1:=I.laid (a:=s.heap.objs.size) (o:=kT X.prog X.w s.heap.objs.size []) (h':=s.heap.push { cls:=.type "dict",data:=.dict #[] }) (t':=s.toks) (fun _ _ q=>VN _ q) (VP _) (mz (Heap.DictOfH.new s.heap))
 have hb:(s.heap.objs.size == sysModules) = false:=WY.mpr (X2 (Wj I.HC))
 refine wpAny_Dict_any rfl rfl (by simp) (by simp) ?_
 refine pairTrees_cons_walk (cn (hk pins _ σ _ _ I1 (q _ _ hn ⟨Wl _,hb,[],ae,.nil⟩)) fun u s1 ⟨x,H1,I2,rx,q1⟩=>cn (hv pins s1 σ H1 _ I2 q1) fun w2 s2 ⟨y,H2,I3,ry,b,kk,ex,ka,⟨_,_,xs,e,r⟩,q2⟩=>pairTrees_nil_walk ?_)
 subst ex
 cases rx
 cases r
 unfold storeAll
 rw [W8]
 refine VL (VL (wpAny_dictSet_heap (knd:=bh X.prog X.w) (hsz:=Wl _) (show X.A.units + 8 < cLine by omega) (ka.is I3.ba) (oK I3.ba (.inl e) .nil) fun h' JZ hs=>VM ?_))
 dsimp only
 rw [X5]
 have tp:∀ c ys,H2 c = some (.tup ys)->upd H2 s.heap.objs.size (kT X.prog X.w s.heap.objs.size (storedH [] kk b w2)) c = some (.tup ys):=fun c ys ec=>by
  rw [aq (dY ec e (fun z=>nomatch z))]; exact ec
 have he:∃ q,h'.get? s.heap.objs.size = some q:=let ⟨q,_,_,hq,_⟩:=JZ; ⟨q,hq⟩
 refine VM ⟨.ref s.heap.objs.size,_,I3.write (x:=s.heap.objs.size) (e:=s.heap.objs.size) (o:=kT X.prog X.w s.heap.objs.size (storedH [] kk b w2)) (by rw [e]; exact XS) (.inl rfl) (fun b q hb z=>(hs.2 b hb).trans z) he (mz JZ),rfl,
  q2 _ ⟨by rw [Xy]; simp,hb,_,ae,?_⟩⟩
 exact KS.mono tp ((show KS H2 [] [] from .nil).put kk ka ry)
variable {o e:Expr} {to:TE} {t:TA} {apos i7:Pos}
theorem sy {p p2 NU:Pos} {x:Str} {f:Addr} {t:TA} (hu:X.A.units + 64 < cLine) (hg:Gl X "sorted") (hm:X.mg "sorted" = none) (Nn:Gl X x) (Se:X.mg x = some (.ref f)) (ha:PA X [e] t) (rn:(x == ("__debug__":Str)) = false:=by decide) (he:starEach [e] X.env = [(false,eval e X.env)]:=by rfl) :
  PE X (.Call (.Name "sorted" p) [e] [⟨some "key",.Name x p2,NU⟩] pos) (Om (zz X f) t):=by
 intro pins s σ H Q I h
 refine Yq (oi I hg hm boot_sorted ?_)
 refine callWith_kw (cn (ha pos pins s σ H _ I h) fun us s1 ⟨vs,H1,I1,r1,q1⟩=>?_) (by rw [he]; rfl) (by rw [he]; rfl)
 show wpAny _ _ (evalAll [do let v <- eval (.Name x p2) X.env; standAt pos; pure v]) _ _ _
 refine wpAny_evalAll_cons (VL (ma I1 Nn Se (VL (wpAny_standAt (VM ?_))) rn))
 exact wpAny_evalAll_nil (Aw (by show X.A.units + 1 + 1 < cLine; omega) I1 r1 q1)
end
def pc (h:Heap) (d:Addr) (es:Array DictEntry) (ep:Nat):Prop:=∃ o,h.get? d = some o /\ o.ExactDict /\ o.data = .dict es ep
theorem pc.typeIs {s:Shared} {d:Addr} {es:Array DictEntry} {ep:Nat} (x:pc s.heap d es ep):s.TypeIs (.ref d) "dict":=let ⟨o,ho,hc,_⟩:=x; ⟨o,ho,hc.1⟩
theorem pc.keep {h h':Heap} {d:Addr} {es:Array DictEntry} {ep:Nat} (x:pc h d es ep) (k:∀ b o,h.get? b = some o->h'.get? b = some o):pc h' d es ep:=let ⟨o,ho,r⟩:=x; ⟨o,k _ _ ho,r⟩
section
variable {prog:Program} {w:World} {A:Around} {E:Value->Shared->Prop} {s:Shared} {es:Array DictEntry} {e:DictEntry} {d it v:Addr} {i ep:Nat} {ok ov:Value}
theorem FD:Builtin.Dict_items.ownsTuple "dict_keyiterator" = false:=by decide
theorem BP:Builtin.Dict_items.ownsTuple "dict_itemiterator" = true:=by decide
theorem Kb {Q:Option Value->Shared->Prop} (st:s.heap.IsKeyIter it d i es.size ep) (x:pc s.heap d es ep) (hx:es[i]? = some e)
  (q:∀ h',h'.IsKeyIter it d (i + 1) es.size ep->Heap.SameBut it s.heap h'->Q (some e.key) { s with heap:=h' }):wpAny (model prog w) A (pyNext (.ref it)) Q E s:=by
 obtain ⟨o,ho,hc,hf⟩:=id st
 obtain ⟨od,xf,_,vV⟩:=x
 obtain ⟨iz,rfl⟩:=Array.getElem?_eq_some_iff.mp hx
 have aI:(s.heap.update it (Obj.mapFields (·.setIfInBounds 1 (rawInt ((i:Int) + 1))))).IsKeyIter it d (i + 1) es.size ep :=
  ⟨_,Heap.get?_update_self _ ho (Obj.isFreed_of_fields (Obj.data_mapFields hf _)),(Obj.cls_mapFields ..).trans hc,by rw [Obj.data_mapFields hf]; simp [rawInt]⟩
 unfold pyNext
 refine VL (XI (WL (name:=Str.ofString "__next__") st.typeIs Xx (Wt Xx st.typeIs F.entry_dict_keyiterator_next ?_ (F.args_dict_keyiterator_next_1 _))))
 refine VL (VM (VL (VL ?_)))
 refine VL (XR st.typeIs (VM ?_)); refine VL (wpAny_fieldsOf ho hf ?_)
 simp only [FD,Xe,Wc,WH]; show wpAny _ _ (if (Value.ref d == Value.none) = true then _ else _) _ _ _
 rw [if_neg (show ¬ (Value.ref d == Value.none) = true from VU)]
 refine VL (VM (VL (WJ xf vV ?_)))
 rw [if_neg (by simp)]
 refine VL (VM (VL (Xu xf vV ?_)))
 rw [if_neg (by simp)]
 refine VM ?_
 simp only [show ¬ ((i:Int) < 0) by omega,WH,WS,Array.getElem?_eq_getElem iz]
 refine VL ?_; refine VL (XR st.typeIs (VM ?_))
 refine VL (wpAny_isOneOf_keyiter st.typeIs ?_)
 show wpAny _ _ (setField (.ref it) 1 (rawInt ((i:Int) + 1)) >>= _) _ _ s
 refine VL (wpAny_setField ho hf (by simp) (VL (W2 (VL (wpAny_isOneOf_keyiter (s:={ s with heap:=s.heap.update it (Obj.mapFields (·.setIfInBounds 1 (rawInt ((i:Int) + 1)))) }) aI.typeIs ?_)))))
 show wpAny _ _ (pure es[i].key) _ _ _
 exact VM (VM ⟨_,rfl,VM (q _ aI (WO ..))⟩)
theorem Fv {Q:Option Value->Shared->Prop} (hh:A.handled = none) (st:s.heap.IsKeyIter it d i es.size ep) (x:pc s.heap d es ep) (hx:es.size <= i)
  (q:∀ h',Heap.ExtBut it s.heap h'->Q none { s with heap:=h' }):wpAny (model prog w) A (pyNext (.ref it)) Q E s:=by
 obtain ⟨o,ho,hc,hf⟩:=id st
 obtain ⟨od,xf,_,vV⟩:=x
 unfold pyNext
 refine VL (XI (WL (name:=Str.ofString "__next__") st.typeIs Xx (Wt Xx st.typeIs F.entry_dict_keyiterator_next ?_ (F.args_dict_keyiterator_next_1 _))))
 refine VL (VM (VL (VL ?_)))
 refine VL (XR st.typeIs (VM ?_)); refine VL (wpAny_fieldsOf ho hf ?_)
 simp only [FD,Xe,Wc,WH]; show wpAny _ _ (if (Value.ref d == Value.none) = true then _ else _) _ _ _
 rw [if_neg (show ¬ (Value.ref d == Value.none) = true from VU)]
 refine VL (VM (VL (WJ xf vV ?_)))
 rw [if_neg (by simp)]
 refine VL (VM (VL (Xu xf vV ?_)))
 rw [if_neg (by simp)]
 refine VM ?_
 simp only [show ¬ ((i:Int) < 0) by omega,WH,WS,Array.getElem?_eq_none hx]
 refine VL ?_; refine VL (XR st.typeIs (VM ?_))
 show wpAny _ _ (setField (.ref it) 0 .none >>= _) _ _ s
 refine VL (wpAny_setField ho hf (by simp) ?_)
 show wpAny _ _ (newExc (.type "StopIteration") [] >>= _) _ _ _; refine VL ?_
 simp only [newExc,newTuple]; refine VL (Wz ?_ (by size_fits))
 refine VL (m:=firstArgMember _ _) (wpAny_of_eq (a:=Value.none) (by first | rfl | (simp only [firstArgMember]; rfl)) (Wz ?_ (by size_fits)))
 simp only [raiseNew]; refine VL (wpAny_handled ?_); rw [(show A.in1.handled = none from hh)]
 refine VL (VM (wpAny_throw ?_))
 refine VL (Xm (T:="StopIteration") (b:=true) ⟨_,VY _ rfl,rfl⟩ isSubtype_stop ?_)
 exact VM (q _ (((WO ..).extBut.push _).push _))
theorem Au (hd:(d == sysModules) = false) {Q:Value->Shared->Prop} (x:pc s.heap d es ep) (q:Q (.ref s.heap.objs.size) { s with heap:=s.heap.push { cls:=.type "dict_items",data:=.fields #[.ref d] } }) :
  wpAny (model prog w) A (call (.builtin "dict.items") [.ref d]) Q E s:=by
 have ty:=x.typeIs
 refine Wt F.slot_dict_items ty F.entry_dict_items ?_ (F.args_dict_items_1 _)
 unfold Builtin.«dict.items» Builtin.Dict.noArgs
 refine VL ?_; refine VL (wpAny_notOrdered_dict ty ?_)
 show wpAny _ _ (pure d) _ _ s
 refine VM ?_
 show wpAny _ _ (Builtin.Dict.showsAll d >>= _) _ _ s
 unfold Builtin.Dict.showsAll
 rw [hd,if_neg VU]
 exact VL (VM (VL (Wz (VM ⟨_,rfl,q⟩))))
theorem rm {Q:Value->Shared->Prop} (hv:s.heap.IsItemsView v d) (x:pc s.heap d es ep)
  (q:Q (.ref s.heap.objs.size) { s with heap:=s.heap.push { cls:=.type "dict_itemiterator",data:=.fields #[.none,.bool false,.ref d,.int 0 0,.int es.size 0,.int ep 0,.none,.none] } }):wpAny (model prog w) A (pyIter (.ref v)) Q E s:=by
 have ty:=hv.typeIs
 obtain ⟨o1,h1,_,h2⟩:=hv
 obtain ⟨o,ho,_,JB⟩:=x
 refine wpAny_pyIter_slot ty F.slot_dict_items_iter (Wt F.slot_dict_items_iter ty F.entry_dict_items_iter ?_ (F.args_dict_items_iter_1 _))
 unfold Builtin.«dict_items.__iter__» Builtin.Dict_items.dictOf Builtin.Dict_items.newIterator
 refine VL (VM ?_); refine VL ?_
 refine VL (WT h1 h2 (x:=.ref d) rfl (VM ?_))
 refine VL ?_; refine VL (WJ ho JB (VL (Xu ho JB ?_)))
 simp only [BP,Xe]
 refine Wz (VM ⟨_,rfl,"dict_itemiterator",_,⟨_,VY _ rfl,rfl⟩,Xs.lookup,?_⟩)
  (by simp only [sizeOk,Builtin.Dict_items.ownedTupleFields,V2,Wf,WE,List.length_nil,Xy]; omega)
 exact q
theorem CL {k v:Value} {n:Nat} {Q:Value->Shared->Prop} (st:IsItemIter s.heap it d i n ep ok ov)
  (q:∀ h',IsItemIterOut h' it d i n ep k v s.heap.objs.size->h'.get? s.heap.objs.size = some { cls:=.type "tuple",data:=.seq #[k,v] }->(∀ b o,b ≠ it->s.heap.get? b = some o->h'.get? b = some o)->Q (.ref s.heap.objs.size) { s with heap:=h' }) :
  wpAny (model prog w) A (Builtin.Dict_items.pairFromOwner (.ref it) 6 k v) Q E s:=by
 obtain ⟨hp,g,dr,tk,os⟩:=s
 have lt:it < hp.objs.size:=V4 st
 unfold Builtin.Dict_items.pairFromOwner
 refine VL (wpAny_newTuple ?_)
 have e2:IsItemIter (hp.push { cls:=.type "tuple",data:=.seq #[k,v] }) it d i n ep ok ov:=VN _ st
 have t2:(hp.push { cls:=.type "tuple",data:=.seq #[k,v] }).get? hp.objs.size = some { cls:=.type "tuple",data:=.seq #[k,v] }:=VY _ rfl
 have k2:∀ b o,b ≠ it->hp.get? b = some o->(hp.push { cls:=.type "tuple",data:=.seq #[k,v] }).get? b = some o:=fun b o _ z=>VN _ z
 generalize hp.push { cls:=.type "tuple",data:=.seq #[k,v] } = h2 at e2 t2 k2
 show wpAny _ _ (Builtin.Dict_items.ownedTupleIsFree (.ref it) >>= _) _ _ ⟨h2,g,dr,tk,os⟩
 refine VL ?_
 unfold Builtin.Dict_items.ownedTupleIsFree
 refine VL (WT e2 rfl (x:=.none) rfl (VM ?_))
 simp only [Xe]
 refine VL (WT e2 rfl (x:=ok) rfl (VL (WT e2 rfl (x:=ov) rfl ?_)))
 refine VL (WV e2 (by simp) fun h3 e3 s3=>?_)
 have s3:Heap.SameBut it h2 h3:=s3
 have e3:IsItemIter h3 it d i n ep k ov:=e3
 refine VL (WV e3 (by simp) fun h4 e4 s4=>?_)
 have s4:Heap.SameBut it h3 h4:=s4
 have e4:IsItemIter h4 it d i n ep k v:=e4
 refine VL (WV e4 (by simp) fun h5 e5 s5=>?_)
 have s5:Heap.SameBut it h4 h5:=s5
 have e5:IsItemIterOut h5 it d i n ep k v hp.objs.size:=e5
 refine VL (WV e5 (by simp) fun h6 e6 s6=>?_)
 have s6:Heap.SameBut it h5 h6:=s6
 have e6:IsItemIterOut h6 it d i n ep k v hp.objs.size:=e6
 have k6:∀ b o,b ≠ it->h2.get? b = some o->h6.get? b = some o:=fun b o hb z=>s6.extBut b o hb (s5.extBut b o hb (s4.extBut b o hb (s3.extBut b o hb z)))
 exact VL (wpAny_letGo (VM (q h6 e6 (k6 _ _ (X8 lt) t2) fun b o hb z=>k6 b o hb (k2 b o hb z))))
theorem ql {Q:Option Value->Shared->Prop} (st:IsItemIter s.heap it d i es.size ep ok ov) (x:pc s.heap d es ep) (hx:es[i]? = some e)
  (q:∀ h',IsItemIterOut h' it d (i + 1) es.size ep e.key e.val s.heap.objs.size->h'.get? s.heap.objs.size = some { cls:=.type "tuple",data:=.seq #[e.key,e.val] } ->
   (∀ b o,b ≠ it->s.heap.get? b = some o->h'.get? b = some o)->Q (some (.ref s.heap.objs.size)) { s with heap:=h' }):wpAny (model prog w) A (pyNext (.ref it)) Q E s:=by
 obtain ⟨hp,g,dr,tk,os⟩:=s
 obtain ⟨od,xf,_,vV⟩:=x
 obtain ⟨iz,rfl⟩:=Array.getElem?_eq_some_iff.mp hx
 have ty:Shared.TypeIs ⟨hp,g,dr,tk,os⟩ (.ref it) "dict_itemiterator":=⟨_,st,rfl⟩
 unfold pyNext
 refine VL (XI (WL (name:=Str.ofString "__next__") ty Xs (Wt Xs ty F.entry_dict_itemiterator_next ?_ (F.args_dict_itemiterator_next_1 _))))
 refine VL (VM (VL (VL ?_)))
 refine VL (XQ ty (VM ?_)); refine VL (wpAny_fieldsOf st rfl ?_)
 simp only [BP,Xe,Wc,WH]; show wpAny _ _ (if (Value.ref d == Value.none) = true then _ else _) _ _ _
 rw [if_neg (show ¬ (Value.ref d == Value.none) = true from VU)]
 refine VL (VM (VL (WJ xf vV ?_)))
 rw [if_neg (by simp)]
 refine VL (VM (VL (Xu xf vV ?_)))
 rw [if_neg (by simp)]
 refine VM ?_
 simp only [show ¬ ((i:Int) < 0) by omega,WH,WS,Array.getElem?_eq_getElem iz]
 refine VL ?_; refine VL (XQ ty (VM ?_))
 refine VL (wpAny_isOneOf_itemiter ty ?_)
 show wpAny _ _ (setField (.ref it) 3 (rawInt ((i:Int) + 1)) >>= _) _ _ ⟨hp,g,dr,tk,os⟩
 refine VL (WV st (by simp) fun h1 e1 s1=>?_)
 have s1:Heap.SameBut it hp h1:=s1
 have e1:IsItemIter h1 it d (i + 1) es.size ep ok ov:=by
  have z:((i + 1:Nat):Int) = (i:Int) + 1:=by omega
  unfold IsItemIter; rw [z]; simpa [rawInt] using e1
 have P4:Shared.TypeIs ⟨h1,g,dr,tk,os⟩ (.ref it) "dict_itemiterator":=⟨_,e1,rfl⟩
 refine VL (W2 (VL (wpAny_isOneOf_itemiter P4 (VL (wpAny_isOneOf_itemiter P4 ?_)))))
 show wpAny _ _ (Builtin.Dict_items.pairFromOwner (.ref it) 6 es[i].key es[i].val) _ _ ⟨h1,g,dr,tk,os⟩
 refine CL (s:=⟨h1,g,dr,tk,os⟩) e1 fun h6 e6 t6 k6=>VM ⟨_,rfl,VM ?_⟩
 have z1:h1.objs.size = hp.objs.size:=s1.1
 have e6:IsItemIterOut h6 it d (i + 1) es.size ep es[i].key es[i].val h1.objs.size:=e6
 have t6:h6.get? h1.objs.size = some { cls:=.type "tuple",data:=.seq #[es[i].key,es[i].val] }:=t6
 rw [z1] at e6 t6
 show Q (some (.ref h1.objs.size)) ⟨h6,g,dr,tk,os⟩
 rw [z1]
 exact q h6 e6 t6 fun b o hb z=>k6 b o hb (s1.extBut b o hb z)
theorem lN {Q:Option Value->Shared->Prop} (hh:A.handled = none) (st:IsItemIter s.heap it d i es.size ep ok ov) (x:pc s.heap d es ep) (hx:es.size <= i)
  (q:∀ h',Heap.ExtBut it s.heap h'->Q none { s with heap:=h' }):wpAny (model prog w) A (pyNext (.ref it)) Q E s:=by
 obtain ⟨od,xf,_,vV⟩:=x
 have ty:s.TypeIs (.ref it) "dict_itemiterator":=⟨_,st,rfl⟩
 unfold pyNext
 refine VL (XI (WL (name:=Str.ofString "__next__") ty Xs (Wt Xs ty F.entry_dict_itemiterator_next ?_ (F.args_dict_itemiterator_next_1 _))))
 refine VL (VM (VL (VL ?_)))
 refine VL (XQ ty (VM ?_)); refine VL (wpAny_fieldsOf st rfl ?_)
 simp only [BP,Xe,Wc,WH]; show wpAny _ _ (if (Value.ref d == Value.none) = true then _ else _) _ _ _
 rw [if_neg (show ¬ (Value.ref d == Value.none) = true from VU)]
 refine VL (VM (VL (WJ xf vV ?_)))
 rw [if_neg (by simp)]
 refine VL (VM (VL (Xu xf vV ?_)))
 rw [if_neg (by simp)]
 refine VM ?_
 simp only [show ¬ ((i:Int) < 0) by omega,WH,WS,Array.getElem?_eq_none hx]
 refine VL ?_; refine VL (XQ ty (VM ?_))
 show wpAny _ _ (setField (.ref it) 2 .none >>= _) _ _ s
 refine VL (wpAny_setField st rfl (by simp) ?_)
 show wpAny _ _ (newExc (.type "StopIteration") [] >>= _) _ _ _; refine VL ?_
 simp only [newExc,newTuple]; refine VL (Wz ?_ (by size_fits))
 refine VL (m:=firstArgMember _ _) (wpAny_of_eq (a:=Value.none) (by first | rfl | (simp only [firstArgMember]; rfl)) (Wz ?_ (by size_fits)))
 simp only [raiseNew]; refine VL (wpAny_handled ?_); rw [(show A.in1.handled = none from hh)]
 refine VL (VM (wpAny_throw ?_))
 refine VL (Xm (T:="StopIteration") (b:=true) ⟨_,VY _ rfl,rfl⟩ isSubtype_stop ?_)
 exact VM (q _ (((WO ..).extBut.push _).push _))
end
section
variable {X:Cx} {pins:List (Addr × Obj)} {σ:St} {H:Hp} {s:Shared} {h':Heap}
theorem Inv.Eb {t':Nat} {it p:Addr} {o:HO} (I:Inv X pins σ H s) (k:∀ b o,b ≠ it->s.heap.get? b = some o->h'.get? b = some o) (hn:H it = none) (hL:it ≠ X.env.locals)
  (h1:it ∈ X.ex \/ X.s₀.heap.objs.size <= it) (h2:∀ x c,X.env.cells.lookup x = some c->c ≠ it) (h3:∀ p ∈ X.pn ++ pins,p.1 ≠ it) (hp:s.heap.objs.size <= p) (new:ck X.prog X.w (upd H p o) h' p o) :
  Inv X pins σ (upd H p o) { s with heap:=h',toks:=t' }:=by
 have np:H p = none:=I.ba.fresh hp
 have J4:∀ b u,H b = some u->b ≠ it:=fun b u e z=>by rw [z,hn] at e; cases e
 have na:∀ b u,s.heap.get? b = some u->b ≠ p:=fun b u e=>Wj (Wn (V4 e) hp)
 refine I.step (g':=s.gens) (d':=s.drawn) (ch:=[it]) (fun b hb=>?_) (fun b o _ _ hc e _=>k b o (fun z=>hc (by simp [z])) e) (fun b o _ _ hc e _=>⟨o.slots,k b o (fun z=>hc (by simp [z])) e⟩)
  (fun b u _ e n=>by rw [aq (na b u e)]; exact n) (fun b o hc e=>⟨o,k b o (fun z=>hc (by simp [z])) e⟩) (fun b xs e=>by rw [aq (aG e np)]; exact e) (fun b o' u e=>by rw [aq (aG e np)]; exact e)
  (fun b ps e=>⟨#[],by rw [aq (aG e np),e]; simp⟩) (fun m hm=>?_) (fun b u e=>?_) I.bare
 ·have e:b = it:=by simpa using hb
  subst e
  exact ⟨h1,hL,h2,h3⟩
 ·obtain ⟨o,es,ep,ho,r⟩:=hm
  exact ⟨o,es,ep,k _ o (X2 hL) ho,r⟩
 ·by_cases hb:b = p
  ·subst hb; rw [ae] at e; cases e; exact new
  ·rw [aq hb] at e
   refine (I.ba b u e).lZ (fun c v hc q=>k c v ?_ q) (fun c q=>by rw [aq (aG q np)]; exact q) fun c xs q=>by rw [aq (aG q np)]; exact q
   rcases hc with z | z
   ·rw [z]; exact J4 b u e
   ·exact J4 c _ z
end
abbrev m9 (P:Program) (w:World) (o:Obj) (d:Addr) (xs:List (bV × Addr × Value)):HO:=.xb o (kT P w d xs)
theorem uN {P:Program} {w:World} {H:Hp} {h:Heap} {o:Obj} {d:Addr} {xs:List (bV × Addr × Value)} (ok:jN P w H h) (e:H d = some (m9 P w o d xs)):∃ es ep,o.data = .dict es ep /\ pc h d es ep /\ es.toList = xs.map (entryOfKey (bh P w)):=by
 obtain ⟨h1,⟨o',es,ep,h2,h3,h4,h5,_⟩,_⟩:=(show ck P w H h d (m9 P w o d xs) from ok d _ e)
 rw [h1] at h2; cases h2
 exact ⟨es,ep,h4,⟨o,h1,h3,h4⟩,h5⟩
def Od (P:Program) (w:World) (o:Obj) (d:Addr) (xs:List (bV × Addr × Value)):It :=
 ⟨fun i H=>H d = some (m9 P w o d xs) /\ i < xs.length,fun i H x H'=>H' = H /\ ∃ k b v,xs[i]? = some (k,b,v) /\ x = .ref b,fun i H=>H d = some (m9 P w o d xs) /\ xs.length <= i⟩
def IR (P:Program) (w:World) (o:Obj) (d:Addr) (xs:List (bV × Addr × Value)) (vs:List V):It :=
 ⟨fun i H=>H d = some (m9 P w o d xs) /\ i < xs.length,fun i H x H'=>∃ k b v y p,xs[i]? = some (k,b,v) /\ vs[i]? = some y /\ x = .ref p /\ H p = none /\ H' = upd H p (.tup [.ref b,y]),fun i H=>H d = some (m9 P w o d xs) /\ xs.length <= i⟩
theorem x4 {P:Program} {w:World} {K:Yt} {elts:List Expr} {x1} {pos:Pos} (o:Obj) (d it:Addr) (xs:List (bV × Addr × Value)) (vs:List V) (rv:Paired (fun (x:bV × Addr × Value) (y:V)=>RelV y x.2.2) xs vs) :
  Turn P w K (.Tuple elts x1 pos) (IR P w o d xs vs) [it] it (fun i h=>∃ es ep ok ov,o.data = .dict es ep /\ IsItemIter h it d i es.size ep ok ov) where
 mem:=by simp
 obj:=fun i h st b hb=>by
  have e:b = it:=by simpa using hb
  subst e
  obtain ⟨es,ep,ok,ov,_,st⟩:=st
  exact ⟨_,st,fun v z=>by cases z⟩
 keep:=fun i h h' ⟨es,ep,ok,ov,e,st⟩ k=>⟨es,ep,ok,ov,e,k it (by simp) _ st⟩
 item:=by
  intro X hP hw hK hc i pins s σ H E I hf st hg
  subst hP hw hK
  obtain ⟨hd,hi⟩:=hg
  obtain ⟨es,ep,e1,raw,el⟩:=uN I.ba hd
  obtain ⟨Bx,DI,ok,ov,e2,st⟩:=st
  rw [e1] at e2
  injection e2 with e3 e4
  subst e3 e4
  obtain ⟨⟨k,b,v⟩,hx⟩:∃ x,xs[i]? = some x:=⟨_,VS hi⟩
  obtain ⟨y,hy,ry⟩:∃ y,vs[i]? = some y /\ RelV y v:=by
   have hl:=W3 rv
   have:∀ {xs:List (bV × Addr × Value)} {vs:List V} {i:Nat} {x:bV × Addr × Value},Paired (fun (x:bV × Addr × Value) (y:V)=>RelV y x.2.2) xs vs->xs[i]? = some x->∃ y,vs[i]? = some y /\ RelV y x.2.2:=by
    intro xs vs i x r
    induction r generalizing i with
    | nil=>intro e; simp at e
    | cons h _ ih =>
     intro e
     cases i with
     | zero=>simp at e; subst e; exact ⟨_,rfl,h⟩
     | succ i=>obtain ⟨y,h1,h2⟩:=ih (i:=i) (by simpa using e); exact ⟨y,by simpa using h1,h2⟩
   exact this rv hx
  have he:es[i]? = some (entryOfKey (bh X.prog X.w) (k,b,v)):=by rw [entry_at el,hx]; rfl
  obtain ⟨f0,f1,f2,f3,f4,f5⟩:=hf it (by simp)
  refine ql st raw he fun h' aI tu kp=>⟨_,rfl,?_⟩
  refine wpAny_letOwnedTupleGo_items (s:={ s with heap:=h' }) aI fun Lm bP sb=>?_
  have PR:it ≠ s.heap.objs.size:=Wj (V4 st)
  have UI:Lm.get? s.heap.objs.size = some { cls:=.type "tuple",data:=.seq #[Value.ref b,v] }:=(sb.2 _ (X2 PR)).trans tu
  have np:H s.heap.objs.size = none:=I.ba.fresh (VP _)
  have I1:Inv X pins σ (upd H s.heap.objs.size (.tup [.ref b,y])) { s with heap:=Lm }:=I.Eb (t':=s.toks) (fun b o hb e=>(sb.2 b hb).trans (kp b o hb e)) f0 f1 f3 f4 f5 (VP _)
   ⟨by rw [Xy]; simp,[Value.ref b,v],.cons rfl (.cons ry .nil),_,UI,rfl,_,rfl⟩
  exact ⟨.ref s.heap.objs.size,_,I1,rfl,⟨k,b,v,y,_,hx,hy,rfl,np,rfl⟩,⟨es,ep,_,_,e1,bP⟩,fun c hc=>by
   have e:c = it:=by simpa using hc
   rw [e,aq PR]; exact f0⟩
 done:=by
  intro X hP hw hK hc i pins s σ H E I hf st hg
  subst hP hw hK
  obtain ⟨hd,hi⟩:=hg
  obtain ⟨es,ep,e1,raw,el⟩:=uN I.ba hd
  obtain ⟨Bx,DI,ok,ov,e2,st⟩:=st
  rw [e1] at e2
  injection e2 with e3 e4
  subst e3 e4
  obtain ⟨f0,f1,f2,f3,f4,f5⟩:=hf it (by simp)
  exact lN (I.ok.hd hc) st raw (by rw [Yl el]; exact hi) fun h' eb=>⟨rfl,I.turned (t':=s.toks) (fun b o hb e=>eb b o hb e) f0 f1 f3 f4 f5⟩
 self:=fun _ _ _ _ _ ⟨_,_,_,_,_,st⟩ h=>PySem.W.kcp_self st h
def DF (P:Program) (w:World) (H:Hp) (a:Addr) (kvs:List (bV × V)):Prop:=kvs.length <= sizeLine /\ (a == sysModules) = false /\ ∃ o xs,H a = some (m9 P w o a xs) /\ KS H kvs xs
section
variable {P:Program} {w:World} {H H':Hp} {a:Addr} {kvs:List (bV × V)}
theorem DF.ds (d:DF P w H a kvs):DS P w H a kvs:=let ⟨h1,h2,o,xs,h3,h4⟩:=d; ⟨h1,h2,xs,.inr ⟨o,h3⟩,h4⟩
theorem DF.mono (e:ak H H') (x:DF P w H a kvs):DF P w H' a kvs:=let ⟨h1,h2,o,xs,h3,h4⟩:=x; ⟨h1,h2,o,xs,e _ _ h3,h4.mono fun _ _=>e _ _⟩
theorem KS.get {xs:List (bV × Addr × Value)}:∀ {kvs:List (bV × V)} {i:Nat} {k:bV} {b:Addr} {v:Value},KS H kvs xs->xs[i]? = some (k,b,v)->∃ y,kvs[i]? = some (k,y) /\ l9 H k b /\ RelV y v:=by
 intro kvs i k b v r
 induction r generalizing i with
 | nil=>intro e; simp at e
 | @cons p q _ _ h _ ih =>
  intro e
  cases i with
  | zero =>
   simp at e; subst e
   obtain ⟨h1,h2,h3⟩:=h
   obtain ⟨p1,p2⟩:=p
   have h1:p1 = k:=h1
   subst h1
   exact ⟨p2,rfl,h2,h3⟩
  | succ i =>
   obtain ⟨y,h1,h2⟩:=ih (i:=i) (by simpa using e)
   exact ⟨y,by simpa using h1,h2⟩
theorem KS.vals {xs:List (bV × Addr × Value)} (r:KS H kvs xs):Paired (fun (x:bV × Addr × Value) (y:V)=>RelV y x.2.2) xs (kvs.map (·.2)):=by
 induction r with
 | nil=>exact .nil
 | cons h _ ih=>exact .cons h.2.2 ih
end
section
variable {X:Cx} {tg l o:Expr} {tl to:TE} {apos i7 pos:Pos}
def G1 (X:Cx) (to:TE):TI:=fun σ H R=>to σ H fun x H1=>∃ a o xs vs,x = .ref a /\ (a == sysModules) = false /\ H1 a = some (m9 X.prog X.w o a xs) /\ Paired (fun (x:bV × Addr × Value) (y:V)=>RelV y x.2.2) xs vs /\ R (IR X.prog X.w o a xs vs) H1
theorem Dc {elts:List Expr} {x1} (ho:PE X o to) (vn:attributeBase o "items" X.env (eval o X.env) = eval o X.env:=by rfl) (vU:(apos.endLine == i7.line) = true:=by rfl) :
  PI X (.Tuple elts x1 pos) (.Call (.Attribute o "items" apos) [] [] i7) (G1 X to):=by
 intro pins s σ H R I h
 refine wpAny_Call_method0_late vn vU (cn (ho pins s σ H _ I h) fun v s1 ⟨x,H1,I1,r1,q1⟩=>?_)
 obtain ⟨a,ob,xs,vs,e,hd,hq,rv,q⟩:=q1
 subst e
 cases r1
 obtain ⟨es,ep,e1,raw,el⟩:=uN I1.ba hq
 obtain ⟨o',lP,ex,_⟩:=id raw
 refine ⟨"dict","dict.items",PySem.F.plainAttrs_dict,PySem.F.slot_dict_items,PySem.F.type_dict_items,raw.typeIs,fun b eb=>?_,?_⟩
 ·cases eb
  exact ⟨o',lP,ex.2.1⟩
 refine Calls.callWith_builtin rfl (PySem.evalArgs_none (Au hd raw ?_))
 have I2:Inv X pins σ H1 { s1 with heap:=s1.heap.push { cls:=.type "dict_items",data:=.fields #[.ref a] } }:=I1.kept (t':=s1.toks) fun b o e=>VN _ e
 refine rm (s:={ s1 with heap:=s1.heap.push { cls:=.type "dict_items",data:=.fields #[.ref a] } }) ⟨_,VY _ rfl,rfl,rfl⟩ (raw.keep fun b o e=>VN _ e) ?_
 refine ⟨(s1.heap.push { cls:=.type "dict_items",data:=.fields #[.ref a] }).objs.size,[(s1.heap.push { cls:=.type "dict_items",data:=.fields #[.ref a] }).objs.size],_,_,H1,rfl,I2.kept (t':=s1.toks) fun b o e=>VN _ e,x4 ob a _ xs vs rv,⟨es,ep,.none,.none,e1,VY _ rfl⟩,fun b hb=>?_,q⟩
 have e:b = (s1.heap.push { cls:=.type "dict_items",data:=.fields #[.ref a] }).objs.size:=by simpa using hb
 subst e
 exact I2.BH (VP _) (I2.ba.fresh (VP _))
def N5 (X:Cx) (te:TE):TE:=fun σ H Q=>te σ H fun x H1=>∃ a kvs,x = .ref a /\ DW X.prog X.w H1 a kvs /\ ∀ o,DF X.prog X.w (upd H1 a o) a kvs->Q x (upd H1 a o)
theorem GH {e:Expr} {te:TE} (h:PE X e te):PE X e (N5 X te):=by
 intro pins s σ H Q I q
 refine cn (h pins s σ H _ I q) fun v s1 ⟨x,H1,I1,r1,a,kvs,ex,⟨z,hd,xs,e,r⟩,q1⟩=>?_
 subst ex
 have OS:ck X.prog X.w H1 s1.heap a (kT X.prog X.w a xs):=I1.ba a _ e
 obtain ⟨ob,rK⟩:=OS.2.1
 have tp:∀ c ys,H1 c = some (.tup ys)->upd H1 a (m9 X.prog X.w ob a xs) c = some (.tup ys):=fun c ys ec=>by
  rw [aq (dY ec e (fun z=>nomatch z))]; exact ec
 have I2:Inv X pins σ (upd H1 a (m9 X.prog X.w ob a xs)) s1:=I1.write (x:=a) (e:=a) (h':=s1.heap) (t':=s1.toks) (o:=m9 X.prog X.w ob a xs) (by rw [e]; exact XS) (.inl rfl) (fun b u _ q=>q) ⟨ob,rK⟩ ⟨rK,OS⟩
 exact ⟨.ref a,_,I2,r1,q1 _ ⟨z,hd,ob,xs,ae,r.mono tp⟩⟩
end
theorem J2 {P:Program} {w:World} {o:Obj} {d:Addr} {xs:List (bV × Addr × Value)} {kvs:List (bV × V)} {g:TG} {tb:TS} {D:Ends} {σ:St} {H:Hp} (Pv:Nat->St->Hp->Prop) (h0:Pv 0 σ H)
  (hl:∀ i σ H,i <= kvs.length->Pv i σ H->H d = some (m9 P w o d xs) /\ KS H kvs xs)
  (hs:∀ i k y b σ H,kvs[i]? = some (k,y)->l9 H k b->Pv i σ H->g (.ref b) σ H fun σ2 H2=>tb { D with nx:=Pv (i + 1),ct:=Pv (i + 1),bk:=D.nx } σ2 H2) (hd:∀ σ H,Pv kvs.length σ H->D.nx σ H) :
  ∃ W:Nat->Nat->St->Hp->Prop,(∃ m,W 0 m σ H) /\ ∀ i m σ H,W i m σ H ->
   ((Od P w o d xs).stop i H /\ D.nx σ H) \/ ((Od P w o d xs).go i H /\ ∃ N:St->Hp->Prop,(∀ σ' H',N σ' H'->∃ m',m' < m /\ W (i + 1) m' σ' H') /\ ∀ x H',(Od P w o d xs).Gw i H x H'->g x σ H' fun σ2 H2=>tb { D with nx:=N,ct:=N,bk:=D.nx } σ2 H2):=by
 refine ⟨fun i m σ H=>m = kvs.length - i /\ i <= kvs.length /\ Pv i σ H,⟨kvs.length,by simp,Wl _,h0⟩,?_⟩
 rintro i m σ H ⟨rfl,hi,p⟩
 obtain ⟨q,r⟩:=hl i σ H hi p
 have ln:kvs.length = xs.length:=W3 r
 by_cases iz:i < kvs.length
 ·refine .inr ⟨⟨q,by omega⟩,Pv (i + 1),fun σ' H' p'=>⟨kvs.length - (i + 1),by omega,rfl,iz,p'⟩,fun x H' y=>?_⟩
  obtain ⟨e,k,b,v,hx,e2⟩:=y
  subst e e2
  obtain ⟨y,hy,ka,_⟩:=r.get hx
  exact hs i k y b σ _ hy ka p
 ·have e:i = kvs.length:=by omega
  subst e
  exact .inl ⟨⟨q,by omega⟩,hd σ H p⟩
theorem A8 {P:Program} {w:World} {o:Obj} {d:Addr} {xs:List (bV × Addr × Value)} {kvs:List (bV × V)} {g:TG} {tb:TS} {D:Ends} {σ:St} {H:Hp} (Pv:Nat->St->Hp->Prop) (h0:Pv 0 σ H)
  (hl:∀ i σ H,i <= kvs.length->Pv i σ H->H d = some (m9 P w o d xs) /\ KS H kvs xs)
  (hs:∀ i k y b p σ H,kvs[i]? = some (k,y)->l9 H k b->H p = none->Pv i σ H->g (.ref p) σ (upd H p (.tup [.ref b,y])) fun σ2 H2=>tb { D with nx:=Pv (i + 1),ct:=Pv (i + 1),bk:=D.nx } σ2 H2) (hd:∀ σ H,Pv kvs.length σ H->D.nx σ H) :
  ∃ W:Nat->Nat->St->Hp->Prop,(∃ m,W 0 m σ H) /\ ∀ i m σ H,W i m σ H ->
   ((IR P w o d xs (kvs.map (·.2))).stop i H /\ D.nx σ H) \/ ((IR P w o d xs (kvs.map (·.2))).go i H /\ ∃ N:St->Hp->Prop,(∀ σ' H',N σ' H'->∃ m',m' < m /\ W (i + 1) m' σ' H') /\ ∀ x H',(IR P w o d xs (kvs.map (·.2))).Gw i H x H'->g x σ H' fun σ2 H2=>tb { D with nx:=N,ct:=N,bk:=D.nx } σ2 H2):=by
 refine ⟨fun i m σ H=>m = kvs.length - i /\ i <= kvs.length /\ Pv i σ H,⟨kvs.length,by simp,Wl _,h0⟩,?_⟩
 rintro i m σ H ⟨rfl,hi,p⟩
 obtain ⟨q,r⟩:=hl i σ H hi p
 have ln:kvs.length = xs.length:=W3 r
 by_cases iz:i < kvs.length
 ·refine .inr ⟨⟨q,by omega⟩,Pv (i + 1),fun σ' H' p'=>⟨kvs.length - (i + 1),by omega,rfl,iz,p'⟩,fun x H' y=>?_⟩
  obtain ⟨k,b,v,y,pp,hx,hy,e1,hn,e2⟩:=y
  subst e1 e2
  obtain ⟨y',hV,ka,_⟩:=r.get hx
  rw [V3,hV] at hy
  cases hy
  exact hs i k _ b pp σ H hV ka hn p
 ·have e:i = kvs.length:=by omega
  subst e
  exact .inl ⟨⟨q,by omega⟩,hd σ H p⟩
section
variable (P:Program) (w:World)
def JD (neg:Bool):R2:=fun y x H Q=>∃ a b k kvs,x = .ref a /\ y = .ref b /\ l9 H k b /\ DS P w H a kvs /\ Q (.bl (if neg then !(dX kvs k).isSome else (dX kvs k).isSome)) H
def M5:R2:=fun x y H Q=>∃ a b k kvs v,x = .ref a /\ y = .ref b /\ l9 H k b /\ DS P w H a kvs /\ dX kvs k = some v /\ Q v H
def Ll:V->V->V->Hp->(Hp->Prop)->Prop:=fun o i v H Q=>∃ a b k kvs,o = .ref a /\ i = .ref b /\ l9 H k b /\ DW P w H a kvs /\ kvs.length < sizeLine /\ ∀ o',DW P w (upd H a o') a (sh kvs k v)->Q (upd H a o')
def GB:TE:=fun _ H Q=>∀ p o,H p = none->DW P w (upd H p o) p []->Q (.ref p) (upd H p o)
def E4 (tk tv:TE):TE:=fun σ H Q=>∀ p o,H p = none->DW P w (upd H p o) p []->tk σ (upd H p o) fun x H1=>tv σ H1 fun y H2 =>
 ∃ b k,x = .ref b /\ l9 H2 k b /\ DW P w H2 p [] /\ ∀ o',DW P w (upd H2 p o') p [(k,y)]->Q (.ref p) (upd H2 p o')
def MU:R2:=fun x y H Q=>∃ a b f g,x = .ref a /\ y = .ref b /\ DS P w H a (iv f) /\ DS P w H b (iv g) /\ Q (.bl (!FC f g)) H
def Iu:List V->Hp->VK->Prop:=fun xs H Q=>∃ a kvs,xs = [.ref a] /\ DS P w H a kvs /\ qN P w kvs /\ ∀ p o,H p = none->DW P w (upd H p o) p kvs->Q (.ref p) (upd H p o)
def E3 (to:TE):TI:=fun σ H R=>to σ H fun x H1=>∃ a o xs vs,x = .ref a /\ (a == sysModules) = false /\ H1 a = some (m9 P w o a xs) /\ Paired (fun (x:bV × Addr × Value) (y:V)=>RelV y x.2.2) xs vs /\ R (IR P w o a xs vs) H1
def JO (te:TE):TE:=fun σ H Q=>te σ H fun x H1=>∃ a kvs,x = .ref a /\ DW P w H1 a kvs /\ ∀ o,DF P w (upd H1 a o) a kvs->Q x (upd H1 a o)
end
section
variable {X:Cx} {P:Program} {w:World} (hP:X.prog = P) (hw:X.w = w)
include hP hw
theorem IH (hu:X.A.units + 64 < cLine):iL X (compareOp .In) (JD P w false):=by subst hP hw; exact HS hu
theorem GZ (hu:X.A.units + 64 < cLine):iL X (compareOp .NotIn) (JD P w true):=by subst hP hw; exact A9 hu
theorem Ht (hu:X.A.units + 64 < cLine):Dn X (M5 P w):=by subst hP hw; exact Df hu
theorem Ix (hu:X.A.units + 64 < cLine):GD X (Ll P w):=by subst hP hw; exact As hu
theorem rA {pos:Pos}:PE X (.Dict [] [] pos) (GB P w):=by subst hP hw; exact Cr
theorem tz {k v:Expr} {tk tv:TE} {pos:Pos} (hu:X.A.units + 64 < cLine) (hk:PE X k tk) (hv:PE X v tv):PE X (.Dict [some k] [v] pos) (E4 P w tk tv):=by subst hP hw; exact BW hu hk hv
theorem UV (hu:X.A.units + 64 < cLine):iL X (compareOp .NotEq) (MU P w):=by subst hP hw; exact HY hu
theorem xA:dI X (.type "dict") (Iu P w):=by subst hP hw; exact xx
theorem Fs {e:Expr} {te:TE} (h:PE X e te):PE X e (JO P w te):=by subst hP hw; exact GH h
theorem Ap {elts:List Expr} {x1:Nat} {o:Expr} {to:TE} {apos i7 pos:Pos} (ho:PE X o to) (vn:attributeBase o "items" X.env (eval o X.env) = eval o X.env:=by rfl) (vU:(apos.endLine == i7.line) = true:=by rfl) :
  PI X (.Tuple elts x1 pos) (.Call (.Attribute o "items" apos) [] [] i7) (E3 P w to):=by subst hP hw; exact Dc ho vn vU
end
theorem DW.at {P:Program} {w:World} {H:Hp} {a:Addr} {kvs:List (bV × V)} (d:DW P w H a kvs):∃ xs,H a = some (kT P w a xs):=let ⟨_,_,xs,h,_⟩:=d; ⟨xs,h⟩
theorem DW.nl {P:Program} {w:World} {H:Hp} {a:Addr} {kvs:List (bV × V)} (d:DW P w H a kvs) {o:HO}:(∀ b vs,H b = some (.lst vs)->upd H a o b = some (.lst vs)) /\ ∀ b vs,H b = some (.tup vs)->upd H a o b = some (.tup vs):=by
 obtain ⟨xs,h⟩:=d.at
 exact ⟨fun b vs e=>by rw [aq (dY e h (by intro z; cases z))]; exact e,fun b vs e=>by rw [aq (dY e h (by intro z; cases z))]; exact e⟩
theorem DW.HQ {P:Program} {w:World} {H:Hp} {a D:Addr} {o:HO} {ys:List V} {kvs:List (bV × V)} (d:DW P w H a kvs) (hD:H D = some (.lst ys)):DW P w (upd H D o) a kvs :=
 let ⟨h1,h2,xs,h3,h4⟩:=d
 ⟨h1,h2,xs,by rw [aq (dY h3 hD (by intro z; cases z))]; exact h3,h4.mono fun b vs e=>by rw [aq (dY e hD (by intro z; cases z))]; exact e⟩
section
variable {M:Model} {A:Around} {E:Value->Shared->Prop} {s:Shared}
def vj (h:Heap):List Value->List (Option Value)->Prop:=Paired fun v f=>∃ a o xs n,v = .ref a /\ h.get? a = some o /\ o.cls = .type "tuple" /\ o.data = .seq xs n /\ xs[0]? = f
theorem yF:∀ (vs:List Value) (fs:List (Option Value)) {Q:List (Option Value)->Shared->Prop},vj s.heap vs fs->Q fs s->wpAny M A (vs.mapM firstOfTuple') Q E s
 | [],_,_,.nil,h=>by rw [List.mapM_nil]; exact VM h
 | v :: vs,f :: fs,Q,.cons t r,h=>by
  obtain ⟨a,o,xs,n,rfl,ho,hc,hd,hf⟩:=t
  rw [List.mapM_cons]
  refine VL ?_
  rw [PySem.W.kas_first_eq]
  refine VL (PySem.W.Looks.here (show PySem.W.Looks M s.heap (typeOf (.ref a)) o.cls from (PySem.W.Looks.ld ho).andThen .now) ?_)
  rw [hc,if_neg (by first | decide | simp)]
  refine VL (listItems_at ho hd (VM ?_))
  rw [hf]
  exact VL (yF vs fs (Q:=fun bs s'=>wpAny M A (pure (f :: bs)) Q E s') r (VM h))
theorem tj {h:Heap}:∀ {vs:List Value} {fs:List (Option Value)},vj h vs fs->(∀ f ∈ fs,f.isSome = true)->PySem.W.KatTups h vs (fs.filterMap id)
 | [],_,.nil,_=>trivial
 | _ :: _,f :: fs,.cons t r,hf=>by
  obtain ⟨a,o,xs,n,rfl,ho,hc,hd,hx⟩:=t
  have:=hf f VR
  cases f with
  | none=>cases this
  | some u=>exact PySem.W.KatTups.cons ho hc hd hx (tj r fun f MO=>hf f (VQ _ MO))
theorem sM {h:Heap} {v:Value}:∀ {vs:List Value} {fs:List (Option Value)},vj h vs fs->v ∈ vs->∃ a o,v = .ref a /\ h.get? a = some o /\ o.cls = .type "tuple"
 | _,_,.nil,hv=>by cases hv
 | _ :: _,_ :: _,.cons t r,hv=>by
  rcases VT.mp hv with rfl | hv
  ·obtain ⟨a,o,xs,n,rfl,ho,hc,_⟩:=t
   exact ⟨a,o,rfl,ho,hc⟩
  ·exact sM r hv
theorem HH {vs:List Value} {fs:List (Option Value)} {Q:SortKind->Shared->Prop} (t:vj s.heap vs fs) (h2:0 < vs.length) (hi:∀ f ∈ fs,∀ u,f = some u->∃ i t,u = Value.int i t)
  (h:∀ κ,(κ = tuples' true \/ κ = oneType' \/ κ = general')->Q κ s):wpAny M A (keyKind' vs.toArray) Q E s:=by
 have hl:vs.length = fs.length:=W3 t
 by_cases all:∀ f ∈ fs,f.isSome = true
 ·refine PySem.W.kat_kind (T:=.type "int") (tj t all) ?_ (fun v hv=>?_) rfl (h _ (.inl rfl))
  ·cases fs with
   | nil=>exact absurd hl (fun z=>by rw [z] at h2; exact absurd h2 (by simp))
   | cons f fs =>
    have:=all f VR
    cases f with
    | none=>cases this
    | some u=>simp
  ·obtain ⟨f,hf,e⟩:=List.mem_filterMap.mp hv
   obtain ⟨i,t,rfl⟩:=hi f hf v e
   exact PySem.W.Looks.of_pure rfl
 ·rw [kat_kind_eq,List.mapM_toArray,map_eq_pure_bind]
  refine VL (VL (yF vs _ t (VM ?_)))
  have zN:¬ (fs.toArray.all fun x=>x.isSome) = true:=by
   intro z
   refine all fun f hf=>?_
   rw [List.all_toArray,WP] at z
   exact z f hf
  rw [if_neg zN]
  by_cases c:(fs.toArray[0]?.bind id).isSome = true
  ·rw [if_pos c]; exact VM (h _ (.inr (.inr rfl)))
  ·rw [if_neg c,oneTypeOnly'_eq,List.mapM_toArray,map_eq_pure_bind]
   refine VL (VL (VL (PySem.W.kas_mapM (r:=.type "tuple") _ (fun v hv Q' hq=>?_) (VM ?_))))
   ·obtain ⟨a,o,rfl,ho,hc⟩:=sM t hv
    have lk:PySem.W.Looks M s.heap (typeOf (.ref a)) o.cls:=(PySem.W.Looks.ld ho).andThen .now
    rw [hc] at lk
    exact lk.here hq
   ·obtain ⟨v,vr,rfl⟩:∃ v vr,vs = v :: vr:=by
     cases vs with
     | nil=>simp at h2
     | cons v vr=>exact ⟨v,vr,rfl⟩
    have JS:((List.map (fun _=>Value.type "tuple") (v :: vr)).toArray.all fun x=>x == Value.type "tuple") = true:=by
     simp only [List.all_toArray,List.all_map,WP]
     intro _ _
     rfl
    have h0:(List.map (fun _=>Value.type "tuple") (v :: vr)).toArray[0]? = some (Value.type "tuple"):=by simp
    rw [h0]
    simp only [JS,Xe]
    exact VM (VM (h _ (.inr (.inl rfl))))
end
theorem De {a b:List Int} (h:HT.lexLt a b = true):HT.lexLt b a = false:=by
 cases q:HT.lexLt b a with
 | false=>rfl
 | true=>have:=lex_trans h q; rw [iZ] at this; cases this
def lE (gs:List (List Int)):List Nat:=(List.range gs.length).mergeSort fun i j=>!HT.lexLt (gs.getD j []) (gs.getD i [])
def AT (gs:List (List Int)):List (List Int):=(lE gs).map fun i=>gs.getD i []
theorem iP (gs:List (List Int)):(lE gs).Perm (List.range gs.length):=List.mergeSort_perm _ _
theorem ip {gs:List (List Int)} {i:Nat} (h:i ∈ lE gs):i < gs.length:=List.mem_range.mp ((iP gs).mem_iff.mp h)
theorem gN (gs:List (List Int)):(AT gs).Perm gs:=by
 have:=(iP gs).map fun i=>gs.getD i []
 rw [jd] at this
 exact this
theorem wm (gs:List (List Int)):(lE gs).Pairwise fun i j=>(!HT.lexLt (gs.getD j []) (gs.getD i [])) = true:=by
 refine List.pairwise_mergeSort (fun a b c h1 h2=>?_) (fun a b=>?_) _
 ·have h1:HT.lexLt (gs.getD b []) (gs.getD a []) = false:=by simpa using h1
  have h2:HT.lexLt (gs.getD c []) (gs.getD b []) = false:=by simpa using h2
  cases q:HT.lexLt (gs.getD c []) (gs.getD a []) with
  | false=>rfl
  | true =>
   by_cases e:gs.getD b [] = gs.getD c []
   ·rw [e,q] at h1; cases h1
   ·have:=kJ (X2 e) h2
    rw [lex_trans this q] at h1; cases h1
 ·cases q:HT.lexLt (gs.getD b []) (gs.getD a []) with
  | false=>rfl
  | true=>rw [De q]; rfl
theorem mj {α:Type}:∀ {l:List α},l.Nodup->∀ {i j:Nat} (hi:i < l.length) (hj:j < l.length),l[i] = l[j]->i = j
 | [],_,_,_,hi,_,_=>absurd hi (by simp)
 | a :: l,nd,0,0,_,_,_=>rfl
 | a :: l,nd,0,j + 1,_,hj,e=>by
  have e:a = l[j]'(by simpa using hj):=e
  exact absurd (e ▸ Xn _) (WW.mp nd).1
 | a :: l,nd,i + 1,0,hi,_,e=>by
  have e:l[i]'(by simpa using hi) = a:=e
  exact absurd (e ▸ Xn _) (WW.mp nd).1
 | a :: l,nd,i + 1,j + 1,hi,hj,e=>by rw [mj (WW.mp nd).2 (i:=i) (j:=j) (by simpa using hi) (by simpa using hj) e]
theorem xo {gs:List (List Int)} (nd:gs.Nodup) {i j:Nat} (hi:i < gs.length) (hj:j < gs.length) (h:i ≠ j):gs.getD i [] ≠ gs.getD j []:=by
 intro e
 rw [V7,V7,VS hi,VS hj] at e
 exact h (mj nd hi hj e)
theorem oQ {gs:List (List Int)} (nd:gs.Nodup):(lE gs).Pairwise fun i j=>HT.lexLt (gs.getD i []) (gs.getD j []) = true:=by
 have n1:(lE gs).Nodup:=(iP gs).nodup_iff.mpr List.nodup_range
 refine Xp (fun {i j} hi hj h=>?_) ((wm gs).and n1)
 have h1:HT.lexLt (gs.getD j []) (gs.getD i []) = false:=by simpa using h.1
 exact kJ (X2 (xo nd (ip hi) (ip hj) h.2)) h1
theorem wE {gs:List (List Int)} (nd:gs.Nodup):(AT gs).Pairwise fun g k=>HT.lexLt g k = true:=by
 unfold AT
 rw [WK]
 exact oQ nd
def u7 (gs:List (List Int)) (g:List Int):Nat:=gs.countP fun x=>HT.lexLt x g
theorem pM {gs:List (List Int)} {g k:List Int} (hg:g ∈ gs):decide (u7 gs g < u7 gs k) = HT.lexLt g k:=by
 cases e:HT.lexLt g k with
 | true=>exact V0 (ox (f:=fun x=>HT.lexLt x g) (g:=fun x=>HT.lexLt x k) (fun x hx=>lex_trans hx e) (iZ g) e hg)
 | false =>
  refine We (Nat.not_lt.mpr ?_)
  by_cases q:g = k
  ·rw [q]; exact VP _
  ·exact countP_le (f:=fun x=>HT.lexLt x k) (g:=fun x=>HT.lexLt x g) (fun x hx=>lex_trans hx (kJ q e)) gs
def uz (h:Heap) (v:Value) (g:List Int):Prop:=∃ a,v = .ref a /\ ie h a g
open Classical in
noncomputable def fD (h:Heap) (v:Value):List Int:=if e:∃ g,uz h v g then Classical.choose e else []
theorem qd {h:Heap} {v:Value} {g:List Int} (e:uz h v g):fD h v = g:=by
 unfold fD
 rw [dif_pos ⟨g,e⟩]
 obtain ⟨a,e1,t1⟩:=e
 obtain ⟨b,e2,t2⟩:=Classical.choose_spec (⟨g,a,e1,t1⟩:∃ g,uz h v g)
 rw [e1] at e2; cases e2
 exact t2.inj t1
theorem Cv {α:Type} {rk:α->Nat}:∀ {l m:List α},l.Pairwise (fun x y=>rk x < rk y)->m.Pairwise (fun x y=>rk x < rk y)->(∀ x,x ∈ l ↔ x ∈ m)->l = m
 | [],[],_,_,_=>rfl
 | [],b :: r,_,_,h=>absurd ((h b).mpr VR) (by simp)
 | a :: l,[],_,_,h=>absurd ((h a).mp VR) (by simp)
 | a :: l,b :: r,h1,h2,h=>by
  obtain ⟨ha,hl⟩:=WG.mp h1
  obtain ⟨hb,hr⟩:=WG.mp h2
  have e:a = b:=by
   rcases VT.mp ((h a).mp VR) with e | e
   ·exact e
   ·rcases VT.mp ((h b).mpr VR) with e' | e'
    ·exact e'.symm
    ·have:=hb a e; have:=ha b e'; omega
  subst e
  have t:l = r:=by
   refine Cv hl hr fun x=>⟨fun hx=>?_,fun hx=>?_⟩
   ·rcases VT.mp ((h x).mp (VQ _ hx)) with e | e
    ·have:=ha x hx; rw [e] at this; omega
    ·exact e
   ·rcases VT.mp ((h x).mpr (VQ _ hx)) with e | e
    ·have:=hb x hx; rw [e] at this; omega
    ·exact e
  rw [t]
section
variable {prog:Program} {w:World} {A:Around} {E:Value->Shared->Prop} {s:Shared}
theorem BM {κ:SortKind} (hκ:κ = tuples' true \/ κ = oneType' \/ κ = general') {g k:List Int} {a b:Addr} {Q:Bool->Shared->Prop} (hu:A.units < cLine) (hx:ie s.heap a g) (hy:ie s.heap b k) (h:Q (HT.lexLt g k) s) :
  wpAny (model prog w) A (keyLt' κ (.ref a) (.ref b)) Q E s:=by
 rcases hκ with rfl | rfl | rfl
 ·obtain ⟨xs,rx,oa,Bd,_,na,Bk⟩:=hx
  obtain ⟨ys,ry,ob,rK,_,nb,rn⟩:=hy
  refine PySem.W.kat_lt Bd Bk rK rn ?_
  rw [List.toList_toArray,List.toList_toArray]
  exact wI _ _ _ _ 0 rx ry (by simp) h
 ·rw [keyLt'_oneType]; exact km hu hx hy h
 ·show wpAny _ _ (oneLt' false _ _) _ _ _
  exact km hu hx hy h
theorem wb {P:Program} {H:Hp} {h:Heap} (ok:jN P w H h):∀ {gs:List (List Int)} {vs:List V} {us:List Value},bK H (gs.map fun g=>.tuple (g.map PyData.int)) vs->Vals vs us->∃ fs,vj h us fs /\ (∀ f ∈ fs,∀ u,f = some u->∃ i t,u = Value.int i t) /\ Paired (uz h) us gs
 | [],_,_,.nil,.nil=>⟨[],.nil,(fun _ z=>by cases z),.nil⟩
 | g :: gs,_,_,.cons hd ht,.cons r rr=>by
  obtain ⟨fs,h1,h2,h3⟩:=wb ok ht rr
  obtain ⟨a,vs,rfl,ha,hv⟩:=hd.gK
  cases hv.mU
  cases r
  obtain ⟨_,aH,rv,o,ho,hc,n,OL⟩:=ok a _ ha
  refine ⟨aH.toArray[0]? :: fs,.cons ⟨a,o,_,n,rfl,ho,hc,OL,rfl⟩ h1,fun f hf u e=>?_,.cons ⟨a,rfl,aH,rv,o,ho,hc,n,OL⟩ h3⟩
  rcases VT.mp hf with rfl | z
  ·cases g with
   | nil=>cases rv; simp at e
   | cons x g =>
    cases rv with
    | @cons _ u' _ us ru _ =>
     obtain ⟨t,rfl⟩:=ru
     simp at e
     exact ⟨x,t,e.symm⟩
  ·exact h2 f z u e
theorem yE {h:Heap}:∀ {us:List Value} {gs:List (List Int)},Paired (uz h) us gs->us.map (fD h) = gs
 | [],_,.nil=>rfl
 | _ :: _,_ :: _,.cons e r=>by rw [V8,qd e,yE r]
theorem vD {h:Heap} {v:Value}:∀ {us:List Value} {gs:List (List Int)},Paired (uz h) us gs->v ∈ us->∃ g ∈ gs,uz h v g
 | _,_,.nil,hv=>by cases hv
 | _ :: _,_ :: _,.cons e r,hv=>by
  rcases VT.mp hv with rfl | hv
  ·exact ⟨_,VR,e⟩
  ·obtain ⟨g,h1,h2⟩:=vD r hv
   exact ⟨g,VQ _ h1,h2⟩
theorem mq {α β:Type} (f:α->β):∀ l:List α,(l.zip l).map (fun x=>f x.1) = l.map f
 | []=>rfl
 | a :: l=>by rw [XT,V8,V8,mq f l]
theorem i8 {α:Type} {x:α × α}:∀ {l:List α},x ∈ l.zip l->x.1 ∈ l /\ x.1 = x.2
 | [],h=>by cases h
 | a :: l,h=>by
  rw [XT] at h
  rcases VT.mp h with rfl | h
  ·exact ⟨VR,rfl⟩
  ·obtain ⟨h1,h2⟩:=i8 h
   exact ⟨VQ _ h1,h2⟩
theorem mem_zip_self {α:Type} {x:α}:∀ {l:List α},x ∈ l->(x,x) ∈ l.zip l
 | a :: l,h=>by
  rw [XT]
  rcases VT.mp h with rfl | h
  ·exact VR
  ·exact VQ _ (mem_zip_self h)
theorem Ca {κ:SortKind} (hκ:κ = tuples' true \/ κ = oneType' \/ κ = general') {us:List Value} {gs:List (List Int)} (hu:A.units < cLine) (hk:Paired (uz s.heap) us gs) (nd:gs.Nodup) :
  wpAny (model prog w) A ((sortRuns').run (SortSt.mk' κ (us.toArray.zip us.toArray) #[] 7 none)) (fun r s2=>s2 = s /\ failedOf r.2 = none /\ (arrOf r.2).map (·.2) = ((lE gs).map fun i=>us.getD i Value.none).toArray) E s:=by
 have lp:us.length = gs.length:=hk.length
 have zl:(us.toArray.zip us.toArray).toList = us.zip us:=by simp
 have gm:=yE hk
 have BY:(us.zip us).map (fun x=>u7 gs (fD s.heap x.1)) = gs.map (u7 gs):=by
  rw [mq (fun v=>u7 gs (fD s.heap v)) us]
  have e:=W0 (List.map (u7 gs)) gm
  rw [Wx] at e
  exact e
 have Pc:∀ i,i < gs.length->fD s.heap (us.getD i Value.none) = gs.getD i []:=fun i hi=>by
  have e:(us.map (fD s.heap))[i]? = gs[i]?:=by rw [gm]
  rw [V3,VS (by omega),VS hi] at e
  rw [V7,V7,VS (show i < us.length by omega),VS hi]
  exact WM e
 have JV:(gs.map (u7 gs)).Nodup:=by
  refine List.Pairwise.map _ (R:=fun p q=>p ∈ gs /\ q ∈ gs /\ p ≠ q) (fun p q h e=>?_) ?_
  ·have e1:=pM (k:=q) h.1
   have e2:=pM (k:=p) h.2.1
   rw [e] at e1 e2
   rw [We (WX _)] at e1
   rw [We (WX _)] at e2
   have:=kJ h.2.2 e1.symm
   rw [<- e2] at this
   cases this
  ·exact Xp (fun {p q} hp hq rM=>⟨hp,hq,rM⟩) nd
 refine SO.wY (prog:=prog) (w:=w) (A:=A) (E:=E) (s:=s) (rk:=fun x=>u7 gs (fD s.heap x.1)) (S:=fun x=>∃ g ∈ gs,uz s.heap x.1 g) (kd:=κ) (a₀:=us.toArray.zip us.toArray) (st:=SortSt.mk' κ (us.toArray.zip us.toArray) #[] 7 none)
  (Q:=fun _ st=>failedOf st = none /\ (arrOf st).map (·.2) = ((lE gs).map fun i=>us.getD i Value.none).toArray) ?cmp ?mem ?nd rfl rfl rfl rfl ?fin
 case cmp =>
  intro x y st Q hx hy kk q
  obtain ⟨p,hp,e1⟩:=hx
  obtain ⟨p',Si,e2⟩:=hy
  have ee:decide (u7 gs (fD s.heap x.1) < u7 gs (fD s.heap y.1)) = HT.lexLt p p':=by rw [qd e1,qd e2,pM hp]
  have q:Q (some (decide (u7 gs (fD s.heap x.1) < u7 gs (fD s.heap y.1)))) st:=q
  rw [ee] at q
  rw [lt'_eq]
  refine VX (wpS_get ?_)
  refine VX (wpS_lift ?_)
  rw [kk]
  obtain ⟨a,ea,ta⟩:=e1
  obtain ⟨b,eb,tb⟩:=e2
  rw [ea,eb]
  refine XI (BM hκ hu ta tb ?_)
  exact ⟨rfl,V5 q⟩
 case mem =>
  intro x hx
  rw [zl] at hx
  exact vD hk (i8 hx).1
 case nd=>rw [zl,BY]; exact JV
 case fin =>
  intro st hp hf hs
  rw [zl] at hp
  refine ⟨hf,?_⟩
  have vX:((arrOf st).toList.map fun x=>u7 gs (fD s.heap x.1)).Nodup:=(hp.map fun x=>u7 gs (fD s.heap x.1)).nodup_iff.mpr (by rw [BY]; exact JV)
  have Sd:(arrOf st).toList.Pairwise fun x y=>u7 gs (fD s.heap x.1) < u7 gs (fD s.heap y.1):=by
   refine List.Pairwise.imp (fun {x y} h=>?_) (hs.and (WK.mp vX))
   exact Nat.lt_of_le_of_ne h.1 h.2
  have IX:((lE gs).map fun i=>(us.getD i Value.none,us.getD i Value.none)).Pairwise fun x y=>u7 gs (fD s.heap x.1) < u7 gs (fD s.heap y.1):=by
   rw [WK]
   refine Xp (fun {i j} hi hj h=>?_) (oQ nd)
   rw [Pc i (ip hi),Pc j (ip hj)]
   have m:gs.getD i [] ∈ gs:=by
    rw [V7,VS (ip hi)]
    exact Xn _
   exact Wi ((pM m).trans h)
  have e:=Cv Sd IX fun x=>by
   rw [hp.mem_iff]
   constructor
   ·intro hx
    obtain ⟨h1,h2⟩:=i8 hx
    obtain ⟨i,hi,e⟩:=W1.mp h1
    refine Wq.mpr ⟨i,(iP gs).mem_iff.mpr (List.mem_range.mpr (by omega)),?_⟩
    rw [V7,VS hi]
    show (us[i],us[i]) = x
    rw [e]
    exact Prod.ext rfl h2
   ·intro hx
    obtain ⟨i,hi,e⟩:=Wq.mp hx
    have rL:i < us.length:=by rw [lp]; exact ip hi
    rw [<- e,V7,VS rL]
    exact mem_zip_self (Xn rL)
  apply Array.ext'
  rw [Array.toList_map,e,Wx]
  simp
end
section
variable {X:Cx}
theorem js (hu:X.A.units + 64 < cLine):dI X (.builtin "sorted") (fun xs H Q=>∃ (p:Addr) (gs:List (List Int)) (vs:List V),xs = [.ref p] /\ H p = some (.lst vs) /\ bK H (gs.map fun g=>.tuple (g.map PyData.int)) vs /\ gs.Nodup /\
  ∀ (l:Addr) (pj:List V),H l = none->bK H ((AT gs).map fun g=>.tuple (g.map PyData.int)) pj->Q (.ref l) (upd H l (.lst pj))):=by
 intro pins s σ H xs us Q I r h
 obtain ⟨p,gs,vs,rfl,hp,dv,nd,q⟩:=h
 obtain ⟨u,rfl,ru⟩:=vals1 r
 cases ru
 obtain ⟨hz,aH,n,rv,eo⟩:=I.ba p _ hp
 have ln:aH.length = gs.length:=by rw [<- rv.length,<- dv.length,VO]
 have lv:vs.length = gs.length:=by rw [<- dv.length,VO]
 have lo:(lE gs).length = gs.length:=by rw [(iP gs).length_eq,List.length_range]
 refine zO (T:="list") (out:=(lE gs).map fun i=>aH.getD i Value.none) (.inl rfl) eo rfl rfl (by omega) (by rw [VO,lo,ln]) (fun h=>?_) (fun h2 h' kp=>?_) ?_
 ·have e:lE gs = List.range gs.length:=by
   unfold lE
   have:gs.length = 0 \/ gs.length = 1:=by omega
   rcases this with z | z <;> rw [z] <;> simp [List.range_succ]
  rw [e,<- ln,jd]
 ·have QH:jN X.prog X.w H h':=I.ba.kept kp
  obtain ⟨fs,h1,h3,h4⟩:=wb QH dv rv
  refine HH h1 (by omega) h3 fun κ hκ=>⟨rfl,?_⟩
  exact Ca hκ (by show X.A.units + 1 + 1 < cLine; omega) h4 nd
 ·obtain ⟨e,he⟩:=sortedAll_at s.heap aH ((lE gs).map fun i=>aH.getD i Value.none).toArray
  refine ⟨.ref (s.heap.objs.size + 1),_,I.laid (t':=s.toks) (o:=.lst ((lE gs).map fun i=>vs.getD i .dR)) (fun b o hb=>sortedAll_old hb) (XD _) ⟨by rw [VO,lo]; omega,_,e,sT rv _ (fun i hi=>by rw [lv]; exact ip hi),he⟩,rfl,q _ _ (I.ba.fresh (XD _)) (wO dv _ fun i hi=>ip hi)⟩
end
abbrev Old (h:Heap) (s:Shared):Prop:=∀ a u,h.get? a = some u->s.heap.get? a = some u
def Gk (P:Program) (w:World) (A:Around) (h:Heap) (aH:Array Value) (less:Nat->Nat->Bool):Prop :=
 ∀ (i j:Nat) (x y:Value) (s:Shared) (Q E:Value->Shared->Prop),aH[i]? = some x->aH[j]? = some y->i ≠ j->Old h s->Q (.bool (less i j)) s->wpAny (model P w) A (richCompare .Lt x y) Q E s
section
variable {P:Program} {w:World} {A:Around} {h:Heap} {l I S:Addr} {aH:Array Value} {less:Nat->Nat->Bool} {R:Result->Shared->Prop}
abbrev DL (x:Value) (c:Nat):Obj:={ cls:=.type "list",dict:=none,data:=.seq #[x,x] c,slots:=#[] }
theorem Ab (hh:A.in1.handled = none) (hl:l ≠ I) (hS:S ≠ I) (Jl:S ≠ l) (hI:h.get? I = none) (IP:h.get? S = none) (ask:Gk P w A.in1 h aH less):∀ (k j:Nat) (s:Shared) (x:Value) (c:Nat),aH.size - (j + 1) = k->j + 1 <= aH.size ->
  (s.heap.IsListIter I l (j + 1) /\ s.heap.IsList l aH)->aH[argBest less j]? = some x->s.heap.get? S = some (DL x c)->Old h s ->
  (∀ x' h' t',aH[argBest less (aH.size - 1)]? = some x'->(∀ a u,h.get? a = some u->h'.get? a = some u)->R (.ok (.ret x')) { s with heap:=h',toks:=t' }) ->
  codeAny (model P w) A (.builtin "min.loop" ⟨[.ref I,.none,.ref S],[]⟩) R s:=by
 have W:=Walks.list (prog:=P) (w:=w) hh I l hl aH
 have nm:("min" ++ ".loop":String) = "min.loop":=by decide
 have Jg:S ∉ [I]:=fun z=>hS (Wo.mp z)
 have outF:∀ b ∈ [I,l],S ≠ b:=fun b hb z=>by
  rcases VT.mp hb with e | e
  ·exact hS (z.trans e)
  ·exact Jl (z.trans (Wo.mp e))
 intro k
 induction k with
 | zero =>
  intro j s x c ek ej st hx hs old fin
  have en:j + 1 = aH.size:=by omega
  refine codeAny_builtin F.entry_min_loop ?_
  rw [Around.under_plainId F.plain_min_loop]
  show wpAny _ _ (seqItems? (Value.ref S) >>= _) _ _ _
  refine VL (Xq hs rfl ?_)
  show wpAny _ _ (tryCatch (pyNext (Value.ref I)) _ >>= _) _ _ _
  rw [en] at st
  refine VL (wpAny_tryCatch (W.done s _ _ st fun h1 t1 kp=>?_))
  refine VL (wpAny_updateSeq (kp S _ Jg hs) rfl (VL (wpAny_letGo (VM ?_))))
  refine fin x _ t1 (by rw [<- en]; exact hx) fun a u e=>?_
  have na:a ≠ S:=fun z=>by rw [z,IP] at e; cases e
  have ni:a ∉ [I]:=fun z=>by rw [Wo.mp z,hI] at e; cases e
  exact (Heap.get?_update_other _ _ na.symm).trans (kp a u ni (old a u e))
 | succ k ih =>
  intro j s x c ek ej st hx hs old fin
  have lt:j + 1 < aH.size:=by omega
  have le:=lY less j
  refine codeAny_builtin F.entry_min_loop ?_
  rw [Around.under_plainId F.plain_min_loop]
  show wpAny _ _ (seqItems? (Value.ref S) >>= _) _ _ _
  refine VL (Xq hs rfl ?_)
  show wpAny _ _ (tryCatch (pyNext (Value.ref I)) _ >>= _) _ _ _
  refine VL (wpAny_tryCatch (W.item (j + 1) s _ _ lt st fun y h1 t1 hy LC kp=>?_))
  have MB:=kp S _ Jg hs
  have BX:∀ a u,h.get? a = some u->h1.get? a = some u:=fun a u e=>kp a u (fun z=>by rw [Wo.mp z,hI] at e; cases e) (old a u e)
  show wpAny _ _ (tryCatch (holding [y,y] (richCompare .Lt y x >>= _)) _ >>= _) _ _ _
  refine VL (wpAny_tryCatch (W2 (VL (ask (j + 1) (argBest less j) y x _ _ _ hy hx (by omega) BX ?_))))
  refine VL (W2 (WR (VL (wpAny_letGo (VM ?_)))))
  cases q:less (j + 1) (argBest less j) with
  | true =>
   have eb:argBest less (j + 1) = j + 1:=by unfold argBest; rw [if_pos q]
   simp only [Xe]
   refine VL (wpAny_updateSeq MB rfl (VL (wpAny_letGo ?_)))
   refine VM ⟨plainId_quiet F.plain_min_loop _,?_⟩
   refine ih (j + 1) _ y _ (by omega) lt (W.frame _ _ _ LC fun b hb u e=>(Heap.get?_update_other _ _ (outF b hb)).trans e) (by rw [eb]; exact hy) (Heap.get?_update_self _ MB rfl) (fun a u e=>?_) fun x' h' t' a1 a2=>fin x' h' t' a1 a2
   exact (Heap.get?_update_other _ _ (fun z=>by rw [<- z,IP] at e; cases e)).trans (BX a u e)
  | false =>
   have eb:argBest less (j + 1) = argBest less j:=by
    show (if less (j + 1) (argBest less j) = true then _ else _) = _
    rw [if_neg (by rw [q]; simp)]
   simp only [Wc,WH]
   refine VL (wpAny_letGo ?_)
   exact VM ⟨plainId_quiet F.plain_min_loop _,ih (j + 1) _ x c (by omega) lt LC (by rw [eb]; exact hx) MB BX fun x' h' t' a1 a2=>fin x' h' t' a1 a2⟩
end
section
variable {prog:Program} {w:World} {A:Around} {E:Value->Shared->Prop} {s:Shared}
def jl (h:Heap) (v:Value) (k:Int × List Int):Prop:=∃ a c t aH,v = .ref a /\ IsTup h a (Value.int k.1 t :: .ref c :: aH).toArray /\ ie h c k.2
theorem jl.old {h:Heap} {s:Shared} {v:Value} {k:Int × List Int} (x:jl h v k) (e:Old h s):jl s.heap v k:=by
 obtain ⟨a,c,t,aH,rfl,⟨o,ho,hc,n,hd⟩,Ni,rv,o2,lJ,DE,n2,hd2⟩:=x
 exact ⟨a,c,t,aH,rfl,⟨o,e _ _ ho,hc,n,hd⟩,Ni,rv,o2,e _ _ lJ,DE,n2,hd2⟩
theorem qf {x y:Value} {p q:Int × List Int} {R:PySem.Fin->Shared->Prop} (hu:A.units < cLine) (hx:jl s.heap x p) (hy:jl s.heap y q) (ne:p.2 ≠ q.2) (h:R (.done (.ret (.bool (aJ p q)))) s) :
  wpAny (model prog w) A (Builtin.«tuple.__lt__» ⟨[x,y],[]⟩) R E s:=by
 obtain ⟨a,c,t,xs,rfl,⟨oa,Bd,HN,na,Bk⟩,tc⟩:=hx
 obtain ⟨b,d,t',ys,rfl,⟨ob,rK,Qk,nb,rn⟩,td⟩:=hy
 have Kf:s.TypeIs (.ref b) "tuple":=⟨ob,rK,Qk⟩
 show wpAny _ _ (isInstance (.ref b) (.type "tuple") >>= _) _ _ _
 refine VL (Xm Kf isSubtype_tuple_tuple ?_)
 simp only [WQ,Wc,WH]
 refine VL (Yp Bd Bk (VL (Yp rK rn ?_)))
 refine VL ?_
 simp only [XT]
 rw [W8]
 refine VL (VL (Ya ?_))
 unfold aJ at h
 by_cases e:p.1 = q.1
 ·rw [if_pos e] at h
  rw [show (p.1 == q.1) = true from XH.mpr e]
  simp only [WQ,Wc,WH]
  refine VM ?_
  dsimp only
  rw [W8]
  refine VL (VL (jV hu tc td ?_))
  rw [We ne]
  simp only [Bool.not_false,Xe]
  refine VL (Xl (VL (wz hu tc td ?_)))
  exact VL (VM (VM (VM (VM h))))
 ·rw [if_neg e] at h
  rw [show (p.1 == q.1) = false from WY.mpr e]
  simp only [Bool.not_false,Xe]
  refine VL (Xl (VL (show wpAny (model prog w) A (compareOp .Lt (.int p.1 t) (.int q.1 t')) _ E s from lt_int ?_)))
  exact VL (VM (VM (VM (VM h))))
theorem AK {x y:Value} {p q:Int × List Int} {Q:Value->Shared->Prop} (hu:A.units + 8 < cLine) (hx:jl s.heap x p) (hy:jl s.heap y q) (ne:p.2 ≠ q.2) (h:Q (.bool (aJ p q)) s) :
  wpAny (model prog w) A (richCompare .Lt x y) Q E s:=by
 have tx:s.TypeIs x "tuple":=by
  obtain ⟨a,_,_,_,rfl,⟨o,ho,hc,_⟩,_⟩:=hx
  exact ⟨o,ho,hc⟩
 have ty:s.TypeIs y "tuple":=by
  obtain ⟨a,_,_,_,rfl,⟨o,ho,hc,_⟩,_⟩:=hy
  exact ⟨o,ho,hc⟩
 exact wpAny_richCompare_same_room (op:=.Lt) tx ty F.slot_tuple_lt
  (Wt F.slot_tuple_lt tx F.entry_tuple_lt (qf (by show A.units + 1 < cLine; omega) hx hy ne ⟨_,rfl,(fun e=>nomatch e),h⟩) (F.args_tuple_lt_2 _ _)) (by omega)
theorem Cw {l:Addr} {aH:Array Value} {less:Nat->Nat->Bool} {Q:Value->Shared->Prop} (hh:A.handled = none) (hl:s.heap.IsList l aH) (h0:0 < aH.size) (ask:Gk prog w A.in1 s.heap aH less)
  (h:∀ x h' t',aH[argBest less (aH.size - 1)]? = some x->(∀ a u,s.heap.get? a = some u->h'.get? a = some u)->Q x { s with heap:=h',toks:=t' }):wpAny (model prog w) A (call (.builtin "min") [.ref l]) Q E s:=by
 have lt:l < s.heap.objs.size:=let ⟨_,e,_⟩:=hl; V4 e
 refine call_function_tree F.kind_min F.plain_min F.entry_min (F.args_min1 _) ?_
 refine VL (m:=Builtin.Builtins.bindParams "min" ["key","default"] 0 ⟨[],[]⟩) (wpAny_of_eq (a:=[none,none]) rfl (VL (VM ?_)))
 refine VL (oq hl fun s2 e2 st rM old=>?_)
 subst e2
 refine VL (Wz ?_)
 have W:=Walks.list (prog:=prog) (w:=w) (A:=A.in1) hh s.heap.objs.size l rM aH
 have sz:(s.heap.push { cls:=.type "list_iterator",data:=.fields #[.ref l,.int 0 0] }).objs.size = s.heap.objs.size + 1:=XN ..
 have nm:(toString "min" ++ toString ".loop":String) = "min.loop":=by decide
 rw [nm]
 refine VM ⟨plainId_quiet F.plain_min_loop _,codeAny_builtin F.entry_min_loop ?_⟩
 rw [Around.under_plainId F.plain_min_loop]
 have hS:((s.heap.push { cls:=.type "list_iterator",data:=.fields #[.ref l,.int 0 0] }).push { cls:=.type "list",data:=.seq #[] }).get? (s.heap.push { cls:=.type "list_iterator",data:=.fields #[.ref l,.int 0 0] }).objs.size = some { cls:=.type "list",data:=.seq #[] }:=VY _ rfl
 have Ls:(s.heap.push { cls:=.type "list_iterator",data:=.fields #[.ref l,.int 0 0] }).objs.size ≠ s.heap.objs.size:=by rw [sz]; exact Nat.succ_ne_self _
 have Jl:(s.heap.push { cls:=.type "list_iterator",data:=.fields #[.ref l,.int 0 0] }).objs.size ≠ l:=by rw [sz]; exact X8 (Nat.lt_succ_of_lt lt)
 have IP:s.heap.get? (s.heap.push { cls:=.type "list_iterator",data:=.fields #[.ref l,.int 0 0] }).objs.size = none:=XF (by rw [sz]; exact XD _)
 generalize (s.heap.push { cls:=.type "list_iterator",data:=.fields #[.ref l,.int 0 0] }).objs.size = S at hS Ls Jl IP ⊢
 show wpAny _ _ (seqItems? (Value.ref S) >>= _) _ _ _
 refine VL (Xq hS rfl ?_)
 show wpAny _ _ (tryCatch (pyNext (Value.ref s.heap.objs.size)) _ >>= _) _ _ _
 refine VL (wpAny_tryCatch (W.item 0 _ _ _ h0 (W.frame _ _ _ st fun b _ u e=>VN _ e) fun y h1 t1 hy LC kp=>?_))
 have Pj:=kp S _ (fun z=>Ls (Wo.mp z)) hS
 have BX:∀ a u,s.heap.get? a = some u->h1.get? a = some u:=fun a u e=>kp a u (fun z=>by
  rw [Wo.mp z] at e
  exact absurd (V4 e) (WX _)) (VN _ (VN _ e))
 show wpAny _ _ (updateSeq S (fun _=>#[y,y]) >>= _) _ _ _
 refine VL ?_
 refine wpAny_updateSeq Pj rfl ?_
 rw [nm]
 refine VM ⟨plainId_quiet F.plain_min_loop _,Ab (h:=s.heap) (l:=l) (I:=s.heap.objs.size) (S:=S) hh rM Ls Jl (XF (VP _)) IP ask _ 0 _ y _ rfl h0 (W.frame _ _ _ LC fun b hb u e=>?_) hy (Heap.get?_update_self _ Pj rfl) (fun a u e=>?_) fun x' h' t' a1 a2=>h x' h' t' a1 a2⟩
 ·refine (Heap.get?_update_other _ _ fun z=>?_).trans e
  rcases VT.mp hb with q | q
  ·exact Ls (z.trans q)
  ·exact Jl (z.trans (Wo.mp q))
 ·exact (Heap.get?_update_other _ _ (fun z=>by rw [<- z,IP] at e; cases e)).trans (BX a u e)
theorem sW {α β:Type} {R:α->β->Prop}:∀ {l:List α} {m:List β} {i:Nat} {x:α},Paired R l m->l[i]? = some x->∃ y,m[i]? = some y /\ R x y
 | [],_,_,_,.nil,e=>by simp at e
 | _ :: _,_ :: _,0,x,.cons h _,e=>by simp at e; subst e; exact ⟨_,rfl,h⟩
 | _ :: _,_ :: _,i + 1,x,.cons _ r,e=>by
  obtain ⟨y,h1,h2⟩:=sW (i:=i) (x:=x) r (by simpa using e)
  exact ⟨y,by simpa using h1,h2⟩
end
theorem oS {ks:List (Int × List Int)}:∀ (n:Nat),n < ks.length->∀ j,j <= n->(ks.getD (argBest (fun i j=>aJ (ks.getD i (0,[])) (ks.getD j (0,[]))) n) (0,[])).1 <= (ks.getD j (0,[])).1
 | 0,_,j,hj=>by
  have:j = 0:=by omega
  subst this; exact Int.le_refl _
 | n + 1,hn,j,hj=>by
  have ih:=oS (ks:=ks) n (by omega)
  unfold argBest
  generalize argBest (fun i j=>aJ (ks.getD i (0,[])) (ks.getD j (0,[]))) n = b at ih ⊢
  have less:∀ {p q:Int × List Int},aJ p q = true->p.1 <= q.1:=fun {p q} h=>by
   unfold aJ at h
   by_cases e:p.1 = q.1
   ·omega
   ·rw [if_neg e] at h; have:=Wi h; omega
  have JU:∀ {p q:Int × List Int},aJ p q = false->q.1 <= p.1:=fun {p q} h=>by
   unfold aJ at h
   by_cases e:p.1 = q.1
   ·omega
   ·rw [if_neg e] at h; have:=of_decide_eq_false h; omega
  split
  ·rename_i h
   by_cases e:j = n + 1
   ·subst e; exact Int.le_refl _
   ·have:=ih j (by omega)
    have:=less h
    omega
  ·rename_i h
   by_cases e:j = n + 1
   ·subst e; exact JU (by simpa using h)
   ·exact ih j (by omega)
section
variable {X:Cx}
def G5 (H:Hp) (v:V) (k:Int × List Int):Prop:=∃ a b rest,v = .ref a /\ H a = some (.tup (.int k.1 :: .ref b :: rest)) /\ H b = some (.tup (k.2.map V.int))
theorem Ay {P:Program} {w:World} {H:Hp} {h:Heap} (ok:jN P w H h) {v:V} {u:Value} {k:Int × List Int} (x:G5 H v k) (r:RelV v u):jl h u k:=by
 obtain ⟨a,b,rest,rfl,h1,h2⟩:=x
 cases r
 obtain ⟨_,aH,rv,o,ho,hc,n,hd⟩:=ok a _ h1
 obtain ⟨_,Ni,KL,t2⟩:=ok b _ h2
 cases rv with
 | cons ra rb =>
  obtain ⟨t,rfl⟩:=ra
  cases rb with
  | cons rc rd =>
   cases rc
   exact ⟨a,b,t,_,rfl,⟨o,ho,hc,n,hd⟩,Ni,KL,t2⟩
theorem AL (hc:X.calm = true) (hu:X.A.units + 64 < cLine):dI X (.builtin "min") (fun xs H Q=>∃ (p:Addr) (vs:List V) (ks:List (Int × List Int)),xs = [.ref p] /\ aZ X.K H p vs /\ Paired (G5 H) vs ks /\ (ks.map (·.2)).Nodup /\ vs ≠ [] /\
  ∀ (i:Nat) (v:V) (k:Int × List Int),vs[i]? = some v->ks[i]? = some k->(∀ k' ∈ ks,k.1 <= k'.1)->Q v H):=by
 intro pins s σ H xs us Q I r h
 obtain ⟨p,vs,ks,rfl,hp,pr,nd,ne,q⟩:=h
 obtain ⟨u,rfl,ru⟩:=vals1 r
 cases ru
 obtain ⟨aH,rv,pl,_⟩:=I.list hp
 have l1:vs.length = aH.length:=rv.length
 have l2:vs.length = ks.length:=pr.length
 have lp:0 < vs.length:=Yf.mpr ne
 have bg:∀ (i:Nat) (x:Value),aH[i]? = some x->jl s.heap x (ks.getD i (0,[])) /\ i < ks.length:=fun i x hx=>by
  have hi:i < aH.length:=(Wa.mp hx).1
  have hv:vs[i]? = some (vs[i]'(by omega)):=VS (by omega)
  obtain ⟨u',u3,N0⟩:=rv.get hv
  rw [hx] at u3
  cases u3
  obtain ⟨k,hk,kp⟩:=sW pr hv
  refine ⟨?_,by omega⟩
  rw [V7,hk]
  exact Ay I.ba kp N0
 have gd:∀ {i:Nat},i < ks.length->ks[i]? = some (ks.getD i (0,[])):=fun {i} hi=>by rw [V7,VS hi]; rfl
 refine Cw (less:=fun i j=>aJ (ks.getD i (0,[])) (ks.getD j (0,[]))) (I.ok.hd hc) pl.isList (by rw [V2]; omega) (fun i j x y s' Q' E' hx hy Bh old hq=>?_) fun x h' t' hx kp=>?_
 ·obtain ⟨b1,i1⟩:=bg i x (by simpa using hx)
  obtain ⟨b2,i2⟩:=bg j y (by simpa using hy)
  refine AK (by show X.A.units + 1 + 8 < cLine; omega) (b1.old old) (b2.old old) (fun e=>Bh ?_) hq
  refine mj nd (by rw [VO]; exact i1) (by rw [VO]; exact i2) ?_
  rw [List.getElem_map,List.getElem_map]
  have e1:=gd i1
  have e2:=gd i2
  rw [VS i1] at e1
  rw [VS i2] at e2
  rw [WM e1,WM e2]
  exact e
 ·rw [V2] at hx
  have oR:aH[argBest (fun i j=>aJ (ks.getD i (0,[])) (ks.getD j (0,[]))) (aH.length - 1)]? = some x:=by simpa using hx
  have ab:=oS (ks:=ks) (aH.length - 1) (by omega)
  generalize argBest (fun i j=>aJ (ks.getD i (0,[])) (ks.getD j (0,[]))) (aH.length - 1) = b at oR ab
  have hb:b < aH.length:=(Wa.mp oR).1
  have hv:vs[b]? = some (vs[b]'(by omega)):=VS (by omega)
  obtain ⟨u',u3,N0⟩:=rv.get hv
  rw [oR] at u3
  cases u3
  refine ⟨_,H,I.kept (t':=t') kp,N0,q b _ _ hv (gd (by omega)) fun k' Oa=>?_⟩
  obtain ⟨j,hj,e⟩:=W1.mp Oa
  have:=ab j (by omega)
  rw [V7 (i:=j),VS hj,e] at this
  exact this
end
end L2
namespace Sh
section
variable {α:Type} [DecidableEq α]
abbrev Mp (α:Type):=List (α × Int)
def lk (f:Mp α) (k:α):Option Int:=(f.find? fun x=>decide (x.1 = k)).map (·.2)
def put (f:Mp α) (k:α) (v:Int):Mp α:=if (lk f k).isSome then f.map (fun x=>if x.1 = k then (x.1,v) else x) else f ++ [(k,v)]
def eqB (f g:Mp α):Bool:=f.length == g.length && f.all fun p=>decide (lk g p.1 = some p.2)
theorem tO (k:α):lk [] k = none:=rfl
theorem fU (p:α × Int) (f:Mp α) (k:α):lk (p :: f) k = if p.1 = k then some p.2 else lk f k:=by
 unfold lk
 rw [Xv]
 by_cases e:p.1 = k
 ·rw [if_pos e,V0 e]; rfl
 ·rw [if_neg e,We e]
theorem zn {f:Mp α} {k:α} {v:Int} (h:lk f k = some v):(k,v) ∈ f:=by
 induction f with
 | nil=>rw [tO] at h; cases h
 | cons p f ih =>
  rw [fU] at h
  by_cases e:p.1 = k
  ·rw [if_pos e] at h
   cases h
   rw [<- e]; exact VR
  ·rw [if_neg e] at h
   exact VQ _ (ih h)
theorem uu {f:Mp α} {k:α} {v:Int} (h:lk f k = some v):k ∈ f.map (·.1):=WI (f:=fun x:α × Int=>x.1) (zn h)
theorem zx {f:Mp α} {k:α}:lk f k = none ↔ k ∉ f.map (·.1):=by
 induction f with
 | nil=>simp [tO]
 | cons p f ih =>
  rw [fU,V8,VT]
  by_cases e:p.1 = k
  ·rw [if_pos e]; simp [e]
  ·rw [if_neg e,ih]
   exact ⟨fun h z=>z.elim (fun z=>e z.symm) h,fun h z=>h (.inr z)⟩
theorem Gb {f:Mp α} (nd:(f.map (·.1)).Nodup) {p:α × Int} (h:p ∈ f):lk f p.1 = some p.2:=by
 induction f with
 | nil=>cases h
 | cons q f ih =>
  rw [V8,WW] at nd
  rw [fU]
  rcases VT.mp h with e | h
  ·rw [if_pos (by rw [e]),e]
  ·rw [if_neg (fun e=>nd.1 (by rw [e]; exact WI (f:=fun x:α × Int=>x.1) h))]
   exact ih nd.2 h
theorem Is (f g:Mp α) (k:α):lk (f ++ g) k = (lk f k).or (lk g k):=by
 induction f with
 | nil=>rfl
 | cons p f ih =>
  rw [List.cons_append,fU,fU,ih]
  by_cases e:p.1 = k
  ·rw [if_pos e,if_pos e]; rfl
  ·rw [if_neg e,if_neg e]
theorem DM (f:Mp α) (k j:α) (v:Int):lk (f.map fun x=>if x.1 = k then (x.1,v) else x) j = if j = k then (lk f j).map (fun _=>v) else lk f j:=by
 induction f with
 | nil=>by_cases e:j = k <;> simp [e,tO]
 | cons p f ih =>
  rw [V8,fU,fU,ih]
  by_cases e1:p.1 = k
  ·rw [if_pos e1]
   by_cases e2:j = k
   ·simp [e2,e1]
   ·have:¬ p.1 = j:=fun z=>e2 (z.symm.trans e1)
    simp [this,e2]
  ·rw [if_neg e1]
   by_cases e2:j = k
   ·have:¬ p.1 = j:=fun z=>e1 (z.trans e2)
    rw [if_pos e2,if_neg this,if_pos e2,if_neg this]
   ·simp [e2]
theorem lD (f:Mp α) (k j:α) (v:Int):lk (put f k v) j = if j = k then some v else lk f j:=by
 unfold put
 by_cases h:(lk f k).isSome = true
 ·rw [if_pos h,DM]
  by_cases e:j = k
  ·rw [if_pos e,if_pos e,e]
   cases q:lk f k with
   | none=>rw [q] at h; cases h
   | some u=>rfl
  ·rw [if_neg e,if_neg e]
 ·rw [if_neg h,Is,fU]
  have h':lk f k = none:=by cases q:lk f k with
   | none=>rfl
   | some u=>rw [q] at h; exact absurd rfl h
  by_cases e:j = k
  ·rw [if_pos e,if_pos e.symm,e,h']; rfl
  ·rw [if_neg e,if_neg (fun z=>e z.symm),tO]
   cases lk f j <;> rfl
theorem tD (f:Mp α) (k:α) (v:Int):(f.map fun x=>if x.1 = k then (x.1,v) else x).map (·.1) = f.map (·.1):=by
 rw [Wx]
 refine Ye fun x _=>?_
 show (if x.1 = k then (x.1,v) else x).1 = x.1
 by_cases e:x.1 = k
 ·rw [if_pos e]
 ·rw [if_neg e]
theorem tH {f:Mp α} {k:α} {v:Int} (nd:(f.map (·.1)).Nodup):((put f k v).map (·.1)).Nodup:=by
 unfold put
 by_cases h:(lk f k).isSome = true
 ·rw [if_pos h,tD]; exact nd
 ·rw [if_neg h,VV,List.nodup_append]
  refine ⟨nd,by simp,fun a ha b hb e=>?_⟩
  have e2:b = k:=by simpa using hb
  have h':lk f k = none:=by cases q:lk f k with
   | none=>rfl
   | some u=>rw [q] at h; exact absurd rfl h
  exact zx.mp h' (by rw [<- e2,<- e]; exact ha)
theorem wj {f:Mp α} {k j:α} {v:Int} (h:j ∈ (put f k v).map (·.1)):j ∈ f.map (·.1) \/ j = k:=by
 unfold put at h
 by_cases h':(lk f k).isSome = true
 ·rw [if_pos h',tD] at h; exact .inl h
 ·rw [if_neg h',VV,Wh] at h
  exact h.imp id fun z=>by simpa using z
theorem sub_len:∀ {l m:List α},l.Nodup->(∀ x ∈ l,x ∈ m)->l.length <= m.length
 | [],_,_,_=>Wl _
 | a :: l,m,nd,h=>by
  rw [WW] at nd
  have ha:=h a VR
  have:=sub_len (m:=m.erase a) nd.2 fun x hx=>(List.mem_erase_of_ne (fun e=>nd.1 (by rw [<- e]; exact hx))).mpr (h x (VQ _ hx))
  rw [List.length_erase_of_mem ha] at this
  have:=List.length_pos_of_mem ha
  simp only [WE]
  omega
theorem EB {l m:List α} (nd:l.Nodup) (h:∀ x ∈ l,x ∈ m) (hl:m.length <= l.length):∀ x ∈ m,x ∈ l:=by
 intro x hx
 by_cases q:x ∈ l
 ·exact q
 ·have:=sub_len (l:=l) (m:=m.erase x) nd fun y hy=>(List.mem_erase_of_ne (fun e=>q (by rw [<- e]; exact hy))).mpr (h y hy)
  rw [List.length_erase_of_mem hx] at this
  have:=List.length_pos_of_mem hx
  omega
theorem By {f g:Mp α} (nf:(f.map (·.1)).Nodup) (h:eqB f g = true) (k:α):lk f k = lk g k:=by
 unfold eqB at h
 rw [Wu] at h
 have hl:f.length = g.length:=eq_of_beq h.1
 have ha:∀ p ∈ f,lk g p.1 = some p.2:=fun p hp=>Wi (WP.mp h.2 p hp)
 cases q:lk f k with
 | some v=>exact (ha _ (zn q)).symm
 | none =>
  cases q2:lk g k with
  | none=>rfl
  | some v =>
   have:=EB (l:=f.map (·.1)) (m:=g.map (·.1)) nf (fun x hx=>by
    obtain ⟨p,hp,rfl⟩:=Wq.mp hx
    exact uu (ha p hp)) (by rw [VO,VO]; omega) k (uu q2)
   exact absurd this (zx.mp q)
theorem BA {f g:Mp α} (nf:(f.map (·.1)).Nodup) (ng:(g.map (·.1)).Nodup) (h:∀ k,lk f k = lk g k):eqB f g = true:=by
 unfold eqB
 have sub:∀ {f g:Mp α},(f.map (·.1)).Nodup->(∀ k,lk f k = lk g k)->f.length <= g.length:=fun {f g} nf h=>by
  have:=sub_len (l:=f.map (·.1)) (m:=g.map (·.1)) nf fun x hx=>by
   obtain ⟨p,hp,rfl⟩:=Wq.mp hx
   have e:=Gb nf hp
   rw [h] at e
   exact uu e
  rwa [VO,VO] at this
 rw [Wu]
 refine ⟨XH.mpr (Nat.le_antisymm (sub nf h) (sub ng fun k=>(h k).symm)),WP.mpr fun p hp=>V0 ?_⟩
 rw [<- h]; exact Gb nf hp
inductive Walk (E:α->Int->α->Prop) (e:α):α->Int->Prop
 | nil:Walk E e e 0
 | cons {s b:α} {m v:Int}:E s m b->Walk E e b v->Walk E e s (m + v)
variable {E:α->Int->α->Prop} {e:α}
def Sound (E:α->Int->α->Prop) (e:α) (f:Mp α):Prop:=∀ s v,lk f s = some v->Walk E e s v
def lT (E:α->Int->α->Prop) (f:Mp α):Prop:=∀ s m b v,E s m b->lk f b = some v->∃ u,lk f s = some u /\ u <= m + v
def Based (e:α) (f:Mp α):Prop:=∃ u,lk f e = some u /\ u <= 0
def Later (E:α->Int->α->Prop):Prop:=∀ s m b,E s m b->1 <= m
theorem Walk.nonneg (hE:Later E) {s:α} {v:Int} (w:Walk E e s v):0 <= v:=by
 induction w with
 | nil=>exact Int.le_refl _
 | cons h _ ih=>have:=hE _ _ _ h; omega
theorem best {f:Mp α} (hc:lT E f) (hb:Based e f) {s:α} {m:Int} (w:Walk E e s m):∃ u,lk f s = some u /\ u <= m:=by
 induction w with
 | nil=>exact hb
 | cons h _ ih =>
  obtain ⟨u,h1,h2⟩:=ih
  obtain ⟨u',h3,h4⟩:=hc _ _ _ _ h h1
  exact ⟨u',h3,by omega⟩
theorem agree {f g:Mp α} (sf:Sound E e f) (cf:lT E f) (bf:Based e f) (sg:Sound E e g) (cg:lT E g) (bg:Based e g) (s:α):lk f s = lk g s:=by
 cases h1:lk f s with
 | some v =>
  obtain ⟨u,h2,h3⟩:=best cg bg (sf s v h1)
  obtain ⟨v',h4,h5⟩:=best cf bf (sg s u h2)
  rw [h1] at h4
  cases h4
  rw [h2,show u = v by omega]
 | none =>
  cases h2:lk g s with
  | none=>rfl
  | some u =>
   obtain ⟨v',h4,_⟩:=best cf bf (sg s u h2)
   rw [h1] at h4
   cases h4
def it {β:Type} (step:β->β):Nat->β->β
 | 0,x=>x
 | n + 1,x=>step (it step n x)
theorem FT {β:Type} (step:β->β):∀ n x,it step n (step x) = step (it step n x)
 | 0,_=>rfl
 | n + 1,x=>by show step (it step n (step x)) = _; rw [FT step n x]; rfl
theorem FM {β:Type} (m1 m2:β->Nat) (step:β->β) (P:β->Prop) (stop:β->Bool) (inv:∀ x,P x->P (step x))
  (dec:∀ x,P x->stop x = false->m1 (step x) < m1 x \/ (m1 (step x) <= m1 x /\ m2 (step x) < m2 x)):∀ x,P x->∃ n,stop (it step n x) = true:=by
 have go:∀ a b x,P x->m1 x <= a->m2 x <= b->∃ n,stop (it step n x) = true:=by
  intro a
  induction a using Nat.strongRecOn with
  | ind a O8 =>
   intro b
   induction b using Nat.strongRecOn with
   | ind b RT =>
    intro x hx h1 h2
    cases q:stop x with
    | true=>exact ⟨0,q⟩
    | false =>
     have:∃ n,stop (it step n (step x)) = true:=by
      rcases dec x hx q with d | ⟨d1,d2⟩
      ·exact O8 (m1 (step x)) (by omega) (m2 (step x)) (step x) (inv x hx) (VP _) (VP _)
      ·by_cases hb:m1 (step x) < a
       ·exact O8 (m1 (step x)) hb (m2 (step x)) (step x) (inv x hx) (VP _) (VP _)
       ·exact RT (m2 (step x)) (by omega) (step x) (inv x hx) (by omega) (VP _)
     obtain ⟨n,hn⟩:=this
     exact ⟨n + 1,by show stop (step (it step n x)) = true; rw [<- FT step n x]; exact hn⟩
 exact fun x hx=>go _ _ x hx (VP _) (VP _)
theorem xn {β:Type} {step:β->β} {P:β->Prop} (inv:∀ x,P x->P (step x)):∀ n x,P x->P (it step n x)
 | 0,_,h=>h
 | n + 1,x,h=>inv _ (xn inv n x h)
def lW (f g:Mp α):Prop:=∀ k v,lk f k = some v->∃ u,lk g k = some u /\ u <= v
theorem lW.refl (f:Mp α):lW f f:=fun k v h=>⟨v,h,Int.le_refl _⟩
theorem lW.trans {f g h:Mp α} (a:lW f g) (b:lW g h):lW f h:=fun k v q=>by
 obtain ⟨u,h1,h2⟩:=a k v q
 obtain ⟨u',h3,h4⟩:=b k u h1
 exact ⟨u',h3,by omega⟩
def miss (ns:List α) (f:Mp α):Nat:=ns.countP fun n=>(lk f n).isNone
def ue (ns:List α) (f:Mp α):Nat:=(ns.map fun n=>((lk f n).getD 0).toNat).sum
theorem pL {f g:Mp α} (h:lW f g):∀ ns:List α,miss ns g <= miss ns f
 | []=>VP _
 | n :: ns=>by
  have ih:=pL h ns
  unfold miss at *
  rw [Xa,Xa]
  cases q:lk f n with
  | none=>simp only [Option.isNone_none]; split <;> simp <;> omega
  | some v =>
   obtain ⟨u,h1,_⟩:=h n v q
   rw [h1]
   exact ih
theorem yq {f g:Mp α} (h:lW f g):∀ {ns:List α},miss ns g = miss ns f->ue ns g <= ue ns f
 | [],_=>VP _
 | n :: ns,e=>by
  have ml:=pL h ns
  unfold miss ue at *
  rw [Xa,Xa] at e
  rw [V8,List.sum_cons,V8,List.sum_cons]
  cases q:lk f n with
  | none =>
   rw [q] at e
   cases q2:lk g n with
   | none =>
    rw [q2] at e
    have:=yq h (ns:=ns) (by unfold miss; omega)
    unfold ue at this
    simp; omega
   | some u=>rw [q2] at e; simp at e; omega
  | some v =>
   obtain ⟨u,h1,h2⟩:=h n v q
   rw [q,h1] at e
   have:=yq h (ns:=ns) (by unfold miss; simp at e; omega)
   unfold ue at this
   rw [h1]
   simp; omega
theorem Bz {f g:Mp α} (h:lW f g) (pos:∀ k v,lk g k = some v->0 <= v):∀ {ns:List α} {n:α},n ∈ ns->lk f n ≠ lk g n->miss ns g < miss ns f \/ (miss ns g <= miss ns f /\ ue ns g < ue ns f)
 | [],_,hn,_=>by cases hn
 | a :: ns,n,hn,ne=>by
  have ml:=pL h (a :: ns)
  by_cases el:miss (a :: ns) g = miss (a :: ns) f
  ·refine .inr ⟨ml,?_⟩
   have QF:=pL h ns
   have En:=el
   unfold miss at En QF
   rw [Xa,Xa] at En
   have hd:(lk g a).isNone = (lk f a).isNone /\ miss ns g = miss ns f:=by
    unfold miss
    cases q:lk f a with
    | none =>
     rw [q] at En
     cases q2:lk g a with
     | none=>rw [q2] at En; simp at En; exact ⟨rfl,by omega⟩
     | some u=>rw [q2] at En; simp at En; omega
    | some v =>
     obtain ⟨u,h1,_⟩:=h a v q
     rw [q,h1] at En
     rw [h1]
     simp at En
     exact ⟨rfl,by omega⟩
   have hs:=yq h hd.2
   have first:((lk g a).getD 0).toNat <= ((lk f a).getD 0).toNat:=by
    cases q:lk f a with
    | none =>
     have:=hd.1
     rw [q] at this
     cases q2:lk g a with
     | none=>exact VP _
     | some u=>rw [q2] at this; cases this
    | some v =>
     obtain ⟨u,h1,h2⟩:=h a v q
     rw [h1]; simp; omega
   show (((a :: ns).map fun n=>((lk g n).getD 0).toNat).sum) < (((a :: ns).map fun n=>((lk f n).getD 0).toNat).sum)
   rw [V8,List.sum_cons,V8,List.sum_cons]
   have P9:(ns.map fun n=>((lk g n).getD 0).toNat).sum <= (ns.map fun n=>((lk f n).getD 0).toNat).sum:=hs
   rcases VT.mp hn with rfl | hn
   ·cases q:lk f n with
    | none =>
     have:=hd.1
     rw [q] at this ne
     cases q2:lk g n with
     | none=>rw [q2] at ne; exact absurd rfl ne
     | some u=>rw [q2] at this; cases this
    | some v =>
     obtain ⟨u,h1,h2⟩:=h n v q
     have p:=pos _ _ h1
     rw [q,h1] at ne
     have:u ≠ v:=fun z=>ne (by rw [z])
     rw [h1]; simp; omega
   ·rcases Bz h pos hn ne with z | ⟨_,z⟩
    ·rw [hd.2] at z; exact absurd z (WX _)
    ·have z':(ns.map fun n=>((lk g n).getD 0).toNat).sum < (ns.map fun n=>((lk f n).getD 0).toNat).sum:=z
     omega
  ·exact .inl (by omega)
def j9 (f g:Mp α) (n:α):Prop:=∃ v,lk g n = some v /\ ∀ u,lk f n = some u->v < u
theorem j9.ne {f g:Mp α} {n:α} (h:j9 f g n):lk f n ≠ lk g n:=fun z=>by
 obtain ⟨v,h1,h2⟩:=h
 rw [h1] at z
 exact absurd (h2 v z) (by omega)
theorem j9.less {f g h:Mp α} {n:α} (a:j9 f g n) (b:lW g h):j9 f h n:=by
 obtain ⟨v,h1,h2⟩:=a
 obtain ⟨u,h3,h4⟩:=b n v h1
 exact ⟨u,h3,fun x hx=>by have:=h2 x hx; omega⟩
def tI:Option Int->Int->Bool
 | none,_=>true
 | some u,h=>decide (h < u)
theorem xT {f:Mp α} {k:α} {v:Int} (h:tI (lk f k) v = true):lW f (put f k v) /\ j9 f (put f k v) k:=by
 have hs:j9 f (put f k v) k:=by
  refine ⟨v,by rw [lD,if_pos rfl],fun u hu=>?_⟩
  rw [hu] at h
  exact Wi h
 refine ⟨fun j u hu=>?_,hs⟩
 rw [lD]
 by_cases e:j = k
 ·rw [if_pos e]
  rw [e] at hu
  obtain ⟨v',h1,h2⟩:=hs
  rw [lD,if_pos rfl] at h1
  cases h1
  exact ⟨v,rfl,by have:=h2 u hu; omega⟩
 ·rw [if_neg e]; exact ⟨u,hu,Int.le_refl _⟩
abbrev sS (α:Type):=α × Int × α
def cR (x:Mp α × Bool) (t:sS α):Mp α × Bool :=
 match lk x.1 t.2.2 with
 | none=>x
 | some v=>if tI (lk x.1 t.1) (t.2.1 + v) = true then (put x.1 t.1 (t.2.1 + v),true) else x
theorem jS (x:Mp α × Bool) (t:sS α):(cR x t = x /\ ∀ v,lk x.1 t.2.2 = some v->∃ u,lk x.1 t.1 = some u /\ u <= t.2.1 + v) \/ ∃ v,lk x.1 t.2.2 = some v /\ tI (lk x.1 t.1) (t.2.1 + v) = true /\ cR x t = (put x.1 t.1 (t.2.1 + v),true):=by
 unfold cR
 cases q:lk x.1 t.2.2 with
 | none=>exact .inl ⟨rfl,fun v h=>by cases h⟩
 | some v =>
  dsimp only
  by_cases b:tI (lk x.1 t.1) (t.2.1 + v) = true
  ·rw [if_pos b]; exact .inr ⟨v,rfl,b,rfl⟩
  ·rw [if_neg b]
   refine .inl ⟨rfl,fun v' h=>?_⟩
   cases h
   cases q2:lk x.1 t.1 with
   | none=>rw [q2] at b; exact absurd rfl b
   | some u =>
    rw [q2] at b
    have:¬ (t.2.1 + v < u):=fun z=>b (V0 z)
    exact ⟨u,rfl,by omega⟩
theorem yD:∀ (ts:List (sS α)) (x:Mp α × Bool),lW x.1 (ts.foldl cR x).1 /\ ((ts.foldl cR x = x /\ ∀ t ∈ ts,∀ v,lk x.1 t.2.2 = some v->∃ u,lk x.1 t.1 = some u /\ u <= t.2.1 + v) \/ ((ts.foldl cR x).2 = true /\ ∃ t ∈ ts,j9 x.1 (ts.foldl cR x).1 t.1))
 | [],x=>⟨lW.refl _,.inl ⟨rfl,fun t h=>by cases h⟩⟩
 | t :: ts,x=>by
  rw [XC]
  obtain ⟨l,r⟩:=yD ts (cR x t)
  rcases jS x t with ⟨e,h⟩ | ⟨v,h1,h2,e⟩
  ·rw [e] at l r ⊢
   refine ⟨l,r.imp (fun ⟨a,b⟩=>⟨a,fun t' ht=>?_⟩) fun ⟨a,t',ht,b⟩=>⟨a,t',VQ _ ht,b⟩⟩
   rcases VT.mp ht with rfl | ht
   ·exact h
   ·exact b t' ht
  ·rw [e] at l r ⊢
   obtain ⟨p1,p2⟩:=xT h2
   refine ⟨p1.trans l,.inr ⟨?_,t,VR,p2.less l⟩⟩
   rcases r with ⟨a,_⟩ | ⟨a,_⟩
   ·rw [a]
   ·exact a
theorem vQ {ts:List (sS α)} (hE:∀ t ∈ ts,E t.1 t.2.1 t.2.2):∀ {x:Mp α × Bool},Sound E e x.1->Sound E e (ts.foldl cR x).1:=by
 induction ts with
 | nil=>exact fun h=>h
 | cons t ts ih =>
  intro x h
  rw [XC]
  refine ih (fun t' ht=>hE t' (VQ _ ht)) ?_
  rcases jS x t with ⟨e,_⟩ | ⟨v,h1,h2,e⟩
  ·rw [e]; exact h
  ·rw [e]
   intro s u hu
   rw [lD] at hu
   by_cases q:s = t.1
   ·rw [if_pos q] at hu
    cases hu
    rw [q]
    exact .cons (hE t VR) (h _ _ h1)
   ·rw [if_neg q] at hu
    exact h s u hu
theorem jw:∀ (ts:List (sS α)) (x:Mp α × Bool),(x.1.map (·.1)).Nodup->((ts.foldl cR x).1.map (·.1)).Nodup /\ ∀ k ∈ (ts.foldl cR x).1.map (·.1),k ∈ x.1.map (·.1) \/ k ∈ ts.map (·.1)
 | [],x,h=>⟨h,fun k hk=>.inl hk⟩
 | t :: ts,x,h=>by
  rw [XC]
  rcases jS x t with ⟨e,_⟩ | ⟨v,h1,h2,e⟩
  ·rw [e]
   obtain ⟨a,b⟩:=jw ts x h
   exact ⟨a,fun k hk=>(b k hk).imp id fun z=>VQ _ z⟩
  ·rw [e]
   obtain ⟨a,b⟩:=jw ts (put x.1 t.1 (t.2.1 + v),true) (tH h)
   refine ⟨a,fun k hk=>?_⟩
   rcases b k hk with z | z
   ·rcases wj z with z | z
    ·exact .inl z
    ·rw [z]; exact .inr VR
   ·exact .inr (VQ _ z)
def pass (ts:List (sS α)) (k:Mp α):Mp α × Bool:=ts.foldl cR (k,false)
def jG (ts:List (sS α)) (k:Mp α):Mp α:=(pass ts k).1
structure ju (E:α->Int->α->Prop) (e:α) (ks:List α) (f:Mp α):Prop where
 sound:Sound E e f
 nd:(f.map (·.1)).Nodup
 base:Based e f
 keys:∀ k ∈ f.map (·.1),k = e \/ k ∈ ks
theorem Based.less {f g:Mp α} (h:lW f g) (b:Based e f):Based e g:=by
 obtain ⟨u,h1,h2⟩:=b
 obtain ⟨v,h3,h4⟩:=h _ _ h1
 exact ⟨v,h3,by omega⟩
theorem jr (ks:List α):ju E e ks [(e,0)] where
 sound:=fun s v h=>by
  rw [fU] at h
  by_cases q:e = s
  ·rw [if_pos q] at h; cases h; rw [<- q]; exact .nil
  ·rw [if_neg q] at h; cases h
 nd:=by simp
 base:=⟨0,by rw [fU,if_pos rfl],Int.le_refl _⟩
 keys:=fun k hk=>.inl (by simpa using hk)
theorem sA {ts us:List (sS α)} {x:Mp α × Bool} (hE:∀ t ∈ ts,E t.1 t.2.1 t.2.2) (hs:∀ t ∈ us,t ∈ ts) (h:ju E e (ts.map (·.1)) x.1):ju E e (ts.map (·.1)) (us.foldl cR x).1 where
 sound:=vQ (fun t ht=>hE t (hs t ht)) h.sound
 nd:=(jw us x h.nd).1
 base:=h.base.less (yD us x).1
 keys:=fun k hk=>by
  rcases (jw us x h.nd).2 k hk with z | z
  ·exact h.keys k z
  ·obtain ⟨t,ht,rfl⟩:=Wq.mp z
   exact .inr (WI (f:=fun t:sS α=>t.1) (hs t ht))
theorem nI {ts:List (sS α)} (hE:∀ t ∈ ts,E t.1 t.2.1 t.2.2) {f:Mp α} (h:ju E e (ts.map (·.1)) f):ju E e (ts.map (·.1)) (jG ts f):=sA (x:=(f,false)) hE (fun _ h=>h) h
theorem AB {ts:List (sS α)} (hE:∀ t ∈ ts,E t.1 t.2.1 t.2.2) (hL:Later E):∃ n,(pass ts (it (jG ts) n [(e,0)])).2 = false:=by
 obtain ⟨n,h⟩:=FM (miss (ts.map (·.1))) (ue (ts.map (·.1))) (jG ts) (ju E e (ts.map (·.1))) (fun k=>!(pass ts k).2) (fun x h=>nI hE h) (fun x h q=>by
  have q':(pass ts x).2 = true:=by simpa using q
  have fp:=nI hE h
  obtain ⟨l,r⟩:=yD ts (x,false)
  rcases r with ⟨a,_⟩ | ⟨_,t,ht,st⟩
  ·have:(pass ts x).2 = false:=by unfold pass; rw [a]
   rw [this] at q'; cases q'
  ·exact Bz l (fun k v hk=>(fp.sound k v hk).nonneg hL) (WI (f:=fun t:sS α=>t.1) ht) st.ne) [(e,0)] (jr _)
 exact ⟨n,by simpa using h⟩
theorem sO {ts:List (sS α)} {f:Mp α} (h:(pass ts f).2 = false):jG ts f = f /\ ∀ t ∈ ts,∀ v,lk f t.2.2 = some v->∃ u,lk f t.1 = some u /\ u <= t.2.1 + v:=by
 obtain ⟨l,r⟩:=yD ts (f,false)
 rcases r with ⟨a,b⟩ | ⟨a,_⟩
 ·exact ⟨by unfold jG pass; rw [a],b⟩
 ·have a:(pass ts f).2 = true:=a
  rw [h] at a; cases a
section
variable {γ:Type}
abbrev Way (γ α:Type):=γ × Int × α
abbrev Ez (γ α:Type):=List (α × List (Way γ α))
def ya:List Int->Int
 | []=>0
 | x :: r=>r.foldl min x
theorem Ik:∀ (r:List Int) (x:Int),(r.foldl min x ∈ x :: r) /\ ∀ y ∈ x :: r,r.foldl min x <= y
 | [],x=>⟨VR,fun y hy=>by
   have:y = x:=by simpa using hy
   rw [this]; exact Int.le_refl _⟩
 | a :: r,x=>by
  rw [XC]
  obtain ⟨h1,h2⟩:=Ik r (min x a)
  constructor
  ·rcases VT.mp h1 with z | z
   ·rw [z]
    by_cases q:x <= a
    ·rw [Int.min_eq_left q]; exact VR
    ·rw [Int.min_eq_right (by omega)]; exact VQ _ VR
   ·exact VQ _ (VQ _ z)
  ·intro y hy
   have h0:=h2 (min x a) VR
   rcases VT.mp hy with rfl | hy
   ·have:=Int.min_le_left y a; omega
   ·rcases VT.mp hy with rfl | hy
    ·have:=Int.min_le_right x y; omega
    ·exact h2 y (VQ _ hy)
theorem vv {l:List Int} (h:l ≠ []):ya l ∈ l:=by
 cases l with
 | nil=>exact absurd rfl h
 | cons x r=>exact (Ik r x).1
theorem uo {l:List Int} {y:Int} (h:y ∈ l):ya l <= y:=by
 cases l with
 | nil=>cases h
 | cons x r=>exact (Ik r x).2 y h
theorem Eh {l:List Int} {m:Int} (h1:m ∈ l) (h2:∀ y ∈ l,m <= y):m = ya l:=by
 have:=uo h1
 have:=h2 _ (vv (List.ne_nil_of_mem h1))
 omega
def zU (f:Mp α) (gy:List (Way γ α)):List Int:=(gy.filter fun x=>(lk f x.2.2).isSome).map fun x=>x.2.1 + (lk f x.2.2).getD 0
def ig (f:Mp α) (c:α × List (Way γ α)):List Int:=zU f c.2 ++ (lk f c.1).toList
def dU (f:Mp α) (l:Mp α) (c:α × List (Way γ α)):Mp α:=if ig f c = [] then l else put l c.1 (ya (ig f c))
def oneMore (cs:Ez γ α) (f:Mp α):Mp α:=cs.foldl (dU f) f
theorem Dg {f:Mp α} {gy:List (Way γ α)} {t:Int}:t ∈ zU f gy ↔ ∃ x ∈ gy,∃ v,lk f x.2.2 = some v /\ t = x.2.1 + v:=by
 unfold zU
 rw [Wq]
 constructor
 ·rintro ⟨x,hx,rfl⟩
  obtain ⟨h1,h2⟩:=Ws.mp hx
  cases q:lk f x.2.2 with
  | none=>rw [q] at h2; cases h2
  | some v=>exact ⟨x,h1,v,q,rfl⟩
 ·rintro ⟨x,hx,v,q,rfl⟩
  exact ⟨x,Ws.mpr ⟨hx,by rw [q]; rfl⟩,by rw [q]; rfl⟩
theorem rH {f:Mp α} {c:α × List (Way γ α)} {t:Int}:t ∈ ig f c ↔ (∃ x ∈ c.2,∃ v,lk f x.2.2 = some v /\ t = x.2.1 + v) \/ lk f c.1 = some t:=by
 unfold ig
 rw [Wh,Dg]
 refine or_congr Iff.rfl ?_
 cases lk f c.1 with
 | none=>simp
 | some u=>simp; exact eq_comm
theorem kK {f:Mp α} {s:α}:∀ (cs:Ez γ α) (l:Mp α),(∀ c ∈ cs,c.1 ≠ s)->lk (cs.foldl (dU f) l) s = lk l s
 | [],_,_=>rfl
 | c :: cs,l,h=>by
  rw [XC,kK cs _ fun c hc=>h c (VQ _ hc)]
  unfold dU
  by_cases q:ig f c = []
  ·rw [if_pos q]
  ·rw [if_neg q,lD,if_neg (fun z=>h c VR z.symm)]
theorem mY {f:Mp α}:∀ (cs:Ez γ α) (l:Mp α),(cs.map (·.1)).Nodup->∀ c ∈ cs,lk (cs.foldl (dU f) l) c.1 = if ig f c = [] then lk l c.1 else some (ya (ig f c))
 | [],_,_,c,hc=>by cases hc
 | d :: cs,l,nd,c,hc=>by
  rw [V8,WW] at nd
  rw [XC]
  rcases VT.mp hc with rfl | xc
  ·rw [kK cs _ fun c' xc z=>nd.1 (by rw [<- z]; exact WI (f:=fun x:α × List (Way γ α)=>x.1) xc)]
   unfold dU
   by_cases q:ig f c = []
   ·rw [if_pos q,if_pos q]
   ·rw [if_neg q,if_neg q,lD,if_pos rfl]
  ·rw [mY cs _ nd.2 c xc]
   have ne:¬ c.1 = d.1:=fun z=>nd.1 (by rw [<- z]; exact WI (f:=fun x:α × List (Way γ α)=>x.1) xc)
   congr 1
   unfold dU
   by_cases q:ig f d = []
   ·rw [if_pos q]
   ·rw [if_neg q,lD,if_neg ne]
theorem hX {f:Mp α}:∀ (cs:Ez γ α) (l:Mp α),(l.map (·.1)).Nodup->((cs.foldl (dU f) l).map (·.1)).Nodup /\ ∀ k ∈ (cs.foldl (dU f) l).map (·.1),k ∈ l.map (·.1) \/ k ∈ cs.map (·.1)
 | [],l,h=>⟨h,fun k hk=>.inl hk⟩
 | c :: cs,l,h=>by
  rw [XC]
  by_cases q:ig f c = []
  ·obtain ⟨a,b⟩:=hX cs l h
   have e:dU f l c = l:=by unfold dU; rw [if_pos q]
   rw [e]
   exact ⟨a,fun k hk=>(b k hk).imp id fun z=>VQ _ z⟩
  ·have e:dU f l c = put l c.1 (ya (ig f c)):=by unfold dU; rw [if_neg q]
   rw [e]
   obtain ⟨a,b⟩:=hX cs _ (tH (k:=c.1) (v:=ya (ig f c)) h)
   refine ⟨a,fun k hk=>?_⟩
   rcases b k hk with z | z
   ·rcases wj z with z | z
    ·exact .inl z
    ·rw [z]; exact .inr VR
   ·exact .inr (VQ _ z)
def Tells (E:α->Int->α->Prop) (cs:Ez γ α):Prop:=∀ s m b,E s m b ↔ ∃ c ∈ cs,c.1 = s /\ ∃ g,(g,m,b) ∈ c.2
theorem qE {cs:Ez γ α} (nd:(cs.map (·.1)).Nodup) (f:Mp α):lW f (oneMore cs f):=fun k v h=>by
 unfold oneMore
 by_cases q:∃ c ∈ cs,c.1 = k
 ·obtain ⟨c,hc,rfl⟩:=q
  rw [mY cs f nd c hc]
  have m:v ∈ ig f c:=rH.mpr (.inr h)
  rw [if_neg (List.ne_nil_of_mem m)]
  exact ⟨_,rfl,uo m⟩
 ·rw [kK cs f fun c hc z=>q ⟨c,hc,z⟩]
  exact ⟨v,h,Int.le_refl _⟩
theorem nz {cs:Ez γ α} (nd:(cs.map (·.1)).Nodup) (hE:Tells E cs) {f:Mp α} (h:ju E e (cs.map (·.1)) f):ju E e (cs.map (·.1)) (oneMore cs f) where
 sound:=fun s v hv=>by
  unfold oneMore at hv
  by_cases q:∃ c ∈ cs,c.1 = s
  ·obtain ⟨c,hc,rfl⟩:=q
   rw [mY cs f nd c hc] at hv
   by_cases q2:ig f c = []
   ·rw [if_pos q2] at hv; exact h.sound _ _ hv
   ·rw [if_neg q2] at hv
    cases hv
    rcases rH.mp (vv q2) with ⟨x,hx,u,hu,e⟩ | e
    ·rw [e]
     exact .cons ((hE _ _ _).mpr ⟨c,hc,rfl,x.1,hx⟩) (h.sound _ _ hu)
    ·exact h.sound _ _ e
  ·rw [kK cs f fun c hc z=>q ⟨c,hc,z⟩] at hv
   exact h.sound _ _ hv
 nd:=(hX cs f h.nd).1
 base:=h.base.less (qE nd f)
 keys:=fun k hk=>by
  rcases (hX cs f h.nd).2 k hk with z | z
  ·exact h.keys k z
  ·exact .inr z
theorem BB {cs:Ez γ α} (nd:(cs.map (·.1)).Nodup) (hE:Tells E cs) (hL:Later E) (he:e ∈ cs.map (·.1)):∃ n,eqB (oneMore cs (it (oneMore cs) n [(e,0)])) (it (oneMore cs) n [(e,0)]) = true:=by
 refine FM (miss (cs.map (·.1))) (ue (cs.map (·.1))) (oneMore cs) (ju E e (cs.map (·.1))) (fun f=>eqB (oneMore cs f) f) (fun x h=>nz nd hE h) (fun f h q=>?_) [(e,0)] (jr _)
 have fp:=nz nd hE h
 have:∃ k,lk f k ≠ lk (oneMore cs f) k:=by
  refine Classical.byContradiction fun z=>?_
  have z':∀ k,lk (oneMore cs f) k = lk f k:=fun k=>Classical.byContradiction fun y=>z ⟨k,fun x=>y x.symm⟩
  rw [BA fp.nd h.nd z'] at q
  cases q
 obtain ⟨k,hk⟩:=this
 have y8:k ∈ cs.map (·.1):=by
  have:k ∈ (oneMore cs f).map (·.1):=by
   cases q1:lk (oneMore cs f) k with
   | some v=>exact uu q1
   | none =>
    cases q2:lk f k with
    | none=>rw [q1,q2] at hk; exact absurd rfl hk
    | some v =>
     obtain ⟨u,hu,_⟩:=qE nd f k v q2
     rw [q1] at hu; cases hu
  rcases fp.keys k this with z | z
  ·rw [z]; exact he
  ·exact z
 exact Bz (qE nd f) (fun k v hk=>(fp.sound k v hk).nonneg hL) y8 hk
theorem xp {cs:Ez γ α} (nd:(cs.map (·.1)).Nodup) (hE:Tells E cs) {f:Mp α} (h:ju E e (cs.map (·.1)) f) (hq:eqB (oneMore cs f) f = true):lT E f:=by
 intro s m b v hs hb
 obtain ⟨c,hc,rfl,g,hg⟩:=(hE s m b).mp hs
 have same:=By (nz nd hE h).nd hq c.1
 have mm:m + v ∈ ig f c:=rH.mpr (.inl ⟨_,hg,v,hb,rfl⟩)
 unfold oneMore at same
 rw [mY cs f nd c hc,if_neg (List.ne_nil_of_mem mm)] at same
 exact ⟨_,same.symm,uo mm⟩
end
end
end Sh
namespace FN
open PySem L2 PyProof.Rows
theorem lR:∀ {l1 l2:List Int},l1.Pairwise (· < ·)->l2.Pairwise (· < ·)->(∀ x,x ∈ l1 ↔ x ∈ l2)->l1 = l2
 | [],[],_,_,_=>rfl
 | [],b :: r,_,_,h=>absurd ((h b).mpr VR) (by simp)
 | a :: l,[],_,_,h=>absurd ((h a).mp VR) (by simp)
 | a :: l,b :: r,h1,h2,h=>by
  obtain ⟨ha,hl⟩:=WG.mp h1
  obtain ⟨hb,hr⟩:=WG.mp h2
  have e:a = b:=by
   rcases VT.mp ((h a).mp VR) with e | e
   ·exact e
   ·rcases VT.mp ((h b).mpr VR) with e' | e'
    ·exact e'.symm
    ·have z1:=hb a e
     have z2:=ha b e'
     omega
  subst e
  have t:l = r:=by
   refine lR hl hr fun x=>⟨fun hx=>?_,fun hx=>?_⟩
   ·rcases VT.mp ((h x).mp (VQ _ hx)) with e | e
    ·have:=ha x hx; omega
    ·exact e
   ·rcases VT.mp ((h x).mpr (VQ _ hx)) with e | e
    ·have:=hb x hx; omega
    ·exact e
  rw [t]
def oA (g:List Int):Bool:=((g.zip (g.drop 1)).map fun p=>decide (p.1 < p.2)).all id
theorem rF (a b:Int) (r:List Int):oA (a :: b :: r) = (decide (a < b) && oA (b :: r)):=rfl
theorem wx:∀ {g:List Int},oA g = true->g.Pairwise (· < ·)
 | [],_=>.nil
 | [a],_=>by simp
 | a :: b :: r,h=>by
  rw [rF,Wu] at h
  have IU:a < b:=Wi h.1
  have ih:=wx h.2
  refine WG.mpr ⟨fun x hx=>?_,ih⟩
  rcases VT.mp hx with e | e
  ·rw [e]; exact IU
  ·exact Int.lt_trans IU ((WG.mp ih).1 x e)
theorem pw_rises:∀ {g:List Int},g.Pairwise (· < ·)->oA g = true
 | [],_=>rfl
 | [a],_=>rfl
 | a :: b :: r,h=>by
  obtain ⟨ha,hr⟩:=WG.mp h
  rw [rF,pw_rises hr,V0 (ha b VR)]
  rfl
theorem fT:∀ n,(be n).Pairwise (· < ·)
 | 0=>.nil
 | n + 1=>by
  rw [dO]
  refine V9.mpr ⟨fT n,by simp,fun a ha b hb=>?_⟩
  rw [Wo.mp hb]
  exact (cZ.mp ha).2
theorem dS {l:List Int} (p:Int->Bool) (h:l.Pairwise (· < ·)):(l.filter p).Pairwise (· < ·):=List.Pairwise.sublist Yg h
theorem contains_iff {g:List Int} {t:Int}:g.contains t = true ↔ t ∈ g:=List.contains_iff_mem
theorem snoc_ind {M:List Int->Prop} (nil:M []) (snoc:∀ l t,M l->M (l ++ [t])) (l:List Int):M l:=by
 have go:∀ r:List Int,M r.reverse:=fun r=>by
  induction r with
  | nil=>exact nil
  | cons a r ih=>rw [List.reverse_cons]; exact snoc _ _ ih
 have:=go l.reverse
 rwa [List.reverse_reverse] at this
def jb (kX:List Int):List (List Int):=kX.foldl (fun gs t=>gs ++ gs.map (· ++ [t])) [[]]
theorem ic (l:List Int) (t:Int):jb (l ++ [t]) = jb l ++ (jb l).map (· ++ [t]):=by
 unfold jb
 rw [List.foldl_append]
 rfl
theorem zd (l:List Int):[] ∈ jb l:=by
 induction l using snoc_ind with
 | nil=>exact Wo.mpr rfl
 | snoc l t ih=>rw [ic]; exact Xc _ ih
theorem jz (l:List Int):(jb l).length = 2 ^ l.length:=by
 induction l using snoc_ind with
 | nil=>rfl
 | snoc l t ih=>rw [ic,Wf,VO,ih,Wf,List.length_singleton,Nat.pow_succ]; omega
theorem ix {l c:List Int} (h:c ∈ jb l):c.Sublist l:=by
 induction l using snoc_ind generalizing c with
 | nil=>rw [Wo.mp h]; exact .slnil
 | snoc l t ih =>
  rw [ic] at h
  rcases Wh.mp h with z | z
  ·exact (ih z).trans (List.sublist_append_left _ _)
  ·obtain ⟨c',h1,rfl⟩:=Wq.mp z
   exact (ih h1).append (List.Sublist.refl _)
theorem iE:∀ (k:Nat) (t num:Int),cr (k + 1) t num = cr k t num ++ (if num / 2 ^ k % 2 = 1 then [t + k] else [])
 | 0,t,num=>by
  show (if num % 2 = 1 then [t] else []) ++ [] = [] ++ (if num / 2 ^ 0 % 2 = 1 then [t + ((0:Nat):Int)] else [])
  simp
 | k + 1,t,num=>by
  show (if num % 2 = 1 then [t] else []) ++ cr (k + 1) (t + 1) (num / 2) = ((if num % 2 = 1 then [t] else []) ++ cr k (t + 1) (num / 2)) ++ _
  rw [iE k (t + 1) (num / 2),V6]
  have e1:num / 2 / 2 ^ k = num / 2 ^ (k + 1):=by
   rw [Int.ediv_ediv_of_nonneg (by decide:(0:Int) <= 2),Int.pow_succ,Int.mul_comm]
  have e2:t + 1 + (k:Int) = t + ((k + 1:Nat):Int):=by omega
  rw [e1,e2]
theorem mZ:∀ (k:Nat) (t num j:Int),cr k t (num + 2 ^ k * j) = cr k t num
 | 0,_,_,_=>rfl
 | k + 1,t,num,j=>by
  have e:num + 2 ^ (k + 1) * j = num + 2 * (2 ^ k * j):=by rw [Int.pow_succ,Int.mul_comm (2 ^ k) 2,Int.mul_assoc]
  have e1:(num + 2 ^ (k + 1) * j) % 2 = num % 2:=by rw [e]; omega
  have e2:(num + 2 ^ (k + 1) * j) / 2 = num / 2 + 2 ^ k * j:=by rw [e]; omega
  show (if (num + 2 ^ (k + 1) * j) % 2 = 1 then [t] else []) ++ cr k (t + 1) ((num + 2 ^ (k + 1) * j) / 2) = (if num % 2 = 1 then [t] else []) ++ cr k (t + 1) (num / 2)
  rw [e1,e2,mZ k]
theorem wC (n:Nat):be (n + n) = be n ++ (be n).map (fun t=>(n:Int) + t):=by
 unfold be
 apply List.ext_getElem?
 intro i
 by_cases h:i < n
 ·rw [W4 (by simpa using h)]
  simp [h,show i < n + n by omega]
 ·rw [WD (by simpa using Nat.le_of_not_lt h)]
  by_cases h2:i < n + n
  ·simp [h2,show i - n < n by omega]
   omega
  ·simp [h2,show ¬ i - n < n by omega]
theorem vC (n:Nat):groups (n + 1) = groups n ++ (groups n).map (· ++ [(n:Int)]):=by
 unfold groups
 have e:2 ^ (n + 1) = 2 ^ n + 2 ^ n:=by rw [Nat.pow_succ]; omega
 rw [e,wC,VV,Wx]
 have pos:(0:Int) < 2 ^ n:=by
  have:=Nat.two_pow_pos n
  have e:((2 ^ n:Nat):Int) = (2:Int) ^ n:=by simp
  omega
 have ec:((2 ^ n:Nat):Int) = (2:Int) ^ n:=by simp
 congr 1
 ·refine Ye fun t ht=>?_
  obtain ⟨h0,h1⟩:=cZ.mp ht
  rw [ec] at h1
  unfold bits
  rw [iE,Int.ediv_eq_zero_of_lt h0 h1]
  simp
 ·rw [Wx]
  refine Ye fun t ht=>?_
  obtain ⟨h0,h1⟩:=cZ.mp ht
  show bits (n + 1) (((2 ^ n:Nat):Int) + t) = bits n t ++ [(n:Int)]
  rw [ec] at h1 ⊢
  unfold bits
  have e1:(2:Int) ^ n + t = t + 2 ^ n * 1:=by omega
  rw [iE,e1,mZ]
  have e2:(t + 2 ^ n * 1) / 2 ^ n = 1:=by
   rw [Int.add_mul_ediv_left _ _ (by omega),Int.ediv_eq_zero_of_lt h0 h1]
   rfl
  rw [e2]
  simp
theorem eu (p:Int->Bool):∀ n,(groups n).filter (fun c=>c.all p) = jb ((be n).filter p)
 | 0=>rfl
 | n + 1=>by
  rw [vC,Wk,eu p n,dO,Wk,List.filter_map]
  have key:∀ (b:Bool),p n = b->((groups n).filter ((fun c=>c.all p) ∘ (· ++ [(n:Int)]))) = if b then jb ((be n).filter p) else []:=fun b hb=>by
   cases b with
   | true =>
    rw [if_pos rfl,<- eu p n]
    refine List.filter_congr fun c _=>?_
    show (c ++ [(n:Int)]).all p = c.all p
    simp [hb]
   | false =>
    rw [if_neg (by simp),List.filter_eq_nil_iff]
    intro c _
    show ¬ (c ++ [(n:Int)]).all p = true
    simp [hb]
  cases hb:p n with
  | true =>
   rw [key true hb,if_pos rfl]
   have e:[(n:Int)].filter p = [(n:Int)]:=by simp [hb]
   rw [e,ic]
  | false =>
   rw [key false hb,if_neg (by simp)]
   have e:[(n:Int)].filter p = []:=by simp [hb]
   rw [e]
   simp
abbrev aW:=List Int × Int
def Ko (n:Nat) (t:Int):Bool:=decide (0 <= t /\ t < (n:Int))
def cQ (n:Nat) (st:aW):Bool:=(decide (st.2 = 0) || decide (st.2 = 1)) && (oA st.1 && st.1.all (Ko n))
def dn (st:aW):PyData:=.tuple [gu st.1,.int st.2]
def restOf (n:Nat) (g:List Int):List Int:=(be n).filter fun t=>!g.contains t
def bz (qs:List Qu) (n:Nat) (g:List Int):Bool:=gV qs g && gV qs (restOf n g)
def aS (n:Nat) (st:aW):List Int:=if st.2 = 0 then st.1 else restOf n st.1
def fJ (ts:List Th) (t:Int):Bool:=(ts.getD t.toNat (0,false)).2
def jC (ts:List Th) (t:Int):Int:=(ts.getD t.toNat (0,false)).1
def eK (ts:List Th) (r:Int) (c:List Int):Bool:=decide (1 <= (c.length:Int) /\ (c.length:Int) <= r) && c.any (fJ ts)
def behind (n:Nat) (st:aW) (c:List Int):aW:=if st.2 = 0 then (st.1.filter fun t=>!c.contains t,1) else ((be n).filter fun t=>st.1.contains t || c.contains t,0)
def eX (ts:List Th) (r:Int) (qs:List Qu) (st:aW):List (List Int):=((jb (aS ts.length st)).filter (eK ts r)).filter fun c=>bz qs ts.length (behind ts.length st c).1
def aU (ts:List Th) (r:Int) (qs:List Qu) (st:aW):List (List Int):=AT (eX ts r qs st)
def aP (ts:List Th) (c:List Int):Int:=xO (c.map (jC ts))
theorem gh {n:Nat} {st:aW} (h:cQ n st = true):st.1.Pairwise (· < ·) /\ (∀ t ∈ st.1,0 <= t /\ t < (n:Int)) /\ (st.2 = 0 \/ st.2 = 1):=by
 unfold cQ at h
 rw [Wu,Wu,Bool.or_eq_true] at h
 refine ⟨wx h.2.1,fun t ht=>Wi (WP.mp h.2.2 t ht),h.1.imp Wi Wi⟩
theorem mB {n:Nat} {st:aW} (h1:st.1.Pairwise (· < ·)) (h2:∀ t ∈ st.1,0 <= t /\ t < (n:Int)) (h3:st.2 = 0 \/ st.2 = 1):cQ n st = true:=by
 unfold cQ
 have e:st.1.all (Ko n) = true:=WP.mpr fun t ht=>V0 (h2 t ht)
 rw [pw_rises h1,e]
 rcases h3 with e | e <;> simp [e]
theorem gS {n:Nat} {g:List Int} (h1:g.Pairwise (· < ·)) (h2:∀ t ∈ g,0 <= t /\ t < (n:Int)):(be n).filter (fun t=>g.contains t) = g:=by
 refine lR (dS _ (fT n)) h1 fun x=>?_
 rw [Ws,contains_iff,cZ]
 exact ⟨fun h=>h.2,fun h=>⟨h2 x h,h⟩⟩
theorem im {n:Nat} {st:aW} (h:cQ n st = true):(be n).filter (fun t=>(aS n st).contains t) = aS n st:=by
 obtain ⟨h1,h2,_⟩:=gh h
 unfold aS
 split
 ·exact gS h1 h2
 ·exact gS (dS _ (fT n)) fun t ht=>cZ.mp (Ws.mp ht).1
theorem iY {n:Nat} {st:aW} (h:cQ n st = true) {t:Int} (ht:t ∈ aS n st):0 <= t /\ t < (n:Int):=by
 rw [<- im h] at ht
 exact cZ.mp (Ws.mp ht).1
theorem D7 {n:Nat} {st:aW} (h:cQ n st = true):(aS n st).Pairwise (· < ·):=by
 rw [<- im h]; exact dS _ (fT n)
theorem eZ {n:Nat} {st:aW} (h:cQ n st = true):(aS n st).length <= n:=by
 rw [<- im h]
 exact VZ (Wg _ _) (by rw [aT]; exact VP _)
def pC (ts:List Th) (r:Int) (qs:List Qu) (st:aW) (c:List Int):Bool :=
 (decide (1 <= (c.length:Int) /\ (c.length:Int) <= r) && decide ((c.filter fun t=>!(aS ts.length st).contains t) = [])) && (decide ((c.filter (fJ ts)) ≠ []) && bz qs ts.length (behind ts.length st c).1)
def BZ (ts:List Th) (r:Int) (qs:List Qu) (st:aW):List (List Int):=(groups ts.length).filter (pC ts r qs st)
theorem Af {ts:List Th} {r:Int} {qs:List Qu} {st:aW} (h:cQ ts.length st = true):BZ ts r qs st = eX ts r qs st:=by
 unfold BZ eX
 have e:jb (aS ts.length st) = (groups ts.length).filter fun c=>c.all fun t=>(aS ts.length st).contains t:=by rw [eu,im h]
 rw [e,List.filter_filter,List.filter_filter]
 refine List.filter_congr fun c _=>?_
 unfold pC
 have e1:decide ((c.filter fun t=>!(aS ts.length st).contains t) = []) = c.all fun t=>(aS ts.length st).contains t:=by
  rw [XZ,decide_eq_true_eq,List.filter_eq_nil_iff,WP]
  constructor
  ·intro z t ht
   have:=z t ht
   simpa using this
  ·intro z t ht
   have:=z t ht
   simpa using this
 have e2:decide ((c.filter (fJ ts)) ≠ []) = c.any (fJ ts):=by
  rw [XZ,decide_eq_true_eq,Ne,List.filter_eq_nil_iff,List.any_eq_true]
  constructor
  ·intro z
   by_cases hh:∃ x,x ∈ c /\ fJ ts x = true
   ·exact hh
   ·exact absurd (fun a ha hr=>hh ⟨a,ha,hr⟩) z
  ·rintro ⟨x,hx,hr⟩ z
   exact z x hx hr
 rw [e1,e2]
 unfold eK
 cases decide (1 <= (c.length:Int) /\ (c.length:Int) <= r) <;> cases (c.all fun t=>(aS ts.length st).contains t) <;> cases c.any (fJ ts) <;> cases bz qs ts.length (behind ts.length st c).1 <;> rfl
theorem nB {ts:List Th} {r:Int} {qs:List Qu} {st:aW} (h:cQ ts.length st = true) (h6:ts.length <= 6):((jb (aS ts.length st)).filter (eK ts r)).length < 64:=by
 have hb:=eZ h
 have Tz:(jb (aS ts.length st)).length <= 64:=by
  rw [jz]
  exact VZ (Xr (by decide) (VZ hb h6)) (by decide)
 have iz:((jb (aS ts.length st)).filter (eK ts r)).length < (jb (aS ts.length st)).length :=
  List.length_filter_lt_length_iff_exists.mpr ⟨[],zd _,by simp [eK]⟩
 omega
theorem sB {ts:List Th} {r:Int} {c:List Int} (h:eK ts r c = true):c ≠ []:=by
 intro e
 rw [e] at h
 simp [eK] at h
theorem nT {l:List Int} (h:l.Nodup):(jb l).Nodup:=by
 induction l using snoc_ind with
 | nil=>simp [jb]
 | snoc l t ih =>
  rw [List.nodup_append] at h
  rw [ic,List.nodup_append]
  refine ⟨ih h.1,?_,fun a ha b hb e=>?_⟩
  ·show ((jb l).map (· ++ [t])).Pairwise (· ≠ ·)
   rw [WK]
   exact (ih h.1).imp fun ne e=>ne (List.append_cancel_right e)
  ·obtain ⟨c,hc,rfl⟩:=Wq.mp hb
   have:t ∈ a:=by rw [e]; simp
   exact h.2.2 t ((ix ha).subset this) t (by simp) rfl
theorem rD (n:Nat):(be n).Nodup:=(fT n).imp fun h=>Int.ne_of_lt h
theorem xy {n:Nat} {st:aW} (h:cQ n st = true):(aS n st).Nodup:=(D7 h).imp fun h=>Int.ne_of_lt h
theorem nQ {ts:List Th} {r:Int} {qs:List Qu} {st:aW} (h:cQ ts.length st = true):(eX ts r qs st).Nodup:=((nT (xy h)).sublist Yg).sublist Yg
theorem yu {α:Type} {lt:α->α->Bool} (PY:∀ a,lt a a = false) (tr:∀ {a b c},lt a b = true->lt b c = true->lt a c = true):∀ {l m:List α},l.Pairwise (fun x y=>lt x y = true)->m.Pairwise (fun x y=>lt x y = true)->(∀ x,x ∈ l ↔ x ∈ m)->l = m
 | [],[],_,_,_=>rfl
 | [],b :: r,_,_,h=>absurd ((h b).mpr VR) (by simp)
 | a :: l,[],_,_,h=>absurd ((h a).mp VR) (by simp)
 | a :: l,b :: r,h1,h2,h=>by
  obtain ⟨ha,hl⟩:=WG.mp h1
  obtain ⟨hb,hr⟩:=WG.mp h2
  have no:∀ {x:α},lt x x = true->False:=fun z=>by rw [PY] at z; cases z
  have e:a = b:=by
   rcases VT.mp ((h a).mp VR) with e | e
   ·exact e
   ·rcases VT.mp ((h b).mpr VR) with e' | e'
    ·exact e'.symm
    ·exact (no (tr (hb a e) (ha b e'))).elim
  subst e
  have t:l = r:=by
   refine yu PY tr hl hr fun x=>⟨fun hx=>?_,fun hx=>?_⟩
   ·rcases VT.mp ((h x).mp (VQ _ hx)) with e | e
    ·have:=ha x hx; rw [e] at this; exact (no this).elim
    ·exact e
   ·rcases VT.mp ((h x).mpr (VQ _ hx)) with e | e
    ·have:=hb x hx; rw [e] at this; exact (no this).elim
    ·exact e
  rw [t]
theorem EG {l c:List Int} (h:c.Sublist l):c ∈ jb l:=by
 induction l using snoc_ind generalizing c with
 | nil=>rw [List.sublist_nil.mp h]; exact Wo.mpr rfl
 | snoc l t ih =>
  obtain ⟨c1,c2,rfl,h1,h2⟩:=List.sublist_append_iff.mp h
  rw [ic,Wh]
  cases h2 with
  | cons _ z=>rw [List.sublist_nil.mp z,Yn]; exact .inl (ih h1)
  | cons_cons _ z=>rw [List.sublist_nil.mp z]; exact .inr (Wq.mpr ⟨c1,ih h1,rfl⟩)
theorem gT (n:Nat):groups n = jb (be n):=by
 have:=eu (fun _=>true) n
 rw [List.filter_eq_self.mpr (by intro a _; simp),List.filter_eq_self.mpr (by intro a _; rfl)] at this
 exact this
theorem qW {n:Nat} {g:List Int}:g ∈ groups n ↔ g.Pairwise (· < ·) /\ ∀ t ∈ g,0 <= t /\ t < (n:Int):=by
 rw [gT]
 constructor
 ·intro h
  have s:=ix h
  exact ⟨List.Pairwise.sublist s (fT n),fun t ht=>cZ.mp (s.subset ht)⟩
 ·rintro ⟨h1,h2⟩
  refine EG ?_
  rw [<- gS h1 h2]
  exact Yg
theorem nh (n:Nat):(groups n).Nodup:=by rw [gT]; exact nT (rD n)
def sw (st:aW):Int × List Int:=(st.2,st.1)
def zu (qs:List Qu) (n:Nat):List (List Int):=AT ((groups n).filter (bz qs n))
def bA (qs:List Qu) (n:Nat):List aW:=(zu qs n).map (fun g=>(g,0)) ++ (zu qs n).map fun g=>(g,1)
def pZ (qs:List Qu) (n:Nat):List aW:=((jb (be n)).flatMap fun g=>[(g,0),(g,1)]).filter fun st=>bz qs n st.1
theorem kD {qs:List Qu} {n:Nat} {g:List Int}:g ∈ zu qs n ↔ g ∈ groups n /\ bz qs n g = true:=by
 unfold zu
 rw [(gN _).mem_iff,Ws]
theorem qT (qs:List Qu) (n:Nat):(zu qs n).Pairwise fun g k=>HT.lexLt g k = true:=wE ((nh n).sublist Yg)
theorem qP {qs:List Qu} {n:Nat} {st:aW}:st ∈ bA qs n ↔ st.1 ∈ groups n /\ bz qs n st.1 = true /\ (st.2 = 0 \/ st.2 = 1):=by
 unfold bA
 rw [Wh,Wq,Wq]
 constructor
 ·rintro (⟨g,hg,rfl⟩ | ⟨g,hg,rfl⟩)
  ·exact ⟨(kD.mp hg).1,(kD.mp hg).2,.inl rfl⟩
  ·exact ⟨(kD.mp hg).1,(kD.mp hg).2,.inr rfl⟩
 ·obtain ⟨g,sd⟩:=st
  rintro ⟨h1,h2,h3 | h3⟩
  ·have h3:sd = 0:=h3
   subst h3; exact .inl ⟨g,kD.mpr ⟨h1,h2⟩,rfl⟩
  ·have h3:sd = 1:=h3
   subst h3; exact .inr ⟨g,kD.mpr ⟨h1,h2⟩,rfl⟩
theorem Av {qs:List Qu} {n:Nat} {st:aW}:st ∈ pZ qs n ↔ st.1 ∈ groups n /\ bz qs n st.1 = true /\ (st.2 = 0 \/ st.2 = 1):=by
 unfold pZ
 rw [Ws,List.mem_flatMap,gT]
 constructor
 ·rintro ⟨⟨g,hg,hs⟩,h2⟩
  rcases VT.mp hs with rfl | hs
  ·exact ⟨hg,h2,.inl rfl⟩
  ·rw [Wo.mp hs] at h2 ⊢
   exact ⟨hg,h2,.inr rfl⟩
 ·obtain ⟨g,sd⟩:=st
  rintro ⟨h1,h2,h3⟩
  refine ⟨⟨g,h1,?_⟩,h2⟩
  rcases h3 with h3 | h3
  ·have h3:sd = 0:=h3
   subst h3; exact VR
  ·have h3:sd = 1:=h3
   subst h3; exact VQ _ VR
theorem jO (qs:List Qu) (n:Nat):(bA qs n).Pairwise fun a b=>aJ (sw a) (sw b) = true:=by
 unfold bA
 rw [V9,WK,WK]
 refine ⟨(qT qs n).imp fun h=>?_,(qT qs n).imp fun h=>?_,fun a ha b hb=>?_⟩
 ·unfold aJ sw; rw [if_pos rfl]; exact h
 ·unfold aJ sw; rw [if_pos rfl]; exact h
 ·obtain ⟨g,_,rfl⟩:=Wq.mp ha
  obtain ⟨k,_,rfl⟩:=Wq.mp hb
  rfl
theorem qt (qs:List Qu) (n:Nat):(bA qs n).Nodup:=(jO qs n).imp fun h e=>by rw [e,iQ] at h; cases h
theorem C5 {a b:aW} (h:sw a = sw b):a = b:=by
 unfold sw at h
 injection h with h1 h2
 exact Prod.ext h2 h1
theorem vR (qs:List Qu) (n:Nat):((pZ qs n).map sw).Nodup:=by
 have nd:(pZ qs n).Nodup:=by
  unfold pZ
  refine List.Nodup.sublist Yg ?_
  show List.Pairwise _ _
  rw [List.pairwise_flatMap]
  refine ⟨fun g _=>?_,(nT (rD n)).imp fun {a b} ne x hx y hy e=>ne ?_⟩
  ·simp
  ·have e1:x.1 = a:=by
    rcases VT.mp hx with rfl | hx
    ·rfl
    ·rw [Wo.mp hx]
   have e2:y.1 = b:=by
     rcases VT.mp hy with rfl | hy
     ·rfl
     ·rw [Wo.mp hy]
   rw [<- e1,<- e2,e]
 show List.Pairwise _ _
 rw [WK]
 exact nd.imp fun ne e=>ne (C5 e)
theorem wF {qs:List Qu} {n:Nat} {l:List aW} (hp:l.Perm (pZ qs n)) (hs:l.Pairwise fun a b=>aJ (sw a) (sw b) = true):l = bA qs n :=
 yu (lt:=fun a b=>aJ (sw a) (sw b)) (fun a=>iQ _) (fun h1 h2=>m5 h1 h2) hs (jO qs n) fun x=>by rw [hp.mem_iff,Av,qP]
theorem dh {qs:List Qu} {n:Nat} {st:aW} (h:st ∈ bA qs n):cQ n st = true /\ bz qs n st.1 = true:=by
 obtain ⟨h1,h2,h3⟩:=qP.mp h
 obtain ⟨h4,h5⟩:=qW.mp h1
 exact ⟨mB h4 h5 h3,h2⟩
theorem zg {qs:List Qu} {n:Nat} {st:aW} (h:cQ n st = true) (hg:bz qs n st.1 = true):st ∈ bA qs n:=by
 obtain ⟨h1,h2,h3⟩:=gh h
 exact qP.mpr ⟨qW.mpr ⟨h1,h2⟩,hg,h3⟩
theorem gg (qs:List Qu) {n:Nat} (h6:n <= 6):(bA qs n).length <= 128:=by
 unfold bA
 rw [Wf,VO,VO]
 have:(zu qs n).length <= 64:=by
  unfold zu
  rw [(gN _).length_eq]
  refine VZ (Wg _ _) ?_
  rw [gT,jz,aT]
  exact VZ (Xr (by decide) h6) (by decide)
 omega
theorem Ar (qs:List Qu) {n:Nat} (h6:n <= 6):((jb (be n)).flatMap fun g=>[((g,0):aW),(g,1)]).length <= 128:=by
 have l:(jb (be n)).length <= 64:=by
  rw [jz,aT]
  exact VZ (Xr (by decide) h6) (by decide)
 have:∀ gs:List (List Int),(gs.flatMap fun g=>[((g,0):aW),(g,1)]).length = 2 * gs.length:=fun gs=>by
  induction gs with
  | nil=>rfl
  | cons g gs ih=>rw [List.flatMap_cons,Wf,ih]; simp; omega
 rw [this]; omega
theorem nE:∀ (k m:Nat) {g:List Int},g.Pairwise (· < ·)->(∀ t ∈ g,(m:Int) <= t /\ t < (m:Int) + k)->g ∈ subs k m
 | 0,m,g,_,h=>by
  cases g with
  | nil=>exact Wo.mpr rfl
  | cons a g=>have:=h a VR; omega
 | k + 1,m,g,hp,h=>by
  show g ∈ subs k (m + 1) ++ (subs k (m + 1)).map fun g=>(m:Int) :: g
  rw [Wh]
  cases g with
  | nil=>exact .inl (nE k (m + 1) .nil (fun t ht=>by cases ht))
  | cons a g =>
   obtain ⟨h1,h2⟩:=WG.mp hp
   by_cases e:a = (m:Int)
   ·refine .inr (Wq.mpr ⟨g,nE k (m + 1) h2 fun t ht=>?_,by rw [e]⟩)
    have:=h1 t ht
    have:=h t (VQ _ ht)
    omega
   ·refine .inl (nE k (m + 1) hp fun t ht=>?_)
    have ha:=h a VR
    have OZ:=h t ht
    rcases VT.mp ht with rfl | ht
    ·omega
    ·have:=h1 t ht; omega
theorem BN {n:Nat} {st:aW} (h:cQ n st = true) (h6:n <= 6):st ∈ gA:=by
 obtain ⟨h1,h2,h3⟩:=gh h
 refine List.mem_flatMap.mpr ⟨st.1,nE 6 0 h1 fun t ht=>?_,?_⟩
 ·have:=h2 t ht; omega
 ·obtain ⟨g,sd⟩:=st
  rcases h3 with h3 | h3
  ·have h3:sd = 0:=h3
   subst h3; exact VR
  ·have h3:sd = 1:=h3
   subst h3; exact VQ _ VR
abbrev Wy:=List Int × Int × aW
def cp (ts:List Th) (r:Int) (qs:List Qu) (st:aW):List Wy:=(aU ts r qs st).map fun c=>(c,aP ts c,behind ts.length st c)
def bW (ts:List Th) (r:Int) (qs:List Qu):List (aW × List Wy):=(bA qs ts.length).map fun st=>(st,cp ts r qs st)
def eD (ts:List Th) (r:Int) (qs:List Qu) (st:aW):List (Sh.sS aW):=(aU ts r qs st).map fun c=>(st,aP ts c,behind ts.length st c)
def a8 (ts:List Th) (r:Int) (qs:List Qu):List (Sh.sS aW):=(bA qs ts.length).flatMap (eD ts r qs)
def jL (ts:List Th) (r:Int) (qs:List Qu) (s:aW) (m:Int) (b:aW):Prop:=s ∈ bA qs ts.length /\ ∃ c ∈ aU ts r qs s,m = aP ts c /\ b = behind ts.length s c
def bx:aW:=([],1)
theorem gQ {ts:List Th} {r:Int} {qs:List Qu} {st:aW} {c:List Int} (h:c ∈ aU ts r qs st):c.Sublist (aS ts.length st) /\ c ≠ [] /\ bz qs ts.length (behind ts.length st c).1 = true:=by
 have h1:=(gN (eX ts r qs st)).mem_iff.mp h
 obtain ⟨h2,h3⟩:=Ws.mp h1
 obtain ⟨h4,h5⟩:=Ws.mp h2
 exact ⟨ix h4,sB h5,h3⟩
theorem vo {n:Nat} {st:aW} {c:List Int} (h:cQ n st = true):cQ n (behind n st c) = true:=by
 obtain ⟨h1,h2,_⟩:=gh h
 unfold behind
 split
 ·exact mB (dS _ h1) (fun t ht=>h2 t (Ws.mp ht).1) (.inr rfl)
 ·exact mB (dS _ (fT n)) (fun t ht=>cZ.mp (Ws.mp ht).1) (.inl rfl)
section
variable {ts:List Th} {r:Int} {qs:List Qu}
theorem kr {st:aW} {c:List Int} (h:st ∈ bA qs ts.length) (hc:c ∈ aU ts r qs st):behind ts.length st c ∈ bA qs ts.length:=zg (vo (dh h).1) (gQ hc).2.2
theorem Eu {s b:aW} {m:Int} (h:jL ts r qs s m b):b ∈ bA qs ts.length:=by
 obtain ⟨h1,c,h2,_,rfl⟩:=h
 exact kr h1 h2
theorem tells:Sh.Tells (jL ts r qs) (bW ts r qs):=by
 intro s m b
 constructor
 ·rintro ⟨h1,c,h2,rfl,rfl⟩
  exact ⟨(s,cp ts r qs s),Wq.mpr ⟨s,h1,rfl⟩,rfl,c,Wq.mpr ⟨c,h2,rfl⟩⟩
 ·rintro ⟨c,hc,rfl,g,hg⟩
  obtain ⟨st,h1,rfl⟩:=Wq.mp hc
  obtain ⟨c,h2,e⟩:=Wq.mp hg
  injection e with e1 e2
  injection e2 with e2 e3
  exact ⟨h1,c,h2,e2.symm,e3.symm⟩
theorem gr:(bW ts r qs).map (·.1) = bA qs ts.length:=by
 unfold bW
 rw [Wx]
 exact List.map_id' _
theorem n6 {t:Sh.sS aW}:t ∈ a8 ts r qs ↔ jL ts r qs t.1 t.2.1 t.2.2:=by
 unfold a8 eD
 rw [List.mem_flatMap]
 constructor
 ·rintro ⟨st,h1,h2⟩
  obtain ⟨c,h3,rfl⟩:=Wq.mp h2
  exact ⟨h1,c,h3,rfl,rfl⟩
 ·obtain ⟨s,m,b⟩:=t
  rintro ⟨h1,c,h2,e1,e2⟩
  exact ⟨s,h1,Wq.mpr ⟨c,h2,by rw [show m = _ from e1,show b = _ from e2]⟩⟩
theorem oI (ok:yT ts) {c:List Int} (hc:c ≠ []) (oU:∀ t ∈ c,0 <= t /\ t < (ts.length:Int)):1 <= aP ts c /\ aP ts c <= 1000000000:=by
 have m:=BL (ns:=c.map (jC ts)) (fun z=>hc (List.map_eq_nil_iff.mp z))
 obtain ⟨t,ht,e⟩:=Wq.mp m
 obtain ⟨h0,h1⟩:=oU t ht
 have hj:t.toNat < ts.length:=by omega
 have e2:jC ts t = ts[t.toNat].1:=by
  unfold jC
  rw [V7,VS hj]
  rfl
 have:=ok.p _ (Xn hj)
 show 1 <= xO _ /\ xO _ <= 1000000000
 rw [<- e,e2]
 exact this
theorem later (ok:yT ts):Sh.Later (jL ts r qs):=by
 rintro s m b ⟨h1,c,h2,rfl,rfl⟩
 obtain ⟨h3,h4,_⟩:=gQ h2
 exact (oI ok h4 fun t ht=>iY (dh h1).1 (h3.subset ht)).1
structure Fy (ts:List Th) (r:Int) (qs:List Qu) (f:Sh.Mp aW):Prop where
 yes:bx ∈ bA qs ts.length->Sh.ju (jL ts r qs) bx (bA qs ts.length) f /\ Sh.lT (jL ts r qs) f
 no:bx ∉ bA qs ts.length->f = []
structure Kn (ts:List Th) (r:Int) (qs:List Qu) (f:Sh.Mp aW):Prop where
 pG:Sh.ju (jL ts r qs) bx (bA qs ts.length) f
 closed:Sh.lT (jL ts r qs) f
theorem Dq {s:aW} {v:Int} (h:Sh.Walk (jL ts r qs) bx s v):s ∈ bA qs ts.length->bx ∈ bA qs ts.length:=by
 induction h with
 | nil=>exact fun h=>h
 | cons h _ ih=>exact fun _=>ih (Eu h)
theorem Dr {f g:Sh.Mp aW} (hf:Fy ts r qs f) (hg:Kn ts r qs g) {s:aW} (hs:s ∈ bA qs ts.length):Sh.lk f s = Sh.lk g s:=by
 by_cases e:bx ∈ bA qs ts.length
 ·obtain ⟨h1,h2⟩:=hf.yes e
  exact Sh.agree h1.sound h2 h1.base hg.pG.sound hg.closed hg.pG.base s
 ·rw [hf.no e]
  cases q:Sh.lk g s with
  | none=>rfl
  | some v=>exact absurd (Dq (hg.pG.sound s v q) hs) e
theorem sK {s:aW} (h:s ∈ (a8 ts r qs).map (·.1)):s ∈ bA qs ts.length:=by
 obtain ⟨t,ht,rfl⟩:=Wq.mp h
 exact (n6.mp ht).1
theorem Jk {f:Sh.Mp aW} (h:Sh.ju (jL ts r qs) bx ((a8 ts r qs).map (·.1)) f) (hp:(Sh.pass (a8 ts r qs) f).2 = false):Kn ts r qs f where
 pG:=⟨h.sound,h.nd,h.base,fun k hk=>(h.keys k hk).imp id sK⟩
 closed:=fun s m b v he hb=>(Sh.sO hp).2 (s,m,b) (n6.mpr he) v hb
end
def yK (ts:List Th) (r:Int) (qs:List Qu):aW->Int->List (List Int)->Option Int
 | st,yV,[]=>if st = ([],1) then some yV else none
 | st,yV,c :: cs=>if c ∈ aU ts r qs st then yK ts r qs (behind ts.length st c) (yV + aP ts c) cs else none
section
variable {ts:List Th} {r:Int} {qs:List Qu}
theorem pQ {f:Sh.Mp aW} (ok:yT ts) (h:Fy ts r qs f) {s:aW} {v:Int} (hs:Sh.lk f s = some v):Sh.ju (jL ts r qs) bx (bA qs ts.length) f /\ Sh.lT (jL ts r qs) f:=by
 by_cases e:bx ∈ bA qs ts.length
 ·exact h.yes e
 ·rw [h.no e] at hs; cases hs
theorem HP {f:Sh.Mp aW} (ok:yT ts) (h:Fy ts r qs f) {s:aW} {v:Int} (hs:Sh.lk f s = some v) (ne:s ≠ bx):∃ c ∈ aU ts r qs s,∃ u,Sh.lk f (behind ts.length s c) = some u /\ aP ts c + u <= v:=by
 obtain ⟨fi,cl⟩:=pQ ok h hs
 have w:=fi.sound s v hs
 cases w with
 | nil=>exact absurd rfl ne
 | cons e w' =>
  obtain ⟨u,h1,h2⟩:=Sh.best cl fi.base w'
  obtain ⟨_,c,hc,rfl,rfl⟩:=e
  exact ⟨c,hc,u,h1,by omega⟩
theorem GP {f:Sh.Mp aW} (ok:yT ts) (h:Fy ts r qs f) {s:aW} {v u:Int} (hs:Sh.lk f s = some v) (hm:s ∈ bA qs ts.length) {c:List Int} (hc:c ∈ aU ts r qs s) (hu:Sh.lk f (behind ts.length s c) = some u):v <= aP ts c + u:=by
 obtain ⟨fi,cl⟩:=pQ ok h hs
 obtain ⟨v',h1,h2⟩:=cl s _ _ u ⟨hm,c,hc,rfl,rfl⟩ hu
 rw [hs] at h1
 cases h1
 exact h2
theorem yy {f:Sh.Mp aW} (ok:yT ts) (h:Fy ts r qs f) {s:aW} {v:Int} (hs:Sh.lk f s = some v):0 <= v:=((pQ ok h hs).1.sound s v hs).nonneg (later ok)
theorem Cn {f:Sh.Mp aW} (ok:yT ts) (h:Fy ts r qs f) {v:Int} (hs:Sh.lk f bx = some v):v = 0:=by
 have:=yy ok h hs
 obtain ⟨u,h1,h2⟩:=(pQ ok h hs).1.base
 rw [hs] at h1
 cases h1
 omega
inductive Reach (ts:List Th) (r:Int) (qs:List Qu) (s:aW):aW->Prop
 | refl:Reach ts r qs s s
 | step {b:aW} {c:List Int}:Reach ts r qs s b->c ∈ aU ts r qs b->Reach ts r qs s (behind ts.length b c)
theorem eP {s b:aW} (hs:s ∈ bA qs ts.length) (h:Reach ts r qs s b):b ∈ bA qs ts.length:=by
 induction h with
 | refl=>exact hs
 | step _ hc ih=>exact kr ih hc
theorem wf {s:aW} {fl:List aW} (hs:s ∈ fl) (hc:∀ b ∈ fl,∀ c ∈ aU ts r qs b,behind ts.length b c ∈ fl) {b:aW} (h:Reach ts r qs s b):b ∈ fl:=by
 induction h with
 | refl=>exact hs
 | step _ xc ih=>exact hc _ ih _ xc
theorem we {st:aW} (h:cQ ts.length st = true):(aU ts r qs st).Nodup:=(gN _).nodup_iff.mpr (nQ h)
end
def top (i:Nat):Stmt:=PySem.Challenge.pw_ferrynight_k06_whole_a_shortest_plan_or.main.body.getD i (.Pass ⟨0,0,0,0⟩)
abbrev dB:Stmt:=top 13
abbrev fm:Stmt:=top 14
abbrev cT:Stmt:=top 15
abbrev gM:Stmt:=top 16
abbrev eS:Stmt:=top 17
abbrev cP:Stmt:=top 18
abbrev dQ:Stmt:=inClass (top 19) 0
abbrev bO:Stmt:=inClass (top 19) 1
abbrev gJ:Stmt:=inClass (top 19) 2
abbrev dE:Stmt:=inClass (top 19) 4
abbrev gG:Stmt:=inClass (top 19) 5
abbrev eh:Stmt:=inClass (top 19) 6
abbrev nD:Stmt:=top 22
abbrev fV:Stmt:=top 23
abbrev fq:Stmt:=top 24
abbrev kP:Stmt:=top 25
abbrev fE:Stmt:=top 26
abbrev iD:Stmt:=top 27
abbrev iq:Stmt:=top 28
abbrev g9:Stmt:=top 29
abbrev jP:Stmt:=top 30
abbrev kO:Stmt:=top 31
abbrev uX:Stmt:=top 32
abbrev kI:Stmt:=top 33
abbrev gP:Stmt:=top 35
abbrev dL:Stmt:=top 36
abbrev gw:Stmt:=top 37
abbrev fF:Stmt:=top 38
abbrev eG:Stmt:=top 39
abbrev cN:Stmt:=top 40
abbrev gc:Stmt:=top 41
abbrev iW:Stmt:=top 42
abbrev jy:Stmt:=top 43
abbrev cc:Stmt:=top 45
abbrev cX:Stmt:=top 46
abbrev cL:Stmt:=top 47
abbrev c6:Stmt:=top 48
abbrev dZ:Stmt:=top 49
abbrev dM:Stmt:=top 50
abbrev eW:Stmt:=top 51
abbrev gj:Stmt:=top 52
abbrev fX:Stmt:=top 53
abbrev gi:Stmt:=top 54
abbrev ii:Stmt:=top 55
abbrev gb:Stmt:=top 56
abbrev fk:Stmt:=top 57
abbrev cK:Stmt:=top 58
abbrev bY:Stmt:=top 59
abbrev cI:Stmt:=top 60
abbrev fc:Stmt:=top 61
abbrev fA:Stmt:=top 62
abbrev dj:Stmt:=top 63
abbrev di:Stmt:=top 64
abbrev wP:Stmt:=top 65
structure Ad where
 k1:Tok
 k2:Tok
 k3:Tok
 k4:Tok
 k5:Tok
 qK:Addr
 lK:Addr
 Ct:Addr
 Ec:Addr
 xG:Addr
 eO:Addr
 iU:Addr
 OE:Addr
 Mj:Addr
abbrev L9:List Value:=[.type "ValueError",.type "Exception",.type "BaseException",.type "object"]
structure Ref (K:Yt) (mg:Str->Option Value) (Z:Ad) (x:Str) (D:Addr):Prop where
 g:mg x = some (.ref D)
 x:PySem.W.excIn K D L9 "ValueError.__new__" = true
 k:PySem.W.Io K D
 m:PySem.W.exmOne K (.ref D) (.ref Z.lK) = some true
 v:PySem.W.kitOne K (.ref D) (.type "ValueError") = some true
structure Txt (K:Yt) (mg:Str->Option Value) (C:Addr) (Z:Ad):Prop where
 cH:mg "len" = none
 ut:mg "list" = none
 cW:mg "tuple" = none
 eF:mg "range" = none
 cV:mg "isinstance" = none
 FI:mg "int" = none
 Ij:mg "bool" = none
 KB:mg "zip" = none
 yx:mg "all" = none
 Ka:mg "any" = none
 Gf:mg "max" = none
 i5:mg "sorted" = none
 Ey:mg "ValueError" = none
 Ie:mg "reversed" = none
 Gp:mg "min" = none
 Im:mg "dict" = none
 rV:mg "MOST_THINGS" = some (.int 6 Z.k1)
 qY:mg "MOST_MINUTES" = some (.int 1000000000 Z.k2)
 wN:mg "MOST_ROOM" = some (.int 3 Z.k3)
 oX:mg "MOST_QUARRELS" = some (.int 30 Z.k4)
 wc:mg "NO_KEEPER" = some (.int (-1) Z.k5)
 Fq:mg "Night" = some (.ref C)
 bR:Bi K C
 qp:iJ K C "kept_things"
 C6:iJ K C "kept_room"
 qV:iJ K C "kept_quarrels"
 yL:mg "SIDES" = some (.ref Z.qK)
 uC:∀ H,a7 K H Z.qK [.int 0,.int 1]
 Fl:mg "FerryError" = some (.ref Z.lK)
 IE:mg "BadThing" = some (.ref Z.Ct)
 IN:mg "BadRoom" = some (.ref Z.Ec)
 D3:mg "BadQuarrel" = some (.ref Z.xG)
 m4:Ref K mg Z "NoStanding" Z.eO
 p0:Ref K mg Z "BadStart" Z.iU
section
variable {K:Yt} {mg:Str->Option Value} {C:Addr} {Z:Ad}
theorem Txt.tR (T:Txt K mg C Z):mg "NoStanding" = some (.ref Z.eO):=T.m4.g
theorem Txt.yg (T:Txt K mg C Z):mg "BadStart" = some (.ref Z.iU):=T.p0.g
theorem Txt.uh (T:Txt K mg C Z):PySem.W.excIn K Z.eO L9 "ValueError.__new__" = true:=T.m4.x
theorem Txt.xu (T:Txt K mg C Z):PySem.W.excIn K Z.iU L9 "ValueError.__new__" = true:=T.p0.x
end
def nv (t:Addr) (r:Int) (q:Addr):List (Str × V):=eI "kept_quarrels" (.ref q) (eI "kept_room" (.int r) (eI "kept_things" (.ref t) []))
theorem MV:¬ (("kept_room":Str) = "kept_things"):=by decide +kernel
theorem MR:¬ (("kept_quarrels":Str) = "kept_things"):=by decide +kernel
theorem M6:¬ (("kept_quarrels":Str) = "kept_room"):=by decide +kernel
theorem BD (t:Addr) (r:Int) (q:Addr):(nv t r q).lookup ("kept_things":Str) = some (.ref t):=by
 unfold nv
 rw [bQ,if_neg (X2 MR),bQ,if_neg (X2 MV),bQ,if_pos rfl]
theorem G2 (t:Addr) (r:Int) (q:Addr):(nv t r q).lookup ("kept_room":Str) = some (.int r):=by
 unfold nv
 rw [bQ,if_neg (X2 M6),bQ,if_pos rfl]
theorem HL (t:Addr) (r:Int) (q:Addr):(nv t r q).lookup ("kept_quarrels":Str) = some (.ref q):=by
 unfold nv
 rw [bQ,if_pos rfl]
theorem uI (t:Addr) (r:Int) (q:Addr) {m:Str} (h1:¬ m = "kept_quarrels") (h2:¬ m = "kept_room") (h3:¬ m = "kept_things"):(nv t r q).lookup m = none:=by
 unfold nv
 rw [bQ,if_neg h1,bQ,if_neg h2,bQ,if_neg h3]
 all_goals rfl
structure bB (C:Addr) (H:Hp) (p:Addr) (ts:List Th) (r:Int) (qs:List Qu):Prop where
 ex:∃ dx t q,H p = some (.ins C dx (nv t r q)) /\ TupAt xk H t ts /\ TupAt zJ H q qs
theorem bB.mono {C:Addr} {H H':Hp} {p:Addr} {ts:List Th} {r:Int} {qs:List Qu} (h:bB C H p ts r qs) (e:ak H H'):bB C H' p ts r qs :=
 let ⟨dx,t,q,h1,h2,h3⟩:=h.ex
 ⟨dx,t,q,e _ _ h1,h2.mono e,h3.mono e⟩
theorem bB.upd {C:Addr} {H:Hp} {p:Addr} {ts:List Th} {r:Int} {qs:List Qu} {D:Addr} {o:HO} {ys:List V} (h:bB C H p ts r qs) (hD:H D = some (.lst ys)):bB C (L2.upd H D o) p ts r qs:=by
 obtain ⟨dx,t,q,h1,⟨vt,h2,fL⟩,⟨vq,h3,r9⟩⟩:=h.ex
 refine ⟨dx,t,q,?_,⟨vt,?_,bp hD fL (aK zo ts)⟩,⟨vq,?_,bp hD r9 (aK yQ qs)⟩⟩
 ·rw [aq (dY h1 hD (by intro z; cases z))]; exact h1
 ·rw [aq (dY h2 hD (by intro z; cases z))]; exact h2
 ·rw [aq (dY h3 hD (by intro z; cases z))]; exact h3
section
variable {P:Program} {w:World} {K:Yt} {mg:Str->Option Value} {base:Heap} {C:Addr} {Z:Ad}
def gZ (K:Yt):Sp:=fun vs H Q _=>∃ (a:Addr) (ns:List Int) (k:Nat),vs = [.ref a,.int k] /\ aZ K H a (ns.map V.int) /\ Q (.int (ns.getD k 0)) H
theorem pE:av ["script","k"] ["script","k"] (am cc):=fZ
theorem i9 {f:Addr} {fd:FuncData} (F:Fn K mg "_law_cell_at" cc f fd ["script","k"]) (T:Txt K mg C Z):au P w K mg base br 1 f fd ["script","k"] (gZ K):=by
 refine F.fn.ok pE (fun vs H Q E h=>?_) (fun cm A outer s H vs Q E hr h=>?_)
 ·obtain ⟨a,ns,k,rfl,_⟩:=h
  rfl
 ·obtain ⟨a,ns,k,rfl,hS,q⟩:=h
  refine ⟨_,(ag (bE (aC pV (pv 1) (aA aB (by rfl) T.cH Wv (aa (pv 0) af)) (a6 _))
   (aj (aD (aE cE (pv 0) (pv 1) (fun _ _=>rfl))))
   aQ)
   (aj (aD ai))),?_⟩
  refine ⟨_,rfl,_,rfl,a,_,rfl,.inl hS,_,_,rfl,rfl,_,rfl,?_⟩
  refine CG (fun h=>?_) (fun h=>?_)
  ·have hk:k < ns.length:=by
    have:=Wi h
    rw [VO] at this
    omega
   refine ⟨_,rfl,_,rfl,a,_,_,_,rfl,rfl,hS,fg (v:=V.int (ns.getD k 0)) ?_,q⟩
   rw [V3,V7,VS hk]
   rfl
  ·have hk:¬ k < ns.length:=fun z=>h (V0 (by rw [VO]; omega))
   have e:ns.getD k 0 = 0:=by
    rw [V7,List.getElem?_eq_none_iff.mpr (by omega)]
    rfl
   rw [e] at q
   exact q
def nr:Sp:=fun vs H Q _=>∃ (i:Int),vs = [.int i] /\ Q (.bl true) H
theorem r8:av ["found"] ["found"] (am cX):=fZ
theorem p6 {f:Addr} {fd:FuncData} (F:Fn K mg "_law_whole" cX f fd ["found"]) (T:Txt K mg C Z):au P w K mg base br 1 f fd ["found"] nr:=by
 refine F.fn.ok r8 (fun vs H Q E h=>?_) (fun cm A outer s H vs Q E hr h=>?_)
 ·obtain ⟨i,rfl,_⟩:=h
  rfl
 ·obtain ⟨i,rfl,q⟩:=h
  refine ⟨_,(aj (aD (fP (aA du (by rfl) T.cV Ym (aa (pv 0) (aa (jg (v:=.ty "int") (by rfl) T.FI boot_int rfl) af))) (je (Hu (aA du (by rfl) T.cV Ym (aa (pv 0) (aa (jg (v:=.ty "bool") (by rfl) T.Ij boot_bool rfl) af)))))))),?_⟩
  refine ⟨_,rfl,_,_,_,_,rfl,.int i,gp _ _,_,rfl,pd ?_⟩
  exact ⟨_,rfl,_,_,_,_,rfl,.int i,ui _,_,rfl,q⟩
def vK (K:Yt):Sp:=fun vs H Q _=>∃ (a b:Addr) (qs:List Qu) (g:List Int),vs = [.ref a,.ref b] /\ LstAt zJ H a qs /\ H b = some (.tup (g.map V.int)) /\ Q (.bl (gV qs g)) H
theorem wK {qs:List Qu} {g:List Int} {q:Qu} {i:Nat} (h:qs[i]? = some q) (hb:bad g q = true):gV qs g = false:=by
 unfold gV
 rw [List.any_eq_true.mpr ⟨q,Wm h,hb⟩]
 rfl
theorem sV {qs:List Qu} {g:List Int} (h:∀ (i:Nat) q,i < qs.length->qs[i]? = some q->bad g q = false):gV qs g = true:=by
 unfold gV
 have e:qs.any (bad g) = false:=by
  rw [List.any_eq_false]
  intro q hq
  obtain ⟨i,hi⟩:=X1.mp hq
  rw [h i q (Wa.mp hi).1 hi]
  exact VU
 rw [e]
 rfl
theorem fS:av ["quarrels","group","one","other","keeper"] ["quarrels","group"] (am eW):=fZ
theorem Cm {f:Addr} {fd:FuncData} (F:Fn K mg "_law_peace" eW f fd ["quarrels","group"]):au P w K mg base br 1 f fd ["quarrels","group"] (vK K):=by
 refine F.fn.ok fS (fun vs H Q E h=>?_) (fun cm A outer s H vs Q E hr h=>?_)
 ·obtain ⟨a,b,qs,g,rfl,_⟩:=h
  rfl
 ·obtain ⟨a,b,qs,g,rfl,⟨vq,ha,hq⟩,hb,k⟩:=h
  refine ⟨_,(ag (cU WA rfl (bI (pv 0)) (l7 rfl (a9 (gn 2 fS.nd) (a9 (gn 3 fS.nd) (a9 (gn 4 fS.nd) gE))))
   (aj (bE (PW.pt (pw_and (aC gO (pv 2) (pv 1) (by with_unfolding_all rfl)) (pw_and (aC gO (pv 3) (pv 1) (by with_unfolding_all rfl)) (pw_and1 (aC jj (pv 4) (pv 1) (by with_unfolding_all rfl))))))
   (aj (aD fh))
   aQ)))
   (aj (aD fh))),?_⟩
  have hl:=az hq
  refine ⟨_,rfl,a,rfl,⟨_,aZ.of ha⟩,cY (K:=K) (a:=a) (xs:=vq) (fun i σ H'=>H' = H /\ (∃ v1 v2 v3,σ = [some (.ref a),some (.ref b),v1,v2,v3]) /\ ∀ (j:Nat) q,j < i->qs[j]? = some q->bad g q = false)
   ⟨rfl,⟨_,_,_,rfl⟩,fun j q hj=>absurd hj (Nat.not_lt_zero _)⟩ (fun i σ H' _ ⟨e,_⟩=>by rw [e]; exact aZ.of ha) ?_ ?_⟩
  ·rintro i x σ H' hi ⟨rfl,⟨v1,v2,v3,rfl⟩,hn⟩
   obtain ⟨q,Ky,dq⟩:=bi hq hi
   obtain ⟨c,rfl,hc⟩:=xZ dq
   have next:bad g q = false->∀ (j:Nat) q',j < i + 1->qs[j]? = some q'->bad g q' = false:=fun h0 j q' hj FP=>by
    by_cases e:j = i
    ·subst e; rw [Ky] at FP; cases FP; exact h0
    ·exact hn j q' (by omega) FP
   refine ⟨c,_,rfl,a7.of hc,rfl,_,_,rfl,_,_,rfl,_,_,rfl,rfl,?_⟩
   refine ⟨_,rfl,_,rfl,b,_,rfl,.inr (a7.of hb),rfl,b6 g,_,rfl,?_⟩
   refine bF (fun h1=>?_) (fun h1=>?_)
   ·refine ⟨_,rfl,_,rfl,b,_,rfl,.inr (a7.of hb),rfl,b6 g,_,rfl,?_⟩
    refine bF (fun h2=>?_) (fun h2=>?_)
    ·refine ⟨_,rfl,_,rfl,b,_,rfl,.inr (a7.of hb),rfl,b6 g,_,rfl,?_⟩
     refine bF (fun h3=>?_) (fun h3=>?_)
     ·have e:bad g q = true:=by
       have c9:wl (.int q.1) (g.map V.int) = true:=h1
       have fL:wl (.int q.2.1) (g.map V.int) = true:=h2
       have r9:(!wl (.int q.2.2) (g.map V.int)) = true:=h3
       rw [b7] at c9 fL r9
       unfold bad
       rw [c9,fL,r9]
       rfl
      have k':=k
      rw [wK Ky e] at k'
      exact k'
     ·have e:bad g q = false:=by
       have r9:(!wl (.int q.2.2) (g.map V.int)) = false:=h3
       rw [b7] at r9
       unfold bad
       rw [r9,Xh]
      exact ⟨rfl,⟨_,_,_,rfl⟩,next e⟩
    ·have e:bad g q = false:=by
      have fL:wl (.int q.2.1) (g.map V.int) = false:=h2
      rw [b7] at fL
      unfold bad
      rw [fL,Xh,Ww]
     exact dm ⟨rfl,⟨_,_,_,rfl⟩,next e⟩
   ·have e:bad g q = false:=by
     have c9:wl (.int q.1) (g.map V.int) = false:=h1
     rw [b7] at c9
     unfold bad
     rw [c9,Ww,Ww]
    exact dm ⟨rfl,⟨_,_,_,rfl⟩,next e⟩
  ·rintro σ H' ⟨rfl,⟨v1,v2,v3,rfl⟩,hn⟩
   have k':=k
   rw [sV (qs:=qs) (g:=g) fun i q hi hq=>hn i q (by omega) hq] at k'
   exact k'
def sD (C:Addr):Sp:=fun vs H Q _=>∃ (p b:Addr) (ts:List Th) (r:Int) (qs:List Qu) (g:List Int),vs = [.ref p,.ref b] /\ bB C H p ts r qs /\ H b = some (.tup (g.map V.int)) /\ Q (.bl (gV qs g)) H
theorem fb:av ["self","group","one","other","keeper"] ["self","group"] (am eh):=fZ
theorem AG {f:Addr} {fd:FuncData} (F:Mt K "peace" "Night.peace" eh f fd ["self","group"]) (T:Txt K mg C Z):au P w K mg base br 1 f fd ["self","group"] (sD C):=by
 refine F.fn.ok fb (fun vs H Q E h=>?_) (fun cm A outer s H vs Q E hr h=>?_)
 ·obtain ⟨p,b,ts,r,qs,g,rfl,_⟩:=h
  rfl
 ·obtain ⟨p,b,ts,r,qs,g,rfl,N,hb,k⟩:=h
  obtain ⟨dx,t,a,hp,_,⟨vq,ha,hq⟩⟩:=N.ex
  refine ⟨_,(ag (cU WA rfl (fQ (t4 (pv 0) rfl)) (l7 rfl (a9 (gn 2 fb.nd) (a9 (gn 3 fb.nd) (a9 (gn 4 fb.nd) gE))))
   (aj (bE (PW.pt (pw_and (aC gO (pv 2) (pv 1) (by with_unfolding_all rfl)) (pw_and (aC gO (pv 3) (pv 1) (by with_unfolding_all rfl)) (pw_and1 (aC jj (pv 4) (pv 1) (by with_unfolding_all rfl))))))
   (aj (aD fh))
   aQ)))
   (aj (aD fh))),?_⟩
  have hl:=az hq
  refine ⟨_,rfl,p,C,dx,_,_,rfl,hp,T.bR,T.qV,HL _ _ _,a,rfl,⟨_,a7.of ha⟩,zk (K:=K) (a:=a) (xs:=vq) (fun i σ H'=>H' = H /\ (∃ v1 v2 v3,σ = [some (.ref p),some (.ref b),v1,v2,v3]) /\ ∀ (j:Nat) q,j < i->qs[j]? = some q->bad g q = false)
   ⟨rfl,⟨_,_,_,rfl⟩,fun j q hj=>absurd hj (Nat.not_lt_zero _)⟩ (fun i σ H' _ ⟨e,_⟩=>by rw [e]; exact a7.of ha) ?_ ?_⟩
  ·rintro i x σ H' hi ⟨rfl,⟨v1,v2,v3,rfl⟩,hn⟩
   obtain ⟨q,Ky,dq⟩:=bi hq hi
   obtain ⟨c,rfl,hc⟩:=xZ dq
   have next:bad g q = false->∀ (j:Nat) q',j < i + 1->qs[j]? = some q'->bad g q' = false:=fun h0 j q' hj FP=>by
    by_cases e:j = i
    ·subst e; rw [Ky] at FP; cases FP; exact h0
    ·exact hn j q' (by omega) FP
   refine ⟨c,_,rfl,a7.of hc,rfl,_,_,rfl,_,_,rfl,_,_,rfl,rfl,?_⟩
   refine ⟨_,rfl,_,rfl,b,_,rfl,.inr (a7.of hb),rfl,b6 g,_,rfl,?_⟩
   refine bF (fun h1=>?_) (fun h1=>?_)
   ·refine ⟨_,rfl,_,rfl,b,_,rfl,.inr (a7.of hb),rfl,b6 g,_,rfl,?_⟩
    refine bF (fun h2=>?_) (fun h2=>?_)
    ·refine ⟨_,rfl,_,rfl,b,_,rfl,.inr (a7.of hb),rfl,b6 g,_,rfl,?_⟩
     refine bF (fun h3=>?_) (fun h3=>?_)
     ·have e:bad g q = true:=by
       have c9:wl (.int q.1) (g.map V.int) = true:=h1
       have fL:wl (.int q.2.1) (g.map V.int) = true:=h2
       have r9:(!wl (.int q.2.2) (g.map V.int)) = true:=h3
       rw [b7] at c9 fL r9
       unfold bad
       rw [c9,fL,r9]
       rfl
      have k':=k
      rw [wK Ky e] at k'
      exact k'
     ·have e:bad g q = false:=by
       have r9:(!wl (.int q.2.2) (g.map V.int)) = false:=h3
       rw [b7] at r9
       unfold bad
       rw [r9,Xh]
      exact ⟨rfl,⟨_,_,_,rfl⟩,next e⟩
    ·have e:bad g q = false:=by
      have fL:wl (.int q.2.1) (g.map V.int) = false:=h2
      rw [b7] at fL
      unfold bad
      rw [fL,Xh,Ww]
     exact dm ⟨rfl,⟨_,_,_,rfl⟩,next e⟩
   ·have e:bad g q = false:=by
     have c9:wl (.int q.1) (g.map V.int) = false:=h1
     rw [b7] at c9
     unfold bad
     rw [c9,Ww,Ww]
    exact dm ⟨rfl,⟨_,_,_,rfl⟩,next e⟩
  ·rintro σ H' ⟨rfl,⟨v1,v2,v3,rfl⟩,hn⟩
   have k':=k
   rw [sV (qs:=qs) (g:=g) fun i q hi hq=>hn i q (by omega) hq] at k'
   exact k'
end
section
variable {P:Program} {w:World} {K:Yt} {mg:Str->Option Value} {base:Heap} {C:Addr} {Z:Ad}
def qU:Sp:=fun vs H Q _=>∃ (cell:Int) (n:Nat),vs = [.int cell,.int n] /\ 2 <= n /\ n <= 6 /\ ∀ (q:Qu) (p:Addr) (H':Hp),IS n q->ak H H'->H' p = some (.tup [.int q.1,.int q.2.1,.int q.2.2])->Q (.ref p) H'
theorem bS:av ["cell","many","one","other","left","keeper"] ["cell","many"] (am cL):=fZ
theorem xt {f:Addr} {fd:FuncData} (F:Fn K mg "_law_quarrel" cL f fd ["cell","many"]) (T:Txt K mg C Z):au P w K mg base br 1 f fd ["cell","many"] qU:=by
 refine F.fn.ok bS (fun vs H Q E h=>?_) (fun cm A outer s H vs Q E hr h=>?_)
 ·obtain ⟨cell,n,rfl,_⟩:=h
  rfl
 ·obtain ⟨cell,n,rfl,h2,h6,k⟩:=h
  refine ⟨_,(ag (sn 2 bS.nd (bn dC (pv 0) (pv 1)))
   (ag (sn 3 bS.nd (bn dC (bn fN (bn fN (pv 2) ai) (bn dC (bn kQ (pv 0) (pv 1)) (bn BJ (pv 1) ai))) (pv 1)))
   (ag (pI (j:=4) rfl (N':=["thing","one","other"]) (cap:=[none,some 2,some 3]) ⟨rfl,by with_unfolding_all rfl⟩ (c8 (by rfl) T.eF (aa (pv 1) af)) (fun _=>(gn 0 (show (["thing","one","other"]:List Str).Nodup by decide +kernel))) (fun _=>(cy (PW.pt (pw_and (aC m8 (pv 0) (pv 1) (a6 _)) (pw_and1 (aC m8 (pv 0) (pv 2) (a6 _))))))) (fun _=>(pv 0)) bS.nd (by rfl) (by rfl) (by with_unfolding_all rfl))
   (ag (sn 0 bS.nd (bn kQ (pv 0) (bn Hf (pv 1) (bn BJ (pv 1) ai))))
   (ag (sn 5 bS.nd (Ke GU ai))
   (ag (bE (PW.pt (pw_and (aC zB (bn dC (pv 0) ai) ai (a6 _)) (pw_and1 (aC zB (aA aB (by rfl) T.cH Wv (aa (pv 4) af)) ai (a6 _)))))
   (aj (sn 5 bS.nd (aE cE (pv 4) (bn dC (bn kQ (pv 0) ai) (aA aB (by rfl) T.cH Wv (aa (pv 4) af))) (fun _ _=>rfl))))
   aQ)
   (aj (aD (bM (aa (pv 2) (aa (pv 3) (aa (pv 5) af)))))))))))),?_⟩
  have hn:(0:Int) < n:=by omega
  have Ly:(0:Int) < (n:Int) - 1:=by omega
  obtain ⟨p1,p2⟩:=ET n h2 h6
  obtain ⟨o1,o2,o3,o4,o5⟩:=B0 cell n h2 h6
  refine ⟨_,rfl,_,rfl,_,_,rfl,rfl,hn,?_⟩
  refine ⟨_,rfl,_,_,rfl,rfl,_,rfl,_,rfl,_,_,rfl,rfl,⟨hn,by omega⟩,_,rfl,_,_,rfl,rfl,_,_,rfl,rfl,Ly,_,_,rfl,rfl,_,rfl,_,_,rfl,rfl,hn,?_⟩
  dsimp only
  generalize cell % (n:Int) = one at o1 o2 o3 o4 o5 ⊢
  generalize (one + 1 + cell / (n:Int) % ((n:Int) - 1)) % (n:Int) = other at o3 o4 o5 ⊢
  refine ⟨_,rfl,(n:Int),rfl,by omega,by omega,fun D hD=>?_⟩
  refine fH (fun i xs H'=>∃ L:List Int,xs = L.map V.int /\ L.length <= i /\ (∀ t ∈ L,0 <= t /\ t < n /\ t ≠ one /\ t ≠ other) /\ ak H H' /\ H' D = some (.lst xs))
   ⟨[],rfl,VP _,(fun t ht=>by cases ht),ah hD,ae⟩ (fun i xs H' _ ⟨L,_,_,_,_,h⟩=>h) ?_ ?_
  ·rintro i xs H' hi ⟨L,rfl,hL,hm,sm,eE⟩
   have go:∀ {H5:Hp},H5 = H'->(((0:Int) + i) ≠ one /\ ((0:Int) + i) ≠ other)->∃ L':List Int,(L.map V.int ++ [V.int ((0:Int) + i)]) = L'.map V.int /\ L'.length <= i + 1 /\ (∀ t ∈ L',0 <= t /\ t < n /\ t ≠ one /\ t ≠ other) /\ ak H (L2.upd H5 D (.lst (L.map V.int ++ [V.int ((0:Int) + i)]))) /\ (L2.upd H5 D (.lst (L.map V.int ++ [V.int ((0:Int) + i)]))) D = some (.lst (L.map V.int ++ [V.int ((0:Int) + i)])):=by
    rintro H5 rfl ⟨e1,e2⟩
    refine ⟨L ++ [(0:Int) + i],by simp,by simp; omega,fun t ht=>?_,ao sm hD,ae⟩
    rcases Wh.mp ht with z | z
    ·exact hm t z
    ·rw [Wo.mp z]
     exact ⟨by omega,by omega,e1,e2⟩
   have lZ:∃ L':List Int,L.map V.int = L'.map V.int /\ L'.length <= i + 1 /\ (∀ t ∈ L',0 <= t /\ t < n /\ t ≠ one /\ t ≠ other) /\ ak H H' /\ H' D = some (.lst (L.map V.int)):=⟨L,rfl,by omega,hm,sm,eE⟩
   refine ⟨b8.set rfl,?_⟩
   refine ⟨_,rfl,_,rfl,rfl,_,rfl,?_⟩
   refine bF (fun h1=>?_) (fun h1=>?_)
   ·refine ⟨_,rfl,_,rfl,rfl,_,rfl,?_⟩
    refine bF (fun h2=>?_) (fun h2=>?_)
    ·refine ⟨_,rfl,eE,?_,go rfl ⟨fun z=>?_,fun z=>?_⟩⟩
     ·rw [VO]; exact aO (by omega)
     ·rw [z] at h1; simp at h1
     ·rw [z] at h2; simp at h2
    ·exact lZ
   ·exact dm lZ
  ·rintro xs H1 ⟨L,rfl,hL,hm,sm,sj⟩
   refine ⟨_,rfl,_,rfl,_,rfl,_,_,rfl,rfl,_,_,rfl,rfl,.inl ⟨by omega,by omega⟩,_,_,rfl,rfl,⟨p1,p2⟩,?_⟩
   dsimp only
   generalize cell / ((n:Int) * ((n:Int) - 1)) = c2
   refine ⟨_,rfl,?_⟩
   have fin:∀ kp:Int,(kp = -1 \/ (0 <= kp /\ kp < n /\ kp ≠ one /\ kp ≠ other))->∀ p,H1 p = none->Q (.ref p) (L2.upd H1 p (.tup [.int one,.int other,.int kp])):=fun kp hk p hp =>
    k (one,other,kp) p _ ⟨o1,o2,o3,o4,o5,hk⟩ (ao sm (sm.free hp)) ae
   refine ⟨_,rfl,_,_,rfl,rfl,(by show (0:Int) < 3; decide),_,_,rfl,rfl,_,rfl,?_⟩
   refine bF (fun h1=>?_) (fun h1=>?_)
   ·refine ⟨_,rfl,D,_,rfl,.inl (aZ.of sj),_,_,rfl,rfl,_,rfl,?_⟩
    refine bF (fun h2=>?_) (fun h2=>?_)
    ·have hl:0 < (L.map V.int).length:=by
      have:=Wi h2
      omega
     have mF:(0:Int) < ((L.map V.int).length:Int):=by omega
     obtain ⟨v,hv,GV⟩:=uS (xs:=L.map V.int) (i:=c2 / 3 % ((L.map V.int).length:Int)) (Yo _ (by omega)) (XU _ mF)
     obtain ⟨kp,QC,rfl⟩:=Wq.mp hv
     refine ⟨_,rfl,_,rfl,_,_,rfl,rfl,⟨by decide,by decide⟩,_,rfl,D,_,rfl,.inl (aZ.of sj),_,_,rfl,rfl,mF,D,_,_,_,rfl,rfl,aZ.of sj,GV,?_⟩
     refine ⟨_,rfl,_,rfl,_,rfl,aL (by show 3 <= _; decide),fin kp (.inr (hm kp QC))⟩
    ·refine ⟨_,rfl,_,rfl,_,rfl,aL (by show 3 <= _; decide),fin (-1) (.inl rfl)⟩
   ·refine dm ?_
    refine ⟨_,rfl,_,rfl,_,rfl,aL (by show 3 <= _; decide),fin (-1) (.inl rfl)⟩
def oH (K:Yt):Sp:=fun vs H Q _=>∃ (a:Addr) (ns:List Int) (st n:Nat),vs = [.ref a,.int st,.int n] /\ aZ K H a (ns.map V.int) /\ 1 <= n /\ n <= 6 /\
 ∀ (qs:List Qu) (p:Addr) (H':Hp),qs.length <= 4->(∀ q ∈ qs,IS n q)->ak H H'->LstAt zJ H' p qs->Q (.ref p) H'
theorem iN:av ["script","start","many","count"] ["script","start","many"] (am c6):=fZ
theorem wT {f f1 f2:Addr} {fd eC kR:FuncData} (F:Fn K mg "_law_quarrels" c6 f fd ["script","start","many"]) (T:Txt K mg C Z)
  (aN:Fn K mg "_law_cell_at" cc f1 eC ["script","k"]) (eU:Fn K mg "_law_quarrel" cL f2 kR ["cell","many"]):au P w K mg base br 2 f fd ["script","start","many"] (oH K):=by
 have aV:au P w K mg base br 1 f1 eC ["script","k"] (gZ K):=i9 aN T
 have re:au P w K mg base br 1 f2 kR ["cell","many"] qU:=xt eU T
 refine F.fn.ok iN (fun vs H Q E h=>?_) (fun cm A outer s H vs Q E hr h=>?_)
 ·obtain ⟨a,ns,st,n,rfl,_⟩:=h
  rfl
 ·obtain ⟨a,ns,st,n,rfl,hS,h1,h6,k⟩:=h
  refine ⟨_,(ag (bE (aC iR (pv 2) ai (a6 _))
   (aj (aD (fG af)))
   aQ)
   (ag (sn 3 iN.nd (bn dC (cl aV aN hr aF (aa (pv 0) (aa (pv 1) af))) ai))
   (aj (aD (bv rfl (N':=["k","script","start","many"]) (cap:=[none,some 0,some 1,some 2]) ⟨rfl,by with_unfolding_all rfl⟩ (c8 (by rfl) T.eF (aa (pv 3) af)) (fun _=>(gn 0 (show (["k","script","start","many"]:List Str).Nodup by decide +kernel))) (fun _=>ce) (fun _=>(cl re eU hr aF (aa (bn dC (cl aV aN hr aF (aa (pv 1) (aa (bn fN (bn fN (pv 2) ai) (pv 0)) af))) (bn Bw ai ai)) (aa (pv 3) af))))))))),?_⟩
  refine ⟨_,rfl,rfl,_,rfl,?_⟩
  refine CG (fun h=>?_) (fun h=>?_)
  ·exact ⟨Wl _,fun l hl=>k [] l _ (Wl _) (fun q hq=>by cases hq) (ah hl) ⟨[],ae,.nil⟩⟩
  ·have h2:2 <= n:=by
    have z:¬ V.int (n:Int) = V.int 1:=fun z=>h (V0 z)
    have:n ≠ 1:=fun e=>z (by rw [e]; rfl)
    omega
   refine ⟨_,rfl,_,rfl,a,ns,st,rfl,hS,_,_,rfl,rfl,(by show (0:Int) < 5; decide),?_⟩
   have c0:0 <= ns.getD st 0 % 5:=Yo _ (by decide)
   have c5:ns.getD st 0 % 5 < 5:=XU _ (by decide)
   dsimp only
   generalize ns.getD st 0 % 5 = cnt at c0 c5 ⊢
   refine ⟨_,rfl,cnt,rfl,by omega,by omega,fun D hD=>?_⟩
   refine fH (fun i xs H'=>∃ qs:List Qu,qs.length = i /\ (∀ q ∈ qs,IS n q) /\ ak H H' /\ H' D = some (.lst xs) /\ bK H' (qs.map zJ) xs)
    ⟨[],rfl,(fun q hq=>by cases hq),ah hD,ae,.nil⟩ (fun i xs H' _ ⟨_,_,_,_,h,_⟩=>h) ?_ ?_
   ·rintro i xs H' hi ⟨qs,hq,ok,sm,eE,dv⟩
    refine ⟨b8.set rfl,?_⟩
    have e1:(st:Int) + 1 + (0 + (i:Int)) = ((st + 1 + i:Nat):Int):=by omega
    refine ⟨_,rfl,_,rfl,_,_,rfl,rfl,_,rfl,_,_,rfl,rfl,a,ns,st + 1 + i,(by show [V.ref a,V.int ((st:Int) + 1 + (0 + (i:Int)))] = _; rw [e1]),sm.seq hS,?_⟩
    refine ⟨_,_,rfl,rfl,⟨by decide,by decide,by decide⟩,_,_,rfl,rfl,(by show (0:Int) < (10:Int) ^ (9:Int).toNat; decide),_,rfl,_,n,rfl,h2,h6,fun q p H2 JP Iq hp=>?_⟩
    have j0:=Iq _ _ eE
    have dl:xs.length = qs.length:=az dv
    refine ⟨j0,aO (by omega),qs ++ [q],by simp [hq],fun q' xj=>?_,ao (sm.trans Iq) hD,ae,?_⟩
    ·rcases Wh.mp xj with z | z
     ·exact ok q' z
     ·rw [Wo.mp z]; exact JP
    ·rw [VV]
     exact (bp j0 (dv.mono Iq) (aK yQ qs)).snoc (cS j0 (Kh hp) (yQ q))
   ·rintro xs H1 ⟨qs,hq,ok,sm,sj,dv⟩
    exact k qs D H1 (by omega) ok sm ⟨xs,sj,dv⟩
def tL (K:Yt):Sp:=fun vs H Q _=>∃ (a:Addr) (ns:List Int) (st n:Nat),vs = [.ref a,.int st,.int n] /\ aZ K H a (ns.map V.int) /\ n <= 6 /\
 ∀ (ts:List Th) (p:Addr) (H':Hp),ts.length = n->(∀ t ∈ ts,1 <= t.1 /\ t.1 <= 1000000000)->ak H H'->LstAt xk H' p ts->Q (.ref p) H'
theorem dH:av ["script","start","many","most","things","k","cell"] ["script","start","many"] (am dZ):=fZ
theorem AN {f f1:Addr} {fd eC:FuncData} (F:Fn K mg "_law_things" dZ f fd ["script","start","many"]) (T:Txt K mg C Z)
  (aN:Fn K mg "_law_cell_at" cc f1 eC ["script","k"]):au P w K mg base br 2 f fd ["script","start","many"] (tL K):=by
 have aV:au P w K mg base br 1 f1 eC ["script","k"] (gZ K):=i9 aN T
 refine F.fn.ok dH (fun vs H Q E h=>?_) (fun cm A outer s H vs Q E hr h=>?_)
 ·obtain ⟨a,ns,st,n,rfl,_⟩:=h
  rfl
 ·obtain ⟨a,ns,st,n,rfl,hS,h6,k⟩:=h
  refine ⟨_,(ag (sn 3 dH.nd (aE cE (fG (aa ai (aa ai (aa (bn Bw ai ai) af)))) (bn dC (cl aV aN hr aF (aa (pv 0) (aa (pv 1) af))) ai) (fun _ _=>rfl)))
   (ag (sn 4 dH.nd (fG af))
   (ag (cU WA rfl (c8 (by rfl) T.eF (aa (pv 2) af)) (gn 5 dH.nd)
   (ag (sn 6 dH.nd (cl aV aN hr aF (aa (pv 0) (aa (bn fN (bn fN (pv 1) ai) (pv 5)) af))))
   (aj (cF (lj Xd XM XJ de (pv 4) (aa (bM (aa (bn fN ai (bn dC (bn kQ (pv 6) ai) (pv 3))) (aa (fW pV (bn dC (pv 6) ai) ai (a6 _)) af))) af))))))
   (aj (aD (pv 4)))))),?_⟩
  refine ⟨_,_,rfl,rfl,⟨by decide,by decide,by decide⟩,aL (by show 3 <= _; decide),fun l0 xh=>?_⟩
  have s0:ak H (L2.upd H l0 (.lst [V.int 20,V.int 4,V.int ((10:Int) ^ (9:Int).toNat)])):=ah xh
  have c0:0 <= ns.getD st 0 % 3:=Yo _ (by decide)
  have c3:ns.getD st 0 % 3 < 3:=XU _ (by decide)
  obtain ⟨v,hv,GV⟩:=uS (xs:=[V.int 20,V.int 4,V.int ((10:Int) ^ (9:Int).toNat)]) c0 (by show _ < ((3:Nat):Int); omega)
  obtain ⟨most,rfl,m1,m2⟩:∃ most:Int,v = V.int most /\ 1 <= most /\ most <= 1000000000:=by
   rcases VT.mp hv with rfl | hv
   ·exact ⟨20,rfl,by decide,by decide⟩
   rcases VT.mp hv with rfl | hv
   ·exact ⟨4,rfl,by decide,by decide⟩
   rw [Wo.mp hv]
   exact ⟨_,rfl,by decide,by decide⟩
  refine ⟨_,rfl,_,rfl,a,ns,st,rfl,s0.seq hS,_,_,rfl,rfl,(by show (0:Int) < 3; decide),l0,_,_,_,rfl,rfl,aZ.of ae,GV,?_⟩
  refine ⟨Wl _,fun l hl=>?_⟩
  have PN:H l = none:=s0.free hl
  refine ⟨_,rfl,(n:Int),rfl,by omega,by omega,kL (fun i σ H'=>∃ (ts:List Th) (vs:List V) (v5 v6:Option V),σ = [some (.ref a),some (.int st),some (.int n),some (.int most),some (.ref l),v5,v6] /\ ts.length = i /\ (∀ t ∈ ts,1 <= t.1 /\ t.1 <= 1000000000) /\ ak H H' /\ H' l = some (.lst vs) /\ bK H' (ts.map xk) vs)
   ⟨[],[],_,_,rfl,rfl,(fun t ht=>by cases ht),ao s0 PN,ae,.nil⟩ ?_ ?_⟩
  ·rintro i σ H' hi ⟨ts,vs,v5,v6,rfl,ht,ok,sm,mF,dv⟩
   have e1:(st:Int) + 1 + (0 + (i:Int)) = ((st + 1 + i:Nat):Int):=by omega
   refine ⟨_,rfl,_,rfl,_,_,rfl,rfl,_,rfl,_,_,rfl,rfl,a,ns,st + 1 + i,(by show [V.ref a,V.int ((st:Int) + 1 + (0 + (i:Int)))] = _; rw [e1]),sm.seq hS,?_⟩
   generalize ns.getD (st + 1 + i) 0 = cell
   refine ⟨_,rfl,.inl ⟨rfl,_,aZ.of mF⟩,_,rfl,_,_,rfl,rfl,⟨by decide,by decide⟩,_,rfl,_,_,rfl,rfl,(by show (0:Int) < most; omega),_,_,rfl,rfl,_,rfl,_,_,rfl,rfl,(by show (0:Int) < 3; decide),_,_,rfl,rfl,aL (by show 2 <= _; decide),fun p hp=>?_⟩
   have R9:l ≠ p:=aG mF hp
   have oC:(L2.upd H' p (.tup [V.int (1 + cell / 3 % most),V.bl (decide (cell % 3 < 2))])) l = some (.lst vs):=by rw [aq R9]; exact mF
   have dl:vs.length = ts.length:=az dv
   refine ⟨l,vs,_,rfl,rfl,oC,aO (by omega),?_⟩
   refine ⟨ts ++ [(1 + cell / 3 % most,decide (cell % 3 < 2))],_,_,_,rfl,by simp [ht],fun t OZ=>?_,ao (ao sm (sm.free hp)) PN,ae,?_⟩
   ·rcases Wh.mp OZ with z | z
    ·exact ok t z
    ·rw [Wo.mp z]
     have q0:0 <= cell / 3 % most:=Yo _ (by omega)
     have q1:cell / 3 % most < most:=XU _ (by omega)
     exact ⟨by show 1 <= 1 + cell / 3 % most; omega,by show 1 + cell / 3 % most <= 1000000000; omega⟩
   ·rw [VV]
    exact (bp oC (dv.mono (ah hp)) (aK zo ts)).snoc (cS oC (KJ ae) (zo _))
  ·rintro σ H' ⟨ts,vs,v5,v6,rfl,ht,ok,sm,mF,dv⟩
   exact ⟨_,rfl,k ts l H' (by omega) ok sm ⟨vs,mF,dv⟩⟩
structure jQ (H:Hp) (p:Addr) (m:Nat) (ts:List Th) (r:Int) (qs:List Qu):Prop where
 t:yT ts
 m:ts.length <= m
 r1:1 <= r
 r3:r <= 3
 q:∀ q ∈ qs,IS ts.length q
 ex:∃ a b,H p = some (.tup [.ref a,.int r,.ref b]) /\ LstAt xk H a ts /\ LstAt zJ H b qs
theorem jQ.mono {H H':Hp} {p:Addr} {m:Nat} {ts:List Th} {r:Int} {qs:List Qu} (h:jQ H p m ts r qs) (e:ak H H'):jQ H' p m ts r qs :=
 let ⟨a,b,h1,h2,h3⟩:=h.ex
 ⟨h.t,h.m,h.r1,h.r3,h.q,a,b,e _ _ h1,h2.mono e,h3.mono e⟩
def vA (K:Yt):Sp:=fun vs H Q _=>∃ (a:Addr) (ns:List Int) (m:Nat),vs = [.ref a,.int m] /\ aZ K H a (ns.map V.int) /\ 1 <= m /\ m <= 6 /\
 ∀ (ts:List Th) (r:Int) (qs:List Qu) (p:Addr) (H':Hp),jQ H' p m ts r qs->qs.length <= 4->ak H H'->Q (.ref p) H'
theorem fY:av ["script","most","many","room"] ["script","most"] (am dM):=fZ
theorem BO {f f1 f2 f3 f4:Addr} {fd eC kR A4 Kt:FuncData} (F:Fn K mg "_law_night" dM f fd ["script","most"]) (T:Txt K mg C Z)
  (aN:Fn K mg "_law_cell_at" cc f1 eC ["script","k"]) (eU:Fn K mg "_law_quarrel" cL f2 kR ["cell","many"])
  (jF:Fn K mg "_law_quarrels" c6 f3 A4 ["script","start","many"]) (k9:Fn K mg "_law_things" dZ f4 Kt ["script","start","many"]):au P w K mg base br 3 f fd ["script","most"] (vA K):=by
 have aV:au P w K mg base br 1 f1 eC ["script","k"] (gZ K):=i9 aN T
 have oY:au P w K mg base br 2 f3 A4 ["script","start","many"] (oH K):=wT jF T aN eU
 have rW:au P w K mg base br 2 f4 Kt ["script","start","many"] (tL K):=AN k9 T aN
 refine F.fn.ok fY (fun vs H Q E h=>?_) (fun cm A outer s H vs Q E hr h=>?_)
 ·obtain ⟨a,ns,m,rfl,_⟩:=h
  rfl
 ·obtain ⟨a,ns,m,rfl,hS,h1,h6,k⟩:=h
  have hm:(0:Int) < m:=by omega
  obtain ⟨tl,Sj,Pt⟩:∃ t,tN (bX P w K mg base ["script","most","many","room"] "_law_night" dM f cm A outer s H E) ((cw dM).drop 2) t /\ ∀ n:Nat,1 <= n->n <= m->t (bD Q) [some (.ref a),some (.int m),some (.int n),none] H:=by
   refine ⟨_,(ag (sn 3 fY.nd (aE cE (fG (aa ai (aa ai (aa ai (aa ai af))))) (bn dC (cl aV aN hr aF (aa (pv 0) (aa ai af))) ai) (fun _ _=>rfl)))
   (aj (aD (bM (aa (cl rW k9 hr aF (aa (pv 0) (aa ai (aa (pv 2) af)))) (aa (pv 3) (aa (cl oY jF hr aF (aa (pv 0) (aa ai (aa (pv 2) af)))) af))))))),fun n n1 nm=>?_⟩
   have d0:0 <= ns.getD 1 0 % 4:=Yo _ (by decide)
   have d4:ns.getD 1 0 % 4 < 4:=XU _ (by decide)
   obtain ⟨v,hv,GV⟩:=uS (xs:=[V.int 2,V.int 3,V.int 2,V.int 1]) d0 (by show _ < ((4:Nat):Int); omega)
   obtain ⟨r,rfl,r1,r3⟩:∃ r:Int,v = V.int r /\ 1 <= r /\ r <= 3:=by
    rcases VT.mp hv with rfl | hv
    ·exact ⟨2,rfl,by decide,by decide⟩
    rcases VT.mp hv with rfl | hv
    ·exact ⟨3,rfl,by decide,by decide⟩
    rcases VT.mp hv with rfl | hv
    ·exact ⟨2,rfl,by decide,by decide⟩
    rw [Wo.mp hv]
    exact ⟨1,rfl,by decide,by decide⟩
   refine ⟨aL (by show 4 <= _; decide),fun l0 xh=>?_⟩
   have s0:ak H (L2.upd H l0 (.lst [V.int 2,V.int 3,V.int 2,V.int 1])):=ah xh
   refine ⟨_,rfl,a,ns,1,rfl,s0.seq hS,_,_,rfl,rfl,(by show (0:Int) < 4; decide),l0,_,_,_,rfl,rfl,aZ.of ae,GV,?_⟩
   refine ⟨_,rfl,_,rfl,a,ns,2,n,rfl,s0.seq hS,by omega,fun ts pt H1 ht MA s1 lt=>?_⟩
   refine ⟨_,rfl,_,rfl,_,rfl,a,ns,10,n,rfl,(s0.trans s1).seq hS,n1,by omega,fun qs pq H2 hq JP s2 lq=>?_⟩
   refine ⟨aL (by show 3 <= _; decide),fun p hp=>?_⟩
   exact k ts r qs p _ ⟨⟨by omega,by omega,MA⟩,by omega,r1,r3,by rw [ht]; exact JP,pt,pq,ae,(lt.mono s2).mono (ah hp),lq.mono (ah hp)⟩ hq ((s0.trans s1).trans (s2.trans (ah hp)))
  refine ⟨_,(ag (sn 2 fY.nd (bn fN ai (bn dC (cl aV aN hr aF (aa (pv 0) (aa ai af))) (pv 1))))
   (ag (bE (aC iR (bn dC (bn kQ (cl aV aN hr aF (aa (pv 0) (aa ai af))) ai) ai) ai (a6 _))
   (aj (sn 2 fY.nd (pv 1)))
   aQ)
   Sj)),?_⟩
  refine ⟨_,rfl,a,ns,0,rfl,hS,_,rfl,_,_,rfl,rfl,hm,_,_,rfl,rfl,?_⟩
  have c0:0 <= ns.getD 0 0 % (m:Int):=Yo _ (by omega)
  have c1:ns.getD 0 0 % (m:Int) < m:=XU _ hm
  refine ⟨_,rfl,a,ns,0,rfl,hS,_,_,rfl,rfl,⟨by decide,by decide⟩,_,_,rfl,rfl,(by show (0:Int) < 2; decide),rfl,_,rfl,?_⟩
  refine CG (fun h=>?_) (fun h=>?_)
  ·refine ⟨_,rfl,?_⟩
   exact Pt m h1 (VP _)
  ·have e:(1:Int) + ns.getD 0 0 % (m:Int) = (((1 + ns.getD 0 0 % (m:Int)).toNat:Nat):Int):=by omega
   have z:=Pt (1 + ns.getD 0 0 % (m:Int)).toNat (by omega) (by omega)
   rw [<- e] at z
   exact z
def yH:Sp:=fun vs H Q _=>∃ (num:Int) (n:Nat),vs = [.int num,.int n] /\ n <= 1000 /\ ∀ (p:Addr) (H':Hp),ak H H'->H' p = some (.tup ((bits n num).map V.int))->Q (.ref p) H'
theorem gI:av ["number","many","group","thing"] ["number","many"] (am gj):=fZ
theorem E6 {f:Addr} {fd:FuncData} (F:Fn K mg "_law_bits" gj f fd ["number","many"]) (T:Txt K mg C Z):au P w K mg base br 1 f fd ["number","many"] yH:=by
 refine F.fn.ok gI (fun vs H Q E h=>?_) (fun cm A outer s H vs Q E hr h=>?_)
 ·obtain ⟨num,n,rfl,_⟩:=h
  rfl
 ·obtain ⟨num,n,rfl,hn,k⟩:=h
  refine ⟨_,(ag (sn 2 gI.nd (fG af))
   (ag (cU WA rfl (c8 (by rfl) T.eF (aa (pv 1) af)) (gn 3 gI.nd)
   (ag (bE (aC iR (bn dC (pv 0) ai) ai (a6 _))
   (aj (cF (lj Xd XM XJ de (pv 2) (aa (pv 3) af))))
   aQ)
   (aj (sn 0 gI.nd (bn kQ (pv 0) ai)))))
   (aj (aD (bu bN (by rfl) T.cW Xz (aa (pv 2) af)))))),?_⟩
  refine ⟨Wl _,fun l hl=>?_⟩
  refine ⟨_,rfl,(n:Int),rfl,by omega,by omega,kL (fun i σ H'=>∃ (g:List Int) (m:Int) (v3:Option V),σ = [some (.int m),some (.int n),some (.ref l),v3] /\ g.length <= i /\ i <= n /\ g ++ cr (n - i) i m = bits n num /\ ak H H' /\ H' l = some (.lst (g.map V.int)))
   ⟨[],num,_,rfl,Wl _,Wl _,rfl,ah hl,ae⟩ ?_ ?_⟩
  ·rintro i σ H' hi ⟨g,m,v3,rfl,hg,oU,hb,sm,mF⟩
   have e0:n - i = (n - (i + 1)) + 1:=by omega
   rw [e0] at hb
   have e1:((0:Int) + (i:Int)) = (i:Int):=by omega
   have e2:((i + 1:Nat):Int) = (i:Int) + 1:=by omega
   refine ⟨_,rfl,_,_,rfl,rfl,(by show (0:Int) < 2; decide),rfl,_,rfl,?_⟩
   refine CG (fun h=>?_) (fun h=>?_)
   ·have hm:m % 2 = 1:=by
     have z:V.int (m % 2) = V.int 1:=Wi h
     injection z
    refine ⟨_,rfl,.inl ⟨rfl,_,aZ.of mF⟩,_,rfl,l,_,_,rfl,rfl,mF,?_,?_⟩
    ·rw [VO]; exact aO (by omega)
    refine ⟨_,rfl,_,_,rfl,rfl,⟨by decide,by decide⟩,?_⟩
    refine ⟨g ++ [(i:Int)],m / 2,_,rfl,by simp; omega,by omega,?_,ao sm hl,?_⟩
    ·rw [<- hb,cr,if_pos hm,e2,V6]
    ·rw [ae,VV,e1]
     rfl
   ·have hm:¬ m % 2 = 1:=fun z=>h (V0 (by show V.int (m % 2) = V.int 1; rw [z]))
    refine ⟨_,rfl,_,_,rfl,rfl,⟨by decide,by decide⟩,?_⟩
    refine ⟨g,m / 2,_,rfl,by omega,by omega,?_,sm,mF⟩
    rw [<- hb,cr,if_neg hm,e2]
    rfl
  ·rintro σ H' ⟨g,m,v3,rfl,hg,oU,hb,sm,mF⟩
   have e0:n - ((n:Int)).toNat = 0:=by omega
   rw [e0] at hb
   have Bj:g = bits n num:=by rw [<- hb]; simp [cr]
   subst Bj
   exact ⟨_,rfl,l,_,rfl,.inl ⟨aZ.of mF,fun p hp=>k p _ (ao sm (sm.free hp)) ae⟩⟩
def nO:Sp:=fun vs H Q _=>∃ (n:Nat),vs = [.int n] /\ n <= 6 /\ ∀ (p:Addr) (H':Hp),ak H H'->LstAt gu H' p (groups n)->Q (.ref p) H'
theorem Ih {n:Nat} (h:n <= 6):yX [V.int 1,V.int 2,V.int 4,V.int 8,V.int 16,V.int 32,V.int 64] (n:Int) = some (V.int ((2 ^ n:Nat):Int)):=by
 have c:n = 0 \/ n = 1 \/ n = 2 \/ n = 3 \/ n = 4 \/ n = 5 \/ n = 6:=by omega
 rcases c with rfl | rfl | rfl | rfl | rfl | rfl | rfl <;> rfl
theorem Cs {n:Nat} (h:n <= 6):2 ^ n <= 64:=by
 have c:n = 0 \/ n = 1 \/ n = 2 \/ n = 3 \/ n = 4 \/ n = 5 \/ n = 6:=by omega
 rcases c with rfl | rfl | rfl | rfl | rfl | rfl | rfl <;> decide
theorem qL:av ["many"] ["many"] (am fX):=fZ
theorem tM {f f1:Addr} {fd eC:FuncData} (F:Fn K mg "_law_groups" fX f fd ["many"]) (T:Txt K mg C Z) (oE:Fn K mg "_law_bits" gj f1 eC ["number","many"]):au P w K mg base br 2 f fd ["many"] nO:=by
 have wt:au P w K mg base br 1 f1 eC ["number","many"] yH:=E6 oE T
 refine F.fn.ok qL (fun vs H Q E h=>?_) (fun cm A outer s H vs Q E hr h=>?_)
 ·obtain ⟨n,rfl,_⟩:=h
  rfl
 ·obtain ⟨n,rfl,hn,k⟩:=h
  refine ⟨_,(aj (aD (bv rfl (N':=["number","many"]) (cap:=[none,some 0]) ⟨rfl,by with_unfolding_all rfl⟩ (c8 (by rfl) T.eF (aa (aE cE (fG (aa ai (aa ai (aa ai (aa ai (aa ai (aa ai (aa ai af)))))))) (pv 0) (fun _ _=>rfl)) af)) (fun _=>(gn 0 (show (["number","many"]:List Str).Nodup by decide +kernel))) (fun _=>ce) (fun _=>(cl wt oE hr aF (aa (pv 0) (aa (pv 1) af))))))),?_⟩
  have hp:=Cs hn
  have VC:(0:Int) <= ((2 ^ n:Nat):Int):=Int.natCast_nonneg _
  refine ⟨aL (by show 7 <= _; decide),fun l0 xh=>?_⟩
  have s0:ak H (L2.upd H l0 (.lst [V.int 1,V.int 2,V.int 4,V.int 8,V.int 16,V.int 32,V.int 64])):=ah xh
  refine ⟨_,rfl,l0,_,_,_,rfl,rfl,aZ.of ae,Ih hn,_,rfl,by omega,by omega,fun D hD=>?_⟩
  have PK:H D = none:=s0.free hD
  refine fH (fun i xs H'=>ak H H' /\ H' D = some (.lst xs) /\ bK H' (((be i).map (bits n)).map gu) xs)
   ⟨ao s0 PK,ae,.nil⟩ (fun i xs H' _ ⟨_,h,_⟩=>h) ?_ ?_
  ·rintro i xs H' hi ⟨sm,eE,dv⟩
   have e1:((0:Int) + (i:Int)) = (i:Int):=by omega
   have rL:i < 2 ^ n:=by omega
   refine ⟨b8.set rfl,?_⟩
   refine ⟨_,rfl,_,rfl,_,n,rfl,by omega,fun p H2 Iq uF=>?_⟩
   have j0:=Iq _ _ eE
   have dl:xs.length = i:=by rw [az dv,VO,aT]
   refine ⟨j0,aO (by omega),ao (sm.trans Iq) PK,ae,?_⟩
   rw [dO,VV,VV]
   refine (bp j0 (dv.mono Iq) (aK eR _)).snoc (cS j0 (gY ?_) (eR _))
   rw [uF,e1]
  ·rintro xs H1 ⟨sm,sj,dv⟩
   have e:(((2 ^ n:Nat):Int)).toNat = 2 ^ n:=WS _
   rw [e] at dv
   exact k D H1 sm ⟨xs,sj,dv⟩
end
section
variable {P:Program} {w:World} {K:Yt} {mg:Str->Option Value} {base:Heap} {C:Addr} {Z:Ad}
def jD:Sp:=fun vs H Q _=>∃ (a:Addr) (ts:List Th),vs = [.ref a] /\ LstAt xk H a ts /\ yT ts /\ Q .dR H
theorem gx:av ["things","pace","rows"] ["things"] (am dB):=fZ
theorem oV {f:Addr} {fd:FuncData} (F:Fn K mg "check_things" dB f fd ["things"]) (T:Txt K mg C Z):au P w K mg base br 1 f fd ["things"] jD:=by
 refine F.fn.ok gx (fun vs H Q E h=>?_) (fun cm A outer s H vs Q E hr h=>?_)
 ·obtain ⟨a,ts,rfl,_⟩:=h
  rfl
 ·obtain ⟨a,ts,rfl,⟨va,ha,dv⟩,ok,k⟩:=h
  refine ⟨_,(ag (bE (dW (ny kg kg ai (aA aB (by rfl) T.cH Wv (aa (pv 0) af)) (jq (v:=.int (6)) (by rfl) T.rV ⟨_,rfl⟩)))
   (aj iX)
   aQ)
   (aj (cU WA rfl (bI (pv 0)) (l7 rfl (a9 (gn 1 gx.nd) (a9 (gn 2 gx.nd) gE)))
   (aj (bE (dW (ny kg kg ai (pv 1) (jq (v:=.int (1000000000)) (by rfl) T.qY ⟨_,rfl⟩)))
   (aj iX)
   aQ))))),?_⟩
  have hl:=az dv
  have l1:=ok.l1
  have l6:=ok.l6
  refine ⟨_,rfl,a,_,rfl,.inl (aZ.of ha),_,_,rfl,rfl,_,rfl,?_⟩
  rw [V0 (show (1:Int) <= (va.length:Int) by omega)]
  refine pd ⟨_,_,rfl,rfl,_,rfl,?_⟩
  rw [V0 (show (va.length:Int) <= 6 by omega)]
  refine dm ?_
  refine ⟨_,rfl,a,rfl,⟨_,aZ.of ha⟩,cY (K:=K) (a:=a) (xs:=va) (fun i σ H'=>H' = H /\ ∃ v1 v2,σ = [some (.ref a),v1,v2]) ⟨rfl,_,_,rfl⟩ (fun i σ H' _ ⟨e,_⟩=>by rw [e]; exact aZ.of ha) ?_ ?_⟩
  ·rintro i x σ H' hi ⟨rfl,v1,v2,rfl⟩
   obtain ⟨t,ht,dt⟩:=bi dv hi
   obtain ⟨b,rfl,hb⟩:=CJ dt
   obtain ⟨p1,p2⟩:=ok.p t (Wm ht)
   refine ⟨b,_,rfl,a7.of hb,rfl,_,_,rfl,_,_,rfl,rfl,?_⟩
   refine ⟨_,rfl,_,_,rfl,rfl,_,rfl,?_⟩
   rw [V0 (show (1:Int) <= t.1 from p1)]
   refine pd ⟨_,_,rfl,rfl,_,rfl,?_⟩
   rw [V0 (show t.1 <= (1000000000:Int) from p2)]
   exact dm ⟨rfl,_,_,rfl⟩
  ·rintro σ H' ⟨rfl,v1,v2,rfl⟩
   exact k
def lB:Sp:=fun vs H Q _=>∃ (r:Int),vs = [.int r] /\ 1 <= r /\ r <= 3 /\ Q .dR H
theorem rO:av ["room"] ["room"] (am fm):=fZ
theorem rZ {f:Addr} {fd:FuncData} (F:Fn K mg "check_room" fm f fd ["room"]) (T:Txt K mg C Z):au P w K mg base br 1 f fd ["room"] lB:=by
 refine F.fn.ok rO (fun vs H Q E h=>?_) (fun cm A outer s H vs Q E hr h=>?_)
 ·obtain ⟨r,rfl,_⟩:=h
  rfl
 ·obtain ⟨r,rfl,r1,r3,k⟩:=h
  refine ⟨_,(aj (bE (dW (ny kg kg ai (pv 0) (jq (v:=.int (3)) (by rfl) T.wN ⟨_,rfl⟩)))
   (aj iX)
   aQ)),?_⟩
  refine ⟨_,rfl,_,_,rfl,rfl,_,rfl,?_⟩
  rw [V0 (show (1:Int) <= r from r1)]
  refine pd ⟨_,_,rfl,rfl,_,rfl,?_⟩
  rw [V0 (show r <= (3:Int) from r3)]
  exact dm k
def ik:Sp:=fun vs H Q _=>∃ (n c:Int),vs = [.int n,.int c] /\ Q (.bl (decide (0 <= n /\ n < c))) H
theorem wk:av ["number","count"] ["number","count"] (am cT):=fZ
theorem kj {f:Addr} {fd:FuncData} (F:Fn K mg "is_thing" cT f fd ["number","count"]):au P w K mg base br 1 f fd ["number","count"] ik:=by
 refine F.fn.ok wk (fun vs H Q E h=>?_) (fun cm A outer s H vs Q E hr h=>?_)
 ·obtain ⟨n,c,rfl,_⟩:=h
  rfl
 ·obtain ⟨n,c,rfl,k⟩:=h
  refine ⟨_,(aj (aD (wW kg pV ai (pv 0) (pv 1)))),?_⟩
  refine ⟨_,rfl,_,_,rfl,rfl,_,rfl,?_⟩
  refine CG (fun h=>?_) (fun h=>?_)
  ·have h0:0 <= n:=Wi h
   refine ⟨_,rfl,_,_,rfl,rfl,?_⟩
   have e:decide (n < c) = decide (0 <= n /\ n < c):=by rw [XZ]; simp [h0]
   show Q (V.bl (decide (n < c))) H
   rw [e]
   exact k
  ·have h0:¬ 0 <= n:=fun z=>h (V0 z)
   have e:decide (0 <= n /\ n < c) = false:=We (fun z=>h0 z.1)
   rw [e] at k
   exact k
def rf:Sp:=fun vs H Q _=>∃ (a b c:Int),vs = [.int a,.int b,.int c] /\ Q (.bl (decide (0 <= a /\ a < c) && (decide (0 <= b /\ b < c) && !decide (V.int a = V.int b)))) H
theorem yn:av ["one","other","count"] ["one","other","count"] (am gM):=fZ
theorem xU {f f1:Addr} {fd eC:FuncData} (F:Fn K mg "is_pair" gM f fd ["one","other","count"]) (bH:Fn K mg "is_thing" cT f1 eC ["number","count"]):au P w K mg base br 2 f fd ["one","other","count"] rf:=by
 have fO:au P w K mg base br 1 f1 eC ["number","count"] ik:=kj bH
 refine F.fn.ok yn (fun vs H Q E h=>?_) (fun cm A outer s H vs Q E hr h=>?_)
 ·obtain ⟨a,b,c,rfl,_⟩:=h
  rfl
 ·obtain ⟨a,b,c,rfl,k⟩:=h
  refine ⟨_,(aj (aD (fP (cl fO bH hr aF (aa (pv 0) (aa (pv 2) af))) (fP (cl fO bH hr aF (aa (pv 1) (aa (pv 2) af))) (je (fW m8 (pv 0) (pv 1) (a6 _))))))),?_⟩
  refine ⟨_,rfl,_,rfl,_,_,rfl,_,rfl,?_⟩
  refine bF (fun h1=>?_) (fun h1=>?_)
  ·refine ⟨_,rfl,_,rfl,_,_,rfl,_,rfl,?_⟩
   refine bF (fun h2=>?_) (fun h2=>?_)
   ·refine ⟨_,rfl,_,rfl,rfl,?_⟩
    rw [h1,h2] at k
    exact k
   ·rw [h1,h2] at k
    exact k
  ·rw [h1] at k
   exact k
def mh:Sp:=fun vs H Q _=>∃ (kp a b c:Int),vs = [.int kp,.int a,.int b,.int c] /\ Q (.bl (decide (V.int kp = V.int (-1)) || (decide (0 <= kp /\ kp < c) && (!decide (V.int kp = V.int a) && !decide (V.int kp = V.int b))))) H
theorem uA:av ["keeper","one","other","count"] ["keeper","one","other","count"] (am eS):=fZ
theorem tV {f f1:Addr} {fd eC:FuncData} (F:Fn K mg "is_keeper" eS f fd ["keeper","one","other","count"]) (T:Txt K mg C Z) (bH:Fn K mg "is_thing" cT f1 eC ["number","count"]):au P w K mg base br 2 f fd ["keeper","one","other","count"] mh:=by
 have fO:au P w K mg base br 1 f1 eC ["number","count"] ik:=kj bH
 refine F.fn.ok uA (fun vs H Q E h=>?_) (fun cm A outer s H vs Q E hr h=>?_)
 ·obtain ⟨kp,a,b,c,rfl,_⟩:=h
  rfl
 ·obtain ⟨kp,a,b,c,rfl,k⟩:=h
  refine ⟨_,(ag (bE (aC iR (pv 0) (jq (v:=.int (-1)) (by rfl) T.wc ⟨_,rfl⟩) (a6 _))
   (aj (aD fh))
   aQ)
   (aj (aD (fP (cl fO bH hr aF (aa (pv 0) (aa (pv 3) af))) (fP (fW m8 (pv 0) (pv 1) (a6 _)) (je (fW m8 (pv 0) (pv 2) (a6 _)))))))),?_⟩
  refine ⟨_,rfl,rfl,_,rfl,?_⟩
  refine bF (fun h0=>?_) (fun h0=>?_)
  ·rw [h0] at k
   exact k
  ·rw [h0] at k
   refine ⟨_,rfl,_,rfl,_,_,rfl,_,rfl,?_⟩
   refine bF (fun h1=>?_) (fun h1=>?_)
   ·rw [h1] at k
    refine ⟨_,rfl,_,rfl,rfl,_,rfl,?_⟩
    refine bF (fun h2=>?_) (fun h2=>?_)
    ·rw [h2] at k
     refine ⟨_,rfl,_,rfl,rfl,?_⟩
     exact k
    ·rw [h2] at k
     exact k
   ·rw [h1] at k
    exact k
def ij:Sp:=fun vs H Q _=>∃ (a:Addr) (n:Nat) (qs:List Qu),vs = [.ref a,.int n] /\ LstAt zJ H a qs /\ qs.length <= 30 /\ (∀ q ∈ qs,IS n q) /\ Q .dR H
theorem dk:av ["quarrels","count","one","other","keeper"] ["quarrels","count"] (am cP):=fZ
theorem mv {f f1 f2 f3:Addr} {fd eC kR A4:FuncData} (F:Fn K mg "check_quarrels" cP f fd ["quarrels","count"]) (T:Txt K mg C Z) (bH:Fn K mg "is_thing" cT f1 eC ["number","count"])
  (kB:Fn K mg "is_pair" gM f2 kR ["one","other","count"]) (iu:Fn K mg "is_keeper" eS f3 A4 ["keeper","one","other","count"]):au P w K mg base br 3 f fd ["quarrels","count"] ij:=by
 have zT:au P w K mg base br 2 f2 kR ["one","other","count"] rf:=xU kB bH
 have wJ:au P w K mg base br 2 f3 A4 ["keeper","one","other","count"] mh:=tV iu T bH
 refine F.fn.ok dk (fun vs H Q E h=>?_) (fun cm A outer s H vs Q E hr h=>?_)
 ·obtain ⟨a,n,qs,rfl,_⟩:=h
  rfl
 ·obtain ⟨a,n,qs,rfl,⟨va,ha,dv⟩,QT,ok,k⟩:=h
  refine ⟨_,(ag (bE (aC zB (aA aB (by rfl) T.cH Wv (aa (pv 0) af)) (jq (v:=.int (30)) (by rfl) T.oX ⟨_,rfl⟩) (a6 _))
   (aj iX)
   aQ)
   (aj (cU WA rfl (bI (pv 0)) (l7 rfl (a9 (gn 2 dk.nd) (a9 (gn 3 dk.nd) (a9 (gn 4 dk.nd) gE))))
   (ag (bE (dW (cG (cl zT kB hr aF (aa (pv 2) (aa (pv 3) (aa (pv 1) af))))))
   (aj iX)
   aQ)
   (aj (bE (dW (cG (cl wJ iu hr aF (aa (pv 4) (aa (pv 2) (aa (pv 3) (aa (pv 1) af)))))))
   (aj iX)
   aQ)))))),?_⟩
  have hl:=az dv
  refine ⟨_,rfl,a,_,rfl,.inl (aZ.of ha),_,_,rfl,rfl,_,rfl,?_⟩
  rw [We (show ¬ (30:Int) < (va.length:Int) by omega)]
  refine dm ?_
  refine ⟨_,rfl,a,rfl,⟨_,aZ.of ha⟩,cY (K:=K) (a:=a) (xs:=va) (fun i σ H'=>H' = H /\ ∃ v1 v2 v3,σ = [some (.ref a),some (.int n),v1,v2,v3]) ⟨rfl,_,_,_,rfl⟩ (fun i σ H' _ ⟨e,_⟩=>by rw [e]; exact aZ.of ha) ?_ ?_⟩
  ·rintro i x σ H' hi ⟨rfl,v1,v2,v3,rfl⟩
   obtain ⟨q,hq,dq⟩:=bi dv hi
   obtain ⟨b,rfl,hb⟩:=xZ dq
   have o:=ok q (Wm hq)
   refine ⟨b,_,rfl,a7.of hb,rfl,_,_,rfl,_,_,rfl,_,_,rfl,rfl,?_⟩
   refine ⟨_,rfl,_,rfl,_,rfl,_,_,_,rfl,_,rfl,?_⟩
   have e1:decide (0 <= q.1 /\ q.1 < (n:Int)) = true:=V0 ⟨o.a0,o.a1⟩
   have e2:decide (0 <= q.2.1 /\ q.2.1 < (n:Int)) = true:=V0 ⟨o.b0,o.b1⟩
   have e3:decide (V.int q.1 = V.int q.2.1) = false:=We fun z=>o.ab (by injection z)
   rw [e1,e2,e3]
   refine dm ?_
   refine ⟨_,rfl,_,rfl,_,rfl,_,rfl,_,_,_,_,rfl,_,rfl,?_⟩
   have e4:(decide (V.int q.2.2 = V.int (-1)) || (decide (0 <= q.2.2 /\ q.2.2 < (n:Int)) && (!decide (V.int q.2.2 = V.int q.1) && !decide (V.int q.2.2 = V.int q.2.1)))) = true:=by
    rcases o.k with z | ⟨z1,z2,z3,z4⟩
    ·rw [V0 (show V.int q.2.2 = V.int (-1) by rw [z])]
     rfl
    ·rw [V0 (show 0 <= q.2.2 /\ q.2.2 < (n:Int) from ⟨z1,z2⟩),We (show ¬ V.int q.2.2 = V.int q.1 from fun z=>z3 (by injection z)),We (show ¬ V.int q.2.2 = V.int q.2.1 from fun z=>z4 (by injection z))]
     simp
   rw [e4]
   exact dm ⟨rfl,_,_,_,rfl⟩
  ·rintro σ H' ⟨rfl,v1,v2,v3,rfl⟩
   exact k
def yG (C:Addr):Sp:=fun vs H Q _=>∃ (p dx a b:Addr) (ts:List Th) (r:Int) (qs:List Qu),vs = [.ref p,.ref a,.int r,.ref b] /\ H p = some (.ins C dx []) /\ LstAt xk H a ts /\ yT ts /\ 1 <= r /\ r <= 3 /\ LstAt zJ H b qs /\ qs.length <= 30 /\ (∀ q ∈ qs,IS ts.length q) /\
 ∀ H',bB C H' p ts r qs->(∀ b o,H b = some o->b ≠ p->H' b = some o)->Q .dR H'
theorem mJ:av ["self","things","room","quarrels"] ["self","things","room","quarrels"] (am dQ):=fZ
theorem Fg {f f1 f2 f3 f4 f5 f6:Addr} {fd eC kR A4 Kt Pe PL:FuncData} (F:Mt K "__init__" "Night.__init__" dQ f fd ["self","things","room","quarrels"]) (T:Txt K mg C Z) (bH:Fn K mg "is_thing" cT f1 eC ["number","count"])
  (kB:Fn K mg "is_pair" gM f2 kR ["one","other","count"]) (iu:Fn K mg "is_keeper" eS f3 A4 ["keeper","one","other","count"])
  (kx:Fn K mg "check_things" dB f4 Kt ["things"]) (my:Fn K mg "check_room" fm f5 Pe ["room"]) (iV:Fn K mg "check_quarrels" cP f6 PL ["quarrels","count"]) :
  au P w K mg base br 4 f fd ["self","things","room","quarrels"] (yG C):=by
 have qM:au P w K mg base br 1 f4 Kt ["things"] jD:=oV kx T
 have tZ:au P w K mg base br 1 f5 Pe ["room"] lB:=rZ my T
 have nJ:au P w K mg base br 3 f6 PL ["quarrels","count"] ij:=mv iV T bH kB iu
 refine F.fn.ok mJ (fun vs H Q E h=>?_) (fun cm A outer s H vs Q E hr h=>?_)
 ·obtain ⟨p,dx,a,b,ts,r,qs,rfl,_⟩:=h
  rfl
 ·obtain ⟨p,dx,a,b,ts,r,qs,rfl,hp,lt,MA,r1,r3,lq,hq,JP,k⟩:=h
  refine ⟨_,(ag (cF (cl qM kx hr aF (aa (pv 1) af)))
   (ag (cF (cl tZ my hr aF (aa (pv 2) af)))
   (ag (cF (cl nJ iV hr aF (aa (pv 3) (aa (aA aB (by rfl) T.cH Wv (aa (pv 1) af)) af))))
   (ag (ym (pv 0) (bu bN (by rfl) T.cW Xz (aa (pv 1) af)) rfl)
   (ag (ym (pv 0) (pv 2) rfl)
   (aj (ym (pv 0) (bu bN (by rfl) T.cW Xz (aa (pv 3) af)) rfl))))))),?_⟩
  obtain ⟨va,ha,P8⟩:=id lt
  obtain ⟨vb,hb,Tx⟩:=id lq
  have hl:=az P8
  refine ⟨_,rfl,a,ts,rfl,lt,MA,?_⟩
  refine ⟨_,rfl,r,rfl,r1,r3,?_⟩
  refine ⟨_,rfl,_,rfl,a,_,rfl,.inl (aZ.of ha),b,va.length,qs,rfl,lq,hq,by rw [hl]; exact JP,?_⟩
  refine ⟨_,rfl,a,_,rfl,.inl ⟨aZ.of ha,fun t ht=>?_⟩⟩
  have Pg:p ≠ t:=aG hp ht
  have Qr:b ≠ t:=aG hb ht
  refine ⟨_,rfl,p,C,dx,[],rfl,(by rw [aq Pg]; exact hp),T.bR,T.qp,(by show 0 < 1000; decide),?_⟩
  refine ⟨_,rfl,_,rfl,p,C,dx,_,rfl,ae,T.bR,T.C6,(by show 1 < 1000; decide),?_⟩
  have PF:b ≠ p:=dY hb hp (by intro z; cases z)
  have B2:∀ o o',(L2.upd (L2.upd (L2.upd H t (.tup va)) p o) p o') b = some (.lst vb):=fun o o'=>by rw [aq PF,aq PF,aq Qr]; exact hb
  refine ⟨_,rfl,b,_,rfl,.inl ⟨aZ.of (B2 _ _),fun q xj=>?_⟩⟩
  have P6:p ≠ q:=aG (H:=L2.upd (L2.upd (L2.upd H t (.tup va)) p _) p _) ae xj
  refine ⟨_,rfl,p,C,dx,_,rfl,(by rw [aq P6]; exact ae),T.bR,T.qV,(by show 2 < 1000; decide),?_⟩
  have old:∀ b o,H b = some o->b ≠ p->(L2.upd (L2.upd (L2.upd (L2.upd (L2.upd H t (.tup va)) p (.ins C dx (eI "kept_things" (.ref t) []))) p (.ins C dx (eI "kept_room" (.int r) (eI "kept_things" (.ref t) [])))) q (.tup vb)) p (.ins C dx (nv t r q))) b = some o:=fun c o hc J0=>by
   have S7:c ≠ t:=aG hc ht
   have h1:(L2.upd (L2.upd (L2.upd H t (.tup va)) p (.ins C dx (eI "kept_things" (.ref t) []))) p (.ins C dx (eI "kept_room" (.int r) (eI "kept_things" (.ref t) [])))) c = some o:=by rw [aq J0,aq J0,aq S7]; exact hc
   have Qp:c ≠ q:=aG h1 xj
   rw [aq J0,aq Qp]
   exact h1
  have Ol:t ≠ p:=fun e=>Pg e.symm
  have P5:(L2.upd (L2.upd (L2.upd H t (.tup va)) p (.ins C dx (eI "kept_things" (.ref t) []))) p (.ins C dx (eI "kept_room" (.int r) (eI "kept_things" (.ref t) [])))) t = some (.tup va):=by rw [aq Ol,aq Ol]; exact ae
  have SR:t ≠ q:=aG P5 xj
  have sm:∀ {α:Type} {f:α->PyData} {l:List α} {vs:List V},(∀ x,gf (f x) = true)->bK H (l.map f) vs->bK (L2.upd (L2.upd (L2.upd (L2.upd (L2.upd H t (.tup va)) p (.ins C dx (eI "kept_things" (.ref t) []))) p (.ins C dx (eI "kept_room" (.int r) (eI "kept_things" (.ref t) [])))) q (.tup vb)) p (.ins C dx (nv t r q))) (l.map f) vs:=fun {α f l vs} hf h=>pN (fun b ws hb=>old b _ hb (by
    intro z
    rw [z,hp] at hb
    cases hb)) h (aK hf l)
  refine k _ ⟨dx,t,q,ae,⟨va,?_,sm zo P8⟩,⟨vb,?_,sm yQ Tx⟩⟩ old
  ·rw [aq Ol,aq SR]; exact P5
  ·rw [aq (fun e=>P6 e.symm)]; exact ae
def gU (C:Addr):Sp:=fun vs H Q _=>∃ (p:Addr) (ts:List Th) (r:Int) (qs:List Qu),vs = [.ref p] /\ bB C H p ts r qs /\ ∀ l vs,H l = none->bK H (ts.map xk) vs->Q (.ref l) (L2.upd H l (.lst vs))
theorem oW:av ["self"] ["self"] (am bO):=fZ
theorem ja {f:Addr} {fd:FuncData} (F:Mt K "things" "Night.things" bO f fd ["self"]) (T:Txt K mg C Z):au P w K mg base br 1 f fd ["self"] (gU C):=by
 refine F.fn.ok oW (fun vs H Q E h=>?_) (fun cm A outer s H vs Q E hr h=>?_)
 ·obtain ⟨p,ts,r,qs,rfl,_⟩:=h
  rfl
 ·obtain ⟨p,ts,r,qs,rfl,N,k⟩:=h
  obtain ⟨dx,t,q,hp,⟨vt,ht,dt⟩,_⟩:=N.ex
  refine ⟨_,(aj (aD (bu jv (by rfl) T.ut boot_list (aa (t4 (pv 0) rfl) af)))),?_⟩
  exact ⟨_,rfl,p,C,dx,_,_,rfl,hp,T.bR,T.qp,BD _ _ _,t,_,rfl,.inr (a7.of ht),fun l hl=>k l vt hl dt⟩
def wZ (C:Addr):Sp:=fun vs H Q _=>∃ (p:Addr) (ts:List Th) (r:Int) (qs:List Qu),vs = [.ref p] /\ bB C H p ts r qs /\ Q (.int r) H
theorem rQ:av ["self"] ["self"] (am gJ):=fZ
theorem Bt {f:Addr} {fd:FuncData} (F:Mt K "room" "Night.room" gJ f fd ["self"]) (T:Txt K mg C Z):au P w K mg base br 1 f fd ["self"] (wZ C):=by
 refine F.fn.ok rQ (fun vs H Q E h=>?_) (fun cm A outer s H vs Q E hr h=>?_)
 ·obtain ⟨p,ts,r,qs,rfl,_⟩:=h
  rfl
 ·obtain ⟨p,ts,r,qs,rfl,N,k⟩:=h
  obtain ⟨dx,t,q,hp,_,_⟩:=N.ex
  refine ⟨_,(aj (aD (t4 (pv 0) rfl))),?_⟩
  exact ⟨_,rfl,p,C,dx,_,_,rfl,hp,T.bR,T.C6,G2 _ _ _,k⟩
def GI (n:Nat):PyData:=.tuple [gu (be n),.int 0]
def rh (C:Addr):Sp:=fun vs H Q _=>∃ (p:Addr) (ts:List Th) (r:Int) (qs:List Qu),vs = [.ref p] /\ bB C H p ts r qs /\ ts.length <= 6 /\ ∀ l H',ak H H'->DV H' (GI ts.length) (.ref l)->Q (.ref l) H'
theorem pD:av ["self"] ["self"] (am dE):=fZ
theorem yb {f:Addr} {fd:FuncData} (F:Mt K "begins" "Night.begins" dE f fd ["self"]) (T:Txt K mg C Z):au P w K mg base br 1 f fd ["self"] (rh C):=by
 refine F.fn.ok pD (fun vs H Q E h=>?_) (fun cm A outer s H vs Q E hr h=>?_)
 ·obtain ⟨p,ts,r,qs,rfl,_⟩:=h
  rfl
 ·obtain ⟨p,ts,r,qs,rfl,N,h6,k⟩:=h
  obtain ⟨dx,t,q,hp,⟨vt,ht,dt⟩,_⟩:=N.ex
  have hl:=az dt
  refine ⟨_,(aj (aD (bM (aa (bu (i0 rfl) (by rfl) T.cW Xz (aa (bu oG (by rfl) T.eF boot_range (aa (aA aB (by rfl) T.cH Wv (aa (t4 (pv 0) rfl) af)) af)) af)) (aa ai af))))),?_⟩
  refine ⟨_,rfl,p,C,dx,_,_,rfl,hp,T.bR,T.qp,BD _ _ _,t,_,rfl,.inr (a7.of ht),_,rfl,fun l mF=>?_⟩
  refine ⟨l,ts.length,rfl,by rw [hl]; exact ae,by omega,fun g hg=>?_⟩
  refine ⟨aL (by show 2 <= _; decide),fun o ho=>?_⟩
  have sg:ak H (L2.upd (L2.upd H l (.DB 0 (vt.length:Nat))) g (.tup ((be ts.length).map V.int))):=ao (ah mF) ((ah mF).free hg)
  refine k o _ (ao sg (sg.free ho)) (.tup ae (.cons (gY ?_) (.cons (.int 0) .nil)))
  rw [aq (aG (H:=L2.upd (L2.upd H l (.DB 0 (vt.length:Nat))) g (.tup ((be ts.length).map V.int))) ae ho)]
  exact ae
def NB:PyData:=.tuple [.tuple [],.int 1]
def vf:Sp:=fun vs H Q _=>∃ (p:Addr),vs = [.ref p] /\ ∀ l H',ak H H'->DV H' NB (.ref l)->Q (.ref l) H'
theorem rY:av ["self"] ["self"] (am gG):=fZ
theorem Cy {f:Addr} {fd:FuncData} (F:Mt K "ends" "Night.ends" gG f fd ["self"]):au P w K mg base br 1 f fd ["self"] vf:=by
 refine F.fn.ok rY (fun vs H Q E h=>?_) (fun cm A outer s H vs Q E hr h=>?_)
 ·obtain ⟨p,rfl,_⟩:=h
  rfl
 ·obtain ⟨p,rfl,k⟩:=h
  refine ⟨_,(aj (aD (bM (aa (bM af) (aa ai af))))),?_⟩
  refine ⟨Wl _,fun g hg=>⟨aL (by show 2 <= _; decide),fun o ho=>?_⟩⟩
  have sg:ak H (L2.upd H g (.tup [])):=ah hg
  refine k o _ (ao sg (sg.free ho)) (.tup ae (.cons (.tup ?_ .nil) (.cons (.int 1) .nil)))
  rw [aq (aG (H:=L2.upd H g (.tup [])) ae ho)]
  exact ae
end
theorem c7 (t:Addr) (r:Int) (q:Addr):(nv t r q).lookup ("things":Str) = none:=uI _ _ _ (by decide +kernel) (by decide +kernel) (by decide +kernel)
theorem xL (t:Addr) (r:Int) (q:Addr):(nv t r q).lookup ("room":Str) = none:=uI _ _ _ (by decide +kernel) (by decide +kernel) (by decide +kernel)
theorem kC (t:Addr) (r:Int) (q:Addr):(nv t r q).lookup ("peace":Str) = none:=uI _ _ _ (by decide +kernel) (by decide +kernel) (by decide +kernel)
def cj (H:Hp) (a:Addr) (st:aW):Prop:=∃ b,H a = some (.tup [.ref b,.int st.2]) /\ H b = some (.tup (st.1.map V.int))
theorem cj.mono {H H':Hp} {a:Addr} {st:aW} (h:cj H a st) (e:ak H H'):cj H' a st:=let ⟨b,h1,h2⟩:=h; ⟨b,e _ _ h1,e _ _ h2⟩
theorem cj.dv {H:Hp} {a:Addr} {st:aW} (h:cj H a st):DV H (dn st) (.ref a):=let ⟨_,h1,h2⟩:=h; .tup h1 (.cons (gY h2) (.cons (.int _) .nil))
section
variable {P:Program} {w:World} {K:Yt} {mg:Str->Option Value} {base:Heap} {C:Addr} {Z:Ad}
def vh:Sp:=fun vs H Q _=>∃ (a:Addr) (g:List Int),vs = [.ref a] /\ H a = some (.tup (g.map V.int)) /\ g.length <= 1000 /\ ∀ H',ak H H'->Q (.bl (oA g)) H'
theorem Cb:av ["group"] ["group"] (am nD):=fZ
theorem BR {f:Addr} {fd:FuncData} (F:Fn K mg "rises" nD f fd ["group"]) (T:Txt K mg C Z):au P w K mg base br 1 f fd ["group"] vh:=by
 refine F.fn.ok Cb (fun vs H Q E h=>?_) (fun cm A outer s H vs Q E hr h=>?_)
 ·obtain ⟨a,g,rfl,_⟩:=h
  rfl
 ·obtain ⟨a,g,rfl,ha,hl,k⟩:=h
  refine ⟨_,(aj (aD (aA (mw rfl) (by rfl) T.yx boot_all (aa (bv rfl (N':=["one","other"]) (cap:=[none,none]) ⟨rfl,by with_unfolding_all rfl⟩ (GW (by rfl) T.KB boot_zip (aa (pv 0) (aa (Bo EM (pv 0) (EI ai) Fx) af))) (fun _=>(tupK (K:=K) (n:=2) rfl rfl (a9 (gn 0 (show (["one","other"]:List Str).Nodup by decide +kernel)) (a9 (gn 1 (show (["one","other"]:List Str).Nodup by decide +kernel)) gE)))) (fun _=>ce) (fun _=>(fW pV (pv 0) (pv 1) (a6 _)))) af)))),?_⟩
  refine ⟨_,rfl,_,rfl,1,rfl,?_⟩
  by_cases hg:g = []
  ·subst hg
   refine .inr ⟨a,_,rfl,a7.of ha,⟨rfl,rfl⟩,a,a,_,_,rfl,ha,ha,fun D hD=>?_⟩
   refine vG (n:=0) (fun i xs H'=>ak H H' /\ H' D = some (.lst xs) /\ xs = [] /\ H' a = some (.tup [])) ⟨ah hD,ae,rfl,(ah hD) _ _ ha⟩ rfl (fun i xs H' _ ⟨_,h,_,h2⟩=>⟨h,h2,h2⟩) ?_ ?_
   ·rintro i x y xs H' p hx
    simp at hx
   ·rintro xs H' ⟨sm,eE,rfl,_⟩
    exact ⟨D,[],rfl,aZ.of eE,k H' sm⟩
  ·have h1:1 <= g.length:=Yf.mpr hg
   have e1:HT.eN (g.map V.int).length 0 (some ((1:Nat):Int)) = 1:=by rw [HT.EX,VO]; omega
   refine .inl ⟨a,_,rfl,a7.of ha,(fun z=>by have z1:=z.1; rw [show (1:Int) = ((1:Nat):Int) from rfl,e1] at z1; cases z1),fun p hp=>?_⟩
   have ec:wD (g.map V.int) (some 1) none = (g.drop 1).map V.int:=by
    unfold wD
    rw [show (1:Int) = ((1:Nat):Int) from rfl,e1]
    show List.take ((g.map V.int).length - 1) _ = _
    rw [<- List.map_drop,V1 (by simp)]
   rw [ec]
   have s1:ak H (L2.upd H p (.tup ((g.drop 1).map V.int))):=ah hp
   refine ⟨a,p,_,_,rfl,s1 _ _ ha,ae,fun D hD=>?_⟩
   have U0:=s1.free hD
   refine vG (as:=g.map V.int) (bs:=(g.drop 1).map V.int) (n:=g.length - 1) (fun i xs H'=>ak (L2.upd H p (.tup ((g.drop 1).map V.int))) H' /\ H' D = some (.lst xs) /\ xs = ((g.zip (g.drop 1)).take i).map fun q=>V.bl (decide (q.1 < q.2)))
    ⟨ah hD,ae,by simp⟩ (by simp) (fun i xs H' _ ⟨sm,h,_⟩=>⟨h,sm _ _ (s1 _ _ ha),sm _ _ ae⟩) ?_ ?_
   ·rintro i x y xs H' q hx hy hq ⟨sm,eE,rfl⟩
    rw [V3,WC] at hx hy
    obtain ⟨x',oR,rfl⟩:=hx
    obtain ⟨y',hV,rfl⟩:=hy
    refine ⟨q,_,rfl,a7.of ae,rfl,_,_,rfl,_,_,rfl,rfl,(b8.set rfl).trans (b8.set rfl),?_⟩
    have sq:ak H' (L2.upd H' q (.tup [V.int x',V.int y'])):=ah hq
    have Ux:=sq _ _ eE
    refine ⟨_,rfl,_,rfl,_,_,rfl,rfl,Ux,aO (by rw [VO,Wb]; simp; omega),ao (sm.trans sq) hD,ae,?_⟩
    have ez:(g.zip (g.drop 1))[i]? = some (x',y'):=by rw [List.getElem?_zip_eq_some]; exact ⟨oR,hV⟩
    rw [Wd,ez]
    simp
   ·rintro xs H' ⟨sm,eE,rfl⟩
    refine ⟨D,(g.zip (g.drop 1)).map (fun q:Int × Int=>decide (q.1 < q.2)),rfl,aZ.of ?_,k H' (s1.trans sm)⟩
    rw [eE,Wx,V1 (by simp)]
    rfl
def iH (C:Addr):Sp:=fun vs H Q _=>∃ (p b:Addr) (ts:List Th) (r:Int) (qs:List Qu) (g:List Int),vs = [.ref p,.ref b] /\ bB C H p ts r qs /\ ts.length <= 6 /\ H b = some (.tup (g.map V.int)) /\
 ∀ l H',ak H H'->H' l = some (.tup ((restOf ts.length g).map V.int))->Q (.ref l) H'
theorem rR:av ["night","group"] ["night","group"] (am fq):=fZ
theorem lA {f f1:Addr} {fd eC:FuncData} (F:Fn K mg "other_bank" fq f fd ["night","group"]) (T:Txt K mg C Z) (bG:Meth K C "things" f1) (aX:Mt K "things" "Night.things" bO f1 eC ["self"]) :
  au P w K mg base br 2 f fd ["night","group"] (iH C):=by
 have b9:au P w K mg base br 1 f1 eC ["self"] (gU C):=ja aX T
 refine F.fn.ok rR (fun vs H Q E h=>?_) (fun cm A outer s H vs Q E hr h=>?_)
 ·obtain ⟨p,b,ts,r,qs,g,rfl,_⟩:=h
  rfl
 ·obtain ⟨p,b,ts,r,qs,g,rfl,N,h6,hb,k⟩:=h
  obtain ⟨dx,t,q,hp,_,_⟩:=id N.ex
  refine ⟨_,(aj (aD (bu bN (by rfl) T.cW Xz (aa (bv rfl (N':=["thing","group"]) (cap:=[none,some 1]) ⟨rfl,by with_unfolding_all rfl⟩ (c8 (by rfl) T.eF (aa (aA aB (by rfl) T.cH Wv (aa (ge (pv 0) T.bR bG b9 (hr.mono (by decide)) aX.b .nil aF) af)) af)) (fun _=>(gn 0 (show (["thing","group"]:List Str).Nodup by decide +kernel))) (fun _=>(cy (aC (qz (K:=K) rfl) (pv 0) (pv 1) (by with_unfolding_all rfl)))) (fun _=>(pv 0))) af)))),?_⟩
  refine ⟨_,rfl,p,dx,_,rfl,hp,c7 _ _ _,p,ts,r,qs,rfl,N,fun l vs hl dv=>?_⟩
  have s1:ak H (L2.upd H l (.lst vs)):=ah hl
  have lv:=az dv
  refine ⟨l,_,rfl,.inl (aZ.of ae),_,rfl,by omega,by omega,fun D hD=>?_⟩
  have U0:=s1.free hD
  rw [WS,lv]
  refine fH (n:=ts.length) (fun i xs H'=>ak (L2.upd H l (.lst vs)) H' /\ H' D = some (.lst xs) /\ xs = ((be i).filter fun t=>!g.contains t).map V.int)
   ⟨ah hD,ae,rfl⟩ (fun i xs H' _ ⟨_,h,_⟩=>h) ?_ ?_
  ·rintro i xs H' hi ⟨sm,eE,rfl⟩
   have e1:((0:Int) + (i:Int)) = (i:Int):=by omega
   refine ⟨b8.set rfl,?_⟩
   refine ⟨_,rfl,_,rfl,b,_,rfl,.inr (a7.of (sm _ _ (s1 _ _ hb))),rfl,b6 g,_,rfl,?_⟩
   rw [b7,e1]
   have sl:((be i).filter fun t=>!g.contains t).length <= i:=VZ (Wg _ _) (by rw [aT]; exact VP _)
   refine bF (fun h1=>?_) (fun h1=>?_)
   ·refine ⟨_,rfl,eE,aO (by rw [VO]; omega),ao sm hD,ae,?_⟩
    rw [dO,Wk,VV]
    have c9:(!g.contains (i:Int)) = true:=h1
    have ef:[(i:Int)].filter (fun t=>!g.contains t) = [(i:Int)]:=by rw [Wr,if_pos c9]; rfl
    rw [ef]
    rfl
   ·refine ⟨sm,eE,?_⟩
    have c9:(!g.contains (i:Int)) = false:=h1
    have ef:[(i:Int)].filter (fun t=>!g.contains t) = []:=by rw [Wr,if_neg (by rw [c9]; simp)]; rfl
    rw [dO,Wk,VV,ef]
    simp
  ·rintro xs H' ⟨sm,eE,rfl⟩
   have sH:=s1.trans sm
   exact ⟨D,_,rfl,.inl ⟨aZ.of eE,fun o ho=>k o _ (ao sH (sH.free ho)) ae⟩⟩
def jp (C:Addr):Sp:=fun vs H Q _=>∃ (p a:Addr) (ts:List Th) (r:Int) (qs:List Qu) (st:aW),vs = [.ref p,.ref a] /\ bB C H p ts r qs /\ ts.length <= 6 /\ cj H a st /\ ∀ H',ak H H'->Q (.bl (bz qs ts.length st.1)) H'
theorem xI:av ["night","standing"] ["night","standing"] (am kP):=fZ
theorem l4 {f f1 f2 f3:Addr} {fd eC kR A4:FuncData} (F:Fn K mg "is_good" kP f fd ["night","standing"]) (T:Txt K mg C Z) (bG:Meth K C "things" f1) (aX:Mt K "things" "Night.things" bO f1 eC ["self"])
  (k8:Meth K C "peace" f2) (iI:Mt K "peace" "Night.peace" eh f2 kR ["self","group"]) (gH:Fn K mg "other_bank" fq f3 A4 ["night","group"]):au P w K mg base br 3 f fd ["night","standing"] (jp C):=by
 have lh:au P w K mg base br 1 f2 kR ["self","group"] (sD C):=AG iI T
 have jB:au P w K mg base br 2 f3 A4 ["night","group"] (iH C):=lA gH T bG aX
 refine F.fn.ok xI (fun vs H Q E h=>?_) (fun cm A outer s H vs Q E hr h=>?_)
 ·obtain ⟨p,a,ts,r,qs,st,rfl,_⟩:=h
  rfl
 ·obtain ⟨p,a,ts,r,qs,st,rfl,N,h6,⟨b,ha,hb⟩,k⟩:=h
  obtain ⟨dx,t,q,hp,_,_⟩:=id N.ex
  refine ⟨_,(aj (aD (fP (zt (pv 0) T.bR k8 lh (hr.mono (by decide)) iI.b .nil aF (aa (aE aM (pv 1) ai (fun _ _=>rfl)) af)) (je (zt (pv 0) T.bR k8 lh (hr.mono (by decide)) iI.b .nil aF (aa (cl jB gH hr aF (aa (pv 0) (aa (aE aM (pv 1) ai (fun _ _=>rfl)) af))) af)))))),?_⟩
  refine ⟨_,rfl,p,dx,_,rfl,hp,kC _ _ _,_,rfl,a,_,_,_,rfl,rfl,a7.of ha,kZ,p,b,ts,r,qs,st.1,rfl,N,hb,_,rfl,?_⟩
  refine bF (fun h1=>?_) (fun h1=>?_)
  ·refine ⟨_,rfl,p,dx,_,rfl,hp,kC _ _ _,_,rfl,_,rfl,a,_,_,_,rfl,rfl,a7.of ha,kZ,p,b,ts,r,qs,st.1,rfl,N,h6,hb,fun l H' sm hl=>?_⟩
   refine ⟨p,l,ts,r,qs,_,rfl,N.mono sm,hl,?_⟩
   have k':=k H' sm
   unfold bz at k'
   rw [h1,Yj] at k'
   exact k'
  ·have k':=k H (ak.refl H)
   unfold bz at k'
   rw [h1,Ww] at k'
   exact k'
theorem Kq (i:Int):wl (.int i) [V.int 0,V.int 1] = (decide (i = 0) || decide (i = 1)):=by
 show ((0 == i) || ((1 == i) || false)) = _
 rw [Bool.or_false,Bool.beq_eq_decide_eq,Bool.beq_eq_decide_eq]
 congr 1
 ·exact decide_eq_decide.mpr ⟨fun h=>h.symm,fun h=>h.symm⟩
 ·exact decide_eq_decide.mpr ⟨fun h=>h.symm,fun h=>h.symm⟩
def j5 (C:Addr):Sp:=fun vs H Q _=>∃ (p a:Addr) (ts:List Th) (r:Int) (qs:List Qu) (st:aW),vs = [.ref p,.ref a] /\ bB C H p ts r qs /\ ts.length <= 6 /\ cj H a st /\ st.1.length <= 1000 /\ ∀ H',ak H H'->Q (.bl (cQ ts.length st)) H'
theorem gW:av ["night","standing","group","count"] ["night","standing"] (am fV):=fZ
theorem qc {f f1 f2 f3:Addr} {fd eC kR A4:FuncData} (F:Fn K mg "is_standing" fV f fd ["night","standing"]) (T:Txt K mg C Z) (bG:Meth K C "things" f1) (aX:Mt K "things" "Night.things" bO f1 eC ["self"])
  (yU:Fn K mg "rises" nD f2 kR ["group"]) (bH:Fn K mg "is_thing" cT f3 A4 ["number","count"]):au P w K mg base br 2 f fd ["night","standing"] (j5 C):=by
 have b9:au P w K mg base br 1 f1 eC ["self"] (gU C):=ja aX T
 have Ep:au P w K mg base br 1 f2 kR ["group"] vh:=BR yU T
 have fO:au P w K mg base br 1 f3 A4 ["number","count"] ik:=kj bH
 refine F.fn.ok gW (fun vs H Q E h=>?_) (fun cm A outer s H vs Q E hr h=>?_)
 ·obtain ⟨p,a,ts,r,qs,st,rfl,_⟩:=h
  rfl
 ·obtain ⟨p,a,ts,r,qs,st,rfl,N,h6,⟨b,ha,hb⟩,hl,k⟩:=h
  obtain ⟨dx,t,q,hp,_,_⟩:=id N.ex
  refine ⟨_,(ag (sn 2 gW.nd (aE aM (pv 1) ai (fun _ _=>rfl)))
   (ag (sn 3 gW.nd (aA aB (by rfl) T.cH Wv (aa (ge (pv 0) T.bR bG b9 (hr.mono (by decide)) aX.b .nil aF) af)))
   (aj (aD (fP (fW gO (aE aM (pv 1) ai (fun _ _=>rfl)) (jq (v:=.ref Z.qK) (by rfl) T.yL rfl) (by with_unfolding_all rfl)) (fP (cl Ep yU hr aF (aa (pv 2) af)) (je (aA (mw rfl) (by rfl) T.yx boot_all (aa (bv rfl (N':=["thing","count"]) (cap:=[none,some 3]) ⟨rfl,by with_unfolding_all rfl⟩ (fQ (pv 2)) (fun _=>(gn 0 (show (["thing","count"]:List Str).Nodup by decide +kernel))) (fun _=>ce) (fun _=>(cl fO bH hr aF (aa (pv 0) (aa (pv 1) af))))) af))))))))),?_⟩
  refine ⟨_,rfl,a,_,_,_,rfl,rfl,a7.of ha,kZ,?_⟩
  refine ⟨_,rfl,p,dx,_,rfl,hp,c7 _ _ _,p,ts,r,qs,rfl,N,fun l vs mF dv=>?_⟩
  have s1:ak H (L2.upd H l (.lst vs)):=ah mF
  have lv:=az dv
  refine ⟨l,_,rfl,.inl (aZ.of ae),?_⟩
  rw [lv]
  refine ⟨_,rfl,a,_,_,_,rfl,rfl,a7.of (s1 _ _ ha),k7,Z.qK,_,rfl,.inr (T.uC _),rfl,rfl,_,rfl,?_⟩
  refine bF (fun h1=>?_) (fun h1=>?_)
  ·have c9:(decide (st.2 = 0) || decide (st.2 = 1)) = true:=by rw [<- Kq]; exact h1
   refine ⟨_,rfl,b,st.1,rfl,s1 _ _ hb,hl,fun H2 s2=>⟨_,rfl,?_⟩⟩
   refine bF (fun h2=>?_) (fun h2=>?_)
   ·refine ⟨_,rfl,b,rfl,⟨_,a7.of (s2 _ _ (s1 _ _ hb))⟩,fun D hD=>?_⟩
    refine dJ (K:=K) (a:=b) (ys:=st.1.map V.int) (fun i xs H'=>ak H2 H' /\ H' D = some (.lst xs) /\ xs = (st.1.take i).map fun t=>V.bl (Ko ts.length t))
     ⟨ah hD,ae,rfl⟩ (fun i xs H' _ ⟨sm,h,_⟩=>⟨h,a7.of (sm _ _ (s2 _ _ (s1 _ _ hb)))⟩) ?_ ?_
    ·rintro i x xs H' hi ⟨sm,eE,rfl⟩
     rw [V3,WC] at hi
     obtain ⟨x',oR,rfl⟩:=hi
     refine ⟨b8.set rfl,?_⟩
     refine ⟨_,rfl,_,rfl,_,_,rfl,eE,aO (by rw [VO,Wb]; omega),ao sm hD,ae,?_⟩
     rw [Wd,oR]
     simp [Ko]
    ·rintro xs H' ⟨sm,eE,rfl⟩
     refine ⟨D,st.1.map (Ko ts.length),rfl,aZ.of ?_,?_⟩
     ·rw [eE,VO,W9,Wx]
      rfl
     ·have k':=k H' (s1.trans (s2.trans sm))
      unfold cQ at k'
      rw [c9,h2,Yj,Yj] at k'
      rw [List.all_map]
      exact k'
   ·have k':=k H2 (s1.trans s2)
    unfold cQ at k'
    rw [h2,Ww,Xh] at k'
    exact k'
  ·have c9:(decide (st.2 = 0) || decide (st.2 = 1)) = false:=by rw [<- Kq]; exact h1
   have k':=k _ s1
   unfold cQ at k'
   rw [c9,Ww] at k'
   exact k'
def iy (C:Addr) (Z:Ad):Sp:=fun vs H Q E=>∃ (p a:Addr) (ts:List Th) (r:Int) (qs:List Qu) (st:aW),vs = [.ref p,.ref a] /\ bB C H p ts r qs /\ ts.length <= 6 /\ cj H a st /\ st.1.length <= 1000 /\
 (cQ ts.length st = true->∀ H',ak H H'->Q .dR H') /\ (cQ ts.length st = false->∀ H',ak H H'->E (.ref Z.eO) none H')
structure Lk (K:Yt) (mg:Str->Option Value) (C:Addr) (fs:Nat->Addr) (ds:Nat->FuncData):Prop where
 c7:Meth K C "things" (fs 1)
 things:Mt K "things" "Night.things" bO (fs 1) (ds 1) ["self"]
 xL:Meth K C "room" (fs 2)
 room:Mt K "room" "Night.room" gJ (fs 2) (ds 2) ["self"]
 kC:Meth K C "peace" (fs 3)
 gV:Mt K "peace" "Night.peace" eh (fs 3) (ds 3) ["self","group"]
 vk:Fn K mg "is_thing" cT (fs 4) (ds 4) ["number","count"]
 oA:Fn K mg "rises" nD (fs 5) (ds 5) ["group"]
 oT:Fn K mg "is_standing" fV (fs 6) (ds 6) ["night","standing"]
 hW:Fn K mg "other_bank" fq (fs 7) (ds 7) ["night","group"]
 kM:Fn K mg "is_good" kP (fs 8) (ds 8) ["night","standing"]
 j7:Fn K mg "check_standing" fE (fs 9) (ds 9) ["night","standing"]
 jY:Fn K mg "check_start" iD (fs 10) (ds 10) ["night","standing"]
 kz:Fn K mg "groups_of" iq (fs 11) (ds 11) ["bank"]
 mr:Fn K mg "bank_of_boat" g9 (fs 12) (ds 12) ["night","standing"]
 sC:Fn K mg "is_manned" jP (fs 13) (ds 13) ["night","crew"]
 pJ:Fn K mg "crossed" kO (fs 14) (ds 14) ["standing","crew"]
 rp:Fn K mg "crews" uX (fs 15) (ds 15) ["night","standing"]
variable {fs:Nat->Addr} {ds:Nat->FuncData}
theorem mf:av ["night","standing"] ["night","standing"] (am fE):=fZ
theorem mE (L:Lk K mg C fs ds) (T:Txt K mg C Z):au P w K mg base (zj P w) 3 (fs 9) (ds 9) ["night","standing"] (iy C Z):=by
 have r0:=L.oT
 have se:au P w K mg base br 2 (fs 6) (ds 6) ["night","standing"] (j5 C):=qc L.oT T L.c7 L.things L.oA L.vk
 refine L.j7.fn.Lv mf (fun vs H Q E h=>?_) (fun cm A outer s H vs Q E hr h=>?_)
 ·obtain ⟨p,a,ts,r,qs,st,rfl,_⟩:=h
  rfl
 ·obtain ⟨p,a,ts,r,qs,st,rfl,N,h6,jM,hl,k1,k2⟩:=h
  refine ⟨_,(aj (bE (dW (cG (cl se r0 hr aF (aa (pv 0) (aa (pv 1) af)))))
   (aj (vT u9 rfl (by rfl) T.tR T.uh PySem.F.excBase_ValueError (aa oy af)))
   aQ)),?_⟩
  refine ⟨_,rfl,_,rfl,p,a,ts,r,qs,st,rfl,N,h6,jM,hl,fun H' sm=>⟨_,rfl,?_⟩⟩
  refine bF (fun h1=>?_) (fun h1=>?_)
  ·exact ⟨aL (by show 1 <= _; decide),k2 (by simpa using h1) H' sm⟩
  ·exact k1 (by simpa using h1) H' sm
def hJ (C:Addr) (Z:Ad):Sp:=fun vs H Q E=>∃ (p a:Addr) (ts:List Th) (r:Int) (qs:List Qu) (st:aW),vs = [.ref p,.ref a] /\ bB C H p ts r qs /\ ts.length <= 6 /\ cj H a st /\ st.1.length <= 1000 /\
 (cQ ts.length st = true->bz qs ts.length st.1 = true->∀ H',ak H H'->Q .dR H') /\ (cQ ts.length st = false->∀ H',ak H H'->E (.ref Z.eO) none H') /\
 (cQ ts.length st = true->bz qs ts.length st.1 = false->∀ H',ak H H'->E (.ref Z.iU) none H')
theorem qh:av ["night","standing"] ["night","standing"] (am iD):=fZ
theorem jX (L:Lk K mg C fs ds) (T:Txt K mg C Z):au P w K mg base (zj P w) 4 (fs 10) (ds 10) ["night","standing"] (hJ C Z):=by
 have nN:=L.j7
 have iT:=L.kM
 have nK:au P w K mg base (zj P w) 3 (fs 9) (ds 9) ["night","standing"] (iy C Z):=mE L T
 have iS:au P w K mg base br 3 (fs 8) (ds 8) ["night","standing"] (jp C):=l4 L.kM T L.c7 L.things L.kC L.gV L.hW
 refine L.jY.fn.Lv qh (fun vs H Q E h=>?_) (fun cm A outer s H vs Q E hr h=>?_)
 ·obtain ⟨p,a,ts,r,qs,st,rfl,_⟩:=h
  rfl
 ·obtain ⟨p,a,ts,r,qs,st,rfl,N,h6,jM,hl,k1,k2,k3⟩:=h
  refine ⟨_,(ag (cF (cl nK nN hr lX (aa (pv 0) (aa (pv 1) af))))
   (aj (bE (dW (cG (cl iS iT hr aF (aa (pv 0) (aa (pv 1) af)))))
   (aj (vT u9 rfl (by rfl) T.yg T.xu PySem.F.excBase_ValueError (aa oy af)))
   aQ))),?_⟩
  refine ⟨_,rfl,_,rfl,p,a,ts,r,qs,st,rfl,N,h6,jM,hl,fun hS H1 s1=>?_,k2⟩
  refine ⟨_,rfl,_,rfl,p,a,ts,r,qs,st,rfl,N.mono s1,h6,jM.mono s1,fun H2 s2=>⟨_,rfl,?_⟩⟩
  refine bF (fun h1=>?_) (fun h1=>?_)
  ·exact ⟨aL (by show 1 <= _; decide),k3 hS (by simpa using h1) H2 (s1.trans s2)⟩
  ·exact k1 hS (by simpa using h1) H2 (s1.trans s2)
def jk:Sp:=fun vs H Q _=>∃ (b:Addr) (kX:List Int),vs = [.ref b] /\ H b = some (.tup (kX.map V.int)) /\ kX.length <= 6 /\ ∀ l H',ak H H'->LstAt gu H' l (jb kX)->Q (.ref l) H'
theorem gL:av ["bank","groups","thing"] ["bank"] (am iq):=fZ
theorem nj {f:Addr} {fd:FuncData} (F:Fn K mg "groups_of" iq f fd ["bank"]):au P w K mg base br 1 f fd ["bank"] jk:=by
 refine F.fn.ok gL (fun vs H Q E h=>?_) (fun cm A outer s H vs Q E hr h=>?_)
 ·obtain ⟨b,kX,rfl,_⟩:=h
  rfl
 ·obtain ⟨b,kX,rfl,hb,h6,k⟩:=h
  refine ⟨_,(ag (sn 1 gL.nd (fG (aa (bM af) af)))
   (ag (cU WA rfl (fQ (pv 0)) (gn 2 gL.nd)
   (aj (sn 1 gL.nd (bn Br (pv 1) (bv rfl (N':=["group","thing"]) (cap:=[none,some 2]) ⟨rfl,by with_unfolding_all rfl⟩ (bI (pv 1)) (fun _=>(gn 0 (show (["group","thing"]:List Str).Nodup by decide +kernel))) (fun _=>ce) (fun _=>(bn (Jw (K:=K) rfl) (pv 0) (bM (aa (pv 1) af)))))))))
   (aj (aD (pv 1))))),?_⟩
  refine ⟨aL (by show 0 <= _; decide),fun e he=>?_⟩
  have s1:ak H (L2.upd H e (.tup [])):=ah he
  refine ⟨aL (by show 1 <= _; decide),fun l0 xh=>?_⟩
  have s2:ak (L2.upd H e (.tup [])) (L2.upd (L2.upd H e (.tup [])) l0 (.lst [.ref e])):=ah xh
  refine ⟨_,rfl,b,rfl,⟨_,a7.of (s2 _ _ (s1 _ _ hb))⟩,zk (K:=K) (a:=b) (xs:=kX.map V.int) (fun i σ H'=>ak H H' /\ ∃ l v,σ = [some (.ref b),some (.ref l),v] /\ LstAt gu H' l (jb (kX.take i)))
   ⟨s1.trans s2,l0,_,rfl,[.ref e],ae,.cons (.tup (s2 _ _ ae) .nil) .nil⟩ (fun i σ H' _ ⟨sm,_⟩=>a7.of (sm _ _ hb)) ?_ ?_⟩
  ·rintro i x σ H1 hi ⟨sm,l,v,rfl,vs,hl,dv⟩
   rw [V3,WC] at hi
   obtain ⟨t,ht,rfl⟩:=hi
   have ib:i < kX.length:=(Wa.mp ht).1
   have lg:(jb (kX.take i)).length <= 64:=by
    rw [jz,Wb]
    exact VZ (Xr (by decide) (show min i kX.length <= 6 by omega)) (by decide)
   have lv:=az dv
   refine ⟨_,rfl,_,rfl,l,rfl,⟨_,aZ.of hl⟩,fun D hD=>?_⟩
   refine cM (K:=K) (a:=l) (ys:=vs) (fun j xs H'=>ak H1 H' /\ H' D = some (.lst xs) /\ xs.length = j /\ bK H' (((jb (kX.take i)).take j).map (fun g=>gu (g ++ [t]))) xs)
    ⟨ah hD,ae,rfl,.nil⟩ (fun j xs H' _ ⟨s3,h,_⟩=>⟨h,aZ.of (s3 _ _ hl)⟩) ?_ ?_
   ·rintro j y xs H2 hj ⟨s3,j0,lx,dx⟩
    obtain ⟨g,hg,dg⟩:=bi dv hj
    obtain ⟨c,rfl,hc⟩:=fM dg
    have DE:=s3 _ _ hc
    have FP:=(Wa.mp hj).1
    have gl:g.length <= 6:=by
     have:=(ix (Wm hg)).length_le
     rw [Wb] at this
     omega
    refine ⟨b8.set rfl,?_⟩
    refine ⟨_,rfl,_,rfl,aL (by show 1 <= _; decide),fun o ho=>?_⟩
    have s4:ak H2 (L2.upd H2 o (.tup [.int t])):=ah ho
    have fin:∀ (H3:Hp) (y:V),ak H2 H3->DV H3 (gu (g ++ [t])) y->H3 D = some (.lst xs) /\ xs.length < sizeLine /\ (ak H1 (L2.upd H3 D (.lst (xs ++ [y]))) /\ (L2.upd H3 D (.lst (xs ++ [y]))) D = some (.lst (xs ++ [y])) /\ (xs ++ [y]).length = j + 1 /\
      bK (L2.upd H3 D (.lst (xs ++ [y]))) (((jb (kX.take i)).take (j + 1)).map (fun g=>gu (g ++ [t]))) (xs ++ [y])):=by
     intro H3 y s5 dy
     have Gh:=s5 _ _ j0
     refine ⟨Gh,aO (by omega),ao (s3.trans s5) hD,ae,by simp [lx],?_⟩
     rw [Wd,hg,VV]
     exact (bp Gh (dx.mono s5) (aK (fun g=>eR _) _)).snoc (cS Gh dy (eR _))
    refine ⟨c,o,_,_,rfl,rfl,a7.of (s4 _ _ DE),a7.of ae,aL (by simp; omega),fun z=>?_,(fun _ z=>by cases z),fun z _ o2 lJ=>?_⟩
    ·have gz:g = []:=by simpa using z
     refine fin _ _ s4 (gY ?_)
     rw [gz]; exact ae
    ·refine fin _ _ (s4.trans (ah lJ)) (gY ?_)
     rw [VV]; exact ae
   ·rintro xs H2 ⟨s3,j0,lx,dx⟩
    rw [V1 (by omega)] at dx
    refine ⟨l,D,vs,xs,rfl,rfl,s3 _ _ hl,j0,aL (by omega),fun l2 oC=>?_⟩
    have s4:ak H2 (L2.upd H2 l2 (.lst (vs ++ xs))):=ah oC
    refine ⟨sm.trans (s3.trans s4),l2,_,rfl,vs ++ xs,ae,?_⟩
    have eb:kX.take (i + 1) = kX.take i ++ [t]:=by rw [Wd,ht]; rfl
    rw [eb,ic,VV,Wx]
    exact (dv.mono (s3.trans s4)).append (dx.mono s4)
  ·rintro σ H1 ⟨sm,l,v,rfl,hL⟩
   rw [VO,W9] at hL
   exact ⟨_,rfl,k l H1 sm hL⟩
def zb (C:Addr):Sp:=fun vs H Q _=>∃ (p a:Addr) (ts:List Th) (r:Int) (qs:List Qu) (st:aW),vs = [.ref p,.ref a] /\ bB C H p ts r qs /\ ts.length <= 6 /\ cj H a st /\ ∀ l H',ak H H'->H' l = some (.tup ((aS ts.length st).map V.int))->Q (.ref l) H'
theorem pk:av ["night","standing"] ["night","standing"] (am g9):=fZ
theorem D9 (L:Lk K mg C fs ds) (T:Txt K mg C Z):au P w K mg base br 3 (fs 12) (ds 12) ["night","standing"] (zb C):=by
 have gH:=L.hW
 have jB:au P w K mg base br 2 (fs 7) (ds 7) ["night","group"] (iH C):=lA L.hW T L.c7 L.things
 refine L.mr.fn.ok pk (fun vs H Q E h=>?_) (fun cm A outer s H vs Q E hr h=>?_)
 ·obtain ⟨p,a,ts,r,qs,st,rfl,_⟩:=h
  rfl
 ·obtain ⟨p,a,ts,r,qs,st,rfl,N,h6,⟨b,ha,hb⟩,k⟩:=h
  refine ⟨_,(ag (bE (aC iR (aE aM (pv 1) ai (fun _ _=>rfl)) ai (a6 _))
   (aj (aD (aE aM (pv 1) ai (fun _ _=>rfl))))
   aQ)
   (aj (aD (cl jB gH hr aF (aa (pv 0) (aa (aE aM (pv 1) ai (fun _ _=>rfl)) af)))))),?_⟩
  refine ⟨_,rfl,a,_,_,_,rfl,rfl,a7.of ha,k7,rfl,_,rfl,?_⟩
  refine bF (fun h1=>?_) (fun h1=>?_)
  ·have e:st.2 = 0:=by have:=Wi h1; injection this
   refine ⟨_,rfl,a,_,_,_,rfl,rfl,a7.of ha,kZ,k b H (ak.refl H) ?_⟩
   unfold aS
   rw [if_pos e]; exact hb
  ·have e:¬ st.2 = 0:=fun z=>by rw [z] at h1; exact absurd h1 (by simp)
   refine ⟨_,rfl,_,rfl,a,_,_,_,rfl,rfl,a7.of ha,kZ,p,b,ts,r,qs,st.1,rfl,N,h6,hb,fun l H' sm hl=>k l H' sm ?_⟩
   unfold aS
   rw [if_neg e]; exact hl
def tF (C:Addr):Sp:=fun vs H Q _=>∃ (p b:Addr) (ts:List Th) (r:Int) (qs:List Qu) (c:List Int),vs = [.ref p,.ref b] /\ bB C H p ts r qs /\ ts.length <= 6 /\ H b = some (.tup (c.map V.int)) /\ c.length <= 1000 /\ (∀ t ∈ c,0 <= t /\ t < (ts.length:Int)) /\
 ∀ H',ak H H'->Q (.bl (eK ts r c)) H'
theorem yC {H:Hp} {ts:List Th} {vs:List V} {t:Int} (dv:bK H (ts.map xk) vs) (h0:0 <= t) (h1:t < (ts.length:Int)):∃ b,yX vs t = some (.ref b) /\ H b = some (.tup [.int (jC ts t),.bl (fJ ts t)]):=by
 have hj:t.toNat < ts.length:=by omega
 have e:ts[t.toNat]? = some (ts.getD t.toNat (0,false)):=by simp [hj]
 obtain ⟨v,hv,d⟩:=dv.get (i:=t.toNat) (d:=xk (ts.getD t.toNat (0,false))) (by rw [V3,e]; rfl)
 obtain ⟨b,rfl,hb⟩:=CJ d
 refine ⟨b,?_,hb⟩
 have q:=fg hv
 rwa [show ((t.toNat:Nat):Int) = t by omega] at q
theorem mK:av ["night","crew","things"] ["night","crew"] (am jP):=fZ
theorem AQ (L:Lk K mg C fs ds) (T:Txt K mg C Z):au P w K mg base br 2 (fs 13) (ds 13) ["night","crew"] (tF C):=by
 have aX:=L.things
 have t7:=L.room
 have bG:=L.c7
 have uw:=L.xL
 have b9:au P w K mg base br 1 (fs 1) (ds 1) ["self"] (gU C):=ja L.things T
 have uf:au P w K mg base br 1 (fs 2) (ds 2) ["self"] (wZ C):=Bt L.room T
 refine L.sC.fn.ok mK (fun vs H Q E h=>?_) (fun cm A outer s H vs Q E hr h=>?_)
 ·obtain ⟨p,b,ts,r,qs,c,rfl,_⟩:=h
  rfl
 ·obtain ⟨p,b,ts,r,qs,c,rfl,N,h6,hb,hc,oU,k⟩:=h
  obtain ⟨dx,t,q,hp,_,_⟩:=id N.ex
  refine ⟨_,(ag (sn 2 mK.nd (ge (pv 0) T.bR bG b9 (hr.mono (by decide)) aX.b .nil aF))
   (aj (aD (fP (wW kg kg ai (aA aB (by rfl) T.cH Wv (aa (pv 1) af)) (ge (pv 0) T.bR uw uf (hr.mono (by decide)) t7.b .nil aF)) (je (aA (B1 rfl) (by rfl) T.Ka boot_any (aa (bv rfl (N':=["thing","things"]) (cap:=[none,some 2]) ⟨rfl,by with_unfolding_all rfl⟩ (fQ (pv 1)) (fun _=>(gn 0 (show (["thing","things"]:List Str).Nodup by decide +kernel))) (fun _=>ce) (fun _=>(aE (C1 (K:=K) rfl) (aE (ER (K:=K) rfl) (pv 1) (pv 0) (fun _ _=>rfl)) ai (fun _ _=>rfl)))) af))))))),?_⟩
  refine ⟨_,rfl,p,dx,_,rfl,hp,c7 _ _ _,p,ts,r,qs,rfl,N,fun l vs hl dv=>?_⟩
  have s1:ak H (L2.upd H l (.lst vs)):=ah hl
  have Kx:=dv.mono s1
  have N1:=N.mono s1
  have Dl:=s1 _ _ hb
  have Bf:(L2.upd H l (.lst vs)) l = some (.lst vs):=ae
  have Gd:=s1 _ _ hp
  generalize L2.upd H l (.lst vs) = H1 at s1 Kx N1 Dl Bf Gd ⊢
  refine ⟨_,rfl,b,_,rfl,.inr (a7.of Dl),_,_,rfl,rfl,_,rfl,?_⟩
  rw [VO]
  refine bF (fun h1=>?_) (fun h1=>?_)
  ·refine ⟨_,rfl,p,dx,_,rfl,Gd,xL _ _ _,p,ts,r,qs,rfl,N1,_,_,rfl,rfl,_,rfl,?_⟩
   refine bF (fun h2=>?_) (fun h2=>?_)
   ·have hm:decide (1 <= (c.length:Int) /\ (c.length:Int) <= r) = true:=V0 ⟨Wi h1,Wi h2⟩
    refine ⟨_,rfl,b,rfl,⟨_,a7.of Dl⟩,fun D hD=>?_⟩
    refine dJ (K:=K) (a:=b) (ys:=c.map V.int) (fun i xs H'=>ak H1 H' /\ H' D = some (.lst xs) /\ xs = (c.take i).map fun t=>V.bl (fJ ts t))
     ⟨ah hD,ae,rfl⟩ (fun i xs H' _ ⟨sm,h,_⟩=>⟨h,a7.of (sm _ _ Dl)⟩) ?_ ?_
    ·rintro i x xs H' hi ⟨sm,eE,rfl⟩
     rw [V3,WC] at hi
     obtain ⟨x',oR,rfl⟩:=hi
     obtain ⟨x0,x1⟩:=oU x' (Wm oR)
     obtain ⟨o,qJ,lJ⟩:=yC Kx x0 x1
     refine ⟨b8.set rfl,?_⟩
     refine ⟨_,rfl,_,rfl,l,_,_,_,rfl,rfl,aZ.of (sm _ _ Bf),qJ,o,_,_,_,rfl,rfl,a7.of (sm _ _ lJ),k7,eE,aO (by rw [VO,Wb]; omega),ao sm hD,ae,?_⟩
     rw [Wd,oR]
     simp
    ·rintro xs H' ⟨sm,eE,rfl⟩
     refine ⟨D,c.map (fJ ts),rfl,aZ.of ?_,?_⟩
     ·rw [eE,VO,W9,Wx]
      rfl
     ·have k':=k H' (s1.trans sm)
      unfold eK at k'
      rw [hm,Yj] at k'
      rw [List.any_map]
      exact k'
   ·have hm:decide (1 <= (c.length:Int) /\ (c.length:Int) <= r) = false:=We fun z=>by rw [V0 z.2] at h2; cases h2
    have k':=k _ s1
    unfold eK at k'
    rw [hm,Ww] at k'
    exact k'
  ·have hm:decide (1 <= (c.length:Int) /\ (c.length:Int) <= r) = false:=We fun z=>by rw [V0 z.1] at h1; cases h1
   have k':=k _ s1
   unfold eK at k'
   rw [hm,Ww] at k'
   exact ⟨_,rfl,dm k'⟩
end
theorem merged {n:Nat} {g c ns:List Int} (hg:g.Pairwise (· < ·)) (QW:∀ t ∈ g,0 <= t /\ t < (n:Int)) (hc:c.Pairwise (· < ·)) (LB:∀ t ∈ c,(0 <= t /\ t < (n:Int)) /\ t ∉ g) (hp:ns.Perm (g ++ c)) (hs:ns.Pairwise (· <= ·)) :
  ns = (be n).filter fun t=>g.contains t || c.contains t:=by
 have nd:(g ++ c).Nodup:=by
  rw [List.nodup_append]
  refine ⟨hg.imp (fun h=>Int.ne_of_lt h),hc.imp (fun h=>Int.ne_of_lt h),fun a ha b hb e=>?_⟩
  exact (LB b hb).2 (by rw [<- e]; exact ha)
 have vX:ns.Nodup:=hp.nodup_iff.mpr nd
 have pw:ns.Pairwise (· < ·):=by
  have:=hs.and vX
  exact this.imp fun h=>by have h1:=h.1; have h2:=h.2; omega
 refine lR pw (dS _ (fT n)) fun x=>?_
 rw [hp.mem_iff,Wh,Ws,Bool.or_eq_true,contains_iff,contains_iff,cZ]
 constructor
 ·rintro (h | h)
  ·exact ⟨QW x h,.inl h⟩
  ·exact ⟨(LB x h).1,.inr h⟩
 ·rintro ⟨_,h⟩
  exact h
section
variable {P:Program} {w:World} {K:Yt} {mg:Str->Option Value} {base:Heap} {C:Addr} {Z:Ad} {fs:Nat->Addr} {ds:Nat->FuncData}
def lV:Sp:=fun vs H Q _=>∃ (a b:Addr) (st:aW) (c:List Int) (n:Nat),vs = [.ref a,.ref b] /\ cj H a st /\ H b = some (.tup (c.map V.int)) /\ cQ n st = true /\ n <= 6 /\ c.Sublist (aS n st) /\
 ∀ l H',ak H H'->cj H' l (behind n st c)->Q (.ref l) H'
theorem xN:av ["standing","crew"] ["standing","crew"] (am kO):=fZ
theorem p7 {f:Addr} {fd:FuncData} (F:Fn K mg "crossed" kO f fd ["standing","crew"]) (T:Txt K mg C Z):au P w K mg base br 1 f fd ["standing","crew"] lV:=by
 refine F.fn.ok xN (fun vs H Q E h=>?_) (fun cm A outer s H vs Q E hr h=>?_)
 ·obtain ⟨a,b,st,c,n,rfl,_⟩:=h
  rfl
 ·obtain ⟨a,b,st,c,n,rfl,⟨g0,ha,zq⟩,hb,hS,h6,Aj,k⟩:=h
  obtain ⟨OR,oU,P0⟩:=gh hS
  have lg:st.1.length <= 6:=by
   have e:=gS OR oU
   have:((be n).filter fun t=>st.1.contains t).length <= n:=VZ (Wg _ _) (by rw [aT]; exact VP _)
   rw [e] at this
   omega
  have lc:c.length <= 6:=VZ Aj.length_le (VZ (eZ hS) h6)
  refine ⟨_,(ag (bE (aC iR (aE aM (pv 0) ai (fun _ _=>rfl)) ai (a6 _))
   (aj (aD (bM (aa (bu bN (by rfl) T.cW Xz (aa (bv rfl (N':=["thing","crew"]) (cap:=[none,some 1]) ⟨rfl,by with_unfolding_all rfl⟩ (fQ (aE aM (pv 0) ai (fun _ _=>rfl))) (fun _=>(gn 0 (show (["thing","crew"]:List Str).Nodup by decide +kernel))) (fun _=>(cy (aC (qz (K:=K) rfl) (pv 0) (pv 1) (by with_unfolding_all rfl)))) (fun _=>(pv 0))) af)) (aa ai af)))))
   aQ)
   (aj (aD (bM (aa (bu bN (by rfl) T.cW Xz (aa (aA uD (by rfl) T.i5 boot_sorted (aa (bn yM (aE aM (pv 0) ai (fun _ _=>rfl)) (pv 1)) af)) af)) (aa ai af)))))),?_⟩
  refine ⟨_,rfl,a,_,_,_,rfl,rfl,a7.of ha,k7,rfl,_,rfl,?_⟩
  refine bF (fun h1=>?_) (fun h1=>?_)
  ·have e:st.2 = 0:=by have:=Wi h1; injection this
   refine ⟨_,rfl,a,_,_,_,rfl,rfl,a7.of ha,kZ,g0,rfl,⟨_,a7.of zq⟩,fun D hD=>?_⟩
   refine dJ (K:=K) (a:=g0) (ys:=st.1.map V.int) (fun i xs H'=>ak H H' /\ H' D = some (.lst xs) /\ xs = ((st.1.take i).filter fun t=>!c.contains t).map V.int)
    ⟨ah hD,ae,rfl⟩ (fun i xs H' _ ⟨sm,h,_⟩=>⟨h,a7.of (sm _ _ zq)⟩) ?_ ?_
   ·rintro i x xs H' hi ⟨sm,eE,rfl⟩
    rw [V3,WC] at hi
    obtain ⟨t,ht,rfl⟩:=hi
    have sl:((st.1.take i).filter fun t=>!c.contains t).length <= 6:=VZ (Wg _ _) (by rw [Wb]; omega)
    refine ⟨b8.set rfl,?_⟩
    refine ⟨_,rfl,_,rfl,b,_,rfl,.inr (a7.of (sm _ _ hb)),rfl,b6 c,_,rfl,?_⟩
    rw [b7]
    have et:st.1.take (i + 1) = st.1.take i ++ [t]:=by rw [Wd,ht]; rfl
    refine bF (fun h2=>?_) (fun h2=>?_)
    ·have fL:(!c.contains t) = true:=h2
     refine ⟨_,rfl,eE,aO (by rw [VO]; omega),ao sm hD,ae,?_⟩
     have ef:[t].filter (fun t=>!c.contains t) = [t]:=by rw [Wr,if_pos fL]; rfl
     rw [et,Wk,VV,ef]
     rfl
    ·have fL:(!c.contains t) = false:=h2
     refine ⟨sm,eE,?_⟩
     have ef:[t].filter (fun t=>!c.contains t) = []:=by rw [Wr,if_neg (by rw [fL]; simp)]; rfl
     rw [et,Wk,VV,ef]
     simp
   ·rintro xs H' ⟨sm,eE,rfl⟩
    rw [VO,W9] at eE
    refine ⟨D,_,rfl,.inl ⟨aZ.of eE,fun o ho=>?_⟩⟩
    have s2:ak H' (L2.upd H' o (.tup ((st.1.filter fun t=>!c.contains t).map V.int))):=ah ho
    refine ⟨aL (by show 2 <= _; decide),fun o2 lJ=>?_⟩
    have s3:=ah (o:=.tup [.ref o,.int 1]) lJ
    refine k o2 _ (sm.trans (s2.trans s3)) ?_
    unfold behind
    rw [if_pos e]
    exact ⟨o,ae,s3 _ _ ae⟩
  ·have e:¬ st.2 = 0:=fun z=>by rw [z] at h1; exact absurd h1 (by simp)
   have Tg:aS n st = restOf n st.1:=by unfold aS; rw [if_neg e]
   rw [Tg] at Aj
   have LB:∀ t ∈ c,(0 <= t /\ t < (n:Int)) /\ t ∉ st.1:=fun t ht=>by
    obtain ⟨z1,z2⟩:=Ws.mp (Aj.subset ht)
    refine ⟨cZ.mp z1,fun z=>?_⟩
    rw [contains_iff.mpr z] at z2
    cases z2
   have J0:c.Pairwise (· < ·):=List.Pairwise.sublist Aj (dS _ (fT n))
   have tail:∀ (x:Addr) (H1:Hp),ak H H1->H1 x = some (.tup ((st.1 ++ c).map V.int))->∃ (p:Addr) (ns:List Int),[V.ref x] = [V.ref p] /\ a7 K H1 p (ns.map V.int) /\ ns.length < 64 /\ ∀ (l:Addr) (uL:List Int),H1 l = none->uL.Perm ns->uL.Pairwise (· <= ·) ->
     ∃ (p':Addr) (ys:List V),[V.ref l] = [V.ref p'] /\ ((aZ K (L2.upd H1 l (.lst (uL.map V.int))) p' ys /\ ∀ l2:Addr,(L2.upd H1 l (.lst (uL.map V.int))) l2 = none->[V.ref l2,V.int 0].length <= sizeLine /\ ∀ o:Addr,(L2.upd (L2.upd H1 l (.lst (uL.map V.int))) l2 (.tup ys)) o = none ->
      Q (.ref o) (L2.upd (L2.upd (L2.upd H1 l (.lst (uL.map V.int))) l2 (.tup ys)) o (.tup [.ref l2,.int 0]))) \/ (a7 K (L2.upd H1 l (.lst (uL.map V.int))) p' ys /\ [V.ref p',V.int 0].length <= sizeLine /\ ∀ o:Addr,(L2.upd H1 l (.lst (uL.map V.int))) o = none ->
      Q (.ref o) (L2.upd (L2.upd H1 l (.lst (uL.map V.int))) o (.tup [.ref p',.int 0])))):=by
    intro x H1 s1 hx
    refine ⟨x,st.1 ++ c,rfl,a7.of hx,by rw [Wf]; omega,fun l uL hl hp hs=>⟨l,_,rfl,.inl ⟨aZ.of ae,fun l2 oC=>⟨aL (by show 2 <= _; decide),fun o ho=>?_⟩⟩⟩⟩
    have s2:ak H1 (L2.upd H1 l (.lst (uL.map V.int))):=ah hl
    have s3:=ah (o:=.tup (uL.map V.int)) oC
    have s4:=ah (o:=.tup [.ref l2,.int 0]) ho
    refine k o _ (s1.trans (s2.trans (s3.trans s4))) ?_
    unfold behind
    rw [if_neg e,<- merged OR oU J0 LB hp hs]
    exact ⟨l2,ae,s4 _ _ ae⟩
   refine ⟨_,rfl,a,_,_,_,rfl,rfl,a7.of ha,kZ,_,rfl,g0,b,_,_,rfl,rfl,a7.of zq,a7.of hb,aL (by simp; omega),fun z=>?_,fun z z2=>?_,fun z z2 o ho=>?_⟩
   ·have gz:st.1 = []:=by simpa using z
    exact tail b H (ak.refl H) (by rw [gz]; exact hb)
   ·have cz:c = []:=by simpa using z2
    exact tail g0 H (ak.refl H) (by rw [cz,Yn]; exact zq)
   ·exact tail o _ (ah ho) (by rw [VV]; exact ae)
theorem eH {H:Hp} {gs:List (List Int)} {xs:List V} {i:Nat} {g:List Int} {q:List Int->Bool} (hg:gs[i]? = some g) (hq:q g = false) (dx:bK H (((gs.take i).filter q).map gu) xs):bK H (((gs.take (i + 1)).filter q).map gu) xs:=by
 have e:gs.take (i + 1) = gs.take i ++ [g]:=by rw [Wd,hg]; rfl
 have ef:[g].filter q = []:=by rw [Wr,if_neg (by rw [hq]; simp)]; rfl
 rw [e,Wk,ef,Yn]
 exact dx
theorem io {gs:List (List Int)} {i:Nat} {g:List Int} {q:List Int->Bool} (hg:gs[i]? = some g) (hq:q g = true):(gs.take (i + 1)).filter q = (gs.take i).filter q ++ [g]:=by
 have e:gs.take (i + 1) = gs.take i ++ [g]:=by rw [Wd,hg]; rfl
 have ef:[g].filter q = [g]:=by rw [Wr,if_pos hq]; rfl
 rw [e,Wk,ef]
def wM (C:Addr) (Z:Ad):Sp:=fun vs H Q E=>∃ (p a:Addr) (ts:List Th) (r:Int) (qs:List Qu) (st:aW),vs = [.ref p,.ref a] /\ bB C H p ts r qs /\ ts.length <= 6 /\ cj H a st /\ st.1.length <= 1000 /\
 (cQ ts.length st = true->bz qs ts.length st.1 = true->∀ l H',H l = none->ak H H'->LstAt gu H' l (aU ts r qs st)->Q (.ref l) H') /\ (cQ ts.length st = false->∀ H',ak H H'->E (.ref Z.eO) none H') /\
 (cQ ts.length st = true->bz qs ts.length st.1 = false->∀ H',ak H H'->E (.ref Z.iU) none H')
theorem wB:av ["night","standing","manned"] ["night","standing"] (am uX):=fZ
theorem CV (L:Lk K mg C fs ds) (T:Txt K mg C Z):au P w K mg base (zj P w) 5 (fs 15) (ds 15) ["night","standing"] (wM C Z):=by
 have iB:=L.jY
 have iT:=L.kM
 have j3:=L.kz
 have p9:=L.mr
 have vm:=L.sC
 have nR:=L.pJ
 have iK:au P w K mg base (zj P w) 4 (fs 10) (ds 10) ["night","standing"] (hJ C Z):=jX L T
 have iS:au P w K mg base br 3 (fs 8) (ds 8) ["night","standing"] (jp C):=l4 L.kM T L.c7 L.things L.kC L.gV L.hW
 have jR:au P w K mg base br 1 (fs 11) (ds 11) ["bank"] jk:=nj L.kz
 have p8:au P w K mg base br 3 (fs 12) (ds 12) ["night","standing"] (zb C):=D9 L T
 have vy:au P w K mg base br 2 (fs 13) (ds 13) ["night","crew"] (tF C):=AQ L T
 have oz:au P w K mg base br 1 (fs 14) (ds 14) ["standing","crew"] lV:=p7 L.pJ T
 refine L.rp.fn.Lv wB (fun vs H Q E h=>?_) (fun cm A outer s H vs Q E hr h=>?_)
 ·obtain ⟨p,a,ts,r,qs,st,rfl,_⟩:=h
  rfl
 ·obtain ⟨p,a,ts,r,qs,st,rfl,N,h6,jM,hl,k1,k2,k3⟩:=h
  have hu:=hr.units
  refine ⟨_,(ag (cF (cl iK iB hr lX (aa (pv 0) (aa (pv 1) af))))
   (ag (pI (j:=2) rfl (N':=["crew","night"]) (cap:=[none,some 0]) ⟨rfl,by with_unfolding_all rfl⟩ (bI (cl jR j3 hr aF (aa (cl p8 p9 hr aF (aa (pv 0) (aa (pv 1) af))) af))) (fun _=>(gn 0 (show (["crew","night"]:List Str).Nodup by decide +kernel))) (fun _=>(cy (cG (cl vy vm hr aF (aa (pv 1) (aa (pv 0) af)))))) (fun _=>(pv 0)) wB.nd (by rfl) (by rfl) (by with_unfolding_all rfl))
   (aj (aD (aA (js hu) (by rfl) T.i5 boot_sorted (aa (bv rfl (N':=["crew","night","standing"]) (cap:=[none,some 0,some 1]) ⟨rfl,by with_unfolding_all rfl⟩ (bI (pv 2)) (fun _=>(gn 0 (show (["crew","night","standing"]:List Str).Nodup by decide +kernel))) (fun _=>(cy (cG (cl iS iT hr aF (aa (pv 1) (aa (cl oz nR hr aF (aa (pv 2) (aa (pv 0) af))) af)))))) (fun _=>(pv 0))) af)))))),?_⟩
  refine ⟨_,rfl,_,rfl,p,a,ts,r,qs,st,rfl,N,h6,jM,hl,fun hS hG H1 s1=>?_,k2,k3⟩
  have N1:=N.mono s1
  have JA:=jM.mono s1
  refine ⟨_,rfl,_,rfl,p,a,ts,r,qs,st,rfl,N1,h6,JA,fun lb H2 s2 Bn=>?_⟩
  have N2:=N1.mono s2
  have Ai:=JA.mono s2
  refine ⟨lb,_,rfl,Bn,VZ (eZ hS) h6,fun lg H3 s3 UO=>?_⟩
  have N3:=N2.mono s3
  have NT:=Ai.mono s3
  obtain ⟨vg,uH,dg⟩:=UO
  have C7:=az dg
  have Oj:(jb (aS ts.length st)).length <= 64:=by
   rw [jz]
   exact VZ (Xr (by decide) (VZ (eZ hS) h6)) (by decide)
  refine ⟨lg,rfl,⟨_,aZ.of uH⟩,fun D hD=>?_⟩
  refine cM (K:=K) (a:=lg) (ys:=vg) (fun j xs H'=>ak H3 H' /\ H' D = some (.lst xs) /\ bK H' ((((jb (aS ts.length st)).take j).filter (eK ts r)).map gu) xs)
   ⟨ah hD,ae,.nil⟩ (fun j xs H' _ ⟨sm,h,_⟩=>⟨h,aZ.of (sm _ _ uH)⟩) ?_ ?_
  ·rintro j y xs H4 hj ⟨s4,vE,dx⟩
   obtain ⟨g,hg,Hl⟩:=bi dg hj
   obtain ⟨c,rfl,hc⟩:=fM Hl
   have sub:=ix (Wm hg)
   have Rj:∀ t ∈ g,0 <= t /\ t < (ts.length:Int):=fun t ht=>iY hS (sub.subset ht)
   have gl:g.length <= 6:=VZ sub.length_le (VZ (eZ hS) h6)
   refine ⟨b8.set rfl,?_⟩
   refine ⟨_,rfl,_,rfl,p,c,ts,r,qs,g,rfl,N3.mono s4,h6,s4 _ _ hc,by omega,Rj,fun H5 s5=>⟨_,rfl,?_⟩⟩
   have IQ:=dx.mono s5
   have jc:=s5 _ _ vE
   have lx:xs.length <= 64:=by
    rw [az dx]
    exact VZ (Wg _ _) (by rw [Wb]; omega)
   refine bF (fun h1=>?_) (fun h1=>?_)
   ·refine ⟨_,rfl,jc,aO (by omega),ao (s4.trans s5) hD,ae,?_⟩
    rw [io hg h1,VV]
    exact (bp jc IQ (aK eR _)).snoc (cS jc (gY (s5 _ _ (s4 _ _ hc))) (eR _))
   ·exact ⟨s4.trans s5,jc,eH hg h1 IQ⟩
  ·rintro xs H4 ⟨s4,vE,dx⟩
   rw [V1 (by omega)] at dx
   have N4:=N3.mono s4
   have CH:=NT.mono s4
   have lx:xs.length < 64:=by
    rw [az dx]
    exact nB (qs:=qs) hS h6
   have e0:(jb (aS ts.length st)).filter (eK ts r) = (jb (aS ts.length st)).filter (eK ts r):=rfl
   generalize hM:(jb (aS ts.length st)).filter (eK ts r) = M at dx e0
   have mem:∀ g ∈ M,g.Sublist (aS ts.length st) /\ g ≠ []:=fun g hg=>by
    rw [<- hM] at hg
    obtain ⟨z1,z2⟩:=Ws.mp hg
    exact ⟨ix z1,sB z2⟩
   refine ⟨_,rfl,D,rfl,⟨_,aZ.of vE⟩,fun D2 j0=>?_⟩
   refine cM (K:=K) (a:=D) (ys:=xs) (fun j zs H'=>ak H4 H' /\ H' D2 = some (.lst zs) /\ bK H' (((M.take j).filter fun c=>bz qs ts.length (behind ts.length st c).1).map gu) zs)
    ⟨ah j0,ae,.nil⟩ (fun j zs H' _ ⟨sm,h,_⟩=>⟨h,aZ.of (sm _ _ vE)⟩) ?_ ?_
   ·rintro j y zs H5 hj ⟨s5,jc,dz⟩
    obtain ⟨g,hg,Hl⟩:=bi dx hj
    obtain ⟨c,rfl,hc⟩:=fM Hl
    obtain ⟨sub,_⟩:=mem g (Wm hg)
    refine ⟨b8.set rfl,?_⟩
    refine ⟨_,rfl,_,rfl,_,rfl,a,c,st,g,ts.length,rfl,CH.mono s5,s5 _ _ hc,hS,h6,sub,fun l H6 s6 NQ=>?_⟩
    refine ⟨p,l,ts,r,qs,_,rfl,(N4.mono s5).mono s6,h6,NQ,fun H7 s7=>⟨_,rfl,?_⟩⟩
    have FA:=s6.trans s7
    have PP:=dz.mono FA
    have Mq:=FA _ _ jc
    have lz:zs.length <= 64:=by
     rw [az dz]
     exact VZ (Wg _ _) (by rw [Wb]; have:=az dx; omega)
    refine bF (fun h1=>?_) (fun h1=>?_)
    ·refine ⟨_,rfl,Mq,aO (by omega),ao (s5.trans FA) j0,ae,?_⟩
     rw [io hg h1,VV]
     exact (bp Mq PP (aK eR _)).snoc (cS Mq (gY (FA _ _ (s5 _ _ hc))) (eR _))
    ·exact ⟨s5.trans FA,Mq,eH hg h1 PP⟩
   ·rintro zs H5 ⟨s5,jc,dz⟩
    have lM:xs.length = M.length:=az dx
    rw [V1 (by omega)] at dz
    have QQ:(M.filter fun c=>bz qs ts.length (behind ts.length st c).1).Nodup:=by rw [<- hM]; exact nQ hS
    refine ⟨D2,_,zs,rfl,jc,dz,QQ,fun l pj mF Jv=>?_⟩
    have IG:=s1.trans (s2.trans (s3.trans (s4.trans s5)))
    refine k1 hS hG l _ (IG.free mF) (ao IG (IG.free mF)) ⟨pj,ae,?_⟩
    unfold aU eX
    rw [hM]
    exact Jv.mono (ah mF)
end
theorem lI {n:Nat} {st:aW} (h:cQ n st = true) (h6:n <= 6):st.1.length <= 6:=by
 obtain ⟨h1,h2,_⟩:=gh h
 have e:=gS h1 h2
 have l:((be n).filter fun t=>st.1.contains t).length <= n:=VZ (Wg _ _) (by rw [aT]; exact VP _)
 rw [e] at l
 omega
theorem ye (n:Nat):groups n = jb (be n):=by
 have:=eu (fun _=>true) n
 rw [List.filter_eq_self.mpr (by intro a _; simp),List.filter_eq_self.mpr (by intro a _; rfl)] at this
 exact this
theorem xw {n:Nat} {c:List Int} (h:c ∈ groups n):c.Sublist (be n):=by rw [ye] at h; exact ix h
section
variable {P:Program} {w:World} {K:Yt} {mg:Str->Option Value} {base:Heap} {C:Addr} {Z:Ad} {fs:Nat->Addr} {ds:Nat->FuncData}
def uv:Sp:=fun vs H Q _=>∃ (b:Addr) (g:List Int) (n:Nat),vs = [.ref b,.int n] /\ H b = some (.tup (g.map V.int)) /\ n <= 6 /\ ∀ l H',ak H H'->H' l = some (.tup ((restOf n g).map V.int))->Q (.ref l) H'
theorem uP:av ["group","many"] ["group","many"] (am gi):=fZ
theorem zw {f:Addr} {fd:FuncData} (F:Fn K mg "_law_rest" gi f fd ["group","many"]) (T:Txt K mg C Z):au P w K mg base br 1 f fd ["group","many"] uv:=by
 refine F.fn.ok uP (fun vs H Q E h=>?_) (fun cm A outer s H vs Q E hr h=>?_)
 ·obtain ⟨b,g,n,rfl,_⟩:=h
  rfl
 ·obtain ⟨b,g,n,rfl,hb,h6,k⟩:=h
  refine ⟨_,(aj (aD (bu bN (by rfl) T.cW Xz (aa (bv rfl (N':=["thing","group"]) (cap:=[none,some 0]) ⟨rfl,by with_unfolding_all rfl⟩ (c8 (by rfl) T.eF (aa (pv 1) af)) (fun _=>(gn 0 (show (["thing","group"]:List Str).Nodup by decide +kernel))) (fun _=>(cy (aC (qz (K:=K) rfl) (pv 0) (pv 1) (by with_unfolding_all rfl)))) (fun _=>(pv 0))) af)))),?_⟩
  refine ⟨_,rfl,_,rfl,by omega,by omega,fun D hD=>?_⟩
  rw [WS]
  refine fH (n:=n) (fun i xs H'=>ak H H' /\ H' D = some (.lst xs) /\ xs = ((be i).filter fun t=>!g.contains t).map V.int)
   ⟨ah hD,ae,rfl⟩ (fun i xs H' _ ⟨_,h,_⟩=>h) ?_ ?_
  ·rintro i xs H' hi ⟨sm,eE,rfl⟩
   have e1:((0:Int) + (i:Int)) = (i:Int):=by omega
   refine ⟨b8.set rfl,?_⟩
   refine ⟨_,rfl,_,rfl,b,_,rfl,.inr (a7.of (sm _ _ hb)),rfl,b6 g,_,rfl,?_⟩
   rw [b7,e1]
   have sl:((be i).filter fun t=>!g.contains t).length <= i:=VZ (Wg _ _) (by rw [aT]; exact VP _)
   refine bF (fun h1=>?_) (fun h1=>?_)
   ·refine ⟨_,rfl,eE,aO (by rw [VO]; omega),ao sm hD,ae,?_⟩
    have c9:(!g.contains (i:Int)) = true:=h1
    have ef:[(i:Int)].filter (fun t=>!g.contains t) = [(i:Int)]:=by rw [Wr,if_pos c9]; rfl
    rw [dO,Wk,VV,ef]
    rfl
   ·have c9:(!g.contains (i:Int)) = false:=h1
    have ef:[(i:Int)].filter (fun t=>!g.contains t) = []:=by rw [Wr,if_neg (by rw [c9]; simp)]; rfl
    refine ⟨sm,eE,?_⟩
    rw [dO,Wk,VV,ef]
    simp
  ·rintro xs H' ⟨sm,eE,rfl⟩
   exact ⟨D,_,rfl,.inl ⟨aZ.of eE,fun o ho=>k o _ (ao sm (sm.free ho)) ae⟩⟩
def qu (K:Yt):Sp:=fun vs H Q _=>∃ (q b:Addr) (qs:List Qu) (g:List Int) (n:Nat),vs = [.ref q,.ref b,.int n] /\ LstAt zJ H q qs /\ H b = some (.tup (g.map V.int)) /\ n <= 6 /\ ∀ H',ak H H'->Q (.bl (bz qs n g)) H'
theorem ul:av ["quarrels","group","many"] ["quarrels","group","many"] (am ii):=fZ
theorem vJ {f f1 f2:Addr} {fd eC kR:FuncData} (F:Fn K mg "_law_good" ii f fd ["quarrels","group","many"]) (T:Txt K mg C Z) (jx:Fn K mg "_law_peace" eW f1 eC ["quarrels","group"])
  (ir:Fn K mg "_law_rest" gi f2 kR ["group","many"]):au P w K mg base br 2 f fd ["quarrels","group","many"] (qu K):=by
 have md:au P w K mg base br 1 f1 eC ["quarrels","group"] (vK K):=Cm jx
 have j8:au P w K mg base br 1 f2 kR ["group","many"] uv:=zw ir T
 refine F.fn.ok ul (fun vs H Q E h=>?_) (fun cm A outer s H vs Q E hr h=>?_)
 ·obtain ⟨q,b,qs,g,n,rfl,_⟩:=h
  rfl
 ·obtain ⟨q,b,qs,g,n,rfl,hq,hb,h6,k⟩:=h
  refine ⟨_,(aj (aD (fP (cl md jx hr aF (aa (pv 0) (aa (pv 1) af))) (je (cl md jx hr aF (aa (pv 0) (aa (cl j8 ir hr aF (aa (pv 1) (aa (pv 2) af))) af))))))),?_⟩
  refine ⟨_,rfl,_,rfl,q,b,qs,g,rfl,hq,hb,_,rfl,?_⟩
  refine bF (fun h1=>?_) (fun h1=>?_)
  ·refine ⟨_,rfl,_,rfl,_,rfl,b,g,n,rfl,hb,h6,fun l H' sm hl=>?_⟩
   refine ⟨q,l,qs,_,rfl,hq.mono sm,hl,?_⟩
   have k':=k H' sm
   unfold bz at k'
   rw [h1,Yj] at k'
   exact k'
  ·have k':=k H (ak.refl H)
   unfold bz at k'
   rw [h1,Ww] at k'
   exact k'
def i4:Sp:=fun vs H Q _=>∃ (a b:Addr) (st:aW) (c:List Int) (n:Nat),vs = [.ref a,.ref b,.int n] /\ cj H a st /\ H b = some (.tup (c.map V.int)) /\ st.1.length <= 1000 /\ n <= 6 /\ ∀ l H',ak H H'->cj H' l (behind n st c)->Q (.ref l) H'
theorem qF:av ["standing","crew","many"] ["standing","crew","many"] (am gb):=fZ
theorem kN {f:Addr} {fd:FuncData} (F:Fn K mg "_law_behind" gb f fd ["standing","crew","many"]) (T:Txt K mg C Z):au P w K mg base br 1 f fd ["standing","crew","many"] i4:=by
 refine F.fn.ok qF (fun vs H Q E h=>?_) (fun cm A outer s H vs Q E hr h=>?_)
 ·obtain ⟨a,b,st,c,n,rfl,_⟩:=h
  rfl
 ·obtain ⟨a,b,st,c,n,rfl,⟨g0,ha,zq⟩,hb,lg,h6,k⟩:=h
  refine ⟨_,(ag (bE (aC iR (aE aM (pv 0) ai (fun _ _=>rfl)) ai (a6 _))
   (aj (aD (bM (aa (bu bN (by rfl) T.cW Xz (aa (bv rfl (N':=["thing","crew"]) (cap:=[none,some 1]) ⟨rfl,by with_unfolding_all rfl⟩ (fQ (aE aM (pv 0) ai (fun _ _=>rfl))) (fun _=>(gn 0 (show (["thing","crew"]:List Str).Nodup by decide +kernel))) (fun _=>(cy (aC (qz (K:=K) rfl) (pv 0) (pv 1) (by with_unfolding_all rfl)))) (fun _=>(pv 0))) af)) (aa ai af)))))
   aQ)
   (aj (aD (bM (aa (bu bN (by rfl) T.cW Xz (aa (bv rfl (N':=["thing","standing","crew"]) (cap:=[none,some 0,some 1]) ⟨rfl,by with_unfolding_all rfl⟩ (c8 (by rfl) T.eF (aa (pv 2) af)) (fun _=>(gn 0 (show (["thing","standing","crew"]:List Str).Nodup by decide +kernel))) (fun _=>(cy (PW.pt (pw_or (aC (ON (K:=K) rfl) (pv 0) (aE (C1 (K:=K) rfl) (pv 1) ai (fun _ _=>rfl)) (by with_unfolding_all rfl)) (pw_or1 (aC (ON (K:=K) rfl) (pv 0) (pv 2) (by with_unfolding_all rfl))))))) (fun _=>(pv 0))) af)) (aa ai af)))))),?_⟩
  refine ⟨_,rfl,a,_,_,_,rfl,rfl,a7.of ha,k7,rfl,_,rfl,?_⟩
  refine bF (fun h1=>?_) (fun h1=>?_)
  ·have e:st.2 = 0:=by have:=Wi h1; injection this
   refine ⟨_,rfl,a,_,_,_,rfl,rfl,a7.of ha,kZ,g0,rfl,⟨_,a7.of zq⟩,fun D hD=>?_⟩
   refine dJ (K:=K) (a:=g0) (ys:=st.1.map V.int) (fun i xs H'=>ak H H' /\ H' D = some (.lst xs) /\ xs = ((st.1.take i).filter fun t=>!c.contains t).map V.int)
    ⟨ah hD,ae,rfl⟩ (fun i xs H' _ ⟨sm,h,_⟩=>⟨h,a7.of (sm _ _ zq)⟩) ?_ ?_
   ·rintro i x xs H' hi ⟨sm,eE,rfl⟩
    rw [V3,WC] at hi
    obtain ⟨t,ht,rfl⟩:=hi
    have sl:((st.1.take i).filter fun t=>!c.contains t).length <= 1000:=VZ (Wg _ _) (by rw [Wb]; omega)
    refine ⟨b8.set rfl,?_⟩
    refine ⟨_,rfl,_,rfl,b,_,rfl,.inr (a7.of (sm _ _ hb)),rfl,b6 c,_,rfl,?_⟩
    rw [b7]
    have et:st.1.take (i + 1) = st.1.take i ++ [t]:=by rw [Wd,ht]; rfl
    refine bF (fun h2=>?_) (fun h2=>?_)
    ·have fL:(!c.contains t) = true:=h2
     refine ⟨_,rfl,eE,aO (by rw [VO]; omega),ao sm hD,ae,?_⟩
     have ef:[t].filter (fun t=>!c.contains t) = [t]:=by rw [Wr,if_pos fL]; rfl
     rw [et,Wk,VV,ef]
     rfl
    ·have fL:(!c.contains t) = false:=h2
     refine ⟨sm,eE,?_⟩
     have ef:[t].filter (fun t=>!c.contains t) = []:=by rw [Wr,if_neg (by rw [fL]; simp)]; rfl
     rw [et,Wk,VV,ef]
     simp
   ·rintro xs H' ⟨sm,eE,rfl⟩
    rw [VO,W9] at eE
    refine ⟨D,_,rfl,.inl ⟨aZ.of eE,fun o ho=>?_⟩⟩
    have s2:ak H' (L2.upd H' o (.tup ((st.1.filter fun t=>!c.contains t).map V.int))):=ah ho
    refine ⟨aL (by show 2 <= _; decide),fun o2 lJ=>?_⟩
    have s3:=ah (o:=.tup [.ref o,.int 1]) lJ
    refine k o2 _ (sm.trans (s2.trans s3)) ?_
    unfold behind
    rw [if_pos e]
    exact ⟨o,ae,s3 _ _ ae⟩
  ·have e:¬ st.2 = 0:=fun z=>by rw [z] at h1; exact absurd h1 (by simp)
   refine ⟨_,rfl,_,rfl,by omega,by omega,fun D hD=>?_⟩
   rw [WS]
   refine fH (n:=n) (fun i xs H'=>ak H H' /\ H' D = some (.lst xs) /\ xs = ((be i).filter fun t=>st.1.contains t || c.contains t).map V.int)
    ⟨ah hD,ae,rfl⟩ (fun i xs H' _ ⟨_,h,_⟩=>h) ?_ ?_
   ·rintro i xs H' hi ⟨sm,eE,rfl⟩
    have e1:((0:Int) + (i:Int)) = (i:Int):=by omega
    have sl:((be i).filter fun t=>st.1.contains t || c.contains t).length <= i:=VZ (Wg _ _) (by rw [aT]; exact VP _)
    have yes:(st.1.contains (i:Int) || c.contains (i:Int)) = true->((be i).filter fun t=>st.1.contains t || c.contains t).map V.int ++ [V.int ((0:Int) + (i:Int))] = ((be (i + 1)).filter fun t=>st.1.contains t || c.contains t).map V.int:=fun h=>by
     have ef:[(i:Int)].filter (fun t=>st.1.contains t || c.contains t) = [(i:Int)]:=by rw [Wr,if_pos h]; rfl
     rw [dO,Wk,VV,ef,e1]
     rfl
    have no:(st.1.contains (i:Int) || c.contains (i:Int)) = false->((be i).filter fun t=>st.1.contains t || c.contains t).map V.int = ((be (i + 1)).filter fun t=>st.1.contains t || c.contains t).map V.int:=fun h=>by
     have ef:[(i:Int)].filter (fun t=>st.1.contains t || c.contains t) = []:=by rw [Wr,if_neg (by rw [h]; simp)]; rfl
     rw [dO,Wk,VV,ef]
     simp
    refine ⟨b8.set rfl,?_⟩
    refine ⟨_,rfl,_,rfl,a,_,_,_,rfl,rfl,a7.of (sm _ _ ha),kZ,g0,_,rfl,.inr (a7.of (sm _ _ zq)),rfl,b6 st.1,_,rfl,?_⟩
    rw [b7,e1]
    refine bF (fun h2=>?_) (fun h2=>?_)
    ·have fL:st.1.contains (i:Int) = true:=h2
     refine pd ⟨_,rfl,eE,aO (by rw [VO]; omega),ao sm hD,ae,?_⟩
     rw [<- e1]
     exact yes (by rw [fL]; rfl)
    ·have fL:st.1.contains (i:Int) = false:=h2
     refine ⟨_,rfl,_,rfl,b,_,rfl,.inr (a7.of (sm _ _ hb)),rfl,b6 c,_,rfl,?_⟩
     rw [b7]
     refine bF (fun h3=>?_) (fun h3=>?_)
     ·have r9:c.contains (i:Int) = true:=h3
      refine ⟨_,rfl,eE,aO (by rw [VO]; omega),ao sm hD,ae,?_⟩
      rw [<- e1]
      exact yes (by rw [r9]; simp)
     ·have r9:c.contains (i:Int) = false:=h3
      exact ⟨sm,eE,no (by rw [fL,r9]; rfl)⟩
   ·rintro xs H' ⟨sm,eE,rfl⟩
    refine ⟨D,_,rfl,.inl ⟨aZ.of eE,fun o ho=>?_⟩⟩
    have s2:=ah (o:=.tup (((be n).filter fun t=>st.1.contains t || c.contains t).map V.int)) ho
    refine ⟨aL (by show 2 <= _; decide),fun o2 lJ=>?_⟩
    have s3:=ah (o:=.tup [.ref o,.int 0]) lJ
    refine k o2 _ (sm.trans (s2.trans s3)) ?_
    unfold behind
    rw [if_neg e]
    exact ⟨o,ae,s3 _ _ ae⟩
end
theorem CI {l:List Int}:decide (V.int (l.map V.int).length = V.int 0) = decide (l = []):=by
 rw [VO]
 refine decide_eq_decide.mpr ⟨fun h=>?_,fun h=>by rw [h]; rfl⟩
 injection h with h
 exact List.length_eq_zero_iff.mp (by omega)
theorem Bu {l:List Int}:decide ((0:Int) < ((l.map V.int).length:Int)) = decide (l ≠ []):=by
 rw [VO]
 refine decide_eq_decide.mpr ⟨(fun h z=>by rw [z] at h; cases h),fun h=>?_⟩
 have:=Yf.mpr h
 omega
section
variable {P:Program} {w:World} {K:Yt} {mg:Str->Option Value} {base:Heap} {C:Addr} {Z:Ad} {fs:Nat->Addr} {ds:Nat->FuncData}
structure Lw (K:Yt) (mg:Str->Option Value) (fs:Nat->Addr) (ds:Nat->FuncData):Prop where
 gV:Fn K mg "_law_peace" eW (fs 1) (ds 1) ["quarrels","group"]
 bits:Fn K mg "_law_bits" gj (fs 2) (ds 2) ["number","many"]
 groups:Fn K mg "_law_groups" fX (fs 3) (ds 3) ["many"]
 rest:Fn K mg "_law_rest" gi (fs 4) (ds 4) ["group","many"]
 good:Fn K mg "_law_good" ii (fs 5) (ds 5) ["quarrels","group","many"]
 behind:Fn K mg "_law_behind" gb (fs 6) (ds 6) ["standing","crew","many"]
 rp:Fn K mg "_law_crews" fk (fs 7) (ds 7) ["things","room","quarrels","standing"]
variable {gs:Nat->Addr} {es:Nat->FuncData}
def kF:Sp:=fun vs H Q _=>∃ (t q a:Addr) (ts:List Th) (r:Int) (qs:List Qu) (st:aW),vs = [.ref t,.int r,.ref q,.ref a] /\ LstAt xk H t ts /\ LstAt zJ H q qs /\ cj H a st /\ cQ ts.length st = true /\ ts.length <= 6 /\
 ∀ l H',H l = none->ak H H'->LstAt gu H' l (aU ts r qs st)->Q (.ref l) H'
theorem cC:av ["things","room","quarrels","standing","many","bank","found","crew","rowing"] ["things","room","quarrels","standing"] (am fk):=fZ
theorem nL (L:Lw K mg gs es) (T:Txt K mg C Z):au P w K mg base br 3 (gs 7) (es 7) ["things","room","quarrels","standing"] kF:=by
 have ir:=L.rest
 have iA:=L.groups
 have j6:=L.good
 have cA:=L.behind
 have j8:au P w K mg base br 1 (gs 4) (es 4) ["group","many"] uv:=zw L.rest T
 have iF:au P w K mg base br 2 (gs 3) (es 3) ["many"] nO:=tM L.groups T L.bits
 have ki:au P w K mg base br 2 (gs 5) (es 5) ["quarrels","group","many"] (qu K):=vJ L.good T L.gV L.rest
 have cB:au P w K mg base br 1 (gs 6) (es 6) ["standing","crew","many"] i4:=kN L.behind T
 refine L.rp.fn.ok cC (fun vs H Q E h=>?_) (fun cm A outer s H vs Q E hr h=>?_)
 ·obtain ⟨t,q,a,ts,r,qs,st,rfl,_⟩:=h
  rfl
 obtain ⟨t,q,a,ts,r,qs,st,rfl,⟨vt,ht,dt⟩,hq,⟨g0,ha,zq⟩,hS,h6,k⟩:=h
 have hu:=hr.units
 have lt:=az dt
 have P0:=(gh hS).2.2
 have lst:=lI hS h6
 obtain ⟨tB,hB,rB⟩:∃ tt,tN (bX P w K mg base ["things","room","quarrels","standing","many","bank","found","crew","rowing"] "_law_crews" fk (gs 7) cm A outer s H E) ((cw fk).drop 3) tt /\ ∀ (H1:Hp) (lb:Addr),ak H H1->H1 lb = some (.tup ((aS ts.length st).map V.int)) ->
   tt (bD Q) [some (.ref t),some (.int r),some (.ref q),some (.ref a),some (.int ts.length),some (.ref lb),none,none,none] H1:=by
  refine ⟨_,(ag (sn 6 cC.nd (fG af))
   (ag (cU WA rfl (bI (cl iF iA hr aF (aa (pv 4) af))) (gn 7 cC.nd)
   (aj (bE (PW.pt (pw_and (ny kg kg ai (aA aB (by rfl) T.cH Wv (aa (pv 7) af)) (pv 1)) (pw_and1 (aC iR (aA aB (by rfl) T.cH Wv (aa (bv rfl (N':=["thing","bank"]) (cap:=[none,some 5]) ⟨rfl,by with_unfolding_all rfl⟩ (fQ (pv 7)) (fun _=>(gn 0 (show (["thing","bank"]:List Str).Nodup by decide +kernel))) (fun _=>(cy (aC (qz (K:=K) rfl) (pv 0) (pv 1) (by with_unfolding_all rfl)))) (fun _=>(pv 0))) af)) ai (a6 _)))))
   (ag (pI (j:=8) rfl (N':=["thing","things"]) (cap:=[none,some 0]) ⟨rfl,by with_unfolding_all rfl⟩ (fQ (pv 7)) (fun _=>(gn 0 (show (["thing","things"]:List Str).Nodup by decide +kernel))) (fun _=>(cy (cG (aE (C1 (K:=K) rfl) (aE (ER (K:=K) rfl) (pv 1) (pv 0) (fun _ _=>rfl)) ai (fun _ _=>rfl))))) (fun _=>(pv 0)) cC.nd (by rfl) (by rfl) (by with_unfolding_all rfl))
   (aj (bE (PW.pt (pw_and (aC zB (aA aB (by rfl) T.cH Wv (aa (pv 8) af)) ai (a6 _)) (pw_and1 (cG (cl ki j6 hr aF (aa (pv 2) (aa (aE aM (cl cB cA hr aF (aa (pv 3) (aa (pv 7) (aa (pv 4) af)))) ai (fun _ _=>rfl)) (aa (pv 4) af))))))))
   (aj (cF (lj Xd XM XJ de (pv 6) (aa (pv 7) af))))
   aQ)))
   aQ)))
   (aj (aD (aA (js hu) (by rfl) T.i5 boot_sorted (aa (pv 6) af)))))),fun H1 lb s1 Bn=>?_⟩
  refine ⟨aL (Wl _),fun F hF=>?_⟩
  have R6:=s1.free hF
  have s2:ak H1 (L2.upd H1 F (.lst [])):=ah hF
  refine ⟨_,rfl,ts.length,rfl,h6,fun lg H3 s3 ⟨vg,DQ,dg⟩=>?_⟩
  have C7:=az dg
  have Vv:(groups ts.length).length <= 64:=by
   unfold groups
   rw [VO,aT]
   exact Cs h6
  have OT:H3 F = some (.lst []):=s3 _ _ ae
  refine ⟨lg,rfl,⟨_,aZ.of DQ⟩,cY (K:=K) (a:=lg) (xs:=vg) (fun i σ H'=>ak H H' /\ H' lb = some (.tup ((aS ts.length st).map V.int)) /\ H' lg = some (.lst vg) /\ bK H' ((groups ts.length).map gu) vg /\ (∃ v7 v8,σ = [some (.ref t),some (.int r),some (.ref q),some (.ref a),some (.int ts.length),some (.ref lb),some (.ref F),v7,v8]) /\
    ∃ xs,H' F = some (.lst xs) /\ bK H' ((((groups ts.length).take i).filter (pC ts r qs st)).map gu) xs)
   ⟨s1.trans (s2.trans s3),s3 _ _ (s2 _ _ Bn),DQ,dg,⟨_,_,rfl⟩,[],OT,.nil⟩ (fun i σ H' _ ⟨_,_,h,_⟩=>aZ.of h) ?_ ?_⟩
  ·rintro i x σ H4 hi ⟨s4,EQ,JN,Nl,⟨v7,v8,rfl⟩,xs,Md,dx⟩
   obtain ⟨c,hc,dc⟩:=bi Nl hi
   obtain ⟨o,rfl,ho⟩:=fM dc
   have mG:=xw (Wm hc)
   have cin:∀ y ∈ c,0 <= y /\ y < (ts.length:Int):=fun y hy=>cZ.mp (mG.subset hy)
   have cl:c.length <= 6:=VZ mG.length_le (by rw [aT]; exact h6)
   have lx:xs.length <= 64:=by
    rw [az dx]
    exact VZ (Wg _ _) (by rw [Wb]; omega)
   have no:∀ (H':Hp) (Pl OP:Option V),ak H4 H'->pC ts r qs st c = false ->
     ak H H' /\ H' lb = some (.tup ((aS ts.length st).map V.int)) /\ H' lg = some (.lst vg) /\ bK H' ((groups ts.length).map gu) vg /\ (∃ v7 v8,([some (.ref t),some (.int r),some (.ref q),some (.ref a),some (.int ts.length),some (.ref lb),some (.ref F),Pl,OP]:List (Option V)) = [some (.ref t),some (.int r),some (.ref q),some (.ref a),some (.int ts.length),some (.ref lb),some (.ref F),v7,v8]) /\
     ∃ xs,H' F = some (.lst xs) /\ bK H' ((((groups ts.length).take (i + 1)).filter (pC ts r qs st)).map gu) xs:=fun H' Pl OP sm hf =>
    ⟨s4.trans sm,sm _ _ EQ,sm _ _ JN,Nl.mono sm,⟨_,_,rfl⟩,xs,sm _ _ Md,eH hc hf (dx.mono sm)⟩
   refine ⟨_,rfl,o,_,rfl,.inr (a7.of ho),_,_,rfl,rfl,_,rfl,?_⟩
   rw [VO]
   refine bF (fun h1=>?_) (fun h1=>?_)
   ·refine ⟨_,rfl,_,_,rfl,rfl,_,rfl,?_⟩
    refine bF (fun h2=>?_) (fun h2=>?_)
    ·have hm:decide (1 <= (c.length:Int) /\ (c.length:Int) <= r) = true:=V0 ⟨Wi h1,Wi h2⟩
     refine ⟨_,rfl,o,rfl,⟨_,a7.of ho⟩,fun D hD=>?_⟩
     refine dJ (K:=K) (a:=o) (ys:=c.map V.int) (fun j ys H'=>ak H4 H' /\ H' D = some (.lst ys) /\ ys = ((c.take j).filter fun t=>!(aS ts.length st).contains t).map V.int)
      ⟨ah hD,ae,rfl⟩ (fun j ys H' _ ⟨sm,h,_⟩=>⟨h,a7.of (sm _ _ ho)⟩) ?_ ?_
     ·rintro j x ys H5 hj ⟨s5,jc,rfl⟩
      rw [V3,WC] at hj
      obtain ⟨y,hy,rfl⟩:=hj
      have sl:((c.take j).filter fun t=>!(aS ts.length st).contains t).length <= 6:=VZ (Wg _ _) (by rw [Wb]; omega)
      have et:c.take (j + 1) = c.take j ++ [y]:=by rw [Wd,hy]; rfl
      refine ⟨b8.set rfl,?_⟩
      refine ⟨_,rfl,_,rfl,lb,_,rfl,.inr (a7.of (s5 _ _ EQ)),rfl,b6 _,_,rfl,?_⟩
      rw [b7]
      refine bF (fun h3=>?_) (fun h3=>?_)
      ·have r9:(!(aS ts.length st).contains y) = true:=h3
       refine ⟨_,rfl,jc,aO (by rw [VO]; omega),ao s5 hD,ae,?_⟩
       have ef:[y].filter (fun t=>!(aS ts.length st).contains t) = [y]:=by rw [Wr,if_pos r9]; rfl
       rw [et,Wk,VV,ef]
       rfl
      ·have r9:(!(aS ts.length st).contains y) = false:=h3
       refine ⟨s5,jc,?_⟩
       have ef:[y].filter (fun t=>!(aS ts.length st).contains t) = []:=by rw [Wr,if_neg (by rw [r9]; simp)]; rfl
       rw [et,Wk,VV,ef]
       simp
     ·rintro ys H5 ⟨s5,jc,rfl⟩
      rw [VO,W9] at jc
      refine ⟨D,_,rfl,.inl (aZ.of jc),rfl,_,rfl,?_⟩
      rw [CI]
      refine bF (fun h3=>?_) (fun h3=>?_)
      ·refine ⟨_,rfl,o,rfl,⟨_,a7.of (s5 _ _ ho)⟩,fun D2 j0=>?_⟩
       have Rw:=s5 _ _ (s4 _ _ ht)
       have SD:=(dt.mono s4).mono s5
       refine dJ (K:=K) (a:=o) (ys:=c.map V.int) (fun j ys H'=>ak H5 H' /\ H' D2 = some (.lst ys) /\ ys = ((c.take j).filter (fJ ts)).map V.int)
        ⟨ah j0,ae,rfl⟩ (fun j ys H' _ ⟨sm,h,_⟩=>⟨h,a7.of (sm _ _ (s5 _ _ ho))⟩) ?_ ?_
       ·rintro j x ys H6 hj ⟨s6,si,rfl⟩
        rw [V3,WC] at hj
        obtain ⟨y,hy,rfl⟩:=hj
        obtain ⟨y0,y1⟩:=cin y (Wm hy)
        obtain ⟨oo,qJ,lJ⟩:=yC SD y0 y1
        have sl:((c.take j).filter (fJ ts)).length <= 6:=VZ (Wg _ _) (by rw [Wb]; omega)
        have et:c.take (j + 1) = c.take j ++ [y]:=by rw [Wd,hy]; rfl
        refine ⟨b8.set rfl,?_⟩
        refine ⟨_,rfl,_,rfl,t,_,_,_,rfl,rfl,aZ.of (s6 _ _ Rw),qJ,oo,_,_,_,rfl,rfl,a7.of (s6 _ _ lJ),k7,_,rfl,?_⟩
        refine bF (fun h4=>?_) (fun h4=>?_)
        ·refine ⟨_,rfl,si,aO (by rw [VO]; omega),ao s6 j0,ae,?_⟩
         have ef:[y].filter (fJ ts) = [y]:=by rw [Wr,if_pos h4]; rfl
         rw [et,Wk,VV,ef]
         rfl
        ·refine ⟨s6,si,?_⟩
         have ef:[y].filter (fJ ts) = []:=by rw [Wr,if_neg (by rw [h4]; simp)]; rfl
         rw [et,Wk,VV,ef]
         simp
       ·rintro ys H6 ⟨s6,si,rfl⟩
        rw [VO,W9] at si
        have Jf:=s5.trans s6
        refine ⟨_,rfl,D2,_,rfl,.inl (aZ.of si),_,_,rfl,rfl,_,rfl,?_⟩
        rw [Bu]
        refine bF (fun h4=>?_) (fun h4=>?_)
        ·refine ⟨_,rfl,_,rfl,_,rfl,_,rfl,a,o,st,c,ts.length,rfl,⟨g0,Jf _ _ (s4 _ _ ha),Jf _ _ (s4 _ _ zq)⟩,Jf _ _ ho,by omega,h6,fun lz H7 s7 ⟨gz,yI,G0⟩=>?_⟩
         have Qa:=Jf.trans s7
         refine ⟨lz,_,_,_,rfl,rfl,a7.of yI,kZ,_,rfl,q,gz,qs,_,ts.length,rfl,(hq.mono s4).mono Qa,G0,h6,fun H8 s8=>⟨_,rfl,?_⟩⟩
         have CY:=Qa.trans s8
         refine bF (fun h5=>?_) (fun h5=>?_)
         ·have IL:=CY _ _ Md
          refine ⟨_,rfl,.inl ⟨rfl,_,aZ.of IL⟩,_,rfl,F,xs,_,rfl,rfl,IL,aO (by omega),?_⟩
          refine ⟨ao (s4.trans CY) R6,?_,?_,?_,⟨_,_,rfl⟩,xs ++ [.ref o],ae,?_⟩
          ·rw [aq (dY (CY _ _ EQ) IL (by intro z; cases z))]; exact CY _ _ EQ
          ·have nn:lg ≠ F:=fun z=>by
            rw [z,OT] at DQ
            cases DQ
            have:(0:Nat) = (groups ts.length).length:=C7
            unfold groups at this
            rw [VO,aT] at this
            have:=Nat.two_pow_pos ts.length
            omega
           rw [aq nn]; exact CY _ _ JN
          ·exact bp IL (Nl.mono CY) (aK eR _)
          ·rw [io hc (by unfold pC; rw [hm,h3,h4,h5]; rfl),VV]
           exact (bp IL (dx.mono CY) (aK eR _)).snoc (cS IL (gY (CY _ _ ho)) (eR _))
         ·exact no H8 _ _ CY (by unfold pC; rw [h5,Xh,Xh])
        ·exact dm (no H6 _ _ Jf (by unfold pC; rw [h4,Ww,Xh]))
      ·exact no H5 _ _ s5 (by unfold pC; rw [h3,Xh,Ww])
    ·exact dm (no H4 _ _ (ak.refl H4) (by
      have hm:decide (1 <= (c.length:Int) /\ (c.length:Int) <= r) = false:=We fun z=>by rw [V0 z.2] at h2; cases h2
      unfold pC; rw [hm,Ww,Ww]))
   ·exact ⟨_,rfl,dm (dm (no H4 _ _ (ak.refl H4) (by
      have hm:decide (1 <= (c.length:Int) /\ (c.length:Int) <= r) = false:=We fun z=>by rw [V0 z.1] at h1; cases h1
      unfold pC; rw [hm,Ww,Ww])))⟩
  ·rintro σ H4 ⟨s4,_,_,_,⟨v7,v8,rfl⟩,xs,Md,dx⟩
   rw [V1 (by omega)] at dx
   have e:((groups ts.length).filter (pC ts r qs st)) = eX ts r qs st:=Af hS
   rw [e] at dx
   refine ⟨_,rfl,F,_,xs,rfl,Md,dx,nQ hS,fun l pj mF Jv=>?_⟩
   exact k l _ (s4.free mF) (ao s4 (s4.free mF)) ⟨pj,ae,Jv.mono (ah mF)⟩
 refine ⟨_,(ag (sn 4 cC.nd (aA aB (by rfl) T.cH Wv (aa (pv 0) af)))
   (ag (sn 5 cC.nd (aE aM (pv 3) ai (fun _ _=>rfl)))
   (ag (bE (aC iR (aE aM (pv 3) ai (fun _ _=>rfl)) ai (a6 _))
   (aj (sn 5 cC.nd (cl j8 ir hr aF (aa (aE aM (pv 3) ai (fun _ _=>rfl)) (aa (pv 4) af)))))
   aQ)
   hB))),?_⟩
 refine ⟨_,rfl,t,_,rfl,.inl (aZ.of ht),?_⟩
 rw [lt]
 refine ⟨_,rfl,a,_,_,_,rfl,rfl,a7.of ha,kZ,?_⟩
 refine ⟨_,rfl,a,_,_,_,rfl,rfl,a7.of ha,k7,rfl,_,rfl,?_⟩
 refine bF (fun h1=>?_) (fun h1=>?_)
 ·have e:st.2 = 1:=by have:=Wi h1; injection this
  refine ⟨_,rfl,a,_,_,_,rfl,rfl,a7.of ha,kZ,_,rfl,g0,st.1,ts.length,rfl,zq,h6,fun l H' sm hl=>?_⟩
  refine rB H' l sm ?_
  unfold aS
  rw [if_neg (by rw [e]; decide)]; exact hl
 ·have e:st.2 = 0:=by
   rcases P0 with z | z
   ·exact z
   ·rw [z] at h1; exact absurd h1 (by simp)
  refine rB H g0 (ak.refl H) ?_
  unfold aS
  rw [if_pos e]; exact zq
theorem n5 (g:List Int):(gu g).canLay0 = true:=by simp [gu,PyData.canLay0,Dw]
theorem C9 (g:List Int):(gu g).depth <= 6:=by
 have h:=mC (f:=PyData.int) (n:=5) (fun i=>by simp [PyData.depth]) g
 simp only [gu,PyData.depth]
 omega
def sv:Sp:=fun vs H Q _=>∃ (a b:Addr) (g:List Int),vs = [.ref a,.ref b] /\ H a = some (.tup (g.map V.int)) /\ H b = some (.tup (g.map V.int)) /\ g.length <= 1000 /\ ∀ H',ak H H'->Q (.bl true) H'
theorem sk:av ["found","due"] ["found","due"] (am fc):=fZ
theorem A5 {f f1:Addr} {fd eC:FuncData} (F:Fn K mg "_law_group" fc f fd ["found","due"]) (T:Txt K mg C Z) (bU:Fn K mg "_law_whole" cX f1 eC ["found"]):au P w K mg base br 2 f fd ["found","due"] sv:=by
 have fu:au P w K mg base br 1 f1 eC ["found"] nr:=p6 bU T
 refine F.fn.ok sk (fun vs H Q E h=>?_) (fun cm A outer s H vs Q E hr h=>?_)
 ·obtain ⟨a,b,g,rfl,_⟩:=h
  rfl
 ·obtain ⟨a,b,g,rfl,ha,hb,hl,k⟩:=h
  have hu:=hr.units
  have dp:=C9 g
  refine ⟨_,(aj (aD (fP (aA du (by rfl) T.cV Ym (aa (pv 0) (aa (jg (v:=.ty "tuple") (by rfl) T.cW Xz rfl) af))) (fP (fW (CK hu) (pv 0) (pv 1) (a6 _)) (je (aA (mw rfl) (by rfl) T.yx boot_all (aa (bv rfl (N':=["thing"]) (cap:=[none]) ⟨rfl,by with_unfolding_all rfl⟩ (fQ (pv 0)) (fun _=>(gn 0 (show (["thing"]:List Str).Nodup by decide +kernel))) (fun _=>ce) (fun _=>(cl fu bU hr aF (aa (pv 0) af)))) af))))))),?_⟩
  refine ⟨_,rfl,_,_,_,_,rfl,.tup ha,gp _ _,_,rfl,pd ?_⟩
  refine ⟨_,rfl,_,rfl,gu g,gu g,gY ha,gY hb,n5 g,n5 g,by omega,_,rfl,?_⟩
  rw [SeqAt.eqv_refl _ (n5 g)]
  refine pd ?_
  refine ⟨_,rfl,a,rfl,⟨_,a7.of ha⟩,fun D hD=>?_⟩
  refine dJ (K:=K) (a:=a) (ys:=g.map V.int) (fun i xs H'=>ak H H' /\ H' D = some (.lst xs) /\ xs = (List.replicate i true).map V.bl)
   ⟨ah hD,ae,rfl⟩ (fun i xs H' _ ⟨sm,h,_⟩=>⟨h,a7.of (sm _ _ ha)⟩) ?_ ?_
  ·rintro i x xs H' hi ⟨sm,eE,rfl⟩
   have il:i < g.length:=by simpa using (Wa.mp hi).1
   rw [V3,WC] at hi
   obtain ⟨x',oR,rfl⟩:=hi
   refine ⟨b8.set rfl,?_⟩
   refine ⟨_,rfl,_,rfl,eE,aO (by simp; omega),ao sm hD,ae,?_⟩
   rw [List.replicate_succ',VV]
   rfl
  ·rintro xs H' ⟨sm,eE,rfl⟩
   refine ⟨D,_,rfl,aZ.of eE,?_⟩
   have e:(List.replicate (g.map V.int).length true).all id = true:=by simp
   rw [e]
   exact k H' sm
end
theorem xH (g c:List Int):PyData.eqv (gu g) (gu c) = decide (g = c):=by
 show PyData.eqv (.tuple (g.map PyData.int)) (.tuple (c.map PyData.int)) = _
 rw [PyData.eqv]
 exact PySem.W.ked_eqvAll g c
theorem GK (l:List (List Int)) (c:List Int):((l.map gu).any fun e=>PyData.eqv e (gu c)) = decide (c ∈ l):=by
 rw [List.any_map,XZ,decide_eq_true_eq,List.any_eq_true]
 constructor
 ·rintro ⟨x,hx,h⟩
  have h':PyData.eqv (gu x) (gu c) = true:=h
  rw [xH] at h'
  rw [<- Wi h']; exact hx
 ·intro h
  refine ⟨c,h,?_⟩
  show PyData.eqv (gu c) (gu c) = true
  rw [xH]; exact V0 rfl
theorem Ah {n:Nat} {st:aW} {c:List Int} (h:cQ n st = true):cQ n (behind n st c) = true:=by
 obtain ⟨h1,h2,_⟩:=gh h
 unfold behind
 split
 ·exact mB (dS _ h1) (fun t ht=>h2 t (Ws.mp ht).1) (.inr rfl)
 ·exact mB (dS _ (fT n)) (fun t ht=>cZ.mp (Ws.mp ht).1) (.inl rfl)
section
variable {P:Program} {w:World} {K:Yt} {mg:Str->Option Value} {base:Heap} {C:Addr} {Z:Ad} {fs gs:Nat->Addr} {ds es:Nat->FuncData}
def pU (C:Addr):Sp:=fun vs H Q _=>∃ (p b:Addr) (ts:List Th) (r:Int) (qs:List Qu) (c:List Int),vs = [.ref p,.ref b] /\ bB C H p ts r qs /\ ts.length <= 6 /\ H b = some (.tup (c.map V.int)) /\ c.length <= 1000 /\ c ≠ [] /\ (∀ t ∈ c,0 <= t /\ t < (ts.length:Int)) /\
 ∀ H',ak H H'->Q (.int (aP ts c)) H'
theorem qC:av ["night","crew","things"] ["night","crew"] (am kI):=fZ
theorem yd {f f1:Addr} {fd eC:FuncData} (F:Fn K mg "minutes" kI f fd ["night","crew"]) (T:Txt K mg C Z) (bG:Meth K C "things" f1) (aX:Mt K "things" "Night.things" bO f1 eC ["self"]) :
  au P w K mg base br 2 f fd ["night","crew"] (pU C):=by
 have b9:au P w K mg base br 1 f1 eC ["self"] (gU C):=ja aX T
 refine F.fn.ok qC (fun vs H Q E h=>?_) (fun cm A outer s H vs Q E hr h=>?_)
 ·obtain ⟨p,b,ts,r,qs,c,rfl,_⟩:=h
  rfl
 ·obtain ⟨p,b,ts,r,qs,c,rfl,N,h6,hb,hc,rM,oU,k⟩:=h
  obtain ⟨dx,t,q,hp,_,_⟩:=id N.ex
  refine ⟨_,(ag (sn 2 qC.nd (ge (pv 0) T.bR bG b9 (hr.mono (by decide)) aX.b .nil aF))
   (aj (aD (aA (vd rfl) (by rfl) T.Gf boot_max (aa (bv rfl (N':=["thing","things"]) (cap:=[none,some 2]) ⟨rfl,by with_unfolding_all rfl⟩ (fQ (pv 1)) (fun _=>(gn 0 (show (["thing","things"]:List Str).Nodup by decide +kernel))) (fun _=>ce) (fun _=>(aE (C1 (K:=K) rfl) (aE (ER (K:=K) rfl) (pv 1) (pv 0) (fun _ _=>rfl)) ai (fun _ _=>rfl)))) af))))),?_⟩
  refine ⟨_,rfl,p,dx,_,rfl,hp,c7 _ _ _,p,ts,r,qs,rfl,N,fun l vs hl dv=>?_⟩
  have s1:ak H (L2.upd H l (.lst vs)):=ah hl
  have Kx:=dv.mono s1
  have Dl:=s1 _ _ hb
  have Bf:(L2.upd H l (.lst vs)) l = some (.lst vs):=ae
  generalize L2.upd H l (.lst vs) = H1 at s1 Kx Dl Bf ⊢
  refine ⟨_,rfl,b,rfl,⟨_,a7.of Dl⟩,fun D hD=>?_⟩
  refine dJ (K:=K) (a:=b) (ys:=c.map V.int) (fun i xs H'=>ak H1 H' /\ H' D = some (.lst xs) /\ xs = (c.take i).map fun t=>V.int (jC ts t))
   ⟨ah hD,ae,rfl⟩ (fun i xs H' _ ⟨sm,h,_⟩=>⟨h,a7.of (sm _ _ Dl)⟩) ?_ ?_
  ·rintro i x xs H' hi ⟨sm,eE,rfl⟩
   rw [V3,WC] at hi
   obtain ⟨x',oR,rfl⟩:=hi
   obtain ⟨x0,x1⟩:=oU x' (Wm oR)
   obtain ⟨o,qJ,lJ⟩:=yC Kx x0 x1
   refine ⟨b8.set rfl,?_⟩
   refine ⟨_,rfl,_,rfl,l,_,_,_,rfl,rfl,aZ.of (sm _ _ Bf),qJ,o,_,_,_,rfl,rfl,a7.of (sm _ _ lJ),kZ,eE,aO (by rw [VO,Wb]; omega),ao sm hD,ae,?_⟩
   rw [Wd,oR]
   simp
  ·rintro xs H' ⟨sm,eE,rfl⟩
   refine ⟨D,c.map (jC ts),rfl,aZ.of ?_,?_,k H' (s1.trans sm)⟩
   ·rw [eE,VO,W9,Wx]
    rfl
   ·simpa using rM
def jW:Sp:=fun vs H Q _=>∃ (t b:Addr) (ts:List Th) (c:List Int),vs = [.ref t,.ref b] /\ LstAt xk H t ts /\ H b = some (.tup (c.map V.int)) /\ c.length <= 1000 /\ c ≠ [] /\ (∀ t ∈ c,0 <= t /\ t < (ts.length:Int)) /\ ∀ H',ak H H'->Q (.int (aP ts c)) H'
theorem o8:av ["things","crew"] ["things","crew"] (am cK):=fZ
theorem oP {f:Addr} {fd:FuncData} (F:Fn K mg "_law_minutes" cK f fd ["things","crew"]) (T:Txt K mg C Z):au P w K mg base br 1 f fd ["things","crew"] jW:=by
 refine F.fn.ok o8 (fun vs H Q E h=>?_) (fun cm A outer s H vs Q E hr h=>?_)
 ·obtain ⟨t,b,ts,c,rfl,_⟩:=h
  rfl
 ·obtain ⟨t,b,ts,c,rfl,⟨vt,ht,dt⟩,hb,hc,rM,oU,k⟩:=h
  refine ⟨_,(aj (aD (aA (vd rfl) (by rfl) T.Gf boot_max (aa (bv rfl (N':=["thing","things"]) (cap:=[none,some 0]) ⟨rfl,by with_unfolding_all rfl⟩ (fQ (pv 1)) (fun _=>(gn 0 (show (["thing","things"]:List Str).Nodup by decide +kernel))) (fun _=>ce) (fun _=>(aE (C1 (K:=K) rfl) (aE (ER (K:=K) rfl) (pv 1) (pv 0) (fun _ _=>rfl)) ai (fun _ _=>rfl)))) af)))),?_⟩
  refine ⟨_,rfl,b,rfl,⟨_,a7.of hb⟩,fun D hD=>?_⟩
  refine dJ (K:=K) (a:=b) (ys:=c.map V.int) (fun i xs H'=>ak H H' /\ H' D = some (.lst xs) /\ xs = (c.take i).map fun t=>V.int (jC ts t))
   ⟨ah hD,ae,rfl⟩ (fun i xs H' _ ⟨sm,h,_⟩=>⟨h,a7.of (sm _ _ hb)⟩) ?_ ?_
  ·rintro i x xs H' hi ⟨sm,eE,rfl⟩
   rw [V3,WC] at hi
   obtain ⟨x',oR,rfl⟩:=hi
   obtain ⟨x0,x1⟩:=oU x' (Wm oR)
   obtain ⟨o,qJ,lJ⟩:=yC dt x0 x1
   refine ⟨b8.set rfl,?_⟩
   refine ⟨_,rfl,_,rfl,t,_,_,_,rfl,rfl,aZ.of (sm _ _ ht),qJ,o,_,_,_,rfl,rfl,a7.of (sm _ _ lJ),kZ,eE,aO (by rw [VO,Wb]; omega),ao sm hD,ae,?_⟩
   rw [Wd,oR]
   simp
  ·rintro xs H' ⟨sm,eE,rfl⟩
   refine ⟨D,c.map (jC ts),rfl,aZ.of ?_,?_,k H' sm⟩
   ·rw [eE,VO,W9,Wx]
    rfl
   ·simpa using rM
end
theorem qq (a b:aW):PyData.eqv (dn a) (dn b) = decide (a = b):=by
 obtain ⟨g,i⟩:=a
 obtain ⟨g',i'⟩:=b
 show PyData.eqv (.tuple [gu g,.int i]) (.tuple [gu g',.int i']) = _
 rw [PyData.eqv,PyData.eqvAll,PyData.eqvAll,PyData.eqvAll,xH,XZ]
 simp [PyData.eqv,Prod.ext_iff]
theorem ft (st:aW):(dn st).canLay0 = true:=by
 simp [dn,PyData.canLay0,PyData.canLayAll0,n5]
theorem qH (st:aW):(dn st).depth <= 8:=by
 have:=C9 st.1
 simp [dn,PyData.depth,PyData.depthAll]
 omega
def mQ (H:Hp) (D:Addr) (H':Hp):Prop:=∀ b u,b ≠ D->H b = some u->H' b = some u
theorem mQ.of {H H':Hp} {D:Addr} (h:ak H H'):mQ H D H':=fun b u _ e=>h b u e
theorem mQ.next {H H' Gu:Hp} {D:Addr} (h:mQ H D H') (g:ak H' Gu):mQ H D Gu:=fun b u n e=>g b u (h b u n e)
theorem mQ.upd {H H':Hp} {D:Addr} {o:HO} (h:mQ H D H'):mQ H D (L2.upd H' D o):=fun b u n e=>by rw [aq n]; exact h b u n e
theorem mQ.same {H H':Hp} {D:Addr} (h:mQ H D H') (n:H D = none):ak H H':=fun b u e=>h b u (aG e n) e
theorem mQ.fC {H H':Hp} {D:Addr} {ys:List V} (h:mQ H D H') (n:H D = some (.lst ys)):∀ b vs,H b = some (.tup vs)->H' b = some (.tup vs):=fun b vs e=>h b _ (fun z=>by rw [z,n] at e; cases e) e
theorem l9.st {H:Hp} {a:Addr} {st:aW} (h:cj H a st):l9 H st a:=h
theorem St.ka {H:Hp} {a:Addr} {st:aW} (h:l9 H st a):cj H a st:=h
theorem eV (st:aW):gf (dn st) = true:=by
 show dF [gu st.1,.int st.2] = true
 simp only [dF,Bool.and_true,eR]
 rfl
theorem cD {H:Hp} {st:aW} {v:V} (h:DV H (dn st) v):∃ a,v = .ref a /\ cj H a st:=l9.of h
theorem IA {H:Hp} {st aI:aW} {v:V} (h:DV H (dn st) v) (h':DV H (dn aI) v):st = aI:=by
 obtain ⟨a,e,b,h1,h2⟩:=cD h
 obtain ⟨a',e',b',c9,fL⟩:=cD h'
 rw [e] at e'; cases e'
 rw [h1] at c9
 injection c9 with e
 injection e with e
 injection e with e1 e2
 injection e1 with e1
 injection e2 with e2 _
 injection e2 with e2
 subst e1
 rw [h2] at fL
 injection fL with e
 injection e with e
 refine Prod.ext ?_ e2
 exact List.map_inj_right (fun x y z=>by injection z) |>.mp e
theorem Bb (gs:List (List Int)):(gs.flatMap fun g=>[((g,0):aW),(g,1)]).length = 2 * gs.length:=by
 induction gs with
 | nil=>rfl
 | cons g gs ih=>rw [List.flatMap_cons,Wf,ih]; simp; omega
theorem wR {α:Type} {f:α->PyData} {H:Hp}:∀ {vs pj:List V},pj.Perm vs->∀ {l:List α},bK H (l.map f) vs->∃ l':List α,l'.Perm l /\ bK H (l'.map f) pj:=by
 intro vs pj hp
 induction hp with
 | nil=>exact fun {l} h=>⟨l,List.Perm.refl _,h⟩
 | cons x _ ih =>
  intro l h
  cases l with
  | nil=>cases h
  | cons a l =>
   cases h with
   | cons h1 h2 =>
    obtain ⟨l',h3,h4⟩:=ih h2
    exact ⟨a :: l',h3.cons a,.cons h1 h4⟩
 | swap x y l0 =>
  intro l h
  cases l with
  | nil=>cases h
  | cons a l =>
   cases h with
   | cons h1 h2 =>
    cases l with
    | nil=>cases h2
    | cons b l =>
     cases h2 with
     | cons h3 h4=>exact ⟨b :: a :: l,List.Perm.swap _ _ _,.cons h3 (.cons h1 h4)⟩
 | trans _ _ NG Oo =>
  intro l h
  obtain ⟨l1,h1,h2⟩:=Oo h
  obtain ⟨l2,h3,h4⟩:=NG h2
  exact ⟨l2,h3.trans h1,h4⟩
open Classical in
noncomputable def wn (H:Hp) (v:V):Int × List Int:=if e:∃ st:aW,DV H (dn st) v then sw (Classical.choose e) else (0,[])
theorem uJ {H:Hp} {v:V} {st:aW} (h:DV H (dn st) v):wn H v = sw st:=by
 unfold wn
 rw [dif_pos ⟨st,h⟩]
 rw [IA (Classical.choose_spec (⟨st,h⟩:∃ st:aW,DV H (dn st) v)) h]
theorem uq {H:Hp}:∀ {l:List aW} {vs:List V},bK H (l.map dn) vs->vs.map (wn H) = l.map sw
 | [],_,.nil=>rfl
 | _ :: _,_ :: _,.cons h t=>by rw [V8,V8,uJ h,uq t]
theorem Gm {H:Hp} {l:List aW} {vs:List V} (h:bK H (l.map dn) vs) (hp:vs.Pairwise fun x y=>aJ (wn H x) (wn H y) = true):l.Pairwise fun a b=>aJ (sw a) (sw b) = true:=by
 have h1:(vs.map (wn H)).Pairwise fun a b=>aJ a b = true:=by rw [WK]; exact hp
 rw [uq h,WK] at h1
 exact h1
theorem iO {ts:List Th} {r:Int} {qs:List Qu} {st:aW} (h:cQ ts.length st = true) (h6:ts.length <= 6):(aU ts r qs st).length <= 1000 /\ ∀ g ∈ aU ts r qs st,g.length <= 1000:=by
 have pm:=gN (eX ts r qs st)
 constructor
 ·rw [show (aU ts r qs st).length = _ from pm.length_eq]
  have:(eX ts r qs st).length < 64:=Nat.lt_of_le_of_lt (Wg _ _) (nB (qs:=qs) h h6)
  omega
 ·intro g hg
  have Og:=pm.mem_iff.mp hg
  have:=(ix (Ws.mp (Ws.mp Og).1).1).length_le
  have:=eZ h
  omega
section
variable {P:Program} {w:World} {K:Yt} {mg:Str->Option Value} {base:Heap} {C:Addr} {Z:Ad} {fs:Nat->Addr} {ds:Nat->FuncData}
def lH:Sp:=fun vs H Q _=>∃ (a b:Addr) (sd:Int),vs = [.ref a] /\ H a = some (.tup [.ref b,.int sd]) /\ ∀ q,H q = none->Q (.ref q) (L2.upd H q (.tup [.int sd,.ref b]))
theorem xK:av ["standing"] ["standing"] (am gP):=fZ
theorem qQ {f:Addr} {fd:FuncData} (F:Fn K mg "by_side" gP f fd ["standing"]):au P w K mg base br 1 f fd ["standing"] lH:=by
 refine F.fn.ok xK (fun vs H Q E h=>?_) (fun cm A outer s H vs Q E hr h=>?_)
 ·obtain ⟨a,b,sd,rfl,_⟩:=h
  rfl
 ·obtain ⟨a,b,sd,rfl,ha,k⟩:=h
  refine ⟨_,(aj (aD (bM (aa (aE aM (pv 0) ai (fun _ _=>rfl)) (aa (aE aM (pv 0) ai (fun _ _=>rfl)) af))))),?_⟩
  exact ⟨_,rfl,a,_,_,_,rfl,rfl,a7.of ha,k7,_,rfl,a,_,_,_,rfl,rfl,a7.of ha,kZ,aL (by show 2 <= _; decide),fun o ho=>k o ho⟩
def CQ (C:Addr):Sp:=fun vs H Q _=>∃ (p:Addr) (ts:List Th) (r:Int) (qs:List Qu),vs = [.ref p] /\ bB C H p ts r qs /\ ts.length <= 6 /\ ∀ l H',ak H H'->LstAt dn H' l (bA qs ts.length)->Q (.ref l) H'
theorem eY:av ["night","standings","group"] ["night"] (am dL):=fZ
theorem HM {f f1 f2:Addr} {fd eC kR:FuncData} (F:Fn K mg "good_standings" dL f fd ["night"]) (L:Lk K mg C fs ds) (T:Txt K mg C Z) (fI:Fn K mg "by_side" gP f1 eC ["standing"])
  (qO:Meth K C "begins" f2) (j4:Mt K "begins" "Night.begins" dE f2 kR ["self"]):au P w K mg base br 4 f fd ["night"] (CQ C):=by
 have j3:=L.kz
 have iT:=L.kM
 have qZ:au P w K mg base br 1 f2 kR ["self"] (rh C):=yb j4 T
 have jR:au P w K mg base br 1 (fs 11) (ds 11) ["bank"] jk:=nj L.kz
 have iS:au P w K mg base br 3 (fs 8) (ds 8) ["night","standing"] (jp C):=l4 L.kM T L.c7 L.things L.kC L.gV L.hW
 refine F.fn.ok eY (fun vs H Q E h=>?_) (fun cm A outer s H vs Q E hr h=>?_)
 ·obtain ⟨p,ts,r,qs,rfl,_⟩:=h
  rfl
 ·obtain ⟨p,ts,r,qs,rfl,N,h6,k⟩:=h
  have hu:=hr.units
  obtain ⟨dx,t,q,hp,_,_⟩:=id N.ex
  refine ⟨_,(ag (sn 1 eY.nd (fG af))
   (ag (cU WA rfl (bI (cl jR j3 hr aF (aa (aE aM (ge (pv 0) T.bR qO qZ (hr.mono (by decide)) j4.b .nil aF) ai (fun _ _=>rfl)) af))) (gn 2 eY.nd)
   (aj (cF (lj Xd PySem.F.slot_list_extend PySem.F.type_list_extend Ba (pv 1) (aa (bv rfl (N':=["side","group"]) (cap:=[none,some 2]) ⟨rfl,by with_unfolding_all rfl⟩ (fQ (jq (v:=.ref Z.qK) (by rfl) T.yL rfl)) (fun _=>(gn 0 (show (["side","group"]:List Str).Nodup by decide +kernel))) (fun _=>ce) (fun _=>(bM (aa (pv 1) (aa (pv 0) af))))) af)))))
   (aj (aD (sy hu (by rfl) T.i5 (by rfl) fI.g (aa (bv rfl (N':=["standing","night"]) (cap:=[none,some 0]) ⟨rfl,by with_unfolding_all rfl⟩ (bI (pv 1)) (fun _=>(gn 0 (show (["standing","night"]:List Str).Nodup by decide +kernel))) (fun _=>(cy (cG (cl iS iT hr aF (aa (pv 1) (aa (pv 0) af)))))) (fun _=>(pv 0))) af)))))),?_⟩
  refine ⟨aL (by show 0 <= _; decide),fun l0 xh=>?_⟩
  have s1:ak H (L2.upd H l0 (.lst [])):=ah xh
  have e1:(L2.upd H l0 (.lst [])) l0 = some (.lst []):=ae
  generalize L2.upd H l0 (.lst []) = H1 at s1 e1 ⊢
  refine ⟨_,rfl,p,dx,_,rfl,s1 _ _ hp,rfl,p,ts,r,qs,rfl,N.mono s1,h6,fun lb H2 s2 hb=>?_⟩
  obtain ⟨_,e,Bn⟩:=cD (st:=(be ts.length,0)) hb
  cases e
  obtain ⟨g0,Bn,zq⟩:=Bn
  refine ⟨lb,_,_,_,rfl,rfl,a7.of Bn,kZ,g0,be ts.length,rfl,zq,by rw [aT]; exact h6,fun lg H3 s3 hG=>?_⟩
  obtain ⟨vg,uH,dg⟩:=hG
  have C7:=az dg
  have Oj:(jb (be ts.length)).length <= 64:=by
   rw [jz,aT]
   exact VZ (Xr (by decide) h6) (by decide)
  have nW:=s2.trans s3
  have e3:H3 l0 = some (.lst []):=nW _ _ e1
  have K3:lg ≠ l0:=fun z=>by
   rw [z,e3] at uH
   cases uH
   have:=List.length_pos_of_mem (zd (be ts.length))
   simp at C7; omega
  have Uq:=s1.trans nW
  refine ⟨lg,rfl,⟨_,aZ.of uH⟩,cY (K:=K) (a:=lg) (xs:=vg) (fun i σ H'=>ak H H' /\ mQ H3 l0 H' /\ (∃ v2,σ = [some (.ref p),some (.ref l0),v2]) /\ ∃ xs,H' l0 = some (.lst xs) /\ bK H' ((((jb (be ts.length)).take i).flatMap fun g=>[((g,0):aW),(g,1)]).map dn) xs)
   ⟨Uq,mQ.of (ak.refl _),⟨_,rfl⟩,[],e3,.nil⟩ (fun i σ H' _ ⟨_,bt,_⟩=>aZ.of (bt _ _ K3 uH)) ?_ ?_⟩
  ·rintro i x σ H4 hi ⟨s4,bt,⟨v2,rfl⟩,xs,hx,dx⟩
   obtain ⟨g,hg,SF⟩:=bi dg hi
   obtain ⟨c,rfl,hc⟩:=fM SF
   have UN:=bt.fC e3 _ _ hc
   have et:((jb (be ts.length)).take (i + 1)).flatMap (fun g=>[((g,0):aW),(g,1)]) = ((jb (be ts.length)).take i).flatMap (fun g=>[((g,0):aW),(g,1)]) ++ [(g,0),(g,1)]:=by
    rw [Wd,hg,List.flatMap_append]; rfl
   have lx:xs.length <= 128:=by
    rw [az dx,Bb,Wb]
    omega
   refine ⟨_,rfl,.inl ⟨rfl,_,aZ.of hx⟩,Z.qK,rfl,⟨_,T.uC _⟩,fun D hD=>?_⟩
   refine dJ (K:=K) (a:=Z.qK) (ys:=[.int 0,.int 1]) (fun j zs H'=>ak H4 H' /\ H' D = some (.lst zs) /\ zs.length = j /\ bK H' (([((g,0):aW),(g,1)].take j).map dn) zs)
    ⟨ah hD,ae,rfl,.nil⟩ (fun j zs H' _ ⟨_,h,_⟩=>⟨h,T.uC _⟩) ?_ ?_
   ·rintro j y zs H5 hj ⟨s5,jc,lz,dz⟩
    obtain ⟨sd,rfl,UA⟩:∃ sd:Int,y = .int sd /\ [((g,0):aW),(g,1)][j]? = some (g,sd):=by
     match j,hj with
     | 0,hj=>exact ⟨0,by simpa using hj.symm,rfl⟩
     | 1,hj=>exact ⟨1,by simpa using hj.symm,rfl⟩
     | j + 2,hj=>simp at hj
    have Lz:j < 2:=(Wa.mp hj).1
    refine ⟨b8.set rfl,?_⟩
    refine ⟨_,rfl,_,rfl,aL (by show 2 <= _; decide),fun o ho=>?_⟩
    have s6:ak H5 (L2.upd H5 o (.tup [.ref c,.int sd])):=ah ho
    have si:=s6 _ _ jc
    have J1:cj (L2.upd H5 o (.tup [.ref c,.int sd])) o (g,sd):=⟨c,ae,s6 _ _ (s5 _ _ UN)⟩
    refine ⟨si,aO (by omega),ao (s5.trans s6) hD,ae,by simp [lz],?_⟩
    rw [Wd,UA,VV]
    exact (bp si (dz.mono s6) (aK eV _)).snoc (cS si J1.dv (eV _))
   ·rintro zs H5 ⟨s5,jc,lz,dz⟩
    have U9:zs.length = 2:=lz
    refine ⟨l0,D,xs,zs,rfl,rfl,s5 _ _ hx,jc,aL (by omega),?_⟩
    refine ⟨ao (s4.trans s5) xh,(bt.next s5).upd,⟨_,rfl⟩,_,ae,?_⟩
    rw [et,VV]
    exact (bp (s5 _ _ hx) (dx.mono s5) (aK eV _)).append (bp (s5 _ _ hx) dz (aK eV _))
  ·rintro σ H4 ⟨s4,bt,⟨v2,rfl⟩,xs,hx,dx⟩
   rw [V1 (by omega)] at dx
   have lx:=az dx
   have Cd:=Ar qs h6
   generalize hM:(jb (be ts.length)).flatMap (fun g=>[((g,0):aW),(g,1)]) = M at dx lx Cd
   refine ⟨_,rfl,l0,rfl,⟨_,aZ.of hx⟩,fun D hD=>?_⟩
   refine cM (K:=K) (a:=l0) (ys:=xs) (fun j zs H'=>ak H4 H' /\ H' D = some (.lst zs) /\ bK H' (((M.take j).filter fun st=>bz qs ts.length st.1).map dn) zs)
    ⟨ah hD,ae,.nil⟩ (fun j zs H' _ ⟨sm,h,_⟩=>⟨h,aZ.of (sm _ _ hx)⟩) ?_ ?_
   ·rintro j y zs H5 hj ⟨s5,jc,dz⟩
    obtain ⟨st,jM,dst⟩:=bi dx hj
    obtain ⟨a,rfl,Gi⟩:=cD dst
    refine ⟨b8.set rfl,?_⟩
    refine ⟨_,rfl,_,rfl,p,a,ts,r,qs,st,rfl,N.mono (s4.trans s5),h6,Gi.mono s5,fun H6 s6=>⟨_,rfl,?_⟩⟩
    have si:=s6 _ _ jc
    have Qi:=dz.mono s6
    have lz:zs.length <= 128:=by
     rw [az dz]
     exact VZ (Wg _ _) (by rw [Wb]; omega)
    have et:M.take (j + 1) = M.take j ++ [st]:=by rw [Wd,jM]; rfl
    refine bF (fun h1=>?_) (fun h1=>?_)
    ·refine ⟨_,rfl,si,aO (by omega),ao (s5.trans s6) hD,ae,?_⟩
     have ef:[st].filter (fun st=>bz qs ts.length st.1) = [st]:=by rw [Wr,if_pos h1]; rfl
     rw [et,Wk,ef,VV]
     exact (bp si Qi (aK eV _)).snoc (cS si (Gi.mono (s5.trans s6)).dv (eV _))
    ·refine ⟨s5.trans s6,si,?_⟩
     have c9:bz qs ts.length st.1 = false:=h1
     have ef:[st].filter (fun st=>bz qs ts.length st.1) = []:=by rw [Wr,if_neg (by rw [c9]; simp)]; rfl
     rw [et,Wk,ef,Yn]
     exact Qi
   ·rintro zs H5 ⟨s5,jc,dz⟩
    rw [lx,W9] at dz
    have eM:M.filter (fun st=>bz qs ts.length st.1) = pZ qs ts.length:=by rw [<- hM]; rfl
    rw [eM] at dz
    have oh:au P w K mg base br 1 f1 eC ["standing"] lH:=qQ fI
    refine ⟨D,zs,wn H5,rfl,aZ.of jc,rq.of oh (hr.mono (by decide)) fI.b (fun _ _ _ _ _ z=>z) (fun y hy=>?_),by rw [uq dz]; exact vR _ _,fun H6 l QV s6 hl hp hs=>?_⟩
    ·obtain ⟨i,hi⟩:=X1.mp hy
     obtain ⟨st,_,dst⟩:=bi dz hi
     have ek:=uJ dst
     obtain ⟨a,rfl,b,ha,hb⟩:=cD dst
     refine ⟨b,by rw [ek]; exact hb,fun H' sm Q hq=>⟨a,b,st.2,rfl,sm _ _ ha,fun q hn=>?_⟩⟩
     have:=hq q hn
     rw [ek] at this
     exact this
    ·obtain ⟨l',h1,h2⟩:=wR hp dz
     have e:=wF h1 (Gm h2 hs)
     rw [e] at h2
     have s7:=s4.trans (s5.trans s6)
     exact k l _ (ao s7 (s7.free hl)) ⟨QV,ae,(h2.mono s6).mono (ah hl)⟩
end
def ES (x:Wy):PyData:=.tuple [gu x.1,.int x.2.1,dn x.2.2]
theorem wv (x:Wy):gf (ES x) = true:=by
 show dF [gu x.1,.int x.2.1,dn x.2.2] = true
 simp only [dF,Bool.and_true,eR,eV]
 rfl
theorem Bq {H:Hp} {x:Wy} {v:V} (h:DV H (ES x) v):∃ a b c,v = .ref a /\ H a = some (.tup [.ref b,.int x.2.1,.ref c]) /\ H b = some (.tup (x.1.map V.int)) /\ cj H c x.2.2:=by
 obtain ⟨a,vs,rfl,e,q⟩:=h.gK
 obtain ⟨v,w,u,rfl,h1,h2,h3⟩:=q.kH
 obtain ⟨b,rfl,hb⟩:=fM h1
 cases h2.int_inv
 obtain ⟨c,rfl,hc⟩:=cD h3
 exact ⟨a,b,c,rfl,e,hb,hc⟩
theorem JC {H:Hp} {x:Wy} {a b c:Addr} (h:H a = some (.tup [.ref b,.int x.2.1,.ref c])) (hb:H b = some (.tup (x.1.map V.int))) (hc:cj H c x.2.2):DV H (ES x) (.ref a):=.tup h (.cons (gY hb) (.cons (.int _) (.cons hc.dv .nil)))
theorem LstAt.keep {α:Type} {f:α->PyData} {H H':Hp} {a:Addr} {l:List α} (h:LstAt f H a l) (kl:∀ b vs,H b = some (.lst vs)->H' b = some (.lst vs)) (kt:∀ b vs,H b = some (.tup vs)->H' b = some (.tup vs)) (no:∀ x,gf (f x) = true):LstAt f H' a l :=
 let ⟨vs,h1,h2⟩:=h
 ⟨vs,kl _ _ h1,pN kt h2 (aK no l)⟩
abbrev uW (H:Hp):bV × V->aW × List Wy->Prop:=fun kv c=>kv.1 = c.1 /\ ∃ a,kv.2 = .ref a /\ LstAt ES H a c.2
def vN (P:Program) (w:World) (H:Hp) (p:Addr) (cs:List (aW × List Wy)):Prop:=∃ kvs,DF P w H p kvs /\ Paired (uW H) kvs cs
theorem uW.mono {H H':Hp} {kvs:List (bV × V)} {cs:List (aW × List Wy)} (h:Paired (uW H) kvs cs) (e:ak H H'):Paired (uW H') kvs cs:=Paired.yl h fun _ _ ⟨h1,a,h2,h3⟩=>⟨h1,a,h2,h3.mono e⟩
theorem vN.mono {P:Program} {w:World} {H H':Hp} {p:Addr} {cs:List (aW × List Wy)} (h:vN P w H p cs) (e:ak H H'):vN P w H' p cs:=let ⟨kvs,h1,h2⟩:=h; ⟨kvs,h1.mono e,uW.mono h2 e⟩
theorem uW.keys {H:Hp}:∀ {kvs:List (bV × V)} {cs:List (aW × List Wy)},Paired (uW H) kvs cs->kvs.map (·.1) = cs.map (·.1)
 | [],_,.nil=>rfl
 | _ :: _,_ :: _,.cons h r=>by rw [V8,V8,h.1,uW.keys r]
theorem uW.at {H:Hp}:∀ {kvs:List (bV × V)} {cs:List (aW × List Wy)} {i:Nat} {k:bV} {y:V},Paired (uW H) kvs cs->kvs[i]? = some (k,y)->∃ wy a,cs[i]? = some (k,wy) /\ y = .ref a /\ LstAt ES H a wy
 | [],_,_,_,_,.nil,e=>by simp at e
 | p :: _,c :: _,0,k,y,.cons h _,e=>by
  simp at e; subst e
  obtain ⟨h1,a,h2,h3⟩:=h
  obtain ⟨c1,c2⟩:=c
  have h1:k = c1:=h1
  subst h1
  exact ⟨c2,a,rfl,h2,h3⟩
 | _ :: _,_ :: _,i + 1,k,y,.cons _ r,e=>by
  obtain ⟨wy,a,h1,h2⟩:=uW.at (i:=i) (k:=k) (y:=y) r (by simpa using e)
  exact ⟨wy,a,by simpa using h1,h2⟩
theorem sI {kvs:List (bV × V)} {k:bV} (h:k ∉ kvs.map (·.1)):dX kvs k = none:=by
 unfold dX
 rw [List.find?_eq_none.mpr]
 ·rfl
 ·intro x hx z
  exact h (by rw [<- Wi z]; exact WI (f:=fun x:bV × V=>x.1) hx)
theorem sR {kvs:List (bV × V)} {k:bV} (h:k ∈ kvs.map (·.1)):(dX kvs k).isSome = true:=by
 unfold dX
 rw [W6,List.find?_isSome]
 obtain ⟨p,hp,rfl⟩:=Wq.mp h
 exact ⟨p,hp,V0 rfl⟩
theorem CU {kvs:List (bV × V)} {k:bV} {v:V} (h:k ∉ kvs.map (·.1)):sh kvs k v = kvs ++ [(k,v)]:=by
 unfold sh
 rw [sI h,if_neg (by simp)]
theorem xr {α:Type} {l:List α} {i:Nat} {x:α} (nd:l.Nodup) (h:l[i]? = some x):x ∉ l.take i:=by
 intro hm
 obtain ⟨j,hj,e⟩:=List.mem_take_iff_getElem.mp hm
 obtain ⟨hi,e2⟩:=Wa.mp h
 rw [<- e2] at e
 have:=mj nd _ _ e
 omega
abbrev Bg:=Int × List Int × aW
def Iz (x:Bg):PyData:=.tuple [.int x.1,gu x.2.1,dn x.2.2]
theorem FS (x:Bg):gf (Iz x) = true:=by
 show dF [.int x.1,gu x.2.1,dn x.2.2] = true
 simp only [dF,Bool.and_true,eR,eV]
 rfl
theorem yk {H:Hp} {x:Bg} {v:V} (h:DV H (Iz x) v):∃ a b c,v = .ref a /\ H a = some (.tup [.int x.1,.ref b,.ref c]) /\ H b = some (.tup (x.2.1.map V.int)) /\ cj H c x.2.2:=by
 obtain ⟨a,vs,rfl,e,q⟩:=h.gK
 obtain ⟨v,w,u,rfl,h1,h2,h3⟩:=q.kH
 cases h1.int_inv
 obtain ⟨b,rfl,hb⟩:=fM h2
 obtain ⟨c,rfl,hc⟩:=cD h3
 exact ⟨a,b,c,rfl,e,hb,hc⟩
theorem J6 {H:Hp} {x:Bg} {a b c:Addr} (h:H a = some (.tup [.int x.1,.ref b,.ref c])) (hb:H b = some (.tup (x.2.1.map V.int))) (hc:cj H c x.2.2):DV H (Iz x) (.ref a):=.tup h (.cons (.int _) (.cons (gY hb) (.cons hc.dv .nil)))
def cx (f:Sh.Mp aW) (gy:List Wy):List Bg:=(gy.filter fun x=>(Sh.lk f x.2.2).isSome).map fun x=>(x.2.1 + (Sh.lk f x.2.2).getD 0,x.1,x.2.2)
theorem rG (f:Sh.Mp aW) (gy:List Wy):(cx f gy).map (·.1) = Sh.zU f gy:=by
 unfold cx Sh.zU
 rw [Wx]
 rfl
theorem dP (f:Sh.Mp aW) (k:bV):dX (iv f) k = (Sh.lk f k).map V.int:=uM f k
theorem uE (f:Sh.Mp aW) (k:bV) (v:Int):sh (iv f) k (.int v) = iv (Sh.put f k v):=by
 unfold sh Sh.put
 rw [dP,W6]
 by_cases h:(Sh.lk f k).isSome = true
 ·rw [if_pos h,if_pos h]
  unfold iv
  rw [Wx,Wx]
  refine Ye fun x _=>?_
  show (if x.1 = k then (x.1,V.int v) else (x.1,V.int x.2)) = ((if x.1 = k then (x.1,v) else x).1,V.int (if x.1 = k then (x.1,v) else x).2)
  by_cases e:x.1 = k
  ·rw [if_pos e,if_pos e]
  ·rw [if_neg e,if_neg e]
 ·rw [if_neg h,if_neg h]
  unfold iv
  rw [VV]
  rfl
section
variable {P:Program} {w:World} {K:Yt} {mg:Str->Option Value} {base:Heap} {C:Addr} {Z:Ad} {fs:Nat->Addr} {ds:Nat->FuncData}
def zF (P:Program) (w:World) (C:Addr):Sp:=fun vs H Q _=>∃ (p:Addr) (ts:List Th) (r:Int) (qs:List Qu),vs = [.ref p] /\ bB C H p ts r qs /\ ts.length <= 6 /\ ∀ l H',ak H H'->vN P w H' l (bW ts r qs)->Q (.ref l) H'
structure Lp (K:Yt) (mg:Str->Option Value) (C:Addr) (fs:Nat->Addr) (ds:Nat->FuncData):Prop where
 B4:Meth K C "begins" (fs 60)
 G4:Mt K "begins" "Night.begins" dE (fs 60) (ds 60) ["self"]
 Hm:Meth K C "ends" (fs 61)
 ends:Mt K "ends" "Night.ends" gG (fs 61) (ds 61) ["self"]
 y7:Fn K mg "minutes" kI (fs 62) (ds 62) ["night","crew"]
 ze:Fn K mg "by_side" gP (fs 63) (ds 63) ["standing"]
 jZ:Fn K mg "good_standings" dL (fs 64) (ds 64) ["night"]
 lr:Fn K mg "all_crossings" gw (fs 65) (ds 65) ["night"]
 wG:Fn K mg "begun_by" fF (fs 66) (ds 66) ["ways","fewest"]
 lu:Fn K mg "with_one_more" eG (fs 67) (ds 67) ["crossings","fewest"]
 ku:Fn K mg "fewest_minutes" cN (fs 68) (ds 68) ["crossings","end"]
theorem dN:av ["night","crossings","standing","let"] ["night"] (am gw):=fZ
theorem Fh (L:Lk K mg C fs ds) (B:Lp K mg C fs ds) (T:Txt K mg C Z):au P w K mg base br 6 (fs 65) (ds 65) ["night"] (zF P w C):=by
 have og:=B.jZ
 have D5:=L.rp
 have nR:=L.pJ
 have zW:=B.y7
 have ou:au P w K mg base br 4 (fs 64) (ds 64) ["night"] (CQ C):=HM B.jZ L T B.ze B.B4 B.G4
 have E7:au P w K mg base (zj P w) 5 (fs 15) (ds 15) ["night","standing"] (wM C Z):=CV L T
 have oz:au P w K mg base br 1 (fs 14) (ds 14) ["standing","crew"] lV:=p7 L.pJ T
 have Al:au P w K mg base br 2 (fs 62) (ds 62) ["night","crew"] (pU C):=yd B.y7 T L.c7 L.things
 refine B.lr.fn.ok dN (fun vs H Q E h=>?_) (fun cm A outer s H vs Q E hr h=>?_)
 ·obtain ⟨p,ts,r,qs,rfl,_⟩:=h
  rfl
 ·obtain ⟨p,ts,r,qs,rfl,N,h6,k⟩:=h
  have hu:=hr.units
  refine ⟨_,(ag (sn 1 dN.nd (rA (P:=P) (w:=w) rfl rfl))
   (ag (cU WA rfl (bI (cl ou og hr aF (aa (pv 0) af))) (gn 2 dN.nd)
   (ag (sn 3 dN.nd (cl E7 D5 hr FO (aa (pv 0) (aa (pv 2) af))))
   (aj (x3 (bv rfl (N':=["crew","night","standing"]) (cap:=[none,some 0,some 2]) ⟨rfl,by with_unfolding_all rfl⟩ (bI (pv 3)) (fun _=>(gn 0 (show (["crew","night","standing"]:List Str).Nodup by decide +kernel))) (fun _=>ce) (fun _=>(bM (aa (pv 0) (aa (cl Al zW hr aF (aa (pv 1) (aa (pv 0) af))) (aa (cl oz nR hr aF (aa (pv 2) (aa (pv 0) af))) af)))))) (yt (pv 1) (pv 2) (Ix (P:=P) (w:=w) rfl rfl hu))))))
   (aj (aD (Fs (P:=P) (w:=w) rfl rfl (pv 1)))))),?_⟩
  refine fun D0 o0 Ji D4=>?_
  have s1:ak H (L2.upd H D0 o0):=ah Ji
  generalize L2.upd H D0 o0 = H1 at s1 D4 ⊢
  refine ⟨_,rfl,p,ts,r,qs,rfl,N.mono s1,h6,fun lg H2 s2 hG=>?_⟩
  obtain ⟨vg,uH,dg⟩:=hG
  have C7:=az dg
  have Cd:=gg qs h6
  obtain ⟨x0,e0⟩:=(D4.mono s2).at
  have K3:lg ≠ D0:=dY uH e0 (by intro z; cases z)
  have Gg:=s1.trans s2
  have fC:∀ {H':Hp},mQ H2 D0 H'->∀ b vs,H2 b = some (.tup vs)->H' b = some (.tup vs):=fun bt b vs e=>bt b _ (dY e e0 (by intro z; cases z)) e
  refine ⟨lg,rfl,⟨_,aZ.of uH⟩,cY (K:=K) (a:=lg) (xs:=vg) (fun i σ H'=>ak H H' /\ mQ H2 D0 H' /\ (∃ v2 v3,σ = [some (.ref p),some (.ref D0),v2,v3]) /\ ∃ kvs,DW P w H' D0 kvs /\ Paired (uW H') kvs ((bW ts r qs).take i))
   ⟨Gg,mQ.of (ak.refl _),⟨_,_,rfl⟩,[],D4.mono s2,.nil⟩ (fun i σ H' _ ⟨_,bt,_⟩=>aZ.of (bt _ _ K3 uH)) ?_ ?_⟩
  ·rintro i x σ H4 hi ⟨s4,bt,⟨v2,v3,rfl⟩,kvs,dw,pr⟩
   obtain ⟨st,jM,dst⟩:=bi dg hi
   obtain ⟨a,rfl,Gi⟩:=cD (nH (fC bt) dst (eV _))
   obtain ⟨hS,hG⟩:=dh (Wm jM)
   have lst:=lI hS h6
   refine ⟨_,rfl,_,rfl,p,a,ts,r,qs,st,rfl,N.mono s4,h6,Gi,by omega,fun _ _ l H5 hl s5 hL=>?_,(fun hn=>by rw [hS] at hn; cases hn),(fun _ hn=>by rw [hG] at hn; cases hn)⟩
   have u4:=s4.trans s5
   have Ck:=Gi.mono s5
   obtain ⟨vl,xJ,dl⟩:=hL
   have lvl:=az dl
   have cl:=(iO (r:=r) (qs:=qs) hS h6).1
   refine ⟨_,rfl,l,rfl,⟨_,aZ.of xJ⟩,fun D hD=>?_⟩
   refine cM (K:=K) (a:=l) (ys:=vl) (fun j zs H'=>ak H5 H' /\ H' D = some (.lst zs) /\ zs.length = j /\ bK H' (((cp ts r qs st).take j).map ES) zs)
    ⟨ah hD,ae,rfl,.nil⟩ (fun j zs H' _ ⟨sm,h,_⟩=>⟨h,aZ.of (sm _ _ xJ)⟩) ?_ ?_
   ·rintro j y zs H6 hj ⟨s6,si,lz,dz⟩
    obtain ⟨c,hc,dc⟩:=bi dl hj
    obtain ⟨o,rfl,ho⟩:=fM dc
    have Lz:=(Wa.mp hj).1
    obtain ⟨mG,xW,cg⟩:=gQ (Wm hc)
    have Os:c.length <= 6:=VZ mG.length_le (VZ (eZ hS) h6)
    refine ⟨b8.set rfl,?_⟩
    refine ⟨_,rfl,_,rfl,_,rfl,p,o,ts,r,qs,c,rfl,N.mono (u4.trans s6),h6,s6 _ _ ho,by omega,xW,(fun t ht=>iY hS (mG.subset ht)),fun H7 s7=>?_⟩
    have FA:=s6.trans s7
    refine ⟨_,rfl,_,rfl,a,o,st,c,ts.length,rfl,Ck.mono FA,FA _ _ ho,hS,h6,mG,fun l2 H8 s8 h8=>?_⟩
    have Sg:=FA.trans s8
    refine ⟨aL (by show 3 <= _; decide),fun o3 Ho=>?_⟩
    have s9:ak H8 (L2.upd H8 o3 (.tup [.ref o,.int (aP ts c),.ref l2])):=ah Ho
    have L4:=(s7.trans s8).trans s9
    have dy:DV (L2.upd H8 o3 (.tup [.ref o,.int (aP ts c),.ref l2])) (ES (c,aP ts c,behind ts.length st c)) (.ref o3):=JC ae (s9 _ _ (Sg _ _ ho)) (h8.mono s9)
    generalize L2.upd H8 o3 (.tup [.ref o,.int (aP ts c),.ref l2]) = H9 at L4 dy ⊢
    have MN:=L4 _ _ si
    refine ⟨MN,aO (by omega),ao (s6.trans L4) hD,ae,by simp [lz],?_⟩
    have ew:(cp ts r qs st)[j]? = some (c,aP ts c,behind ts.length st c):=by unfold cp; rw [V3,hc]; rfl
    rw [Wd,ew,VV]
    exact (bp MN (dz.mono L4) (aK wv _)).snoc (cS MN dy (wv _))
   ·rintro zs H6 ⟨s6,si,lz,dz⟩
    have lw:(cp ts r qs st).length = vl.length:=by unfold cp; rw [VO,lvl]
    rw [V1 (by omega)] at dz
    have FF:=s5.trans s6
    have Jj:=dw.mono FF
    have hk:kvs.length <= 128:=by
     rw [W3 pr,Wb]
     unfold bW
     rw [VO]; omega
    have nk:st ∉ kvs.map (·.1):=by
     rw [uW.keys pr,List.map_take,gr]
     exact xr (qt _ _) jM
    refine ⟨_,rfl,_,rfl,D0,a,st,kvs,rfl,rfl,Ck.mono s6,Jj,aO (by omega),fun o' uZ=>?_⟩
    rw [CU nk] at uZ
    obtain ⟨kl,kt⟩:=Jj.nl (o:=o')
    refine ⟨ao (s4.trans FF) Ji,(bt.next FF).upd,⟨_,_,rfl⟩,_,uZ,?_⟩
    have ec:(bW ts r qs)[i]? = some (st,cp ts r qs st):=by unfold bW; rw [V3,jM]; rfl
    rw [Wd,ec]
    refine Paired.snoc (Paired.yl (uW.mono pr FF) fun _ _ ⟨h1,a',h2,h3⟩=>⟨h1,a',h2,h3.keep kl kt wv⟩) ⟨rfl,D,rfl,LstAt.keep ⟨zs,si,dz⟩ kl kt wv⟩
  ·rintro σ H4 ⟨s4,bt,⟨v2,v3,rfl⟩,kvs,dw,pr⟩
   have lc:(bW ts r qs).length = vg.length:=by unfold bW; rw [VO,C7]
   rw [V1 (by omega)] at pr
   refine ⟨_,rfl,D0,kvs,rfl,dw,fun o df=>k D0 _ (ao s4 Ji) ⟨kvs,df,?_⟩⟩
   obtain ⟨kl,kt⟩:=dw.nl (o:=o)
   exact Paired.yl pr fun _ _ ⟨h1,a',h2,h3⟩=>⟨h1,a',h2,h3.keep kl kt wv⟩
def rj (P:Program) (w:World):Sp:=fun vs H Q _=>∃ (a d:Addr) (gy:List Wy) (f:Sh.Mp aW),vs = [.ref a,.ref d] /\ LstAt ES H a gy /\ gy.length <= 1000 /\ DS P w H d (iv f) /\ ∀ l H',H l = none->ak H H'->LstAt Iz H' l (cx f gy)->Q (.ref l) H'
theorem wL:av ["ways","fewest"] ["ways","fewest"] (am fF):=fZ
theorem vi {f:Addr} {fd:FuncData} (F:Fn K mg "begun_by" fF f fd ["ways","fewest"]):au P w K mg base br 1 f fd ["ways","fewest"] (rj P w):=by
 refine F.fn.ok wL (fun vs H Q E h=>?_) (fun cm A outer s H vs Q E hr h=>?_)
 ·obtain ⟨a,d,gy,f,rfl,_⟩:=h
  rfl
 ·obtain ⟨a,d,gy,f,rfl,⟨vw,ha,dv⟩,hl,hd,k⟩:=h
  have hu:=hr.units
  have lw:=az dv
  refine ⟨_,(aj (aD (bv rfl (N':=["crew","lasts","behind","fewest"]) (cap:=[none,none,none,some 1]) ⟨rfl,by with_unfolding_all rfl⟩ (bI (pv 0)) (fun _=>(tupK (K:=K) (n:=3) rfl rfl (a9 (gn 0 (show (["crew","lasts","behind","fewest"]:List Str).Nodup by decide +kernel)) (a9 (gn 1 (show (["crew","lasts","behind","fewest"]:List Str).Nodup by decide +kernel)) (a9 (gn 2 (show (["crew","lasts","behind","fewest"]:List Str).Nodup by decide +kernel)) gE))))) (fun _=>(cy (aC (IH (P:=P) (w:=w) rfl rfl hu) (pv 2) (pv 3) (by with_unfolding_all rfl)))) (fun _=>(bM (aa (bn fN (pv 1) (aE (Ht (P:=P) (w:=w) rfl rfl hu) (pv 3) (pv 2) (fun _ _=>rfl))) (aa (pv 0) (aa (pv 2) af)))))))),?_⟩
  refine ⟨_,rfl,a,rfl,⟨_,aZ.of ha⟩,fun D hD=>?_⟩
  refine cM (K:=K) (a:=a) (ys:=vw) (fun j zs H'=>ak H H' /\ H' D = some (.lst zs) /\ zs.length <= j /\ bK H' ((cx f (gy.take j)).map Iz) zs)
   ⟨ah hD,ae,Wl _,.nil⟩ (fun j zs H' _ ⟨sm,h,_⟩=>⟨h,aZ.of (sm _ _ ha)⟩) ?_ ?_
  ·rintro j y zs H1 hj ⟨s1,sj,lz,dz⟩
   obtain ⟨x,hx,dx⟩:=bi (dv.mono s1) hj
   have Lz:=(Wa.mp hj).1
   obtain ⟨o,b,c,rfl,ho,hb,hc⟩:=Bq dx
   refine ⟨o,_,rfl,a7.of ho,rfl,_,_,rfl,_,_,rfl,_,_,rfl,rfl,(b8.set rfl).trans ((b8.set rfl).trans (b8.set rfl)),?_⟩
   refine ⟨_,rfl,_,rfl,d,c,x.2.2,iv f,rfl,rfl,hc,hd.mono s1,_,rfl,?_⟩
   rw [dP,W6]
   have et:gy.take (j + 1) = gy.take j ++ [x]:=by rw [Wd,hx]; rfl
   refine bF (fun h1=>?_) (fun h1=>?_)
   ·have c9:(Sh.lk f x.2.2).isSome = true:=h1
    obtain ⟨v,hv⟩:=Xo.mp c9
    refine ⟨_,rfl,_,rfl,_,rfl,d,c,x.2.2,iv f,.int v,rfl,rfl,hc,hd.mono s1,by rw [dP,hv]; rfl,_,_,rfl,rfl,_,rfl,_,rfl,aL (by show 3 <= _; decide),fun o3 Ho=>?_⟩
    have s2:ak H1 (L2.upd H1 o3 (.tup [.int (x.2.1 + v),.ref b,.ref c])):=ah Ho
    have j0:=s2 _ _ sj
    have dy:DV (L2.upd H1 o3 (.tup [.int (x.2.1 + v),.ref b,.ref c])) (Iz (x.2.1 + v,x.1,x.2.2)) (.ref o3):=J6 ae (s2 _ _ hb) (hc.mono s2)
    refine ⟨j0,aO (by omega),ao (s1.trans s2) hD,ae,by simp; omega,?_⟩
    have eb:cx f (gy.take (j + 1)) = cx f (gy.take j) ++ [(x.2.1 + v,x.1,x.2.2)]:=by
     unfold cx
     rw [et,Wk,Wr,if_pos c9,VV]
     simp [hv]
    rw [eb,VV]
    exact (bp j0 (dz.mono s2) (aK FS _)).snoc (cS j0 dy (FS _))
   ·have c9:(Sh.lk f x.2.2).isSome = false:=h1
    refine ⟨s1,sj,by omega,?_⟩
    have eb:cx f (gy.take (j + 1)) = cx f (gy.take j):=by
     unfold cx
     rw [et,Wk,Wr,if_neg (by rw [c9]; simp)]
     simp
    rw [eb]
    exact dz
  ·rintro zs H1 ⟨s1,sj,lz,dz⟩
   rw [V1 (by omega)] at dz
   exact k D H1 hD s1 ⟨zs,sj,dz⟩
end
theorem Am {b:Bool} {D:Ends} {t1 t2:TS} {σ:L2.St} {H:Hp} (M:L2.St->Hp->Prop) (hM:∀ σ H,M σ H->D.nx σ H) (h:(∀ σ H,M σ H->D.nx σ H)->if b = true then t1 D σ H else t2 D σ H):if b = true then t1 D σ H else t2 D σ H:=h hM
structure FV (f:Sh.Mp aW):Prop where
 nd:(f.map (·.1)).Nodup
 all:∀ k ∈ f.map (·.1),k ∈ gA
 len:f.length <= 1000
theorem FV.hash {P:Program} {w:World} {f:Sh.Mp aW} (h:FV f):qN P w (iv f):=by
 have e:(iv f).map (·.1) = f.map (·.1):=by unfold iv; rw [Wx]; rfl
 refine zZ (by rw [e]; exact h.nd) fun p hp=>h.all _ ?_
 rw [<- e]; exact WI (f:=fun x:bV × V=>x.1) hp
structure NY (cs:List (aW × List Wy)):Prop where
 all:∀ k ∈ cs.map (·.1),k ∈ gA
 len:cs.length <= 200
 gy:∀ c ∈ cs,c.2.length <= 1000
theorem Fe {cs us:List (aW × List Wy)} {f:Sh.Mp aW} (hs:∀ c ∈ us,c ∈ cs) (hc:NY cs) (hf:(f.map (·.1)).Nodup) (ha:∀ k ∈ f.map (·.1),k ∈ gA):FV (us.foldl (Sh.dU f) f):=by
 obtain ⟨h1,h2⟩:=Sh.hX us f hf
 have all:∀ k ∈ (us.foldl (Sh.dU f) f).map (·.1),k ∈ gA:=fun k hk=>by
  rcases h2 k hk with z | z
  ·exact ha k z
  ·obtain ⟨c,xc,rfl⟩:=Wq.mp z
   exact hc.all _ (WI (f:=fun x:aW × List Wy=>x.1) (hs c xc))
 refine ⟨h1,all,?_⟩
 have:=Sh.sub_len h1 all
 rw [VO] at this
 have e:gA.length = 128:=by decide +kernel
 omega
theorem J3 {ts:List Th} {r:Int} {qs:List Qu} (h6:ts.length <= 6):NY (bW ts r qs) where
 all:=by rw [gr]; exact fun k hk=>BN (dh hk).1 h6
 len:=by unfold bW; rw [VO]; have:=gg qs h6; omega
 gy:=fun c hc=>by
  unfold bW at hc
  obtain ⟨st,h1,rfl⟩:=Wq.mp hc
  show (cp ts r qs st).length <= 1000
  unfold cp
  rw [VO]
  exact (iO (dh h1).1 h6).1
theorem qR {ts:List Th} {r:Int} {qs:List Qu} {f:Sh.Mp aW} (h6:ts.length <= 6) (h:Sh.ju (jL ts r qs) bx (bA qs ts.length) f):FV f:=by
 have all:∀ k ∈ f.map (·.1),k ∈ gA:=fun k hk=>by
  rcases h.keys k hk with z | z
  ·rw [z]; decide +kernel
  ·exact BN (dh z).1 h6
 refine ⟨h.nd,all,?_⟩
 have:=Sh.sub_len h.nd all
 rw [VO] at this
 have e:gA.length = 128:=by decide +kernel
 omega
section
variable {P:Program} {w:World} {K:Yt} {mg:Str->Option Value} {base:Heap} {C:Addr} {Z:Ad} {fs:Nat->Addr} {ds:Nat->FuncData}
def yJ (P:Program) (w:World):Sp:=fun vs H Q _=>∃ (a d:Addr) (cs:List (aW × List Wy)) (f:Sh.Mp aW),vs = [.ref a,.ref d] /\ vN P w H a cs /\ DS P w H d (iv f) /\ FV f /\ NY cs /\ ∀ l H',H l = none->ak H H'->DW P w H' l (iv (Sh.oneMore cs f))->Q (.ref l) H'
theorem cO:av ["crossings","fewest","longer","standing","ways","totals"] ["crossings","fewest"] (am eG):=fZ
theorem Fi {f f1:Addr} {fd eC:FuncData} (F:Fn K mg "with_one_more" eG f fd ["crossings","fewest"]) (gX:Fn K mg "begun_by" fF f1 eC ["ways","fewest"]) (T:Txt K mg C Z):au P w K mg base br 2 f fd ["crossings","fewest"] (yJ P w):=by
 have lQ:au P w K mg base br 1 f1 eC ["ways","fewest"] (rj P w):=vi gX
 refine F.fn.ok cO (fun vs H Q E h=>?_) (fun cm A outer s H vs Q E hr h=>?_)
 ·obtain ⟨a,d,cs,f,rfl,_⟩:=h
  rfl
 ·obtain ⟨a,d,cs,f,rfl,⟨kvs,⟨hz,Re,ob,xs,rK,ks⟩,pr⟩,hd,om,oc,k⟩:=h
  have hu:=hr.units
  have lk:=W3 pr
  refine ⟨_,(ag (sn 2 cO.nd (bu (xA (P:=P) (w:=w) rfl rfl) (by rfl) T.Im boot_dict (aa (pv 1) af)))
   (ag (cU WA rfl (Ap (P:=P) (w:=w) rfl rfl (pv 0)) (l7 rfl (a9 (gn 3 cO.nd) (a9 (gn 4 cO.nd) gE)))
   (ag (pI (j:=5) rfl (N':=["total","crew","behind"]) (cap:=[none,none,none]) ⟨rfl,by with_unfolding_all rfl⟩ (bI (cl lQ gX hr aF (aa (pv 4) (aa (pv 1) af)))) (fun _=>(tupK (K:=K) (n:=3) rfl rfl (a9 (gn 0 (show (["total","crew","behind"]:List Str).Nodup by decide +kernel)) (a9 (gn 1 (show (["total","crew","behind"]:List Str).Nodup by decide +kernel)) (a9 (gn 2 (show (["total","crew","behind"]:List Str).Nodup by decide +kernel)) gE))))) (fun _=>ce) (fun _=>(pv 0)) cO.nd (by rfl) (by rfl) (by with_unfolding_all rfl))
   (ag (bE (aC (IH (P:=P) (w:=w) rfl rfl hu) (pv 3) (pv 1) (by with_unfolding_all rfl))
   (aj (cF (lj Xd XM XJ de (pv 5) (aa (aE (Ht (P:=P) (w:=w) rfl rfl hu) (pv 1) (pv 3) (fun _ _=>rfl)) af))))
   aQ)
   (aj (bE (B6 (pv 5) (by intro _; rfl))
   (aj (x3 (aA (AR rfl) (by rfl) T.Gp boot_min (aa (pv 5) af)) (yt (pv 2) (pv 3) (Ix (P:=P) (w:=w) rfl rfl hu))))
   aQ)))))
   (aj (aD (pv 2))))),?_⟩
  refine ⟨_,rfl,d,iv f,rfl,hd,om.hash,fun l0 o0 xh D4=>?_⟩
  have s1:ak H (L2.upd H l0 o0):=ah xh
  generalize L2.upd H l0 o0 = H1 at s1 D4 ⊢
  refine ⟨_,rfl,a,ob,xs,kvs.map (·.2),rfl,Re,s1 _ _ rK,ks.vals,A8 (P:=P) (w:=w) (o:=ob) (d:=a) (xs:=xs) (kvs:=kvs) (fun i σ H'=>ak H H' /\ (∃ v3 v4 v5,σ = [some (.ref a),some (.ref d),some (.ref l0),v3,v4,v5]) /\ DW P w H' l0 (iv ((cs.take i).foldl (Sh.dU f) f)))
   ⟨s1,⟨_,_,_,rfl⟩,D4⟩ (fun i σ H' _ ⟨sm,_⟩=>⟨sm _ _ rK,ks.mono fun _ _=>sm _ _⟩) ?_ ?_⟩
  ·rintro i key y b p σ H2 hi kb hp ⟨s2,⟨v3,v4,v5,rfl⟩,dw⟩
   obtain ⟨wy,aw,hc,rfl,hL⟩:=uW.at pr hi
   have ow:=oc.gy _ (Wm hc)
   have s3:ak H2 (L2.upd H2 p (.tup [.ref b,.ref aw])):=ah hp
   have e3:(L2.upd H2 p (.tup [.ref b,.ref aw])) p = some (.tup [.ref b,.ref aw]):=ae
   generalize L2.upd H2 p (.tup [.ref b,.ref aw]) = H3 at s3 e3 ⊢
   have nW:=s2.trans s3
   refine ⟨p,_,rfl,a7.of e3,rfl,_,_,rfl,_,_,rfl,rfl,?_⟩
   refine ⟨_,rfl,_,rfl,aw,d,wy,f,rfl,hL.mono nW,ow,hd.mono nW,fun lb H4 Bn s4 hB=>?_⟩
   obtain ⟨vb,Qb,db⟩:=hB
   have Vm:=az db
   have Sk:(cx f wy).length <= 1000:=by
    unfold cx
    rw [VO]
    exact VZ (Wg _ _) ow
   refine ⟨lb,rfl,⟨_,aZ.of Qb⟩,fun D hD=>?_⟩
   refine cM (K:=K) (a:=lb) (ys:=vb) (fun j zs H'=>ak H4 H' /\ H' D = some (.lst zs) /\ zs = (((cx f wy).take j).map (·.1)).map V.int)
    ⟨ah hD,ae,rfl⟩ (fun j zs H' _ ⟨sm,h,_⟩=>⟨h,aZ.of (sm _ _ Qb)⟩) ?_ ?_
   ·rintro j y zs H5 hj ⟨s5,jc,rfl⟩
    obtain ⟨x,hx,dx⟩:=bi (db.mono s5) hj
    obtain ⟨o,b1,c1,rfl,ho,Dl,Vn⟩:=yk dx
    refine ⟨o,_,rfl,a7.of ho,rfl,_,_,rfl,_,_,rfl,_,_,rfl,rfl,(b8.set rfl).trans ((b8.set rfl).trans (b8.set rfl)),?_⟩
    refine ⟨_,rfl,jc,aO (by simp; omega),ao s5 hD,ae,?_⟩
    rw [Wd,hx,VV,VV]
    rfl
   ·rintro zs H5 ⟨s5,jc,rfl⟩
    rw [V1 (by omega),rG] at jc
    have Mb:=s3.trans (s4.trans s5)
    have u4:=s2.trans Mb
    have LH:l9 H5 key b:=kb.mono fun _ _=>Mb _ _
    have Ji:H D = none:=(nW.trans s4).free hD
    have Va:(Sh.zU f wy).length <= 1000:=by rw [<- rG,VO]; exact Sk
    have fo:(cs.take (i + 1)).foldl (Sh.dU f) f = Sh.dU f ((cs.take i).foldl (Sh.dU f) f) (key,wy):=by
     rw [Wd,hc,List.foldl_append]; rfl
    have lL:(iv ((cs.take i).foldl (Sh.dU f) f)).length <= 1000:=by
     unfold iv
     rw [VO]
     exact (Fe (fun c hc=>Xb hc) oc om.nd om.all).len
    refine ⟨_,rfl,_,rfl,d,b,key,iv f,rfl,rfl,LH,hd.mono u4,_,rfl,?_⟩
    rw [dP,W6]
    refine Am (fun σ H'=>σ = [some (.ref a),some (.ref d),some (.ref l0),some (.ref b),some (.ref aw),some (.ref D)] /\ ak H H' /\ DW P w H' l0 (iv ((cs.take i).foldl (Sh.dU f) f)) /\ l9 H' key b /\ H' D = some (.lst ((Sh.ig f (key,wy)).map V.int))) ?_ (fun fin=>?_)
    ·rintro σ H6 ⟨rfl,s6,Jj,UB,si⟩
     refine ⟨_,rfl,_,.inl ⟨_,aZ.of si,rfl⟩,?_⟩
     refine bF (fun h2=>?_) (fun h2=>?_)
     ·have ne:Sh.ig f (key,wy) ≠ []:=fun z=>by rw [z] at h2; cases h2
      refine ⟨_,rfl,D,Sh.ig f (key,wy),rfl,aZ.of si,ne,fun m hm hle=>⟨_,rfl,_,rfl,l0,b,key,_,rfl,rfl,UB,Jj,aO (by omega),fun o' uZ=>?_⟩⟩
      refine ⟨ao s6 xh,⟨_,_,_,rfl⟩,?_⟩
      rw [fo]
      unfold Sh.dU
      rw [if_neg ne,<- Sh.Eh hm hle,<- uE]
      exact uZ
     ·have ez:Sh.ig f (key,wy) = []:=by
       cases q:Sh.ig f (key,wy) with
       | nil=>rfl
       | cons x l=>rw [q] at h2; cases h2
      refine ⟨s6,⟨_,_,_,rfl⟩,?_⟩
      rw [fo]
      unfold Sh.dU
      rw [if_pos ez]
      exact Jj
    ·refine bF (fun h1=>?_) (fun h1=>?_)
     ·have c9:(Sh.lk f key).isSome = true:=h1
      obtain ⟨v,hv⟩:=Xo.mp c9
      refine ⟨_,rfl,.inl ⟨rfl,_,aZ.of jc⟩,_,rfl,_,rfl,d,b,key,iv f,.int v,rfl,rfl,LH,hd.mono u4,by rw [dP,hv]; rfl,D,_,_,rfl,rfl,jc,aO (by rw [VO]; omega),?_⟩
      refine fin _ _ ⟨rfl,ao u4 Ji,(dw.mono Mb).HQ jc,LH.mono (fun b' pj e=>by rw [aq (dY e jc (by intro z; cases z))]; exact e),?_⟩
      rw [ae]
      unfold Sh.ig
      rw [hv,VV]
      rfl
     ·have c9:Sh.lk f key = none:=by
       cases q:Sh.lk f key with
       | none=>rfl
       | some v=>rw [q] at h1; cases h1
      refine fin _ _ ⟨rfl,u4,dw.mono Mb,LH,?_⟩
      unfold Sh.ig
      rw [c9,jc]
      simp
  ·rintro σ H2 ⟨s2,⟨v3,v4,v5,rfl⟩,dw⟩
   rw [V1 (by omega)] at dw
   exact ⟨_,rfl,k l0 H2 xh s2 dw⟩
def B9 (P:Program) (w:World):Sp:=fun vs H Q _=>∃ (a b:Addr) (ts:List Th) (r:Int) (qs:List Qu),vs = [.ref a,.ref b] /\ vN P w H a (bW ts r qs) /\ cj H b bx /\ yT ts /\ ∀ l H' f,H l = none->ak H H'->Fy ts r qs f->DW P w H' l (iv f)->Q (.ref l) H'
theorem cu:av ["crossings","end","fewest","longer"] ["crossings","end"] (am cN):=fZ
theorem Ip (B:Lp K mg C fs ds) (T:Txt K mg C Z):au P w K mg base br 3 (fs 68) (ds 68) ["crossings","end"] (B9 P w):=by
 have px:=B.lu
 have pb:au P w K mg base br 2 (fs 67) (ds 67) ["crossings","fewest"] (yJ P w):=Fi B.lu B.wG T
 refine B.ku.fn.ok cu (fun vs H Q E h=>?_) (fun cm A outer s H vs Q E hr h=>?_)
 ·obtain ⟨a,b,ts,r,qs,rfl,_⟩:=h
  rfl
 ·obtain ⟨a,b,ts,r,qs,rfl,hC,he,ok,k⟩:=h
  have hu:=hr.units
  have h6:=ok.l6
  have nd:((bW ts r qs).map (·.1)).Nodup:=by rw [gr]; exact qt _ _
  have oc:=J3 (r:=r) (qs:=qs) h6
  obtain ⟨tC,RW,rC⟩:∃ t0,tN (bX P w K mg base ["crossings","end","fewest","longer"] "fewest_minutes" cN (fs 68) cm A outer s H E) ((cw cN).drop 2) t0 /\ ∀ (H2:Hp) (D1 D2:Addr) (lg:Sh.Mp aW),ak H H2->DW P w H2 D1 (iv [])->DW P w H2 D2 (iv lg)->H D1 = none->H D2 = none ->
    ((bx ∈ bA qs ts.length /\ lg = [(bx,0)]) \/ (bx ∉ bA qs ts.length /\ lg = []))->t0 (bD Q) [some (.ref a),some (.ref b),some (.ref D1),some (.ref D2)] H2:=by
   refine ⟨_,(ag (jT WA (aC (UV (P:=P) (w:=w) rfl rfl hu) (pv 3) (pv 2) (a6 _))
   (ag (sn 2 cu.nd (pv 3))
   (aj (sn 3 cu.nd (cl pb px hr aF (aa (pv 0) (aa (pv 2) af)))))))
   (aj (aD (pv 2)))),fun H2 D1 D2 lg s2 FR DJ n1 n2 DQ=>?_⟩
   obtain ⟨n,hn⟩:∃ n,bx ∈ bA qs ts.length->Sh.eqB (Sh.oneMore (bW ts r qs) (Sh.it (Sh.oneMore (bW ts r qs)) n [(bx,0)])) (Sh.it (Sh.oneMore (bW ts r qs)) n [(bx,0)]) = true:=by
    by_cases e:bx ∈ bA qs ts.length
    ·obtain ⟨n,hn⟩:=Sh.BB (e:=bx) nd tells (later ok) (by rw [gr]; exact e)
     exact ⟨n,fun _=>hn⟩
    ·exact ⟨0,fun z=>absurd z e⟩
   have pG:∀ i,Sh.ju (jL ts r qs) bx (bA qs ts.length) (Sh.it (Sh.oneMore (bW ts r qs)) i [(bx,0)]):=fun i=>by
    have:=Sh.xn (P:=Sh.ju (jL ts r qs) bx ((bW ts r qs).map (·.1))) (fun x h=>Sh.nz nd tells h) i [(bx,0)] (Sh.jr _)
    rwa [gr] at this
   refine ⟨fun m σ H'=>ak H H' /\ ∃ d1 d2 fw lw,σ = [some (.ref a),some (.ref b),some (.ref d1),some (.ref d2)] /\ H d1 = none /\ H d2 = none /\ DW P w H' d1 (iv fw) /\ DW P w H' d2 (iv lw) /\
     ((bx ∈ bA qs ts.length /\ ((fw = [] /\ lw = [(bx,0)] /\ m = n + 1) \/ ∃ i,i + m = n /\ fw = Sh.it (Sh.oneMore (bW ts r qs)) i [(bx,0)] /\ lw = Sh.it (Sh.oneMore (bW ts r qs)) (i + 1) [(bx,0)])) \/ (bx ∉ bA qs ts.length /\ fw = [] /\ lw = [])),
    ⟨n + 1,s2,D1,D2,[],lg,rfl,n1,n2,FR,DJ,?_⟩,?_⟩
   ·rcases DQ with ⟨e1,e2⟩ | ⟨e1,e2⟩
    ·exact .inl ⟨e1,.inl ⟨rfl,e2,rfl⟩⟩
    ·exact .inr ⟨e1,rfl,e2⟩
   rintro m σ H3 ⟨s3,d1,d2,fw,lw,rfl,n1,n2,FR,DJ,hc⟩
   refine ⟨_,rfl,_,rfl,d2,d1,lw,fw,rfl,rfl,DJ.ds,FR.ds,_,rfl,?_⟩
   refine bF (fun h1=>?_) (fun h1=>?_)
   ·have c9:Sh.eqB lw fw = false:=by
     have:(!Sh.eqB lw fw) = true:=h1
     simpa using this
    have om:FV lw:=by
     rcases hc with ⟨_,⟨_,e,_⟩ | ⟨i,_,_,e⟩⟩ | ⟨_,e1,e2⟩
     ·rw [e]; exact qR h6 (pG 0)
     ·rw [e]; exact qR h6 (pG (i + 1))
     ·rw [e1,e2] at c9; cases c9
    refine ⟨fun σ' H'=>ak H H' /\ ∃ d3,σ' = [some (.ref a),some (.ref b),some (.ref d2),some (.ref d3)] /\ H d3 = none /\ DW P w H' d2 (iv lw) /\ DW P w H' d3 (iv (Sh.oneMore (bW ts r qs) lw)),?_,?_⟩
    ·rintro σ' H' ⟨s',d3,rfl,n3,JT,KC⟩
     rcases hc with ⟨e,⟨_,e2,em⟩ | ⟨i,Po,e1,e2⟩⟩ | ⟨_,e1,e2⟩
     ·exact ⟨n,by omega,s',d2,d3,lw,_,rfl,n2,n3,JT,KC,.inl ⟨e,.inr ⟨0,Nat.zero_add _,e2,by rw [e2]; rfl⟩⟩⟩
     ·have ne:i ≠ n:=fun z=>by
       have:=hn e
       rw [<- z] at this
       have NH:lw = Sh.oneMore (bW ts r qs) (Sh.it (Sh.oneMore (bW ts r qs)) i [(bx,0)]):=e2
       rw [e1,NH,this] at c9
       cases c9
      exact ⟨m - 1,by omega,s',d2,d3,lw,_,rfl,n2,n3,JT,KC,.inl ⟨e,.inr ⟨i + 1,by omega,e2,by rw [e2]; rfl⟩⟩⟩
     ·rw [e1,e2] at c9; cases c9
    ·refine ⟨_,rfl,_,rfl,_,rfl,a,d2,bW ts r qs,lw,rfl,hC.mono s3,DJ.ds,om,oc,fun l H4 hl s4 QP=>?_⟩
     exact ⟨s3.trans s4,l,rfl,s3.free hl,DJ.mono s4,QP⟩
   ·have c9:Sh.eqB lw fw = true:=by
     have:(!Sh.eqB lw fw) = false:=h1
     simpa using this
    refine ⟨_,rfl,k d1 H3 fw n1 s3 ?_ FR⟩
    rcases hc with ⟨e,⟨e1,e2,em⟩ | ⟨i,Po,e1,e2⟩⟩ | ⟨e,e1,e2⟩
    ·rw [e1,e2] at c9; cases c9
    ·refine ⟨fun _=>⟨by rw [e1]; exact pG i,?_⟩,fun z=>absurd e z⟩
     have NH:lw = Sh.oneMore (bW ts r qs) (Sh.it (Sh.oneMore (bW ts r qs)) i [(bx,0)]):=e2
     rw [e1,NH] at c9
     rw [e1]
     exact Sh.xp (e:=bx) nd tells (by rw [gr]; exact pG i) c9
    ·exact ⟨fun z=>absurd z e,fun _=>e1⟩
  refine ⟨_,(ag (sn 2 cu.nd (rA (P:=P) (w:=w) rfl rfl))
   (ag (sn 3 cu.nd (CM (aC (IH (P:=P) (w:=w) rfl rfl hu) (pv 1) (pv 0) (by with_unfolding_all rfl)) (tz (P:=P) (w:=w) rfl rfl hu (pv 1) ai) (rA (P:=P) (w:=w) rfl rfl)))
   RW)),?_⟩
  refine fun D1 o1 sj FR=>?_
  have s1:ak H (L2.upd H D1 o1):=ah sj
  generalize L2.upd H D1 o1 = H1 at s1 FR ⊢
  obtain ⟨kvs,df,pr⟩:=id (hC.mono s1)
  have ek:=uW.keys pr
  rw [gr] at ek
  refine ⟨_,rfl,_,rfl,a,b,bx,kvs,rfl,rfl,he.mono s1,df.ds,_,rfl,?_⟩
  refine bF (fun h1=>?_) (fun h1=>?_)
  ·have e:bx ∈ bA qs ts.length:=by
    rw [<- ek]
    refine Classical.byContradiction fun z=>?_
    have c9:(dX kvs bx).isSome = true:=h1
    rw [sI z] at c9
    cases c9
   refine fun D2 o2 j0 DJ=>?_
   have s2:ak H1 (L2.upd H1 D2 o2):=ah j0
   generalize L2.upd H1 D2 o2 = H2 at s2 DJ ⊢
   refine ⟨_,rfl,b,bx,rfl,(he.mono s1).mono s2,DJ,fun o' uZ=>?_⟩
   have s3:ak H1 (L2.upd H2 D2 o'):=ao s2 j0
   exact rC _ D1 D2 [(bx,0)] (s1.trans s3) (FR.mono s3) uZ sj (s1.free j0) (.inl ⟨e,rfl⟩)
  ·have e:bx ∉ bA qs ts.length:=fun z=>by
    rw [<- ek] at z
    have c9:(dX kvs bx).isSome = false:=h1
    rw [sR z] at c9
    cases c9
   refine fun D2 o2 j0 DJ=>?_
   have s2:ak H1 (L2.upd H1 D2 o2):=ah j0
   exact rC _ D1 D2 [] (s1.trans s2) (FR.mono s2) DJ sj (s1.free j0) (.inr ⟨e,rfl⟩)
end
def FY (t:Sh.sS aW):PyData:=.tuple [dn t.1,.int t.2.1,dn t.2.2]
theorem zG (t:Sh.sS aW):gf (FY t) = true:=by
 show dF [dn t.1,.int t.2.1,dn t.2.2] = true
 simp only [dF,Bool.and_true,eV]
 rfl
theorem GN {H:Hp} {x:Sh.sS aW} {v:V} (h:DV H (FY x) v):∃ a b c,v = .ref a /\ H a = some (.tup [.ref b,.int x.2.1,.ref c]) /\ cj H b x.1 /\ cj H c x.2.2:=by
 obtain ⟨a,vs,rfl,e,q⟩:=h.gK
 obtain ⟨v,w,u,rfl,h1,h2,h3⟩:=q.kH
 obtain ⟨b,rfl,hb⟩:=cD h1
 cases h2.int_inv
 obtain ⟨c,rfl,hc⟩:=cD h3
 exact ⟨a,b,c,rfl,e,hb,hc⟩
theorem KM {H:Hp} {x:Sh.sS aW} {a b c:Addr} (h:H a = some (.tup [.ref b,.int x.2.1,.ref c])) (hb:cj H b x.1) (hc:cj H c x.2.2):DV H (FY x) (.ref a):=.tup h (.cons hb.dv (.cons (.int _) (.cons hc.dv .nil)))
section
variable {P:Program} {w:World} {K:Yt} {mg:Str->Option Value} {base:Heap} {C:Addr} {Z:Ad} {gs:Nat->Addr} {es:Nat->FuncData}
def ur:Sp:=fun vs H Q _=>∃ (q:Addr) (qs:List Qu) (n:Nat),vs = [.ref q,.int n] /\ LstAt zJ H q qs /\ n <= 6 /\ ∀ l H',H l = none->ak H H'->LstAt dn H' l (bA qs n)->Q (.ref l) H'
theorem iw:av ["quarrels","many","groups"] ["quarrels","many"] (am bY):=fZ
theorem xV {f:Addr} {fd:FuncData} (F:Fn K mg "_law_standings" bY f fd ["quarrels","many"]) (L:Lw K mg gs es) (T:Txt K mg C Z):au P w K mg base br 3 f fd ["quarrels","many"] ur:=by
 have iA:=L.groups
 have j6:=L.good
 have iF:au P w K mg base br 2 (gs 3) (es 3) ["many"] nO:=tM L.groups T L.bits
 have ki:au P w K mg base br 2 (gs 5) (es 5) ["quarrels","group","many"] (qu K):=vJ L.good T L.gV L.rest
 refine F.fn.ok iw (fun vs H Q E h=>?_) (fun cm A outer s H vs Q E hr h=>?_)
 ·obtain ⟨q,qs,n,rfl,_⟩:=h
  rfl
 ·obtain ⟨q,qs,n,rfl,hq,h6,k⟩:=h
  have hu:=hr.units
  refine ⟨_,(ag (sn 2 iw.nd (aA (js hu) (by rfl) T.i5 boot_sorted (aa (bv rfl (N':=["group","quarrels","many"]) (cap:=[none,some 0,some 1]) ⟨rfl,by with_unfolding_all rfl⟩ (bI (cl iF iA hr aF (aa (pv 1) af))) (fun _=>(gn 0 (show (["group","quarrels","many"]:List Str).Nodup by decide +kernel))) (fun _=>(cy (cG (cl ki j6 hr aF (aa (pv 1) (aa (pv 0) (aa (pv 2) af))))))) (fun _=>(pv 0))) af)))
   (aj (aD (bn Br (bv rfl (N':=["group"]) (cap:=[none]) ⟨rfl,by with_unfolding_all rfl⟩ (bI (pv 2)) (fun _=>(gn 0 (show (["group"]:List Str).Nodup by decide +kernel))) (fun _=>ce) (fun _=>(bM (aa (pv 0) (aa ai af))))) (bv rfl (N':=["group"]) (cap:=[none]) ⟨rfl,by with_unfolding_all rfl⟩ (bI (pv 2)) (fun _=>(gn 0 (show (["group"]:List Str).Nodup by decide +kernel))) (fun _=>ce) (fun _=>(bM (aa (pv 0) (aa ai af))))))))),?_⟩
  refine ⟨_,rfl,n,rfl,h6,fun lg H1 s1 hG=>?_⟩
  obtain ⟨vg,uH,dg⟩:=hG
  have C7:=az dg
  have Oj:(groups n).length <= 64:=by
   rw [gT,jz,aT]
   exact VZ (Xr (by decide) h6) (by decide)
  refine ⟨lg,rfl,⟨_,aZ.of uH⟩,fun D hD=>?_⟩
  refine cM (K:=K) (a:=lg) (ys:=vg) (fun j zs H'=>ak H1 H' /\ H' D = some (.lst zs) /\ bK H' ((((groups n).take j).filter (bz qs n)).map gu) zs)
   ⟨ah hD,ae,.nil⟩ (fun j zs H' _ ⟨sm,h,_⟩=>⟨h,aZ.of (sm _ _ uH)⟩) ?_ ?_
  ·rintro j y zs H2 hj ⟨s2,j0,dz⟩
   obtain ⟨g,hg,Hl⟩:=bi dg hj
   obtain ⟨c,rfl,hc⟩:=fM Hl
   refine ⟨b8.set rfl,?_⟩
   refine ⟨_,rfl,_,rfl,_,rfl,q,c,qs,g,n,rfl,hq.mono (s1.trans s2),s2 _ _ hc,h6,fun H3 s3=>⟨_,rfl,?_⟩⟩
   have Gh:=s3 _ _ j0
   have Pu:=dz.mono s3
   have lz:zs.length <= 64:=by
    rw [az dz]
    exact VZ (Wg _ _) (by rw [Wb]; omega)
   refine bF (fun h1=>?_) (fun h1=>?_)
   ·refine ⟨_,rfl,Gh,aO (by omega),ao (s2.trans s3) hD,ae,?_⟩
    rw [io hg h1,VV]
    exact (bp Gh Pu (aK eR _)).snoc (cS Gh (gY (s3 _ _ (s2 _ _ hc))) (eR _))
   ·exact ⟨s2.trans s3,Gh,eH hg h1 Pu⟩
  ·rintro zs H2 ⟨s2,j0,dz⟩
   rw [V1 (by omega)] at dz
   refine ⟨D,_,zs,rfl,j0,dz,(nh n).sublist Yg,fun l pj hl Jv=>?_⟩
   have Gg:=s1.trans s2
   have s3:ak H2 (L2.upd H2 l (.lst pj)):=ah hl
   have e3:(L2.upd H2 l (.lst pj)) l = some (.lst pj):=ae
   have dG:bK (L2.upd H2 l (.lst pj)) ((zu qs n).map gu) pj:=Jv.mono s3
   generalize L2.upd H2 l (.lst pj) = H3 at s3 e3 dG ⊢
   have nW:=Gg.trans s3
   have lG:=az dG
   have Vg:(zu qs n).length <= 64:=by
    unfold zu
    rw [(gN _).length_eq]
    exact VZ (Wg _ _) Oj
   have step:∀ (sd:Int) (H0:Hp) (D1:Addr) (j:Nat) (y:V) (zs:List V) (H4:Hp),pj[j]? = some y->ak H3 H0->H0 D1 = none->ak H0 H4->H4 D1 = some (.lst zs)->zs.length = j->bK H4 ((((zu qs n).take j).map fun g=>((g,sd):aW)).map dn) zs->∃ c,y = .ref c /\ ∀ o,H4 o = none ->
     (L2.upd H4 o (.tup [.ref c,.int sd])) D1 = some (.lst zs) /\ zs.length < sizeLine /\ (ak H0 (L2.upd (L2.upd H4 o (.tup [.ref c,.int sd])) D1 (.lst (zs ++ [.ref o]))) /\ (L2.upd (L2.upd H4 o (.tup [.ref c,.int sd])) D1 (.lst (zs ++ [.ref o]))) D1 = some (.lst (zs ++ [.ref o])) /\ (zs ++ [V.ref o]).length = j + 1 /\
      bK (L2.upd (L2.upd H4 o (.tup [.ref c,.int sd])) D1 (.lst (zs ++ [.ref o]))) ((((zu qs n).take (j + 1)).map fun g=>((g,sd):aW)).map dn) (zs ++ [.ref o])):=by
    intro sd H0 D1 j y zs H4 hj sH sj s4 vE lz dz
    have Lz:=(Wa.mp hj).1
    obtain ⟨g,hg,Hl⟩:=bi dG hj
    obtain ⟨c,rfl,hc⟩:=fM Hl
    refine ⟨c,rfl,fun o ho=>?_⟩
    have s5:ak H4 (L2.upd H4 o (.tup [.ref c,.int sd])):=ah ho
    have hs:cj (L2.upd H4 o (.tup [.ref c,.int sd])) o (g,sd):=⟨c,ae,s5 _ _ (s4 _ _ (sH _ _ hc))⟩
    have jc:=s5 _ _ vE
    refine ⟨jc,aO (by omega),ao (s4.trans s5) sj,ae,by simp [lz],?_⟩
    rw [Wd,hg,VV,VV]
    exact (bp jc (dz.mono s5) (aK eV _)).snoc (cS jc hs.dv (eV _))
   refine ⟨_,rfl,l,rfl,⟨_,aZ.of e3⟩,fun D1 sj=>?_⟩
   refine cM (K:=K) (a:=l) (ys:=pj) (fun j zs H'=>ak H3 H' /\ H' D1 = some (.lst zs) /\ zs.length = j /\ bK H' ((((zu qs n).take j).map fun g=>((g,0):aW)).map dn) zs)
    ⟨ah sj,ae,rfl,.nil⟩ (fun j zs H' _ ⟨sm,h,_⟩=>⟨h,aZ.of (sm _ _ e3)⟩) ?_ ?_
   ·rintro j y zs H4 hj ⟨s4,vE,lz,dz⟩
    obtain ⟨c,rfl,h⟩:=step 0 H3 D1 j y zs H4 hj (ak.refl _) sj s4 vE lz dz
    exact ⟨b8.set rfl,_,rfl,aL (by show 2 <= _; decide),h⟩
   ·rintro z0 H4 ⟨s4,vE,lz,d0⟩
    rw [V1 (by omega)] at d0
    refine ⟨_,rfl,l,rfl,⟨_,aZ.of (s4 _ _ e3)⟩,fun D2 j0=>?_⟩
    refine cM (K:=K) (a:=l) (ys:=pj) (fun j zs H'=>ak H4 H' /\ H' D2 = some (.lst zs) /\ zs.length = j /\ bK H' ((((zu qs n).take j).map fun g=>((g,1):aW)).map dn) zs)
     ⟨ah j0,ae,rfl,.nil⟩ (fun j zs H' _ ⟨sm,h,_⟩=>⟨h,aZ.of (sm _ _ (s4 _ _ e3))⟩) ?_ ?_
    ·rintro j y zs H5 hj ⟨s5,jc,lz,dz⟩
     obtain ⟨c,rfl,h⟩:=step 1 H4 D2 j y zs H5 hj s4 j0 s5 jc lz dz
     exact ⟨b8.set rfl,_,rfl,aL (by show 2 <= _; decide),h⟩
    ·rintro z1 H5 ⟨s5,jc,RB,d1⟩
     rw [V1 (by omega)] at d1
     have QX:z1.length = pj.length:=RB
     have Uo:z0.length = pj.length:=lz
     refine ⟨D1,D2,z0,z1,rfl,rfl,s5 _ _ vE,jc,aL (by omega),fun l2 oC=>?_⟩
     have u4:=nW.trans (s4.trans s5)
     refine k l2 _ (u4.free oC) (ao u4 (u4.free oC)) ⟨z0 ++ z1,ae,?_⟩
     unfold bA
     rw [VV]
     exact ((d0.mono s5).mono (ah oC)).append (d1.mono (ah oC))
end
theorem cj.HQ {H:Hp} {a D:Addr} {st:aW} {o:HO} {ys:List V} (h:cj H a st) (hD:H D = some (.lst ys)):cj (L2.upd H D o) a st:=by
 obtain ⟨b,h1,h2⟩:=h
 exact ⟨b,by rw [aq (dY h1 hD (by intro z; cases z))]; exact h1,by rw [aq (dY h2 hD (by intro z; cases z))]; exact h2⟩
theorem um (l:List aW) (s:aW):((l.map dn).any fun e=>PyData.eqv e (dn s)) = decide (s ∈ l):=by
 rw [List.any_map,XZ,decide_eq_true_eq,List.any_eq_true]
 constructor
 ·rintro ⟨x,hx,h⟩
  have h':PyData.eqv (dn x) (dn s) = true:=h
  rw [qq] at h'
  rw [<- Wi h']; exact hx
 ·intro h
  refine ⟨s,h,?_⟩
  show PyData.eqv (dn s) (dn s) = true
  rw [qq]; exact V0 rfl
theorem Db {H:Hp} {kvs:List (bV × V)} {ts:List Th} {r:Int} {qs:List Qu} (pr:Paired (uW H) kvs (bW ts r qs)) {b:aW} (hb:b ∈ bA qs ts.length):∃ aw,dX kvs b = some (.ref aw) /\ LstAt ES H aw (cp ts r qs b):=by
 have ek:=uW.keys pr
 rw [gr] at ek
 have hs:(dX kvs b).isSome = true:=sR (by rw [ek]; exact hb)
 obtain ⟨y,hy⟩:=Xo.mp hs
 have hV:=hy
 unfold dX at hV
 obtain ⟨p,hp,e⟩:=WC.mp hV
 have hk:p.1 = b:=by have:=List.find?_some hp; simpa using this
 obtain ⟨i,hi⟩:=X1.mp (List.mem_of_find?_eq_some hp)
 obtain ⟨p1,p2⟩:=p
 have hk:p1 = b:=hk
 subst hk
 obtain ⟨wy,aw,h1,h2,h3⟩:=uW.at pr hi
 have e:p2 = y:=e
 subst e
 refine ⟨aw,by rw [hy,h2],?_⟩
 unfold bW at h1
 rw [V3,WC] at h1
 obtain ⟨st,_,e2⟩:=h1
 injection e2 with e3 e4
 rw [<- e4,e3] at h3
 exact h3
theorem sZ {ts:List Th} {r:Int} {qs:List Qu} {f:Sh.Mp aW} {b:aW} {x:Bg}:x ∈ cx f (cp ts r qs b) ↔ ∃ c ∈ aU ts r qs b,∃ u,Sh.lk f (behind ts.length b c) = some u /\ x = (aP ts c + u,c,behind ts.length b c):=by
 unfold cx cp
 rw [Wq]
 constructor
 ·rintro ⟨y,hy,rfl⟩
  obtain ⟨h1,h2⟩:=Ws.mp hy
  obtain ⟨c,hc,rfl⟩:=Wq.mp h1
  obtain ⟨u,hu⟩:=Xo.mp h2
  have hu:Sh.lk f (behind ts.length b c) = some u:=hu
  exact ⟨c,hc,u,hu,by rw [hu]; rfl⟩
 ·rintro ⟨c,hc,u,hu,rfl⟩
  refine ⟨(c,aP ts c,behind ts.length b c),Ws.mpr ⟨Wq.mpr ⟨c,hc,rfl⟩,?_⟩,?_⟩
  ·show (Sh.lk f (behind ts.length b c)).isSome = true
   rw [hu]; rfl
  ·show (aP ts c + (Sh.lk f (behind ts.length b c)).getD 0,c,behind ts.length b c) = _
   rw [hu]; rfl
theorem wg (ts:List Th) (r:Int) (qs:List Qu) (f:Sh.Mp aW) (b:aW):((cx f (cp ts r qs b)).map fun x=>x.2.1).Sublist (aU ts r qs b):=by
 unfold cx cp
 rw [Wx]
 have e:(aU ts r qs b) = ((aU ts r qs b).map fun c=>(c,aP ts c,behind ts.length b c)).map fun x=>x.1:=by rw [Wx]; exact (List.map_id' _).symm
 conv=>rhs; rw [e]
 exact (Yg).map _
theorem zL {H:Hp}:∀ {l:List Bg} {vs:List V},bK H (l.map Iz) vs->Paired (G5 H) vs (l.map fun x=>(x.1,x.2.1))
 | [],_,.nil=>.nil
 | x :: l,_,.cons h t=>by
  obtain ⟨a,b,c,rfl,h1,h2,h3⟩:=yk h
  exact .cons ⟨a,b,[.ref c],rfl,h1,h2⟩ (zL t)
section
variable {P:Program} {w:World} {K:Yt} {mg:Str->Option Value} {base:Heap} {C:Addr} {Z:Ad} {fs:Nat->Addr} {ds:Nat->FuncData}
def wA (P:Program) (w:World):Sp:=fun vs H Q _=>∃ (a d s e:Addr) (ts:List Th) (r:Int) (qs:List Qu) (f:Sh.Mp aW) (st:aW) (v:Int),vs = [.ref a,.ref d,.ref s,.ref e] /\ vN P w H a (bW ts r qs) /\ DS P w H d (iv f) /\ Fy ts r qs f /\ cj H s st /\ cj H e bx /\ yT ts /\
 st ∈ bA qs ts.length /\ Sh.lk f st = some v /\ ∀ l H' ji,H l = none->ak H H'->LstAt gu H' l ji->yK ts r qs st 0 ji = some v->ji.length <= 128->Q (.ref l) H'
theorem fv:av ["crossings","fewest","standing","end","plan","here","best"] ["crossings","fewest","standing","end"] (am gc):=fZ
theorem Co {f f1:Addr} {fd eC:FuncData} (F:Fn K mg "plan_from" gc f fd ["crossings","fewest","standing","end"]) (T:Txt K mg C Z) (gX:Fn K mg "begun_by" fF f1 eC ["ways","fewest"]):au P w K mg base br 2 f fd ["crossings","fewest","standing","end"] (wA P w):=by
 have lQ:au P w K mg base br 1 f1 eC ["ways","fewest"] (rj P w):=vi gX
 refine F.fn.ok fv (fun vs H Q E h=>?_) (fun cm A outer s H vs Q E hr h=>?_)
 ·obtain ⟨a,d,s,e,ts,r,qs,f,st,v,rfl,_⟩:=h
  rfl
 ·obtain ⟨a,d,s,e,ts,r,qs,f,st,v,rfl,hC,hd,fw,hs,he,ok,jM,hv,k⟩:=h
  have hu:=hr.units
  have h6:=ok.l6
  refine ⟨_,(ag (sn 4 fv.nd (fG af))
   (ag (sn 5 fv.nd (pv 2))
   (ag (jT WA (aC (Dp hu) (pv 5) (pv 3) (a6 _))
   (ag (sn 6 fv.nd (aA (AL rfl hu) (by rfl) T.Gp boot_min (aa (cl lQ gX hr aF (aa (aE (Ht (P:=P) (w:=w) rfl rfl hu) (pv 0) (pv 5) (fun _ _=>rfl)) (aa (pv 1) af))) af)))
   (ag (cF (lj Xd XM XJ de (pv 4) (aa (aE aM (pv 6) ai (fun _ _=>rfl)) af)))
   (aj (sn 5 fv.nd (aE aM (pv 6) ai (fun _ _=>rfl)))))))
   (aj (aD (pv 4)))))),?_⟩
  refine ⟨aL (by show 0 <= _; decide),fun lp Oz=>?_⟩
  have s1:ak H (L2.upd H lp (.lst [])):=ah Oz
  have e1:(L2.upd H lp (.lst [])) lp = some (.lst []):=ae
  generalize L2.upd H lp (.lst []) = H1 at s1 e1 ⊢
  refine ⟨_,rfl,fun m σ H'=>ak H H' /\ ∃ o b v' vb pl yV HF vs,σ = [some (.ref a),some (.ref d),some (.ref s),some (.ref e),some (.ref lp),some (.ref o),vb] /\ cj H' o b /\ b ∈ bA qs ts.length /\ Sh.lk f b = some v' /\ m = v'.toNat /\
    H' lp = some (.lst vs) /\ bK H' (pl.map gu) vs /\ (∀ rest,yK ts r qs st 0 (pl ++ rest) = yK ts r qs b yV rest) /\ yV + v' = v /\ HF.length = pl.length /\ HF.Nodup /\ ∀ x ∈ HF,x ∈ bA qs ts.length /\ ∃ u,Sh.lk f x = some u /\ v' < u,
   ⟨_,s1,s,st,v,_,[],0,[],[],rfl,hs.mono s1,jM,hv,rfl,e1,.nil,fun _=>rfl,by omega,rfl,.nil,(fun x hx=>by cases hx)⟩,?_⟩
  rintro m σ H2 ⟨s2,o,b,v',vb,pl,yV,HF,vs,rfl,ho,hb,Hd,rfl,Ag,jE,u8,RI,JM,K2,Hh⟩
  have Vj:=qH b
  have SK:pl.length <= 128:=by
   rw [<- JM]
   exact VZ (Sh.sub_len K2 fun x hx=>(Hh x hx).1) (gg qs h6)
  refine ⟨_,rfl,_,rfl,dn b,dn bx,ho.dv,(he.mono s2).dv,ft _,ft _,by omega,_,rfl,?_⟩
  rw [qq]
  refine bF (fun h1=>?_) (fun h1=>?_)
  ·have ne:b ≠ bx:=fun z=>by
    have c9:(!decide (b = bx)) = true:=h1
    rw [V0 z] at c9
    cases c9
   obtain ⟨c0,R8,u0,T4,U8⟩:=HP ok fw Hd ne
   obtain ⟨kvs,df,pr⟩:=id (hC.mono s2)
   obtain ⟨aw,HE,hL⟩:=Db pr hb
   have lw:(cp ts r qs b).length <= 1000:=by unfold cp; rw [VO]; exact (iO (dh hb).1 h6).1
   refine ⟨fun σ' H'=>ak H H' /\ ∃ (o:Addr) (b2:aW) (v2:Int) (vb:Option V) (Jy:List (List Int)) (Ft:Int) (Dy:List aW) (l8:List V),σ' = [some (.ref a),some (.ref d),some (.ref s),some (.ref e),some (.ref lp),some (.ref o),vb] /\ cj H' o b2 /\ b2 ∈ bA qs ts.length /\ Sh.lk f b2 = some v2 /\ v2 < v' /\ 0 <= v2 /\
     H' lp = some (.lst l8) /\ bK H' (Jy.map gu) l8 /\ (∀ rest,yK ts r qs st 0 (Jy ++ rest) = yK ts r qs b2 Ft rest) /\ Ft + v2 = v /\ Dy.length = Jy.length /\ Dy.Nodup /\ ∀ x ∈ Dy,x ∈ bA qs ts.length /\ ∃ u,Sh.lk f x = some u /\ v2 < u,?_,?_⟩
   ·rintro σ' H' ⟨s',o2,b2,v2,R7,Jy,Ft,Dy,l8,rfl,q1,q2,q3,lt,pos,q4,q5,q6,q7,q8,q9,SY⟩
    exact ⟨v2.toNat,by omega,s',o2,b2,v2,R7,Jy,Ft,Dy,l8,rfl,q1,q2,q3,rfl,q4,q5,q6,q7,q8,q9,SY⟩
   ·refine ⟨_,rfl,_,rfl,a,o,b,kvs,.ref aw,rfl,rfl,ho,df.ds,HE,_,rfl,aw,d,cp ts r qs b,f,rfl,hL,lw,hd.mono s2,fun lb H3 Bn s3 hB=>?_⟩
    obtain ⟨vg,uH,dg⟩:=hB
    have C7:=az dg
    have nW:=s2.trans s3
    have m0:=(sZ (ts:=ts) (r:=r) (qs:=qs) (f:=f) (b:=b)).mpr ⟨c0,R8,u0,T4,rfl⟩
    refine ⟨lb,vg,_,rfl,aZ.of uH,zL dg,?_,fun z=>?_,fun i y ky hy LR OB=>?_⟩
    ·rw [Wx]
     exact (we (dh hb).1).sublist (wg ts r qs f b)
    ·have:=List.length_pos_of_mem m0
     rw [z] at C7
     simp at C7; omega
    obtain ⟨x,hx,dx⟩:=bi dg hy
    obtain ⟨bo,bc,bs,rfl,M4,RD,Rx⟩:=yk dx
    rw [V3,hx] at LR
    have LR:(x.1,x.2.1) = ky:=by simpa using LR
    have Pf:x.1 <= aP ts c0 + u0:=by
     have:=OB _ (Wq.mpr ⟨_,m0,rfl⟩)
     rw [<- LR] at this
     exact this
    obtain ⟨c,hc,u,u3,rfl⟩:=sZ.mp (Wm hx)
    have Pp:=GP ok fw Hd hb hc u3
    obtain ⟨mG,xW,_⟩:=gQ hc
    have mp:=(oI ok xW fun t ht=>iY (dh hb).1 (mG.subset ht)).1
    have up:=yy ok fw u3
    have Pf:aP ts c + u <= aP ts c0 + u0:=Pf
    have ud:=s3 _ _ Ag
    refine ⟨_,rfl,.inl ⟨rfl,_,aZ.of ud⟩,_,rfl,bo,_,_,_,rfl,rfl,a7.of M4,k7,lp,vs,_,rfl,rfl,ud,aO (by rw [az jE]; omega),?_⟩
    have Nw:(L2.upd H3 lp (.lst (vs ++ [.ref bc]))) bo = some (.tup [.int (aP ts c + u),.ref bc,.ref bs]):=by rw [aq (dY M4 ud (by intro z; cases z))]; exact M4
    refine ⟨_,rfl,bo,_,_,_,rfl,rfl,a7.of Nw,at2,ao nW Oz,bs,behind ts.length b c,u,_,pl ++ [c],yV + aP ts c,b :: HF,vs ++ [.ref bc],rfl,Rx.HQ ud,kr hb hc,u3,by omega,up,ae,?_,fun rest=>?_,by omega,by simp [JM],?_,?_⟩
    ·rw [VV]
     exact (bp ud (jE.mono s3) (aK eR _)).snoc (cS ud (gY RD) (eR _))
    ·rw [V6,u8]
     show yK ts r qs b yV (c :: rest) = _
     rw [yK,if_pos hc]
    ·refine WW.mpr ⟨fun z=>?_,K2⟩
     obtain ⟨_,u1,h2,h3⟩:=Hh b z
     rw [Hd] at h2
     cases h2
     omega
    ·intro x hx
     rcases VT.mp hx with rfl | hx
     ·exact ⟨hb,v',Hd,by omega⟩
     ·obtain ⟨h2,u1,h3,h4⟩:=Hh x hx
      exact ⟨h2,u1,h3,by omega⟩
  ·have eq:b = bx:=by
    have c9:(!decide (b = bx)) = false:=h1
    by_cases z:b = bx
    ·exact z
    ·rw [We z] at c9; cases c9
   subst eq
   have v0:=Cn ok fw Hd
   refine ⟨_,rfl,k lp H2 pl Oz s2 ⟨vs,Ag,jE⟩ ?_ SK⟩
   have:=u8 []
   rw [Yn] at this
   rw [this,yK,if_pos (show bx = ([],1) from rfl)]
   congr 1
   omega
def zD (P:Program) (w:World):Sp:=fun vs H Q _=>∃ (a s:Addr) (ts:List Th) (r:Int) (qs:List Qu) (st:aW),vs = [.ref a,.ref s] /\ vN P w H a (bW ts r qs) /\ cj H s st /\ ts.length <= 6 /\ st ∈ bA qs ts.length /\
 ∀ l H' L,H l = none->ak H H'->LstAt dn H' l L->L.Pairwise (fun x y=>aJ (sw x) (sw y) = true)->(∀ x,x ∈ L ↔ Reach ts r qs st x)->Q (.ref l) H'
theorem dA:av ["crossings","standing","found","place","here","crew","lasts","behind"] ["crossings","standing"] (am iW):=fZ
theorem Fb {f f1:Addr} {fd eC:FuncData} (F:Fn K mg "come_to" iW f fd ["crossings","standing"]) (T:Txt K mg C Z) (fI:Fn K mg "by_side" gP f1 eC ["standing"]):au P w K mg base br 4 f fd ["crossings","standing"] (zD P w):=by
 refine F.fn.ok dA (fun vs H Q E h=>?_) (fun cm A outer s H vs Q E hr h=>?_)
 ·obtain ⟨a,s,ts,r,qs,st,rfl,_⟩:=h
  rfl
 ·obtain ⟨a,s,ts,r,qs,st,rfl,hC,hs,h6,jM,k⟩:=h
  have hu:=hr.units
  obtain ⟨kvs,df,pr⟩:=id hC
  refine ⟨_,(ag (sn 2 dA.nd (fG (aa (pv 1) af)))
   (ag (sn 3 dA.nd ai)
   (ag (jT WA (aC pV (pv 3) (aA aB (by rfl) T.cH Wv (aa (pv 2) af)) (a6 _))
   (ag (sn 4 dA.nd (aE cE (pv 2) (pv 3) (fun _ _=>rfl)))
   (ag (cU WA rfl (bI (aE (Ht (P:=P) (w:=w) rfl rfl hu) (pv 0) (pv 4) (fun _ _=>rfl))) (l7 rfl (a9 (gn 5 dA.nd) (a9 (gn 6 dA.nd) (a9 (gn 7 dA.nd) gE))))
   (aj (bE (aC (kE hu) (pv 7) (pv 2) (by with_unfolding_all rfl))
   (aj (cF (lj Xd XM XJ de (pv 2) (aa (pv 7) af))))
   aQ)))
   (aj (Hw (i:=3) dA.nd (by rfl) (by first | exact Or.inl rfl | exact Or.inr rfl) ai IF)))))
   (aj (aD (sy hu (by rfl) T.i5 (by rfl) fI.g (aa (pv 2) af))))))),?_⟩
  refine ⟨_,rfl,aL (by show 1 <= _; decide),fun lf IW=>?_⟩
  have s1:ak H (L2.upd H lf (.lst [.ref s])):=ah IW
  have e1:(L2.upd H lf (.lst [.ref s])) lf = some (.lst [.ref s]):=ae
  generalize L2.upd H lf (.lst [.ref s]) = H1 at s1 e1 ⊢
  have short:∀ {fl:List aW},fl.Nodup->(∀ x ∈ fl,Reach ts r qs st x)->fl.length <= 128:=fun nd hr=>VZ (Sh.sub_len nd fun x hx=>eP jM (hr x hx)) (gg qs h6)
  refine ⟨fun m σ H'=>ak H H' /\ ∃ (p:Nat) (fl:List aW) (vs:List V) (v4 v5 v6 v7:Option V),σ = [some (.ref a),some (.ref s),some (.ref lf),some (.int p),v4,v5,v6,v7] /\ H' lf = some (.lst vs) /\ bK H' (fl.map dn) vs /\ m = 200 - p /\ p <= fl.length /\ fl.Nodup /\ (∀ x ∈ fl,Reach ts r qs st x) /\ st ∈ fl /\
    ∀ (i:Nat) b,i < p->fl[i]? = some b->∀ c ∈ aU ts r qs b,behind ts.length b c ∈ fl,
   ⟨200,s1,0,[st],[.ref s],_,_,_,_,rfl,e1,.cons (hs.mono s1).dv .nil,rfl,Wl _,by simp,(fun x hx=>by rw [Wo.mp hx]; exact .refl),Wo.mpr rfl,(fun i b hi=>absurd hi (Nat.not_lt_zero _))⟩,?_⟩
  rintro m σ H2 ⟨s2,p,fl,vs,v4,v5,v6,v7,rfl,Ag,jE,rfl,hp,nd,tU,oU,Hr⟩
  have UZ:=az jE
  have Cd:=short nd tU
  refine ⟨_,rfl,_,rfl,lf,_,rfl,.inl (aZ.of Ag),_,_,rfl,rfl,_,rfl,?_⟩
  refine bF (fun h1=>?_) (fun h1=>?_)
  ·have uF:p < fl.length:=by
    have:=Wi h1
    omega
   obtain ⟨y,hy,dy⟩:=jE.get (i:=p) (d:=dn fl[p]) (by rw [V3,VS uF]; rfl)
   have hb:fl[p]? = some fl[p]:=VS uF
   have rb:=tU _ (Xn uF)
   generalize fl[p] = b at dy hb rb
   obtain ⟨o,rfl,ho⟩:=cD dy
   have Nd:=eP jM rb
   obtain ⟨aw,HE,vw,OJ,dw⟩:=Db pr Nd
   have Vz:=az dw
   refine ⟨fun σ' H'=>ak H H' /\ ∃ (fB:List aW) (l8:List V) (v4 v5 v6 v7:Option V),σ' = [some (.ref a),some (.ref s),some (.ref lf),some (.int ((p:Int) + 1)),v4,v5,v6,v7] /\ H' lf = some (.lst l8) /\ bK H' (fB.map dn) l8 /\ fl <+: fB /\ fB.Nodup /\ (∀ x ∈ fB,Reach ts r qs st x) /\ ∀ c ∈ aU ts r qs b,behind ts.length b c ∈ fB,?_,?_⟩
   ·rintro σ' H' ⟨s',fB,l8,w4,w5,w6,w7,rfl,q1,q2,⟨ex,pre⟩,q4,q5,q6⟩
    have le:fl.length <= fB.length:=by rw [<- pre,Wf]; omega
    refine ⟨200 - (p + 1),by omega,s',p + 1,fB,l8,w4,w5,w6,w7,rfl,q1,q2,rfl,by omega,q4,q5,by rw [<- pre]; exact Xc _ oU,fun i b2 hi B2 c hc=>?_⟩
    have BI:fl[i]? = some b2:=by rw [<- pre,W4 (by omega)] at B2; exact B2
    by_cases z:i = p
    ·rw [z,hb] at BI
     cases BI
     exact q6 c hc
    ·rw [<- pre]
     exact Xc _ (Hr i b2 (by omega) BI c hc)
   ·refine ⟨_,rfl,_,rfl,lf,_,_,_,rfl,rfl,aZ.of Ag,fg hy,?_⟩
    refine ⟨_,rfl,_,rfl,a,o,b,kvs,.ref aw,rfl,rfl,ho,(df.mono s2).ds,HE,aw,rfl,⟨_,aZ.of (s2 _ _ OJ)⟩,cY (K:=K) (a:=aw) (xs:=vw) (fun j σ' H'=>ak H H' /\ ∃ (fB:List aW) (l8:List V) (v5 v6 v7:Option V),σ' = [some (.ref a),some (.ref s),some (.ref lf),some (.int p),some (.ref o),v5,v6,v7] /\ H' lf = some (.lst l8) /\ bK H' (fB.map dn) l8 /\ fl <+: fB /\ fB.Nodup /\ (∀ x ∈ fB,Reach ts r qs st x) /\ ∀ x ∈ (cp ts r qs b).take j,x.2.2 ∈ fB)
     ⟨s2,fl,vs,_,_,_,rfl,Ag,jE,List.prefix_refl _,nd,tU,(fun x hx=>by cases hx)⟩ (fun j σ' H' _ ⟨sm,_⟩=>aZ.of (sm _ _ OJ)) ?_ ?_⟩
    ·rintro j y2 σ' H3 hj ⟨s3,fB,l8,w5,w6,w7,rfl,nU,pi,pre,vX,qy,hw⟩
     obtain ⟨x,hx,dx⟩:=bi (dw.mono s3) hj
     obtain ⟨o3,b3,c3,rfl,Ho,U6,Qg⟩:=Bq dx
     have Nb:=az pi
     have l2:=short vX qy
     have OI:=qH x.2.2
     have et:(cp ts r qs b).take (j + 1) = (cp ts r qs b).take j ++ [x]:=by rw [Wd,hx]; rfl
     refine ⟨o3,_,rfl,a7.of Ho,rfl,_,_,rfl,_,_,rfl,_,_,rfl,rfl,?_⟩
     refine ⟨_,rfl,_,rfl,dn x.2.2,fB.map dn,Qg.dv,.inl (.lst nU pi),ft _,eJ ft _,by omega,_,rfl,?_⟩
     rw [um]
     refine bF (fun h2=>?_) (fun h2=>?_)
     ·have hn:x.2.2 ∉ fB:=fun z=>by
       have fL:(!decide (x.2.2 ∈ fB)) = true:=h2
       rw [V0 z] at fL
       cases fL
      refine ⟨_,rfl,.inl ⟨rfl,_,aZ.of nU⟩,_,rfl,lf,l8,_,rfl,rfl,nU,aO (by omega),?_⟩
      refine ⟨ao s3 IW,fB ++ [x.2.2],_,_,_,_,rfl,ae,?_,pre.trans (List.prefix_append _ _),?_,fun z hz=>?_,fun z hz=>?_⟩
      ·rw [VV]
       exact (bp nU pi (aK eV _)).snoc (cS nU Qg.dv (eV _))
      ·rw [List.nodup_append]
       exact ⟨vX,by simp,fun a1 h3 b1 h4 e=>hn (by rw [<- Wo.mp h4,<- e]; exact h3)⟩
      ·rcases Wh.mp hz with z1 | z1
       ·exact qy z z1
       ·rw [Wo.mp z1]
        have oR:=Wm hx
        unfold cp at oR
        obtain ⟨c,hc,rfl⟩:=Wq.mp oR
        exact .step rb hc
      ·rw [et] at hz
       rcases Wh.mp hz with z1 | z1
       ·exact Xc _ (hw z z1)
       ·rw [Wo.mp z1]; exact Wp _ (Wo.mpr rfl)
     ·have NC:x.2.2 ∈ fB:=by
       have fL:(!decide (x.2.2 ∈ fB)) = false:=h2
       by_cases z:x.2.2 ∈ fB
       ·exact z
       ·rw [We z] at fL; cases fL
      refine ⟨s3,fB,l8,_,_,_,rfl,nU,pi,pre,vX,qy,fun z hz=>?_⟩
      rw [et] at hz
      rcases Wh.mp hz with z1 | z1
      ·exact hw z z1
      ·rw [Wo.mp z1]; exact NC
    ·rintro σ' H3 ⟨s3,fB,l8,w5,w6,w7,rfl,nU,pi,pre,vX,qy,hw⟩
     rw [V1 (by omega)] at hw
     refine ⟨_,rfl,_,_,rfl,rfl,s3,fB,l8,_,_,_,_,rfl,nU,pi,pre,vX,qy,fun c hc=>?_⟩
     exact hw _ (Wq.mpr ⟨c,hc,rfl⟩)
  ·have uF:p = fl.length:=by
    have:=of_decide_eq_false h1
    omega
   have closed:∀ b ∈ fl,∀ c ∈ aU ts r qs b,behind ts.length b c ∈ fl:=fun b hb c hc=>by
    obtain ⟨i,hi⟩:=X1.mp hb
    exact Hr i b (by rw [uF]; exact (Wa.mp hi).1) hi c hc
   have oh:au P w K mg base br 1 f1 eC ["standing"] lH:=qQ fI
   refine ⟨_,rfl,lf,vs,wn H2,rfl,aZ.of Ag,rq.of oh (hr.mono (by decide)) fI.b (fun _ _ _ _ _ z=>z) (fun y hy=>?_),by rw [uq jE]; exact List.Pairwise.map _ (fun x y ne e=>ne (C5 e)) nd,fun H3 l pj s3 hl Ru DG=>?_⟩
   ·obtain ⟨i,hi⟩:=X1.mp hy
    obtain ⟨x,_,dx⟩:=bi jE hi
    have ek:=uJ dx
    obtain ⟨c,rfl,b,hc,hb⟩:=cD dx
    refine ⟨b,by rw [ek]; exact hb,fun H' sm Q hq=>⟨c,b,x.2,rfl,sm _ _ hc,fun q hn=>?_⟩⟩
    have:=hq q hn
    rw [ek] at this
    exact this
   ·obtain ⟨L,h2,h3⟩:=wR Ru jE
    have nW:=s2.trans s3
    refine k l _ L (nW.free hl) (ao nW (nW.free hl)) ⟨pj,ae,(h3.mono s3).mono (ah hl)⟩ (Gm h3 DG) fun x=>?_
    rw [h2.mem_iff]
    exact ⟨tU x,fun hx=>wf oU closed hx⟩
def vF (C:Addr) (Z:Ad):Sp:=fun vs H Q E=>∃ (p a:Addr) (ts:List Th) (r:Int) (qs:List Qu) (st:aW),vs = [.ref p,.ref a] /\ bB C H p ts r qs /\ yT ts /\ cj H a st /\ st.1.length <= 1000 /\
 (cQ ts.length st = true->bz qs ts.length st.1 = true->∀ f,Fy ts r qs f->(∀ o l H' ji v,H l = none->ak H H'->H' o = some (.tup [.str "plan",.ref l])->LstAt gu H' l ji->Sh.lk f st = some v->yK ts r qs st 0 ji = some v->ji.length <= 128->Q (.ref o) H') /\
  ∀ o l H' L,H l = none->ak H H'->H' o = some (.tup [.str "shut",.ref l])->LstAt dn H' l L->L.Pairwise (fun x y=>aJ (sw x) (sw y) = true)->(∀ x,x ∈ L ↔ Reach ts r qs st x)->Sh.lk f st = none->Q (.ref o) H') /\
 (cQ ts.length st = false->∀ H',ak H H'->E (.ref Z.eO) none H') /\ (cQ ts.length st = true->bz qs ts.length st.1 = false->∀ H',ak H H'->E (.ref Z.iU) none H')
theorem jU:av ["night","standing","crossings","fewest"] ["night","standing"] (am jy):=fZ
theorem B3 {f f1 f2:Addr} {fd eC kR:FuncData} (F:Fn K mg "shortest" jy f fd ["night","standing"]) (L:Lk K mg C fs ds) (B:Lp K mg C fs ds) (T:Txt K mg C Z) (oJ:Fn K mg "plan_from" gc f1 eC ["crossings","fewest","standing","end"])
  (sU:Fn K mg "come_to" iW f2 kR ["crossings","standing"]):au P w K mg base (zj P w) 7 f fd ["night","standing"] (vF C Z):=by
 have iB:=L.jY
 have o9:=B.lr
 have nM:=B.ku
 have mX:=B.ends
 have mR:=B.Hm
 have iK:au P w K mg base (zj P w) 4 (fs 10) (ds 10) ["night","standing"] (hJ C Z):=jX L T
 have pe:au P w K mg base br 6 (fs 65) (ds 65) ["night"] (zF P w C):=Fh L B T
 have nY:au P w K mg base br 3 (fs 68) (ds 68) ["crossings","end"] (B9 P w):=Ip B T
 have mM:au P w K mg base br 1 (fs 61) (ds 61) ["self"] vf:=Cy B.ends
 have wr:au P w K mg base br 2 f1 eC ["crossings","fewest","standing","end"] (wA P w):=Co oJ T B.wG
 have At:au P w K mg base br 4 f2 kR ["crossings","standing"] (zD P w):=Fb sU T B.ze
 refine F.fn.Lv jU (fun vs H Q E h=>?_) (fun cm A outer s H vs Q E hr h=>?_)
 ·obtain ⟨p,a,ts,r,qs,st,rfl,_⟩:=h
  rfl
 ·obtain ⟨p,a,ts,r,qs,st,rfl,N,ok,jM,hl,k1,k2,k3⟩:=h
  have hu:=hr.units
  have h6:=ok.l6
  obtain ⟨dx,t,q,hp,_,_⟩:=id N.ex
  refine ⟨_,(ag (cF (cl iK iB hr lX (aa (pv 0) (aa (pv 1) af))))
   (ag (sn 2 jU.nd (cl pe o9 hr aF (aa (pv 0) af)))
   (ag (sn 3 jU.nd (cl nY nM hr aF (aa (pv 2) (aa (ge (pv 0) T.bR mR mM (hr.mono (by decide)) mX.b .nil aF) af))))
   (ag (bE (aC (IH (P:=P) (w:=w) rfl rfl hu) (pv 1) (pv 3) (by with_unfolding_all rfl))
   (aj (aD (bM (aa oy (aa (cl wr oJ hr aF (aa (pv 2) (aa (pv 3) (aa (pv 1) (aa (ge (pv 0) T.bR mR mM (hr.mono (by decide)) mX.b .nil aF) af))))) af)))))
   aQ)
   (aj (aD (bM (aa oy (aa (cl At sU hr aF (aa (pv 2) (aa (pv 1) af))) af))))))))),?_⟩
  refine ⟨_,rfl,_,rfl,p,a,ts,r,qs,st,rfl,N,h6,jM,hl,fun hS hG H1 s1=>?_,k2,k3⟩
  have k1:=k1 hS hG
  have hm:=zg hS hG
  refine ⟨_,rfl,p,ts,r,qs,rfl,N.mono s1,h6,fun lc H2 s2 hC=>?_⟩
  have Gg:=s1.trans s2
  refine ⟨_,rfl,_,rfl,p,dx,_,rfl,Gg _ _ hp,rfl,p,rfl,fun le H3 s3 he=>?_⟩
  obtain ⟨_,e,he⟩:=cD (st:=bx) he
  cases e
  have nW:=Gg.trans s3
  refine ⟨lc,le,ts,r,qs,rfl,hC.mono s3,he,ok,fun lf H4 f IW s4 fw dw=>?_⟩
  have u6:=nW.trans s4
  have OV:=(hC.mono s3).mono s4
  have CH:=jM.mono u6
  obtain ⟨k1,k2⟩:=k1 f fw
  refine ⟨_,rfl,_,rfl,lf,a,st,iv f,rfl,rfl,CH,dw.ds,_,rfl,?_⟩
  rw [dP,W6]
  refine bF (fun h1=>?_) (fun h1=>?_)
  ·have c9:(Sh.lk f st).isSome = true:=h1
   obtain ⟨v,hv⟩:=Xo.mp c9
   refine ⟨_,rfl,_,rfl,_,rfl,_,rfl,p,dx,_,rfl,u6 _ _ hp,rfl,p,rfl,fun Pp H5 s5 NL=>?_⟩
   obtain ⟨_,e,NL⟩:=cD (st:=bx) NL
   cases e
   refine ⟨lc,lf,a,Pp,ts,r,qs,f,st,v,rfl,OV.mono s5,(dw.mono s5).ds,fw,CH.mono s5,NL,ok,hm,hv,fun l H6 ji NQ s6 hL u8 xm=>?_⟩
   have u4:=u6.trans s5
   have Qt:=u4.trans s6
   refine ⟨aL (by show 2 <= _; decide),fun o ho=>?_⟩
   have s7:ak H6 (L2.upd H6 o (.tup [.str "plan",.ref l])):=ah ho
   exact k1 o l _ ji v (u4.free NQ) (Qt.trans s7) ae (hL.mono s7) hv u8 xm
  ·have c9:Sh.lk f st = none:=by
    cases q:Sh.lk f st with
    | none=>rfl
    | some v=>rw [q] at h1; cases h1
   refine ⟨_,rfl,_,rfl,lc,a,ts,r,qs,st,rfl,OV,CH,h6,hm,fun l H5 L Tj s5 hL DG Jn=>?_⟩
   have u4:=u6.trans s5
   refine ⟨aL (by show 2 <= _; decide),fun o ho=>?_⟩
   have s7:ak H5 (L2.upd H5 o (.tup [.str "shut",.ref l])):=ah ho
   exact k2 o l _ L (u6.free Tj) (u4.trans s7) ae (hL.mono s7) DG Jn c9
end
theorem EF {ts:List Th} {r:Int} {qs:List Qu} {f:Sh.Mp aW} (h6:ts.length <= 6) (h:Sh.ju (jL ts r qs) bx ((a8 ts r qs).map (·.1)) f):FV f:=qR (r:=r) h6 ⟨h.sound,h.nd,h.base,fun k hk=>(h.keys k hk).imp id sK⟩
theorem vO {α β:Type} {f:α->List β} {m:Nat}:∀ {l:List α},(∀ x ∈ l,(f x).length <= m)->(l.flatMap f).length <= l.length * m
 | [],_=>by simp
 | a :: l,h=>by
  rw [List.flatMap_cons,Wf,WE,Nat.succ_mul]
  have:=h a VR
  have:=vO (l:=l) fun x hx=>h x (VQ _ hx)
  omega
section
variable {P:Program} {w:World} {K:Yt} {mg:Str->Option Value} {base:Heap} {C:Addr} {Z:Ad} {gs:Nat->Addr} {es:Nat->FuncData}
def yN (P:Program) (w:World):Sp:=fun vs H Q _=>∃ (t q:Addr) (ts:List Th) (r:Int) (qs:List Qu),vs = [.ref t,.int r,.ref q] /\ LstAt xk H t ts /\ LstAt zJ H q qs /\ yT ts /\ ∀ l H' g,H l = none->ak H H'->Kn ts r qs g->DW P w H' l (iv g)->Q (.ref l) H'
theorem aY:av ["things","room","quarrels","many","steps","standing","crew","known","turned","step","height"] ["things","room","quarrels"] (am cI):=fZ
theorem EC {f f1 f2:Addr} {fd eC kR:FuncData} (F:Fn K mg "_law_heights" cI f fd ["things","room","quarrels"]) (L:Lw K mg gs es) (T:Txt K mg C Z) (bL:Fn K mg "_law_standings" bY f1 eC ["quarrels","many"])
  (dD:Fn K mg "_law_minutes" cK f2 kR ["things","crew"]):au P w K mg base br 4 f fd ["things","room","quarrels"] (yN P w):=by
 have fe:=L.rp
 have cA:=L.behind
 have cJ:au P w K mg base br 3 f1 eC ["quarrels","many"] ur:=xV bL L T
 have fz:au P w K mg base br 3 (gs 7) (es 7) ["things","room","quarrels","standing"] kF:=nL L T
 have gR:au P w K mg base br 1 f2 kR ["things","crew"] jW:=oP dD T
 have cB:au P w K mg base br 1 (gs 6) (es 6) ["standing","crew","many"] i4:=kN L.behind T
 refine F.fn.ok aY (fun vs H Q E h=>?_) (fun cm A outer s H vs Q E hr h=>?_)
 ·obtain ⟨t,q,ts,r,qs,rfl,_⟩:=h
  rfl
 obtain ⟨t,q,ts,r,qs,rfl,hT,hQ,ok,k⟩:=h
 have hu:=hr.units
 have h6:=ok.l6
 obtain ⟨tC,hC,rC⟩:∃ t0,tN (bX P w K mg base ["things","room","quarrels","many","steps","standing","crew","known","turned","step","height"] "_law_heights" cI f cm A outer s H E) ((cw cI).drop 3) t0 /\ ∀ (H1:Hp) (ls:Addr) (vl:List V) (v5 v6:Option V),ak H H1->H1 ls = some (.lst vl)->bK H1 ((a8 ts r qs).map FY) vl ->
   t0 (bD Q) [some (.ref t),some (.int r),some (.ref q),some (.int ts.length),some (.ref ls),v5,v6,none,none,none,none] H1:=by
  refine ⟨_,(ag (sn 7 aY.nd (tz (P:=P) (w:=w) rfl rfl hu (bM (aa (bM af) (aa ai af))) ai))
   (ag (sn 8 aY.nd fh)
   (ag (jT WA (cG (pv 8))
   (ag (sn 8 aY.nd fh)
   (aj (cU WA rfl (bI (pv 4)) (gn 9 aY.nd)
   (aj (bE (aC (IH (P:=P) (w:=w) rfl rfl hu) (aE aM (pv 9) ai (fun _ _=>rfl)) (pv 7) (by with_unfolding_all rfl))
   (ag (sn 10 aY.nd (bn fN (aE aM (pv 9) ai (fun _ _=>rfl)) (aE (Ht (P:=P) (w:=w) rfl rfl hu) (pv 7) (aE aM (pv 9) ai (fun _ _=>rfl)) (fun _ _=>rfl))))
   (aj (bE (PW.pt (pw_or (aC (GZ (P:=P) (w:=w) rfl rfl hu) (aE aM (pv 9) ai (fun _ _=>rfl)) (pv 7) (by with_unfolding_all rfl)) (pw_or1 (aC pV (pv 10) (aE (Ht (P:=P) (w:=w) rfl rfl hu) (pv 7) (aE aM (pv 9) ai (fun _ _=>rfl)) (fun _ _=>rfl)) (a6 _)))))
   (ag (x3 (pv 10) (yt (pv 7) (aE aM (pv 9) ai (fun _ _=>rfl)) (Ix (P:=P) (w:=w) rfl rfl hu)))
   (aj (sn 8 aY.nd fh)))
   aQ)))
   aQ))))))
   (aj (aD (pv 7)))))),fun H1 ls vl v5 v6 s1 Jb dl=>?_⟩
  have lvl:=az dl
  refine fun kd Pz Lf D4=>⟨Wl _,fun g hg=>⟨aL (by show 2 <= _; decide),fun o ho=>?_⟩⟩
  have s2:ak H1 (L2.upd H1 kd Pz):=ah Lf
  generalize L2.upd H1 kd Pz = H2 at s2 D4 hg ho ⊢
  have s3:ak H2 (L2.upd H2 g (.tup [])):=ah hg
  have e3:(L2.upd H2 g (.tup [])) g = some (.tup []):=ae
  generalize L2.upd H2 g (.tup []) = H3 at s3 e3 ho ⊢
  have s4:ak H3 (L2.upd H3 o (.tup [.ref g,.int 1])):=ah ho
  have ke:l9 (L2.upd H3 o (.tup [.ref g,.int 1])) bx o:=⟨g,ae,s4 _ _ e3⟩
  generalize L2.upd H3 o (.tup [.ref g,.int 1]) = H4 at s4 ke ⊢
  have xg:=s3.trans s4
  refine ⟨o,bx,rfl,ke,D4.mono xg,fun o' uZ=>?_⟩
  have s5:ak H1 (L2.upd H4 kd o'):=ao (s2.trans xg) Lf
  have NX:DW P w (L2.upd H4 kd o') kd (iv [(bx,0)]):=uZ
  generalize L2.upd H4 kd o' = H5 at s5 NX ⊢
  obtain ⟨x5,e5⟩:=NX.at
  have HR:=s5 _ _ Jb
  have Q6:=dl.mono s5
  have Py:ls ≠ kd:=dY HR e5 (by intro z; cases z)
  have fC:∀ {H':Hp},mQ H5 kd H'->∀ b vs,H5 b = some (.tup vs)->H' b = some (.tup vs):=fun bt b vs e=>bt b _ (dY e e5 (by intro z; cases z)) e
  have hE:∀ t ∈ a8 ts r qs,jL ts r qs t.1 t.2.1 t.2.2:=fun t ht=>n6.mp ht
  obtain ⟨n,hn⟩:=Sh.AB (e:=bx) hE (later ok)
  have pG:∀ i,Sh.ju (jL ts r qs) bx ((a8 ts r qs).map (·.1)) (Sh.it (Sh.jG (a8 ts r qs)) i [(bx,0)]):=fun i=>Sh.xn (fun x h=>Sh.nI hE h) i _ (Sh.jr _)
  have fin:∀ (H':Hp) (x9:Sh.Mp aW),mQ H5 kd H'->Kn ts r qs x9->DW P w H' kd (iv x9)->Q (.ref kd) H':=fun H' x9 bt kn dw=>by
   have hk:H kd = none:=s1.free Lf
   refine k kd H' x9 hk (fun b u e=>bt b u (aG e hk) (s5 _ _ (s1 _ _ e))) kn dw
  refine ⟨fun m σ H'=>mQ H5 kd H' /\ ∃ tv v9 v10,σ = [some (.ref t),some (.int r),some (.ref q),some (.int ts.length),some (.ref ls),v5,v6,some (.ref kd),some (.bl tv),v9,v10] /\
    ((tv = true /\ ∃ i,i <= n /\ i + m = n + 1 /\ DW P w H' kd (iv (Sh.it (Sh.jG (a8 ts r qs)) i [(bx,0)]))) \/ (tv = false /\ ∃ x9,Kn ts r qs x9 /\ DW P w H' kd (iv x9))),
   ⟨n + 1,mQ.of (ak.refl _),true,_,_,rfl,.inl ⟨rfl,0,Wl _,Nat.zero_add _,NX⟩⟩,?_⟩
  rintro m σ H6 ⟨bt,tv,v9,v10,rfl,hc⟩
  refine ⟨_,rfl,tv,rfl,?_⟩
  rcases hc with ⟨rfl,i,hi,Po,dw⟩ | ⟨rfl,x9,kn,dw⟩
  ·refine pd ⟨fun σ' H'=>mQ H5 kd H' /\ ∃ v9 v10,σ' = [some (.ref t),some (.int r),some (.ref q),some (.int ts.length),some (.ref ls),v5,v6,some (.ref kd),some (.bl (Sh.pass (a8 ts r qs) (Sh.it (Sh.jG (a8 ts r qs)) i [(bx,0)])).2),v9,v10] /\
     DW P w H' kd (iv (Sh.pass (a8 ts r qs) (Sh.it (Sh.jG (a8 ts r qs)) i [(bx,0)])).1),?_,?_⟩
   ·rintro σ' H' ⟨Kv,O7,HB,rfl,uZ⟩
    refine ⟨m - 1,by omega,Kv,_,_,_,rfl,?_⟩
    cases hp:(Sh.pass (a8 ts r qs) (Sh.it (Sh.jG (a8 ts r qs)) i [(bx,0)])).2 with
    | true =>
     have ne:i ≠ n:=fun z=>by rw [z,hn] at hp; cases hp
     exact .inl ⟨rfl,i + 1,by omega,by omega,uZ⟩
    | false =>
     have e:=(Sh.sO hp).1
     have e:(Sh.pass (a8 ts r qs) (Sh.it (Sh.jG (a8 ts r qs)) i [(bx,0)])).1 = _:=e
     rw [e] at uZ
     exact .inr ⟨rfl,_,Jk (pG i) hp,uZ⟩
   ·generalize hx:Sh.it (Sh.jG (a8 ts r qs)) i [(bx,0)] = x0 at dw
    have fx:=pG i
    rw [hx] at fx
    have fj:∀ j,FV (((a8 ts r qs).take j).foldl Sh.cR (x0,false)).1:=fun j=>EF h6 (Sh.sA (x:=(x0,false)) hE (fun t ht=>Xb ht) fx)
    refine ⟨_,rfl,ls,rfl,⟨_,aZ.of (bt _ _ Py HR)⟩,cY (K:=K) (a:=ls) (xs:=vl) (fun j σ' H'=>mQ H5 kd H' /\ ∃ v9 v10,σ' = [some (.ref t),some (.int r),some (.ref q),some (.int ts.length),some (.ref ls),v5,v6,some (.ref kd),some (.bl (((a8 ts r qs).take j).foldl Sh.cR (x0,false)).2),v9,v10] /\
      DW P w H' kd (iv (((a8 ts r qs).take j).foldl Sh.cR (x0,false)).1)) ⟨bt,_,_,rfl,dw⟩ (fun j σ' H' _ ⟨Kv,_⟩=>aZ.of (Kv _ _ Py HR)) ?_ ?_⟩
    ·rintro j x σ' H7 hj ⟨Ic,O7,HB,rfl,Be⟩
     obtain ⟨sp,yW,Up⟩:=bi Q6 hj
     obtain ⟨a,b,c,rfl,ha,hb,hc⟩:=GN (nH (fC Ic) Up (zG _))
     have fo:((a8 ts r qs).take (j + 1)).foldl Sh.cR (x0,false) = Sh.cR (((a8 ts r qs).take j).foldl Sh.cR (x0,false)) sp:=by
      rw [Wd,yW,List.foldl_append]; rfl
     have om:=fj j
     generalize ((a8 ts r qs).take j).foldl Sh.cR (x0,false) = y at Be om fo ⊢
     have ly:(iv y.1).length <= 1000:=by unfold iv; rw [VO]; exact om.len
     refine ⟨_,rfl,a,_,_,_,rfl,rfl,a7.of ha,at2,_,rfl,kd,c,sp.2.2,iv y.1,rfl,rfl,hc,Be.ds,_,rfl,?_⟩
     rw [dP,W6]
     refine bF (fun h1=>?_) (fun h1=>?_)
     ·have c9:(Sh.lk y.1 sp.2.2).isSome = true:=h1
      obtain ⟨v,hv⟩:=Xo.mp c9
      refine ⟨_,rfl,a,_,_,_,rfl,rfl,a7.of ha,k7,_,rfl,_,rfl,a,_,_,_,rfl,rfl,a7.of ha,at2,kd,c,sp.2.2,iv y.1,.int v,rfl,rfl,hc,Be.ds,by rw [dP,hv]; rfl,_,_,rfl,rfl,?_⟩
      have go:Sh.tI (Sh.lk y.1 sp.1) (sp.2.1 + v) = true->((a8 ts r qs).take (j + 1)).foldl Sh.cR (x0,false) = (Sh.put y.1 sp.1 (sp.2.1 + v),true):=fun hb=>by
       rw [fo]; unfold Sh.cR; rw [hv]; dsimp only; rw [if_pos hb]
      have no:Sh.tI (Sh.lk y.1 sp.1) (sp.2.1 + v) = false->((a8 ts r qs).take (j + 1)).foldl Sh.cR (x0,false) = y:=fun hb=>by
       rw [fo]; unfold Sh.cR; rw [hv]; dsimp only; rw [if_neg (by rw [hb]; simp)]
      refine ⟨_,rfl,a,_,_,_,rfl,rfl,a7.of ha,kZ,_,rfl,kd,b,sp.1,iv y.1,rfl,rfl,hb,Be.ds,_,rfl,?_⟩
      rw [dP,W6]
      cases Lx:Sh.lk y.1 sp.1 with
      | none =>
       have e:=go (by rw [Lx]; rfl)
       refine pd (pd ?_)
       refine ⟨_,rfl,_,rfl,_,rfl,a,_,_,_,rfl,rfl,a7.of ha,kZ,kd,b,sp.1,iv y.1,rfl,rfl,hb,Be,aO (by omega),fun o' uZ=>?_⟩
       rw [uE] at uZ
       exact ⟨Ic.upd,some (.ref a),some (.int (sp.2.1 + v)),by rw [e]; rfl,by rw [e]; exact uZ⟩
      | some u =>
       refine dm ?_
       refine ⟨_,rfl,_,rfl,_,rfl,a,_,_,_,rfl,rfl,a7.of ha,kZ,kd,b,sp.1,iv y.1,.int u,rfl,rfl,hb,Be.ds,by rw [dP,Lx]; rfl,_,_,rfl,rfl,_,rfl,?_⟩
       refine bF (fun h2=>?_) (fun h2=>?_)
       ·have e:=go (by rw [Lx]; exact h2)
        refine ⟨_,rfl,_,rfl,_,rfl,a,_,_,_,rfl,rfl,a7.of ha,kZ,kd,b,sp.1,iv y.1,rfl,rfl,hb,Be,aO (by omega),fun o' uZ=>?_⟩
        rw [uE] at uZ
        exact ⟨Ic.upd,some (.ref a),some (.int (sp.2.1 + v)),by rw [e]; rfl,by rw [e]; exact uZ⟩
       ·have e:=no (by rw [Lx]; exact h2)
        exact ⟨Ic,some (.ref a),some (.int (sp.2.1 + v)),by rw [e]; rfl,by rw [e]; exact Be⟩
     ·have c9:Sh.lk y.1 sp.2.2 = none:=by
       cases q:Sh.lk y.1 sp.2.2 with
       | none=>rfl
       | some v=>rw [q] at h1; cases h1
      have e:((a8 ts r qs).take (j + 1)).foldl Sh.cR (x0,false) = y:=by rw [fo]; unfold Sh.cR; rw [c9]
      exact ⟨Ic,some (.ref a),HB,by rw [e]; rfl,by rw [e]; exact Be⟩
    ·rintro σ' H7 ⟨Ic,O7,HB,rfl,Be⟩
     rw [V1 (by omega)] at Be ⊢
     exact ⟨Ic,_,_,rfl,Be⟩
  ·exact dm ⟨_,rfl,fin H6 x9 bt kn dw⟩
 refine ⟨_,(ag (sn 3 aY.nd (aA aB (by rfl) T.cH Wv (aa (pv 0) af)))
   (ag (sn 4 aY.nd (fG af))
   (ag (cU WA rfl (bI (cl cJ bL hr aF (aa (pv 2) (aa (pv 3) af)))) (gn 5 aY.nd)
   (aj (cU WA rfl (bI (cl fz fe hr aF (aa (pv 0) (aa (pv 1) (aa (pv 2) (aa (pv 5) af)))))) (gn 6 aY.nd)
   (aj (cF (lj Xd XM XJ de (pv 4) (aa (bM (aa (pv 5) (aa (cl gR dD hr aF (aa (pv 0) (aa (pv 6) af))) (aa (cl cB cA hr aF (aa (pv 5) (aa (pv 6) (aa (pv 3) af)))) af)))) af)))))))
   hC))),?_⟩
 obtain ⟨vt,ht,dt⟩:=id hT
 have lt:=az dt
 refine ⟨_,rfl,t,_,rfl,.inl (aZ.of ht),?_⟩
 rw [lt]
 refine ⟨aL (by show 0 <= _; decide),fun ls Jb=>?_⟩
 have s1:ak H (L2.upd H ls (.lst [])):=ah Jb
 have e1:(L2.upd H ls (.lst [])) ls = some (.lst []):=ae
 generalize L2.upd H ls (.lst []) = H1 at s1 e1 ⊢
 refine ⟨_,rfl,_,rfl,q,qs,ts.length,rfl,hQ.mono s1,h6,fun lg H2 DQ s2 hG=>?_⟩
 obtain ⟨vg,uH,dg⟩:=hG
 have C7:=az dg
 have Cd:=gg qs h6
 have Gg:=s1.trans s2
 have e2:H2 ls = some (.lst []):=s2 _ _ e1
 have K3:lg ≠ ls:=fun z=>by rw [z,e1] at DQ; cases DQ
 refine ⟨lg,rfl,⟨_,aZ.of uH⟩,cY (K:=K) (a:=lg) (xs:=vg) (fun i σ H'=>ak H H' /\ mQ H2 ls H' /\ (∃ v5 v6,σ = [some (.ref t),some (.int r),some (.ref q),some (.int ts.length),some (.ref ls),v5,v6,none,none,none,none]) /\ ∃ xs,H' ls = some (.lst xs) /\ bK H' ((((bA qs ts.length).take i).flatMap (eD ts r qs)).map FY) xs)
  ⟨Gg,mQ.of (ak.refl _),⟨_,_,rfl⟩,[],e2,.nil⟩ (fun i σ H' _ ⟨_,bt,_⟩=>aZ.of (bt _ _ K3 uH)) ?_ ?_⟩
 ·rintro i x σ H3 hi ⟨s3,bt,⟨v5,v6,rfl⟩,xs,hx,dx⟩
  obtain ⟨st,jM,dst⟩:=bi dg hi
  obtain ⟨a,rfl,Gi⟩:=cD (nH (bt.fC e2) dst (eV _))
  obtain ⟨hS,hG⟩:=dh (Wm jM)
  have lst:=lI hS h6
  have cl:=(iO (r:=r) (qs:=qs) hS h6).1
  have lx:xs.length <= 128 * 1000:=by
   rw [az dx]
   refine VZ (vO (m:=1000) fun s hs=>?_) (Nat.mul_le_mul_right _ ?_)
   ·unfold eD
    rw [VO]
    exact (iO (dh (Xb hs)).1 h6).1
   ·rw [Wb]; omega
  refine ⟨_,rfl,_,rfl,_,rfl,_,rfl,t,q,a,ts,r,qs,st,rfl,hT.mono s3,hQ.mono s3,Gi,hS,h6,fun lc H4 IT s4 hL=>?_⟩
  obtain ⟨vl,xJ,dl⟩:=hL
  have lvl:=az dl
  have Ma:=s4 _ _ hx
  have N6:lc ≠ ls:=fun z=>by rw [z,hx] at IT; cases IT
  refine ⟨lc,rfl,⟨_,aZ.of xJ⟩,cY (K:=K) (a:=lc) (xs:=vl) (fun j σ H'=>ak H H' /\ mQ H4 ls H' /\ (∃ v6,σ = [some (.ref t),some (.int r),some (.ref q),some (.int ts.length),some (.ref ls),some (.ref a),v6,none,none,none,none]) /\ ∃ zs,H' ls = some (.lst (xs ++ zs)) /\ bK H' ((((bA qs ts.length).take i).flatMap (eD ts r qs)).map FY) xs /\ bK H' (((eD ts r qs st).take j).map FY) zs)
   ⟨s3.trans s4,mQ.of (ak.refl _),⟨_,rfl⟩,[],by rw [Yn]; exact Ma,dx.mono s4,.nil⟩ (fun j σ H' _ ⟨_,Kv,_⟩=>aZ.of (Kv _ _ N6 xJ)) ?_ ?_⟩
  ·rintro j y σ H5 hj ⟨s5,Ja,⟨Tk,rfl⟩,zs,hz,IQ,dz⟩
   have Lz:=(Wa.mp hj).1
   obtain ⟨c,hc,dc⟩:=bi dl hj
   obtain ⟨o,rfl,ho⟩:=fM (nH (Ja.fC Ma) dc (eR _))
   have Ck:cj H5 a st:=by
    obtain ⟨b0,h1,h2⟩:=Gi.mono s4
    exact ⟨b0,Ja.fC Ma _ _ h1,Ja.fC Ma _ _ h2⟩
   obtain ⟨mG,xW,cg⟩:=gQ (Wm hc)
   have Os:c.length <= 6:=VZ mG.length_le (VZ (eZ hS) h6)
   have lz:zs.length <= 1000:=by
    rw [az dz,Wb]
    unfold eD
    rw [VO]; omega
   refine ⟨_,rfl,.inl ⟨rfl,_,aZ.of hz⟩,_,rfl,_,rfl,_,rfl,t,o,ts,c,rfl,hT.mono s5,ho,by omega,xW,(fun t ht=>iY hS (mG.subset ht)),fun H6 s6=>?_⟩
   refine ⟨_,rfl,_,rfl,_,rfl,a,o,st,c,ts.length,rfl,Ck.mono s6,s6 _ _ ho,by omega,h6,fun l2 H7 s7 h7=>?_⟩
   refine ⟨aL (by show 3 <= _; decide),fun o3 Ho=>?_⟩
   have s8:ak H7 (L2.upd H7 o3 (.tup [.ref a,.int (aP ts c),.ref l2])):=ah Ho
   have AW:=s6.trans (s7.trans s8)
   have dy:DV (L2.upd H7 o3 (.tup [.ref a,.int (aP ts c),.ref l2])) (FY (st,aP ts c,behind ts.length st c)) (.ref o3):=KM ae (Ck.mono AW) (h7.mono s8)
   generalize L2.upd H7 o3 (.tup [.ref a,.int (aP ts c),.ref l2]) = H8 at AW dy ⊢
   have L8:=AW _ _ hz
   refine ⟨ls,xs ++ zs,_,rfl,rfl,L8,aO (by rw [Wf]; omega),?_⟩
   refine ⟨ao (s5.trans AW) Jb,(Ja.next AW).upd,⟨_,rfl⟩,zs ++ [.ref o3],by rw [<- V6]; exact ae,bp L8 (IQ.mono AW) (aK zG _),?_⟩
   have ew:(eD ts r qs st)[j]? = some (st,aP ts c,behind ts.length st c):=by unfold eD; rw [V3,hc]; rfl
   rw [Wd,ew,VV]
   exact (bp L8 (dz.mono AW) (aK zG _)).snoc (cS L8 dy (zG _))
  ·rintro σ H5 ⟨s5,Ja,⟨Tk,rfl⟩,zs,hz,IQ,dz⟩
   rw [V1 (by unfold eD; rw [VO]; omega)] at dz
   refine ⟨s5,?_,⟨_,_,rfl⟩,xs ++ zs,hz,?_⟩
   ·exact fun b u n e=>Ja b u n (s4 _ _ (bt b u n e))
   ·rw [Wd,jM,List.flatMap_append,VV]
    have e:(some st).toList.flatMap (eD ts r qs) = eD ts r qs st:=by simp
    rw [e]
    exact IQ.append dz
 ·rintro σ H3 ⟨s3,bt,⟨v5,v6,rfl⟩,xs,hx,dx⟩
  rw [V1 (by omega)] at dx
  exact rC H3 ls xs v5 v6 s3 hx dx
end
open PySem L2 PyProof.Rows
section
variable {P:Program} {w:World} {K:Yt} {mg:Str->Option Value} {base:Heap} {C:Addr} {Z:Ad} {gs:Nat->Addr} {es:Nat->FuncData}
def vH (m:Nat):Sp:=fun vs H Q _=>∃ (p s:Addr) (ts:List Th) (r:Int) (qs:List Qu) (st:aW),vs = [.ref p,.ref s] /\ jQ H p m ts r qs /\ cj H s st /\ st ∈ bA qs ts.length /\
 ∀ l H' L,H l = none->ak H H'->LstAt dn H' l L->L.Pairwise (fun x y=>aJ (sw x) (sw y) = true)->(∀ x,x ∈ L ↔ Reach ts r qs st x)->Q (.ref l) H'
theorem cq:av ["night","standing","found","here","crew","behind"] ["night","standing"] (am fA):=fZ
theorem B8 {f f1:Addr} {fd eC:FuncData} {m:Nat} (F:Fn K mg "_law_come_to" fA f fd ["night","standing"]) (L:Lw K mg gs es) (T:Txt K mg C Z) (bL:Fn K mg "_law_standings" bY f1 eC ["quarrels","many"]):au P w K mg base br 4 f fd ["night","standing"] (vH m):=by
 have fe:=L.rp
 have cA:=L.behind
 have cJ:au P w K mg base br 3 f1 eC ["quarrels","many"] ur:=xV bL L T
 have fz:au P w K mg base br 3 (gs 7) (es 7) ["things","room","quarrels","standing"] kF:=nL L T
 have cB:au P w K mg base br 1 (gs 6) (es 6) ["standing","crew","many"] i4:=kN L.behind T
 refine F.fn.ok cq (fun vs H Q E h=>?_) (fun cm A outer s H vs Q E hr h=>?_)
 ·obtain ⟨p,s,ts,r,qs,st,rfl,_⟩:=h
  rfl
 ·obtain ⟨pn,s,ts,r,qs,st,rfl,ND,hs,jM,k⟩:=h
  have hu:=hr.units
  have h6:=ND.t.l6
  obtain ⟨ap,bq,IK,Fw,EA⟩:=id ND.ex
  obtain ⟨vt,ht,dt⟩:=id Fw
  have ct:=az dt
  refine ⟨_,(ag (sn 2 cq.nd (fG (aa (pv 1) af)))
   (ag (sn 3 cq.nd ai)
   (ag (jT WA (aC pV (pv 3) (aA aB (by rfl) T.cH Wv (aa (pv 2) af)) (a6 _))
   (ag (cU WA rfl (bI (cl fz fe hr aF (aa (aE aM (pv 0) ai (fun _ _=>rfl)) (aa (aE aM (pv 0) ai (fun _ _=>rfl)) (aa (aE aM (pv 0) ai (fun _ _=>rfl)) (aa (aE cE (pv 2) (pv 3) (fun _ _=>rfl)) af)))))) (gn 4 cq.nd)
   (ag (sn 5 cq.nd (cl cB cA hr aF (aa (aE cE (pv 2) (pv 3) (fun _ _=>rfl)) (aa (pv 4) (aa (aA aB (by rfl) T.cH Wv (aa (aE aM (pv 0) ai (fun _ _=>rfl)) af)) af)))))
   (aj (bE (aC (kE hu) (pv 5) (pv 2) (by with_unfolding_all rfl))
   (aj (cF (lj Xd XM XJ de (pv 2) (aa (pv 5) af))))
   aQ))))
   (aj (sn 3 cq.nd (bn fN (pv 3) ai)))))
   (aj (aD (bv rfl (N':=["one","found"]) (cap:=[none,some 2]) ⟨rfl,by with_unfolding_all rfl⟩ (bI (cl cJ bL hr aF (aa (aE aM (pv 0) ai (fun _ _=>rfl)) (aa (aA aB (by rfl) T.cH Wv (aa (aE aM (pv 0) ai (fun _ _=>rfl)) af)) af)))) (fun _=>(gn 0 (show (["one","found"]:List Str).Nodup by decide +kernel))) (fun _=>(cy (aC (Hg hu) (pv 0) (pv 1) (by with_unfolding_all rfl)))) (fun _=>(pv 0)))))))),?_⟩
  refine ⟨_,rfl,aL (by show 1 <= _; decide),fun lf IW=>?_⟩
  have s1:ak H (L2.upd H lf (.lst [.ref s])):=ah IW
  have e1:(L2.upd H lf (.lst [.ref s])) lf = some (.lst [.ref s]):=ae
  generalize L2.upd H lf (.lst [.ref s]) = H1 at s1 e1 ⊢
  have short:∀ {fl:List aW},fl.Nodup->(∀ x ∈ fl,Reach ts r qs st x)->fl.length <= 128:=fun nd hr=>VZ (Sh.sub_len nd fun x hx=>eP jM (hr x hx)) (gg qs h6)
  refine ⟨fun m σ H'=>ak H H' /\ ∃ (p:Nat) (fl:List aW) (vs:List V) (v4 v5:Option V),σ = [some (.ref pn),some (.ref s),some (.ref lf),some (.int p),v4,v5] /\ H' lf = some (.lst vs) /\ bK H' (fl.map dn) vs /\ m = 200 - p /\ p <= fl.length /\ fl.Nodup /\ (∀ x ∈ fl,Reach ts r qs st x) /\ st ∈ fl /\
    ∀ (i:Nat) b,i < p->fl[i]? = some b->∀ c ∈ aU ts r qs b,behind ts.length b c ∈ fl,
   ⟨200,s1,0,[st],[.ref s],_,_,rfl,e1,.cons (hs.mono s1).dv .nil,rfl,Wl _,by simp,(fun x hx=>by rw [Wo.mp hx]; exact .refl),Wo.mpr rfl,(fun i b hi=>absurd hi (Nat.not_lt_zero _))⟩,?_⟩
  rintro m σ H2 ⟨s2,p,fl,vs,v4,v5,rfl,Ag,jE,rfl,hp,nd,tU,oU,Hr⟩
  have UZ:=az jE
  have Cd:=short nd tU
  refine ⟨_,rfl,_,rfl,lf,_,rfl,.inl (aZ.of Ag),_,_,rfl,rfl,_,rfl,?_⟩
  refine bF (fun h1=>?_) (fun h1=>?_)
  ·have uF:p < fl.length:=by
    have:=Wi h1
    omega
   obtain ⟨y,hy,dy⟩:=jE.get (i:=p) (d:=dn fl[p]) (by rw [V3,VS uF]; rfl)
   have hb:fl[p]? = some fl[p]:=VS uF
   have rb:=tU _ (Xn uF)
   generalize fl[p] = b at dy hb rb
   obtain ⟨o,rfl,ho⟩:=cD dy
   have Nd:=eP jM rb
   obtain ⟨hS,hG⟩:=dh Nd
   have lst:=lI hS h6
   refine ⟨fun σ' H'=>ak H H' /\ ∃ (fB:List aW) (l8:List V) (v4 v5:Option V),σ' = [some (.ref pn),some (.ref s),some (.ref lf),some (.int ((p:Int) + 1)),v4,v5] /\ H' lf = some (.lst l8) /\ bK H' (fB.map dn) l8 /\ fl <+: fB /\ fB.Nodup /\ (∀ x ∈ fB,Reach ts r qs st x) /\ ∀ c ∈ aU ts r qs b,behind ts.length b c ∈ fB,?_,?_⟩
   ·rintro σ' H' ⟨s',fB,l8,w4,w5,rfl,q1,q2,⟨ex,pre⟩,q4,q5,q6⟩
    have le:fl.length <= fB.length:=by rw [<- pre,Wf]; omega
    refine ⟨200 - (p + 1),by omega,s',p + 1,fB,l8,w4,w5,rfl,q1,q2,rfl,by omega,q4,q5,by rw [<- pre]; exact Xc _ oU,fun i b2 hi B2 c hc=>?_⟩
    have BI:fl[i]? = some b2:=by rw [<- pre,W4 (by omega)] at B2; exact B2
    by_cases z:i = p
    ·rw [z,hb] at BI
     cases BI
     exact q6 c hc
    ·rw [<- pre]
     exact Xc _ (Hr i b2 (by omega) BI c hc)
   ·refine ⟨_,rfl,pn,_,_,_,rfl,rfl,a7.of (s2 _ _ IK),kZ,_,rfl,pn,_,_,_,rfl,rfl,a7.of (s2 _ _ IK),k7,_,rfl,pn,_,_,_,rfl,rfl,a7.of (s2 _ _ IK),at2,_,rfl,_,rfl,lf,_,_,_,rfl,rfl,aZ.of Ag,fg hy,ap,bq,o,ts,r,qs,b,rfl,Fw.mono s2,EA.mono s2,ho,hS,h6,fun lc H3 IT s3 hL=>?_⟩
    obtain ⟨vl,xJ,dl⟩:=hL
    have lvl:=az dl
    have ud:=s3 _ _ Ag
    have N6:lc ≠ lf:=fun z=>by rw [z,Ag] at IT; cases IT
    refine ⟨lc,rfl,⟨_,aZ.of xJ⟩,cY (K:=K) (a:=lc) (xs:=vl) (fun j σ' H'=>ak H H' /\ mQ H3 lf H' /\ ∃ (fB:List aW) (l8:List V) (v4 v5:Option V),σ' = [some (.ref pn),some (.ref s),some (.ref lf),some (.int p),v4,v5] /\ H' lf = some (.lst l8) /\ bK H' (fB.map dn) l8 /\ fl <+: fB /\ fB.Nodup /\ (∀ x ∈ fB,Reach ts r qs st x) /\ ∀ c ∈ (aU ts r qs b).take j,behind ts.length b c ∈ fB)
     ⟨s2.trans s3,mQ.of (ak.refl _),fl,vs,_,_,rfl,ud,jE.mono s3,List.prefix_refl _,nd,tU,(fun x hx=>by cases hx)⟩ (fun j σ' H' _ ⟨_,bt,_⟩=>aZ.of (bt _ _ N6 xJ)) ?_ ?_⟩
    ·rintro j y2 σ' H4 hj ⟨s4,bt,fB,l8,w4,w5,rfl,nU,pi,pre,vX,qy,hw⟩
     obtain ⟨c,hc,dc⟩:=bi dl hj
     obtain ⟨oc,rfl,LI⟩:=fM (nH (bt.fC ud) dc (eR _))
     have Uz:=Wm hc
     have B2:fB[p]? = some b:=by
      obtain ⟨ex,pre⟩:=pre
      rw [<- pre,W4 (by omega)]; exact hb
     obtain ⟨y3,QO,T7⟩:=pi.get (i:=p) (d:=dn b) (by rw [V3,B2]; rfl)
     obtain ⟨o4,rfl,Ul⟩:=cD T7
     have Nb:=az pi
     have l2:=short vX qy
     refine ⟨_,rfl,_,rfl,lf,_,_,_,rfl,rfl,aZ.of nU,fg QO,_,rfl,_,rfl,pn,_,_,_,rfl,rfl,a7.of (s4 _ _ IK),kZ,ap,_,rfl,.inl (aZ.of (s4 _ _ ht)),o4,oc,b,c,ts.length,by rw [ct]; rfl,Ul,LI,by omega,h6,fun l5 H5 s5 h5=>?_⟩
     have zS:=s5 _ _ nU
     have He:=pi.mono s5
     have OI:=qH (behind ts.length b c)
     have et:(aU ts r qs b).take (j + 1) = (aU ts r qs b).take j ++ [c]:=by rw [Wd,hc]; rfl
     refine ⟨_,rfl,_,rfl,dn (behind ts.length b c),fB.map dn,h5.dv,.inl (.lst zS He),ft _,eJ ft _,by omega,_,rfl,?_⟩
     rw [um]
     refine bF (fun h2=>?_) (fun h2=>?_)
     ·have hn:behind ts.length b c ∉ fB:=fun z=>by
       have fL:(!decide (behind ts.length b c ∈ fB)) = true:=h2
       rw [V0 z] at fL
       cases fL
      refine ⟨_,rfl,.inl ⟨rfl,_,aZ.of zS⟩,_,rfl,lf,l8,_,rfl,rfl,zS,aO (by omega),?_⟩
      refine ⟨ao (s4.trans s5) IW,(bt.next s5).upd,fB ++ [behind ts.length b c],_,_,_,rfl,ae,?_,pre.trans (List.prefix_append _ _),?_,fun z hz=>?_,fun z hz=>?_⟩
      ·rw [VV]
       exact (bp zS He (aK eV _)).snoc (cS zS h5.dv (eV _))
      ·rw [List.nodup_append]
       exact ⟨vX,by simp,fun a1 h3 b1 h4 e=>hn (by rw [<- Wo.mp h4,<- e]; exact h3)⟩
      ·rcases Wh.mp hz with z1 | z1
       ·exact qy z z1
       ·rw [Wo.mp z1]; exact .step rb Uz
      ·rw [et] at hz
       rcases Wh.mp hz with z1 | z1
       ·exact Xc _ (hw z z1)
       ·rw [Wo.mp z1]; exact Wp _ (Wo.mpr rfl)
     ·have NC:behind ts.length b c ∈ fB:=by
       have fL:(!decide (behind ts.length b c ∈ fB)) = false:=h2
       by_cases z:behind ts.length b c ∈ fB
       ·exact z
       ·rw [We z] at fL; cases fL
      refine ⟨s4.trans s5,bt.next s5,fB,l8,_,_,rfl,zS,He,pre,vX,qy,fun z hz=>?_⟩
      rw [et] at hz
      rcases Wh.mp hz with z1 | z1
      ·exact hw z z1
      ·rw [Wo.mp z1]; exact NC
    ·rintro σ' H4 ⟨s4,bt,fB,l8,w4,w5,rfl,nU,pi,pre,vX,qy,hw⟩
     rw [V1 (by omega)] at hw
     exact ⟨_,rfl,_,_,rfl,rfl,s4,fB,l8,_,_,rfl,nU,pi,pre,vX,qy,hw⟩
  ·have uF:p = fl.length:=by
    have:=of_decide_eq_false h1
    omega
   have closed:∀ b ∈ fl,∀ c ∈ aU ts r qs b,behind ts.length b c ∈ fl:=fun b hb c hc=>by
    obtain ⟨i,hi⟩:=X1.mp hb
    exact Hr i b (by rw [uF]; exact (Wa.mp hi).1) hi c hc
   refine ⟨_,rfl,pn,_,_,_,rfl,rfl,a7.of (s2 _ _ IK),at2,_,rfl,pn,_,_,_,rfl,rfl,a7.of (s2 _ _ IK),kZ,ap,_,rfl,.inl (aZ.of (s2 _ _ ht)),bq,qs,ts.length,by rw [ct]; rfl,EA.mono s2,h6,fun ls H3 Jb s3 hL=>?_⟩
   obtain ⟨vl,xJ,dl⟩:=hL
   have lvl:=az dl
   have ll:=gg qs h6
   refine ⟨ls,rfl,⟨_,aZ.of xJ⟩,fun D hD=>?_⟩
   refine cM (K:=K) (a:=ls) (ys:=vl) (fun j zs H'=>ak H3 H' /\ H' D = some (.lst zs) /\ bK H' ((((bA qs ts.length).take j).filter fun x=>decide (x ∈ fl)).map dn) zs)
    ⟨ah hD,ae,.nil⟩ (fun j zs H' _ ⟨sm,h,_⟩=>⟨h,aZ.of (sm _ _ xJ)⟩) ?_ ?_
   ·rintro j y zs H4 hj ⟨s4,vE,dz⟩
    obtain ⟨x,hx,dx⟩:=bi (dl.mono s4) hj
    obtain ⟨a,rfl,ha⟩:=cD dx
    have OI:=qH x
    have xg:=s3.trans s4
    refine ⟨b8.set rfl,?_⟩
    refine ⟨_,rfl,_,rfl,dn x,fl.map dn,ha.dv,.inl (.lst (xg _ _ Ag) (jE.mono xg)),ft _,eJ ft _,by omega,_,rfl,?_⟩
    rw [um]
    have lz:zs.length <= 128:=by
     rw [az dz]
     exact VZ (Wg _ _) (by rw [Wb]; omega)
    have et:(bA qs ts.length).take (j + 1) = (bA qs ts.length).take j ++ [x]:=by rw [Wd,hx]; rfl
    refine bF (fun h2=>?_) (fun h2=>?_)
    ·have fL:decide (x ∈ fl) = true:=h2
     refine ⟨_,rfl,vE,aO (by omega),ao s4 hD,ae,?_⟩
     have ef:[x].filter (fun x=>decide (x ∈ fl)) = [x]:=by rw [Wr,if_pos fL]; rfl
     rw [et,Wk,ef,VV]
     exact (bp vE dz (aK eV _)).snoc (cS vE ha.dv (eV _))
    ·have fL:decide (x ∈ fl) = false:=h2
     have ef:[x].filter (fun x=>decide (x ∈ fl)) = []:=by rw [Wr,if_neg (by rw [fL]; simp)]; rfl
     refine ⟨s4,vE,?_⟩
     rw [et,Wk,ef,Yn]
     exact dz
   ·rintro zs H4 ⟨s4,vE,dz⟩
    rw [V1 (by omega)] at dz
    have nW:=s2.trans s3
    refine k D H4 _ (nW.free hD) (nW.trans s4) ⟨zs,vE,dz⟩ (List.Pairwise.sublist Yg (jO _ _)) fun x=>?_
    rw [Ws]
    constructor
    ·exact fun h=>tU x (Wi h.2)
    ·exact fun h=>⟨eP jM h,V0 (wf oU closed h)⟩
def ve (m:Nat):Sp:=fun vs H Q _=>∃ (b p a:Addr) (ts:List Th) (r:Int) (qs:List Qu) (st:aW) (ji:List (List Int)) (v:Int),vs = [.ref b,.ref p,.ref a,.int v] /\ jQ H p m ts r qs /\ cj H a st /\ cQ ts.length st = true /\ LstAt gu H b ji /\ yK ts r qs st 0 ji = some v /\ ∀ H',ak H H'->Q (.bl true) H'
theorem ci:av ["plan","night","standing","height","whole","crew"] ["plan","night","standing","height"] (am dj):=fZ
theorem DC {f f1 f2:Addr} {fd eC kR:FuncData} {m:Nat} (F:Fn K mg "_law_plan_right" dj f fd ["plan","night","standing","height"]) (T:Txt K mg C Z) (L:Lw K mg gs es) (dD:Fn K mg "_law_minutes" cK f1 eC ["things","crew"])
  (bU:Fn K mg "_law_whole" cX f2 kR ["found"]):au P w K mg base br 4 f fd ["plan","night","standing","height"] (ve m):=by
 have fe:=L.rp
 have cA:=L.behind
 have fz:au P w K mg base br 3 (gs 7) (es 7) ["things","room","quarrels","standing"] kF:=nL L T
 have cB:au P w K mg base br 1 (gs 6) (es 6) ["standing","crew","many"] i4:=kN L.behind T
 have gR:au P w K mg base br 1 f1 eC ["things","crew"] jW:=oP dD T
 have fu:au P w K mg base br 1 f2 kR ["found"] nr:=p6 bU T
 refine F.fn.ok ci (fun vs H Q E h=>?_) (fun cm A outer s H vs Q E hr h=>?_)
 ·obtain ⟨b,p,a,ts,r,qs,st,ji,v,rfl,_⟩:=h
  rfl
 obtain ⟨b,p,a,ts,r,qs,st,ji,v,rfl,ND,jM,hS,⟨vp,hb,dp⟩,Of,k⟩:=h
 have hu:=hr.units
 have lp:=az dp
 have h6:=ND.t.l6
 obtain ⟨ap,bq,hp,⟨vt,ht,dt⟩,EA⟩:=id ND.ex
 have Fw:LstAt xk H ap ts:=⟨vt,ht,dt⟩
 have ct:=az dt
 refine ⟨_,(ag (sn 4 ci.nd ai)
   (ag (cU WA rfl (bI (pv 0)) (gn 5 ci.nd)
   (ag (bE (PW.pt (pw_or (dW (cG (aA du (by rfl) T.cV Ym (aa (pv 5) (aa (jg (v:=.ty "tuple") (by rfl) T.cW Xz rfl) af))))) (pw_or1 (dW (cG (aA (mw rfl) (by rfl) T.yx boot_all (aa (bv rfl (N':=["thing"]) (cap:=[none]) ⟨rfl,by with_unfolding_all rfl⟩ (fQ (pv 5)) (fun _=>(gn 0 (show (["thing"]:List Str).Nodup by decide +kernel))) (fun _=>ce) (fun _=>(cl fu bU hr aF (aa (pv 0) af)))) af)))))))
   (aj (aD fh))
   aQ)
   (ag (bE (aC (kE hu) (pv 5) (cl fz fe hr aF (aa (aE aM (pv 1) ai (fun _ _=>rfl)) (aa (aE aM (pv 1) ai (fun _ _=>rfl)) (aa (aE aM (pv 1) ai (fun _ _=>rfl)) (aa (pv 2) af))))) (by with_unfolding_all rfl))
   (aj (aD fh))
   aQ)
   (ag (sn 4 ci.nd (bn fN (pv 4) (cl gR dD hr aF (aa (aE aM (pv 1) ai (fun _ _=>rfl)) (aa (pv 5) af)))))
   (aj (sn 2 ci.nd (cl cB cA hr aF (aa (pv 2) (aa (pv 5) (aa (aA aB (by rfl) T.cH Wv (aa (aE aM (pv 1) ai (fun _ _=>rfl)) af)) af))))))))))
   (aj (aD (fP (fW (CK hu) (pv 2) (bM (aa (bM af) (aa ai af))) (a6 _)) (je (fW iR (pv 4) (pv 3) (a6 _)))))))),?_⟩
 refine ⟨_,rfl,b,rfl,⟨_,aZ.of hb⟩,cY (K:=K) (a:=b) (xs:=vp) (fun i σ H'=>ak H H' /\ ∃ l aI yV v5,σ = [some (.ref b),some (.ref p),some (.ref l),some (.int v),some (.int yV),v5] /\ cj H' l aI /\ cQ ts.length aI = true /\
   yK ts r qs aI yV (ji.drop i) = some v)
  ⟨ak.refl H,a,st,0,_,rfl,jM,hS,Of⟩ (fun i σ H' _ ⟨sm,_⟩=>aZ.of (sm _ _ hb)) ?_ ?_⟩
 ·rintro i x σ H2 hi ⟨s2,l,aI,yV,v5,rfl,G9,uR,u8⟩
  obtain ⟨c,hc,dc⟩:=bi (dp.mono s2) hi
  obtain ⟨o,rfl,ho⟩:=fM dc
  have lst:=lI uR h6
  have Vt:=C9 c
  have QR:ji.drop i = c :: ji.drop (i + 1):=by
   rw [Yd (Wa.mp hc).1,(Wa.mp hc).2]
  rw [QR,yK] at u8
  have hy:c ∈ aU ts r qs aI:=by
   by_cases z:c ∈ aU ts r qs aI
   ·exact z
   ·rw [if_neg z] at u8; cases u8
  rw [if_pos hy] at u8
  obtain ⟨mG,xW,cg⟩:=gQ hy
  have cl:c.length <= 6:=VZ mG.length_le (VZ (eZ uR) h6)
  refine ⟨_,rfl,_,_,_,_,rfl,.tup ho,gp _ _,_,rfl,dm ?_⟩
  refine ⟨_,rfl,o,rfl,⟨_,a7.of ho⟩,fun D hD=>?_⟩
  refine dJ (K:=K) (a:=o) (ys:=c.map V.int) (fun i xs H'=>ak H2 H' /\ H' D = some (.lst xs) /\ xs = (List.replicate i true).map V.bl)
   ⟨ah hD,ae,rfl⟩ (fun i xs H' _ ⟨sm,h,_⟩=>⟨h,a7.of (sm _ _ ho)⟩) ?_ ?_
  ·rintro i x xs H' hi ⟨sm,eE,rfl⟩
   have il:i < c.length:=by simpa using (Wa.mp hi).1
   rw [V3,WC] at hi
   obtain ⟨x',oR,rfl⟩:=hi
   refine ⟨b8.set rfl,?_⟩
   refine ⟨_,rfl,_,rfl,eE,aO (by simp; omega),ao sm hD,ae,?_⟩
   rw [List.replicate_succ',VV]
   rfl
  rintro xs Vs ⟨sm,eE,rfl⟩
  have e:(List.replicate (c.map V.int).length true).all id = true:=by simp
  refine ⟨D,_,rfl,aZ.of eE,?_⟩
  rw [e]
  refine ⟨_,rfl,dm ?_⟩
  have LU:=s2.trans sm
  have uF:=LU _ _ hp
  have Ai:=G9.mono sm
  have lJ:=sm _ _ ho
  refine ⟨_,rfl,_,rfl,p,_,_,_,rfl,rfl,a7.of uF,kZ,_,rfl,p,_,_,_,rfl,rfl,a7.of uF,k7,_,rfl,p,_,_,_,rfl,rfl,a7.of uF,at2,_,rfl,ap,bq,l,ts,r,qs,aI,rfl,Fw.mono LU,EA.mono LU,Ai,uR,h6,fun lc H3 IT s3 hL=>?_⟩
  have N9:=LU.trans s3
  obtain ⟨vl,xJ,dl⟩:=hL
  refine ⟨gu c,(aU ts r qs aI).map gu,gY (s3 _ _ lJ),.inl (.lst xJ dl),n5 c,eJ n5 _,by omega,_,rfl,?_⟩
  rw [GK,V0 hy]
  refine dm ?_
  have TH:=N9 _ _ hp
  refine ⟨_,rfl,_,rfl,p,_,_,_,rfl,rfl,a7.of TH,kZ,_,rfl,ap,o,ts,c,rfl,Fw.mono N9,s3 _ _ lJ,by omega,xW,(fun t ht=>iY uR (mG.subset ht)),fun H4 s4=>?_⟩
  have xg:=N9.trans s4
  refine ⟨_,_,rfl,rfl,_,rfl,_,rfl,_,rfl,p,_,_,_,rfl,rfl,a7.of (xg _ _ hp),kZ,ap,_,rfl,.inl (aZ.of (xg _ _ ht)),?_⟩
  rw [ct]
  refine ⟨l,o,aI,c,ts.length,rfl,(Ai.mono s3).mono s4,s4 _ _ (s3 _ _ lJ),by omega,h6,fun l2 H5 s5 h5=>?_⟩
  exact ⟨xg.trans s5,l2,_,_,_,rfl,h5,Ah uR,u8⟩
 ·rintro σ H2 ⟨s2,l,aI,yV,v5,rfl,G9,uR,u8⟩
  rw [lp,List.drop_of_length_le (VP _),yK] at u8
  have OM:aI = ([],1):=by
   by_cases z:aI = ([],1)
   ·exact z
   ·rw [if_neg z] at u8; cases u8
  rw [if_pos OM] at u8
  cases u8
  refine ⟨_,rfl,aL (Wl _),fun o1 qJ=>?_⟩
  have s3:=ah (o:=.tup []) qJ
  refine ⟨aL (by show 2 <= _; decide),fun o2 lJ=>?_⟩
  have s4:=ah (o:=.tup [.ref o1,.int 1]) lJ
  have he:cj (L2.upd (L2.upd H2 o1 (.tup [])) o2 (.tup [.ref o1,.int 1])) o2 ([],1):=⟨o1,ae,s4 _ _ ae⟩
  have Sr:=qH aI
  refine ⟨dn aI,dn ([],1),(G9.mono (s3.trans s4)).dv,he.dv,ft _,ft _,by omega,_,rfl,?_⟩
  rw [qq,V0 OM]
  refine pd ?_
  refine ⟨_,rfl,_,rfl,rfl,?_⟩
  rw [V0 rfl]
  exact k _ (s2.trans (s3.trans s4))
def wa:Sp:=fun vs H Q _=>∃ (a b:Addr) (l:List aW),vs = [.ref a,.ref b] /\ LstAt dn H a l /\ LstAt dn H b l /\ l.length <= 1000 /\ (∀ x ∈ l,x.1.length <= 1000) /\ ∀ H',ak H H'->Q (.bl true) H'
theorem g6:av ["found","due","k"] ["found","due"] (am di):=fZ
theorem CA {f f1 f2:Addr} {fd eC kR:FuncData} (F:Fn K mg "_law_shut_right" di f fd ["found","due"]) (T:Txt K mg C Z) (bU:Fn K mg "_law_whole" cX f1 eC ["found"]) (mS:Fn K mg "_law_group" fc f2 kR ["found","due"]) :
  au P w K mg base br 3 f fd ["found","due"] wa:=by
 have fu:au P w K mg base br 1 f1 eC ["found"] nr:=p6 bU T
 have t9:au P w K mg base br 2 f2 kR ["found","due"] sv:=A5 mS T bU
 refine F.fn.ok g6 (fun vs H Q E h=>?_) (fun cm A outer s H vs Q E hr h=>?_)
 ·obtain ⟨a,b,l,rfl,_⟩:=h
  rfl
 ·obtain ⟨a,b,l,rfl,⟨va,ha,da⟩,⟨vb,hb,db⟩,hl,hg,k⟩:=h
  have hu:=hr.units
  have la:=az da
  have lb:=az db
  refine ⟨_,(ag (bE (aC m8 (aA aB (by rfl) T.cH Wv (aa (pv 0) af)) (aA aB (by rfl) T.cH Wv (aa (pv 1) af)) (a6 _))
   (aj (aD fh))
   aQ)
   (ag (cU WA rfl (c8 (by rfl) T.eF (aa (aA aB (by rfl) T.cH Wv (aa (pv 1) af)) af)) (gn 2 g6.nd)
   (ag (bE (PW.pt (pw_or (dW (cG (aA du (by rfl) T.cV Ym (aa (aE cE (pv 0) (pv 2) (fun _ _=>rfl)) (aa (jg (v:=.ty "tuple") (by rfl) T.cW Xz rfl) af))))) (pw_or (aC (Dp hu) (aE cE (pv 0) (pv 2) (fun _ _=>rfl)) (aE cE (pv 1) (pv 2) (fun _ _=>rfl)) (a6 _)) (pw_or1 (dW (cG (cl t9 mS hr aF (aa (aE aM (aE cE (pv 0) (pv 2) (fun _ _=>rfl)) ai (fun _ _=>rfl)) (aa (aE aM (aE cE (pv 1) (pv 2) (fun _ _=>rfl)) ai (fun _ _=>rfl)) af)))))))))
   (aj (aD fh))
   aQ)
   (aj (bE (dW (cG (cl fu bU hr aF (aa (aE aM (aE cE (pv 0) (pv 2) (fun _ _=>rfl)) ai (fun _ _=>rfl)) af))))
   (aj (aD fh))
   aQ))))
   (aj (aD fh)))),?_⟩
  refine ⟨_,rfl,a,_,rfl,.inl (aZ.of ha),_,rfl,b,_,rfl,.inl (aZ.of hb),rfl,_,rfl,?_⟩
  rw [la,lb]
  refine BS rfl ?_
  refine ⟨_,rfl,b,_,rfl,.inl (aZ.of hb),_,rfl,by omega,by omega,?_⟩
  rw [WS,lb]
  refine kL (n:=l.length) (fun i σ H'=>ak H H' /\ ∃ v,σ = [some (.ref a),some (.ref b),v]) ⟨ak.refl H,_,rfl⟩ ?_ ?_
  ·rintro i σ H1 hi ⟨sm,v,rfl⟩
   have il:i < l.length:=hi
   have e1:((0:Int) + (i:Int)) = (i:Int):=by omega
   obtain ⟨x,hx,dx⟩:=(da.mono sm).get (i:=i) (d:=dn l[i]) (by rw [V3,VS il]; rfl)
   obtain ⟨y,hy,dy⟩:=(db.mono sm).get (i:=i) (d:=dn l[i]) (by rw [V3,VS il]; rfl)
   have lg:=hg _ (Xn il)
   generalize l[i] = st at dx dy lg
   obtain ⟨o,rfl,g1,ho,QZ⟩:=cD dx
   obtain ⟨o',rfl,g2,lP,Nn⟩:=cD dy
   have Sr:=qH st
   have ax:yX va ((0:Int) + (i:Int)) = some (.ref o):=by rw [e1]; exact fg hx
   have ay:yX vb ((0:Int) + (i:Int)) = some (.ref o'):=by rw [e1]; exact fg hy
   have sa:=aZ.of (K:=K) (sm _ _ ha)
   have sb:=aZ.of (K:=K) (sm _ _ hb)
   refine ⟨_,rfl,_,rfl,a,_,_,_,rfl,rfl,sa,ax,_,_,_,_,rfl,.tup ho,gp _ _,_,rfl,dm ?_⟩
   refine ⟨_,rfl,_,rfl,a,_,_,_,rfl,rfl,sa,ax,_,rfl,_,rfl,b,_,_,_,rfl,rfl,sb,ay,dn st,dn st,dx,dy,ft _,ft _,by omega,_,rfl,?_⟩
   rw [qq,V0 rfl]
   refine dm ?_
   refine ⟨_,rfl,_,rfl,a,_,_,_,rfl,rfl,sa,ax,o,_,_,_,rfl,rfl,a7.of ho,kZ,_,rfl,_,rfl,b,_,_,_,rfl,rfl,sb,ay,o',_,_,_,rfl,rfl,a7.of lP,kZ,g1,g2,st.1,rfl,QZ,Nn,lg,fun H2 s2=>⟨_,rfl,dm ?_⟩⟩
   refine ⟨_,rfl,_,rfl,a,_,_,_,rfl,rfl,s2.seq sa,ax,o,_,_,_,rfl,rfl,a7.of (s2 _ _ ho),k7,_,rfl,_,rfl,dm ?_⟩
   exact ⟨sm.trans s2,_,rfl⟩
  ·rintro σ H1 ⟨sm,v,rfl⟩
   exact k H1 sm
end
structure All (K:Yt) (mg:Str->Option Value) (C:Addr) (fs:Nat->Addr) (ds:Nat->FuncData):Prop where
 tP:Fn K mg "check_things" dB (fs 21) (ds 21) ["things"]
 xE:Fn K mg "check_room" fm (fs 22) (ds 22) ["room"]
 EY:Fn K mg "is_pair" gM (fs 23) (ds 23) ["one","other","count"]
 AM:Fn K mg "is_keeper" eS (fs 24) (ds 24) ["keeper","one","other","count"]
 qr:Fn K mg "check_quarrels" cP (fs 25) (ds 25) ["quarrels","count"]
 init:Mt K "__init__" "Night.__init__" dQ (fs 26) (ds 26) ["self","things","room","quarrels"]
 uT:Fn K mg "_law_cell_at" cc (fs 28) (ds 28) ["script","k"]
 whole:Fn K mg "_law_whole" cX (fs 29) (ds 29) ["found"]
 Em:Fn K mg "_law_quarrel" cL (fs 30) (ds 30) ["cell","many"]
 AX:Fn K mg "_law_quarrels" c6 (fs 31) (ds 31) ["script","start","many"]
 EN:Fn K mg "_law_things" dZ (fs 32) (ds 32) ["script","start","many"]
 night:Fn K mg "_law_night" dM (fs 33) (ds 33) ["script","most"]
 group:Fn K mg "_law_group" fc (fs 34) (ds 34) ["found","due"]
 vB:Fn K mg "_law_minutes" cK (fs 35) (ds 35) ["things","crew"]
 jf:Fn K mg "_law_standings" bY (fs 36) (ds 36) ["quarrels","many"]
 vz:Fn K mg "_law_heights" cI (fs 37) (ds 37) ["things","room","quarrels"]
 Ge:Fn K mg "_law_come_to" fA (fs 38) (ds 38) ["night","standing"]
 F0:Fn K mg "_law_plan_right" dj (fs 39) (ds 39) ["plan","night","standing","height"]
 Gx:Fn K mg "_law_shut_right" di (fs 40) (ds 40) ["found","due"]
 AJ:Fn K mg "plan_from" gc (fs 51) (ds 51) ["crossings","fewest","standing","end"]
 E8:Fn K mg "come_to" iW (fs 52) (ds 52) ["crossings","standing"]
 shortest:Fn K mg "shortest" jy (fs 53) (ds 53) ["night","standing"]
 lk:Lk K mg C fs ds
 lw:Lw K mg (fun i=>fs (i + 40)) (fun i=>ds (i + 40))
 lp:Lp K mg C fs ds
 EZ:Mk K C (fs 26)
theorem C8 {c:TT} {t u:TS} {D:Ends} {σ:L2.St} {H:Hp} (M:Bool->Hp->Prop) (hT:∀ H',M true H'->t D σ H') (hU:∀ H',M false H'->u D σ H')
  (h:(∀ b H',M b H'->if b = true then t D σ H' else u D σ H')->Hc c t u D σ H):Hc c t u D σ H:=h fun b H' m=>by
 cases b
 ·exact hU H' m
 ·exact hT H' m
section
variable {P:Program} {w:World} {K:Yt} {mg:Str->Option Value} {base:Heap} {C:Addr} {Z:Ad} {fs:Nat->Addr} {ds:Nat->FuncData}
def xB (K:Yt):Sp:=fun vs H Q _=>∃ (a:Addr) (ns:List Int),vs = [.ref a] /\ aZ K H a (ns.map V.int) /\ ns.length <= 63 /\ ∀ H',Q (.bl true) H'
theorem iC:av ["script","night","many","made","some","standing","known","turn","found"] ["script"] (am wP):=fZ
theorem Hi {f:Addr} {fd:FuncData} (F:Fn K mg "law" wP f fd ["script"]) (T:Txt K mg C Z) (L:All K mg C fs ds):au P w K mg base br 8 f fd ["script"] (xB K):=by
 have aN:=L.uT
 have tT:=L.night
 have pY:=L.vz
 have bL:=L.jf
 have rE:=L.Ge
 have nu:=L.F0
 have mP:=L.Gx
 have yr:=L.shortest
 have nV:=L.init
 have Fk:=L.EZ
 have aV:au P w K mg base br 1 _ _ ["script","k"] (gZ K):=i9 L.uT T
 have tQ:au P w K mg base br 3 _ _ ["script","most"] (vA K):=BO L.night T L.uT L.Em L.AX L.EN
 have pT:au P w K mg base br 4 _ _ ["things","room","quarrels"] (yN P w):=EC L.vz L.lw T L.jf L.vB
 have cJ:au P w K mg base br 3 _ _ ["quarrels","many"] ur:=xV L.jf L.lw T
 have qS:au P w K mg base br 4 _ _ ["night","standing"] (vH 6):=B8 L.Ge L.lw T L.jf
 have nA:au P w K mg base br 4 _ _ ["plan","night","standing","height"] (ve 6):=DC L.F0 T L.lw L.vB L.whole
 have mi:au P w K mg base br 3 _ _ ["found","due"] wa:=CA L.Gx T L.whole L.group
 have yo:au P w K mg base (zj P w) 7 _ _ ["night","standing"] (vF C Z):=B3 L.shortest L.lk L.lp T L.AJ L.E8
 have oj:au P w K mg base br 4 _ _ ["self","things","room","quarrels"] (yG C):=Fg L.init T L.lk.vk L.EY L.AM L.tP L.xE L.qr
 refine F.fn.ok iC (fun vs H Q E h=>?_) (fun cm A outer s H vs Q E hr h=>?_)
 ·obtain ⟨a,ns,rfl,_⟩:=h
  rfl
 obtain ⟨a,ns,rfl,hS,hlen,k⟩:=h
 have hu:=hr.units
 obtain ⟨tC,hC,rC⟩:∃ t,tN (bX P w K mg base ["script","night","many","made","some","standing","known","turn","found"] "law" wP f cm A outer s H E) ((cw wP).drop 6) t /\ ∀ (H1:Hp) (p pm so:Addr) (ls:V) (ts:List Th) (r:Int) (qs:List Qu) (st:aW),jQ H1 p 6 ts r qs->bB C H1 pm ts r qs->cj H1 so st->st ∈ bA qs ts.length ->
   t (bD Q) [some (.ref a),some (.ref p),some (.int ts.length),some (.ref pm),some ls,some (.ref so),none,none,none] H1:=by
  refine ⟨_,(ag (sn 6 iC.nd (cl pT pY hr aF (aa (aE aM (pv 1) ai (fun _ _=>rfl)) (aa (aE aM (pv 1) ai (fun _ _=>rfl)) (aa (aE aM (pv 1) ai (fun _ _=>rfl)) af)))))
   (ag (cU WA rfl (c8 (by rfl) T.eF (aa ai af)) (gn 7 iC.nd)
   (ag (sn 8 iC.nd (cl yo yr hr FO (aa (pv 3) (aa (pv 5) af))))
   (ag (bE (PW.pt (pw_or (dW (cG (aA du (by rfl) T.cV Ym (aa (pv 8) (aa (jg (v:=.ty "tuple") (by rfl) T.cW Xz rfl) af))))) (pw_or (aC m8 (aA aB (by rfl) T.cH Wv (aa (pv 8) af)) ai (a6 _)) (pw_or1 (dW (cG (aA du (by rfl) T.cV Ym (aa (aE aM (pv 8) ai (fun _ _=>rfl)) (aa (jg (v:=.ty "list") (by rfl) T.ut boot_list rfl) af)))))))))
   (aj (aD fh))
   aQ)
   (ag (bE (aC (IH (P:=P) (w:=w) rfl rfl hu) (pv 5) (pv 6) (by with_unfolding_all rfl))
   (aj (bE (PW.pt (pw_or (aC m8 (aE aM (pv 8) ai (fun _ _=>rfl)) oy (a6 _)) (pw_or1 (dW (cG (cl nA nu hr aF (aa (aE aM (pv 8) ai (fun _ _=>rfl)) (aa (pv 1) (aa (pv 5) (aa (aE (Ht (P:=P) (w:=w) rfl rfl hu) (pv 6) (pv 5) (fun _ _=>rfl)) af))))))))))
   (aj (aD fh))
   aQ))
   (aj (bE (PW.pt (pw_or (aC m8 (aE aM (pv 8) ai (fun _ _=>rfl)) oy (a6 _)) (pw_or1 (dW (cG (cl mi mP hr aF (aa (aE aM (pv 8) ai (fun _ _=>rfl)) (aa (cl qS rE hr aF (aa (pv 1) (aa (pv 5) af))) af))))))))
   (aj (aD fh))
   aQ)))
   (aj (cF (lj Xd XM XJ de (aE aM (pv 8) ai (fun _ _=>rfl)) (aa (bM (aa ai af)) af))))))))
   (aj (aD fh)))),fun H1 p pm so ls ts r qs st ND NA DG hm=>?_⟩
  have ok:=ND.t
  have h6:=ok.l6
  obtain ⟨MX,hG⟩:=dh hm
  have lst:=lI MX h6
  obtain ⟨ap,bq,hp,Fw,EA⟩:=id ND.ex
  refine ⟨_,rfl,p,_,_,_,rfl,rfl,a7.of hp,kZ,_,rfl,p,_,_,_,rfl,rfl,a7.of hp,k7,_,rfl,p,_,_,_,rfl,rfl,a7.of hp,at2,ap,bq,ts,r,qs,rfl,Fw,EA,ok,fun kd H2 g Lf s2 kn dw=>?_⟩
  refine ⟨2,rfl,by decide,by decide,kL (n:=(2:Int).toNat) (fun i σ H'=>ak H2 H' /\ ∃ v7 v8,σ = [some (.ref a),some (.ref p),some (.int ts.length),some (.ref pm),some ls,some (.ref so),some (.ref kd),v7,v8]) ⟨ak.refl _,_,_,rfl⟩ ?_ ?_⟩
  ·rintro i σ H3 hi ⟨s3,v7,v8,rfl⟩
   have nW:=s2.trans s3
   refine ⟨_,rfl,_,rfl,pm,so,ts,r,qs,st,rfl,NA.mono nW,ok,DG.mono nW,by omega,fun _ _ f2 O5=>⟨fun o l H4 ji v hl s4 ho hL hv u8 xm=>?_,fun o l H4 L hl s4 ho hL Jm Jn Ce=>?_⟩,(fun hn=>by rw [MX] at hn; cases hn),(fun _ hn=>by rw [hG] at hn; cases hn)⟩
   ·have u6:=nW.trans s4
    have xg:=s3.trans s4
    obtain ⟨vp,Jh,Oh⟩:=id hL
    have S2:=az Oh
    have LZ:Sh.lk g st = some v:=by rw [<- Dr O5 kn hm]; exact hv
    refine ⟨_,rfl,_,_,_,_,rfl,.tup ho,gp _ _,_,rfl,dm ?_⟩
    refine ⟨_,rfl,o,_,rfl,.inr (a7.of ho),rfl,_,rfl,dm ?_⟩
    refine ⟨_,rfl,o,_,_,_,rfl,rfl,a7.of ho,k7,_,_,_,_,rfl,.lst Jh,gp _ _,_,rfl,dm ?_⟩
    refine ⟨_,rfl,_,rfl,kd,so,st,iv g,rfl,rfl,DG.mono u6,(dw.mono xg).ds,_,rfl,?_⟩
    rw [dP,W6,LZ]
    refine pd ?_
    refine ⟨_,rfl,o,_,_,_,rfl,rfl,a7.of ho,kZ,rfl,_,rfl,BS rfl ?_⟩
    refine ⟨_,rfl,o,_,_,_,rfl,rfl,a7.of ho,k7,_,rfl,_,rfl,_,rfl,_,rfl,kd,so,st,iv g,.int v,rfl,rfl,DG.mono u6,(dw.mono xg).ds,by rw [dP,LZ]; rfl,l,p,so,ts,r,qs,st,ji,v,rfl,ND.mono u6,DG.mono u6,MX,hL,u8,fun H5 s5=>⟨_,rfl,dm ?_⟩⟩
    have JR:=s5 _ _ Jh
    refine ⟨_,rfl,o,_,_,_,rfl,rfl,a7.of (s5 _ _ ho),k7,.inl ⟨rfl,_,aZ.of JR⟩,aL (by show 1 <= _; decide),fun o6 J1=>?_⟩
    have s6:=ah (o:=.tup [.int 0]) J1
    refine ⟨l,vp,_,rfl,rfl,s6 _ _ JR,aO (by omega),?_⟩
    exact ⟨ao ((xg.trans s5).trans s6) (s3.free hl),_,_,rfl⟩
   ·have u6:=nW.trans s4
    have xg:=s3.trans s4
    obtain ⟨vp,Jh,Oh⟩:=id hL
    have S2:=az Oh
    have LZ:Sh.lk g st = none:=by rw [<- Dr O5 kn hm]; exact Ce
    have UJ:L.Nodup:=Jm.imp fun h e=>by rw [e,iQ] at h; cases h
    have lL:L.length <= 128:=VZ (Sh.sub_len UJ fun x hx=>eP hm ((Jn x).mp hx)) (gg qs h6)
    refine ⟨_,rfl,_,_,_,_,rfl,.tup ho,gp _ _,_,rfl,dm ?_⟩
    refine ⟨_,rfl,o,_,rfl,.inr (a7.of ho),rfl,_,rfl,dm ?_⟩
    refine ⟨_,rfl,o,_,_,_,rfl,rfl,a7.of ho,k7,_,_,_,_,rfl,.lst Jh,gp _ _,_,rfl,dm ?_⟩
    refine ⟨_,rfl,_,rfl,kd,so,st,iv g,rfl,rfl,DG.mono u6,(dw.mono xg).ds,_,rfl,?_⟩
    rw [dP,W6,LZ]
    refine dm ?_
    refine ⟨_,rfl,o,_,_,_,rfl,rfl,a7.of ho,kZ,rfl,_,rfl,BS rfl ?_⟩
    refine ⟨_,rfl,o,_,_,_,rfl,rfl,a7.of ho,k7,_,rfl,_,rfl,p,so,ts,r,qs,st,rfl,ND.mono u6,DG.mono u6,hm,fun l2 H5 Ql oC s5 P7 M0 Ob=>?_⟩
    have eL:Ql = L:=yu (lt:=fun a b=>aJ (sw a) (sw b)) (fun a=>iQ _) (fun h1 h2=>m5 h1 h2) M0 Jm fun x=>by rw [Ob,Jn]
    rw [eL] at P7
    refine ⟨l,l2,L,rfl,hL.mono s5,P7,by omega,(fun x hx=>by have:=lI (dh (eP hm ((Jn x).mp hx))).1 h6; omega),fun H6 s6=>⟨_,rfl,dm ?_⟩⟩
    have FF:=s5.trans s6
    have KI:=FF _ _ Jh
    refine ⟨_,rfl,o,_,_,_,rfl,rfl,a7.of (FF _ _ ho),k7,.inl ⟨rfl,_,aZ.of KI⟩,aL (by show 1 <= _; decide),fun o6 J1=>?_⟩
    have s7:=ah (o:=.tup [.int 0]) J1
    refine ⟨l,vp,_,rfl,rfl,s7 _ _ KI,aO (by omega),?_⟩
    exact ⟨ao ((xg.trans FF).trans s7) (s3.free hl),_,_,rfl⟩
  ·rintro σ H3 ⟨s3,v7,v8,rfl⟩
   exact k H3
 refine ⟨_,(ag (sn 1 iC.nd (cl tQ tT hr aF (aa (pv 0) (aa (bn fN ai (bu A0 (by rfl) T.FI boot_int (aa (fW iR (bn dC (cl aV aN hr aF (aa (pv 0) (aa ai af))) ai) ai (a6 _)) af))) af))))
   (ag (sn 2 iC.nd (aA aB (by rfl) T.cH Wv (aa (aE aM (pv 1) ai (fun _ _=>rfl)) af)))
   (ag (sn 3 iC.nd (EH Fk oj (hr.mono (by decide)) (by rfl) T.Fq nV.b .nil aF (aa (bu jv (by rfl) T.ut boot_list (aa (aE aM (pv 1) ai (fun _ _=>rfl)) af)) (aa (aE aM (pv 1) ai (fun _ _=>rfl)) (aa (bu jv (by rfl) T.ut boot_list (aa (aE aM (pv 1) ai (fun _ _=>rfl)) af)) af)))))
   (ag (sn 4 iC.nd (cl cJ bL hr aF (aa (aE aM (pv 1) ai (fun _ _=>rfl)) (aa (pv 2) af))))
   (ag (sn 5 iC.nd (bM (aa (bu (i0 rfl) (by rfl) T.cW Xz (aa (bu oG (by rfl) T.eF boot_range (aa (pv 2) af)) af)) (aa ai af))))
   (ag (bE (PW.pt (pw_or (aC iR (bn dC (cl aV aN hr aF (aa (pv 0) (aa ai af))) ai) ai (a6 _)) (pw_or1 (aC (kE hu) (pv 5) (pv 4) (by with_unfolding_all rfl)))))
   (ag (bE (aC iR (aA aB (by rfl) T.cH Wv (aa (pv 4) af)) ai (a6 _))
   (aj (aD fh))
   aQ)
   (aj (sn 5 iC.nd (aE cE (pv 4) (bn dC (cl aV aN hr aF (aa (pv 0) (aa ai af))) (aA aB (by rfl) T.cH Wv (aa (pv 4) af))) (fun _ _=>rfl)))))
   aQ)
   hC)))))),?_⟩
 refine ⟨_,rfl,_,rfl,a,ns,18,rfl,hS,_,_,rfl,rfl,(by show (0:Int) < 8; decide),rfl,.inr ⟨_,rfl,_,_,rfl,rfl,?_⟩⟩
 generalize decide (V.int (ns.getD 18 0 % 8) = V.int 1) = bb
 obtain ⟨m,Ur,m1,m6⟩:∃ m:Nat,((5:Int) + if bb = true then 1 else 0) = (m:Int) /\ 1 <= m /\ m <= 6:=by
  cases bb
  ·exact ⟨5,rfl,by decide,by decide⟩
  ·exact ⟨6,rfl,by decide,by decide⟩
 refine ⟨a,ns,m,by rw [<- Ur]; rfl,hS,m1,m6,fun ts r qs p H1 Jc q4 s1=>?_⟩
 have ND:jQ H1 p 6 ts r qs:=⟨Jc.t,Jc.t.l6,Jc.r1,Jc.r3,Jc.q,Jc.ex⟩
 have ok:=ND.t
 have l6:=ok.l6
 obtain ⟨ap,bq,hp,Fw,EA⟩:=id ND.ex
 obtain ⟨vt,ht,dt⟩:=id Fw
 obtain ⟨vq,hq,dq⟩:=id EA
 have ct:=az dt
 refine ⟨_,rfl,p,_,_,_,rfl,rfl,a7.of hp,kZ,ap,_,rfl,.inl (aZ.of ht),?_⟩
 rw [ct]
 refine ⟨_,rfl,p,_,_,_,rfl,rfl,a7.of hp,kZ,ap,_,rfl,.inl (aZ.of ht),fun l0 xh=>?_⟩
 have s2:ak H1 (L2.upd H1 l0 (.lst vt)):=ah xh
 have e0:(L2.upd H1 l0 (.lst vt)) l0 = some (.lst vt):=ae
 generalize L2.upd H1 l0 (.lst vt) = H2 at s2 e0 ⊢
 refine ⟨_,rfl,p,_,_,_,rfl,rfl,a7.of (s2 _ _ hp),k7,_,rfl,p,_,_,_,rfl,rfl,a7.of (s2 _ _ hp),at2,bq,_,rfl,.inl (aZ.of (s2 _ _ hq)),fun l1 Bf=>?_⟩
 have s3:ak H2 (L2.upd H2 l1 (.lst vq)):=ah Bf
 have e1:(L2.upd H2 l1 (.lst vq)) l1 = some (.lst vq):=ae
 generalize L2.upd H2 l1 (.lst vq) = H3 at s3 e1 ⊢
 have nW:=s2.trans s3
 refine fun pm dx nx QL VJ=>?_
 have Lu:ak H3 (L2.upd (L2.upd H3 dx (.own pm)) pm (.ins C dx [])):=ao (ah QL) nx
 have st:=nW.trans Lu
 refine ⟨pm,dx,l0,l1,ts,r,qs,rfl,ae,⟨vt,Lu _ _ (s3 _ _ e0),dt.mono st⟩,ok,ND.r1,ND.r3,⟨vq,Lu _ _ e1,dq.mono st⟩,by omega,ND.q,fun H4 NA kp=>⟨rfl,?_⟩⟩
 have s4:ak H3 H4:=fun b o e=>kp b o (Lu b o e) (aG e nx)
 have u6:=nW.trans s4
 refine ⟨_,rfl,p,_,_,_,rfl,rfl,a7.of (u6 _ _ hp),at2,_,rfl,bq,qs,ts.length,rfl,EA.mono u6,l6,fun ls H5 Jb s5 hL=>?_⟩
 have u4:=u6.trans s5
 obtain ⟨vl,xJ,dl⟩:=hL
 have lvl:=az dl
 refine ⟨_,rfl,_,rfl,fun l2 oC=>?_⟩
 refine ⟨l2,ts.length,rfl,ae,by omega,fun g hg=>?_⟩
 have s6:ak H5 (L2.upd H5 l2 (.DB 0 (ts.length:Nat))):=ah oC
 generalize L2.upd H5 l2 (.DB 0 (ts.length:Nat)) = H6 at s6 hg ⊢
 have s7:ak H6 (L2.upd H6 g (.tup ((be ts.length).map V.int))):=ah hg
 have eg:(L2.upd H6 g (.tup ((be ts.length).map V.int))) g = some (.tup ((be ts.length).map V.int)):=ae
 generalize L2.upd H6 g (.tup ((be ts.length).map V.int)) = H7 at s7 eg ⊢
 refine ⟨aL (by show 2 <= _; decide),fun o ho=>?_⟩
 have s8:ak H7 (L2.upd H7 o (.tup [.ref g,.int 0])):=ah ho
 have OG:cj (L2.upd H7 o (.tup [.ref g,.int 0])) o (be ts.length,0):=⟨g,ae,s8 _ _ eg⟩
 generalize L2.upd H7 o (.tup [.ref g,.int 0]) = H8 at s8 OG ⊢
 have AW:=s6.trans (s7.trans s8)
 have CY:=s5.trans AW
 have Pw:=ND.mono (u4.trans AW)
 have Pq:=NA.mono CY
 have OX:=((s1.trans u4).trans AW).seq hS
 have EU:=AW _ _ xJ
 have PD:=dl.mono AW
 have Vh:=qH (be ts.length,0)
 dsimp only [sX]
 refine C8 (fun b H'=>H' = H8 /\ (b = false->(be ts.length,(0:Int)) ∈ bA qs ts.length)) (fun H' hM=>?_) (fun H' hM=>?_) (fun fin=>?_)
 ·obtain ⟨rfl,_⟩:=hM
  refine ⟨_,rfl,ls,_,rfl,.inl (aZ.of EU),rfl,_,rfl,?_⟩
  refine bF (fun h1=>?_) (fun h1=>?_)
  ·exact k _
  ·have Hn:0 < vl.length:=by
    rcases Nat.eq_zero_or_pos vl.length with z | z
    ·have c9:decide (V.int (vl.length:Int) = V.int 0) = false:=h1
     rw [z] at c9
     exact absurd c9 (by decide)
    ·exact z
   refine ⟨_,rfl,_,rfl,a,ns,17,rfl,OX,_,rfl,ls,_,rfl,.inl (aZ.of EU),_,_,rfl,rfl,by omega,?_⟩
   generalize ns.getD 17 0 = cell
   have c0:=Yo cell (show (vl.length:Int) ≠ 0 by omega)
   have c1:=XU cell (show (0:Int) < (vl.length:Int) by omega)
   obtain ⟨y,hy,GV⟩:=uS (xs:=vl) c0 c1
   obtain ⟨j,hj⟩:=X1.mp hy
   obtain ⟨DK,Ai,Ow⟩:=bi PD hj
   obtain ⟨b2,rfl,B2⟩:=cD Ow
   refine ⟨ls,_,_,_,rfl,rfl,aZ.of EU,GV,?_⟩
   exact rC H' p pm b2 _ ts r qs DK Pw Pq B2 (Wm Ai)
 ·obtain ⟨rfl,oU⟩:=hM
  exact rC H' p pm o _ ts r qs _ Pw Pq OG (oU rfl)
 ·refine ⟨_,rfl,a,ns,16,rfl,OX,_,_,rfl,rfl,(by show (0:Int) < 3; decide),rfl,_,rfl,?_⟩
  refine bF (fun h1=>fin true H8 ⟨rfl,fun z=>by cases z⟩) (fun h1=>?_)
  refine ⟨_,rfl,_,rfl,dn (be ts.length,0),(bA qs ts.length).map dn,OG.dv,.inl (.lst EU PD),ft _,eJ ft _,by omega,_,rfl,?_⟩
  rw [um]
  refine fin _ H8 ⟨rfl,fun z=>?_⟩
  have z':(!decide ((be ts.length,(0:Int)) ∈ bA qs ts.length)) = false:=z
  by_cases y:(be ts.length,(0:Int)) ∈ bA qs ts.length
  ·exact y
  ·rw [We y] at z'; cases z'
end
open PySem L2
theorem HJ {K:Yt} {D:Addr} {v:Value} (h:PySem.W.mroIn K D v = some true):(PySem.W.clsIn K D).isSome = true:=by
 unfold PySem.W.mroIn at h
 cases e:PySem.W.clsIn K D with
 | none=>rw [e] at h; cases h
 | some c=>rfl
theorem na {K:Yt} {C:Addr} {x:Str} (a:PySem.W.findIn K (.ref C) x = some none:=by k_is):iJ K C x:=a
section
variable {K:Yt} {h:Heap} {mg:Str->Option Value} (X:K.In h) (G:h.Ns mainGlobals mg)
include X G
abbrev NI {E:Addr} (_:mg "FerryError" = some (.ref E)):Addr:=E
theorem nn {x:Str} (a:PySem.W.nsIn K mainGlobals x = some none:=by k_is):mg x = none:=PySem.W.mg_none_of X G a
theorem gl (x:Str) {D:Addr} (a:PySem.W.nsIn K mainGlobals x = some (some (.ref D)):=by k_is):mg x = some (.ref D):=Yi X G a
theorem Bs (x:Str) {D:Addr} (a:PySem.W.nsIn K mainGlobals x = some (some (.ref D)):=by k_is):∃ D,mg x = some (.ref D):=⟨D,Yi X G a⟩
theorem wU (x:Str) (i:Int) {k:Tok} (a:PySem.W.nsIn K mainGlobals x = some (some (.int i k)):=by k_is):∃ k,mg x = some (.int i k):=⟨k,Yi X G a⟩
theorem Lg (x:Str) {D:Addr} {d:Option Addr} {t0 t1:Tok} {n:Nat} {sl:Array (Option Value)} (a:PySem.W.nsIn K mainGlobals x = some (some (.ref D)):=by k_is) (l:K.lookup D = some ⟨.type "tuple",d,.seq #[.int 0 t0,.int 1 t1] n,sl⟩:=by k_is):∃ D,mg x = some (.ref D) /\ ∀ H,a7 K H D [.int 0,.int 1] :=
 ⟨D,Yi X G a,fun H=>.inr ⟨_,_,_,l,rfl,rfl,by show 2 <= sizeLine; decide,.cons ⟨_,rfl⟩ (.cons ⟨_,rfl⟩ .nil)⟩⟩
theorem bd (x:Str) (st:Stmt) (ps:List Str) {f:Addr} {oc:Value} {od an:Option Addr} {sl:Array (Option Value)} {kV dc pm cd ct:Value} (a:PySem.W.nsIn K mainGlobals x = some (some (.ref f)):=by k_is)
  (l:K.lookup f = some ⟨oc,od,.func (PySem.W.fnOf x x (fR st) (cw st) (am st) .none kV dc pm an cd ct),sl⟩:=by k_is) (c:PySem.W.codeIn K cd x = true:=by k_is) (k:PySem.W.keepIn K (.ref f) = true:=by k_is)
  (b:∀ (kV dc pm:Value) (an:Option Addr) (cd ct:Value) (us:List Value),us.length = ps.length->bindArgs (PySem.W.fnOf x x (fR st) (cw st) (am st) .none kV dc pm an cd ct) ⟨us,[]⟩ = pure (ps.zip us):=by
   intro _ _ _ _ _ _ us hl; rcases us with _ | ⟨_,_ | ⟨_,_ | ⟨_,_ | ⟨_,_ | ⟨_,_⟩⟩⟩⟩⟩ <;> first | rfl | cases hl):∃ f fd,Fn K mg x st f fd ps:=⟨f,_,nX l c k,(nX l c k).binds b,Yi X G a⟩
omit G in
theorem tf {C:Addr} (_:mg "Night" = some (.ref C)) (x y:Str) (st:Stmt) (ps:List Str) {f:Addr} {oc:Value} {od an:Option Addr} {sl:Array (Option Value)} {kV dc pm cd ct:Value} (a:PySem.W.findIn K (.ref C) x = some (some (.ref f)):=by k_is) (i:PySem.W.isFn K (.ref f) = true:=by k_is)
  (l:K.lookup f = some ⟨oc,od,.func (PySem.W.fnOf x y (fR st) (cw st) (am st) .none kV dc pm an cd ct),sl⟩:=by k_is) (c:PySem.W.codeIn K cd y = true:=by k_is) (k:PySem.W.keepIn K (.ref f) = true:=by k_is)
  (b:∀ (kV dc pm:Value) (an:Option Addr) (cd ct:Value) (us:List Value),us.length = ps.length->bindArgs (PySem.W.fnOf x y (fR st) (cw st) (am st) .none kV dc pm an cd ct) ⟨us,[]⟩ = pure (ps.zip us):=by
   intro _ _ _ _ _ _ us hl; rcases us with _ | ⟨_,_ | ⟨_,_ | ⟨_,_ | ⟨_,_ | ⟨_,_⟩⟩⟩⟩⟩ <;> first | rfl | cases hl):∃ f fd,Mt K x y st f fd ps /\ Meth K C x f:=⟨f,_,⟨nX l c k,(nX l c k).binds b⟩,a,i,k⟩
theorem FL {E:Addr} (_:mg "FerryError" = some (.ref E)) (x:Str) {D:Addr} (a:PySem.W.nsIn K mainGlobals x = some (some (.ref D)):=by k_is) (e1:PySem.W.excIn K D L9 "ValueError.__new__" = true:=by k_exc) (e2:PySem.W.findIn K (.ref D) "__getattribute__" = some (some (.builtin "BaseException.__getattribute__")):=by k_is)
  (e3:PySem.W.findIn K (.ref D) "__getattr__" = some none:=by k_is) (e4:PySem.W.findIn K (.ref D) "__class__" = some (some (.builtin "object.__class__")):=by k_is) (gt:PySem.W.specialIn K (.builtin "object.__class__") "__get__" = some (some (.builtin "getset_descriptor.__get__")):=by k_is)
  (tk:PySem.W.takesIn K (.builtin "object.__class__") = some true:=by k_is) (e5:PySem.W.mroIn K D (.type "object") = some true:=by k_is) (e6:PySem.W.mroIn K D (.type "BaseException") = some true:=by k_is) (e8:PySem.W.exmOne K (.ref D) (.ref E) = some true:=by kts_exm)
  (e9:PySem.W.kitOne K (.ref D) (.type "ValueError") = some true:=by kit_is):∃ D,∀ Z:Ad,Z.lK = E->Ref K mg Z x D:=⟨D,fun Z hZ=>⟨Yi X G a,e1,⟨e2,e3,e4,gt,tk,e5,e6,HJ e5⟩,by rw [hZ]; exact e8,e9⟩⟩
theorem KF (x:Str) (st:Stmt) {f:Addr} {oc:Value} {od an:Option Addr} {sl:Array (Option Value)} {kV dc pm cd ct:Value} (a:PySem.W.nsIn K mainGlobals x = some (some (.ref f)):=by k_is)
  (l:K.lookup f = some ⟨oc,od,.func (PySem.W.fnOf x x (fR st) (cw st) (am st) .none kV dc pm an cd ct),sl⟩:=by k_is) (c:PySem.W.codeIn K cd x = true:=by k_is) (k:PySem.W.keepIn K (.ref f) = true:=by k_is)
  (b:∀ (kV dc pm:Value) (an:Option Addr) (cd ct:Value) (us:List Value),us.length = 1->bindArgs (PySem.W.fnOf x x (fR st) (cw st) (am st) .none kV dc pm an cd ct) ⟨us,[]⟩ = pure ((["script"]:List Str).zip us):=by
   intro _ _ _ _ _ _ us hl; rcases us with _ | ⟨_,_ | ⟨_,_⟩⟩ <;> first | rfl | cases hl):∃ f fd,Fn K mg x st f fd ["script"] /\ ∀ (s:Shared) (v:Value),BindsTo s fd ⟨[v],[]⟩ [("script",v)]:=⟨f,_,⟨nX l c k,(nX l c k).binds b,Yi X G a⟩,fun s v=>.of_eq (b _ _ _ _ _ _ [v] rfl)⟩
end
theorem walk {l:PySem.W.OpenLaw} {q:Program} {loose:List Str} {XP:(Str->Option Value)->Heap->Prop} {YP:World->Heap->Prop} {d:DefRec} {K:Params->Yt} (hn:l.most = some 63) (KN:d.params.defaults = [])
  (hY:∀ (w:World) (h:Heap),YP w h->(K w.params).In h)
  (F:∀ (w:World) (mg:Str->Option Value) (fa:Addr) (h:Heap),(K w.params).In h->h.Ns mainGlobals mg->mg d.name = some (.ref fa) ->
   ∃ fd:FuncData,(∀ (s:Shared) (u:Value),BindsTo s fd ⟨[u],[]⟩ [("script",u)]) /\ ∀ base:Heap,(K w.params).In base->base.Ns mainGlobals mg->au l.prog w (K w.params) mg base br 8 fa fd ["script"] (xB (K w.params))) :
  PySem.W.WalkO q loose XP YP l.row.toRowW d [] (fun f vs=>PySem.call f vs) :=
 L2.Ek (n:=63) (k:=8) (x:="script") (CX:=fun _=>br) (sp:=fun w=>xB (K w.params)) hn (by decide) KN ⟨rfl,by decide,by decide⟩ hY F (fun _ _ a ns hl _ hS=>⟨a,ns,rfl,hS,hl,fun _=>rfl⟩) fun _ _ _ _ _ z=>z
end FN
def PySem.W.Fast.tw154386739766263361:Unit:=()
def PySem.W.Fast.tw898644709097097122:Unit:=()
def PySem.W.Fast.tw5111746988105202980:Unit:=()
def PySem.W.Fast.tw16968548456105130980:Unit:=()
def PySem.W.Fast.tw9432804016523254214:Unit:=()
def PySem.W.Fast.tw15932726336345983467:Unit:=()
def PySem.W.Fast.tw3710986771597224752:Unit:=()
def PySem.W.Fast.tw7779678556004307793:Unit:=()
def PySem.W.Fast.tw2012423235838250036:Unit:=()
def PySem.W.Fast.tw13437669794661837876:Unit:=()
def PySem.W.Fast.tw2995169549021144567:Unit:=()
def PySem.W.Fast.tw3097589170245051287:Unit:=()
def PySem.W.Fast.tw4729922519045360827:Unit:=()
def PySem.W.Fast.tw10563749617362715227:Unit:=()
def PySem.W.Fast.tw8271463803546042300:Unit:=()
def PySem.W.Fast.tw1416848112764928957:Unit:=()
def PySem.W.Fast.tw2398997039892053406:Unit:=()
def PySem.W.Fast.tw3868003756097423343:Unit:=()
def PySem.W.Fast.tw14438411544474170252:Unit:=()
def PySem.W.Fast.tw5381565178287783664:Unit:=()
def PySem.W.Fast.tw14431864343142974223:Unit:=()
def PySem.W.Fast.tw1158553958461732502:Unit:=()
def PySem.W.Fast.tw98454047060111644:Unit:=()
def PySem.W.Fast.tw10010779782756783469:Unit:=()
def PySem.W.Fast.tw3535224711796560152:Unit:=()
def PySem.W.Fast.tw12218802209336037122:Unit:=()
def PySem.W.Fast.tw9504013340153069856:Unit:=()
def PySem.W.Fast.tw6141570883099144273:Unit:=()
def PySem.W.Fast.tw18110160913525445724:Unit:=()
def PySem.W.Fast.tw17905299266181577923:Unit:=()
def PySem.W.Fast.tw2062888384515752818:Unit:=()
def PySem.W.Fast.tw10889929216133577190:Unit:=()
def PySem.W.Fast.tw15655051405422043332:Unit:=()
def PySem.W.Fast.tw2666755924990305324:Unit:=()
def PySem.W.Fast.tw17280879607035805011:Unit:=()
def PySem.W.Fast.tw16655891164983915600:Unit:=()
def PySem.W.Fast.tw14424150796692069804:Unit:=()
def PySem.W.Fast.tw2625527529292727533:Unit:=()
def PySem.W.Fast.tw14942248559900114538:Unit:=()
def PySem.W.Fast.tw5135132838617790783:Unit:=()
def PySem.W.Fast.tw13590496074979724447:Unit:=()
def PySem.W.Fast.tw7100016068439545917:Unit:=()
def PySem.W.Fast.tw14865094905767566408:Unit:=()
def PySem.W.Fast.tw2470499660044748537:Unit:=()
def PySem.W.Fast.tw4741547013367775680:Unit:=()
def PySem.W.Fast.tw7530764677189204046:Unit:=()
def PySem.W.Fast.tw12693292605301658741:Unit:=()
def PySem.W.Fast.tw11792008397198455507:Unit:=()
def PySem.W.Fast.tw11603161664936229455:Unit:=()
def PySem.W.Fast.tw5256462965076559982:Unit:=()
def PySem.W.Fast.tw11774124813808594816:Unit:=()
def PySem.W.Fast.tw15639311938808037068:Unit:=()
def PySem.W.Fast.tw10656375212724736626:Unit:=()
def PySem.W.Fast.tw10626801388521383990:Unit:=()
def PySem.W.Fast.tw5384249720871616907:Unit:=()
def PySem.W.Fast.tw3071507580653638749:Unit:=()
def PySem.W.Fast.tw12659763412375555998:Unit:=()
def PySem.W.Fast.tw2660455987959691160:Unit:=()
def PySem.W.Fast.tw8777492173581001042:Unit:=()
def PySem.W.Fast.tw2174127560543012782:Unit:=()
def PySem.W.Fast.tw9254799769394592295:Unit:=()
def PySem.W.Fast.tw13476941011415105801:Unit:=()
def PySem.W.Fast.tw13496762124642942277:Unit:=()
def PySem.W.Fast.tw11886568067035179857:Unit:=()
def PySem.W.Fast.tw1401329103017028711:Unit:=()
def PySem.W.Fast.tw8372065339556043641:Unit:=()
def PySem.W.Fast.tw9854840615911466615:Unit:=()
def PySem.W.Fast.tw17346896976790083119:Unit:=()
def PySem.W.Fast.tw1138405097285435087:Unit:=()
def PySem.W.Fast.tw14649454634891109258:Unit:=()
def PySem.W.Fast.tw9930247176496330941:Unit:=()
def PySem.W.Fast.tw6868447960978337229:Unit:=()
def PySem.W.Fast.tw6283407422128131783:Unit:=()
def PySem.W.Fast.tw8974951522148137842:Unit:=()
def PySem.W.Fast.tw319536122458194334:Unit:=()
def PySem.W.Fast.tw1968237994309892346:Unit:=()
def PySem.W.Fast.tw10786188124922103084:Unit:=()
def PySem.W.Fast.tw7237365908295531965:Unit:=()
def PySem.W.Fast.tw9101783460625650793:Unit:=()
def PySem.W.Fast.tw14021523030683585993:Unit:=()
def PySem.W.Fast.tw2481531856418082987:Unit:=()
def PySem.W.Fast.tw12144483218409416401:Unit:=()
def PySem.W.Fast.tw5169004483952767460:Unit:=()
def PySem.W.Fast.tw17523114954560204587:Unit:=()
def PySem.W.Fast.tw5303959906527154723:Unit:=()
def PySem.W.Fast.tw1005245128610638995:Unit:=()
def PySem.W.Fast.tw11162052837239130883:Unit:=()
def PySem.W.Fast.tw2585335631600046971:Unit:=()
def PySem.W.Fast.tw8645716414651170310:Unit:=()
def PySem.W.Fast.tw16742040203559545598:Unit:=()
def PySem.W.Fast.tw7395795398995929385:Unit:=()
def PySem.W.Fast.tw7687237151562556718:Unit:=()
def PySem.W.Fast.tw16878244362951583441:Unit:=()
def PySem.W.Fast.tw14786160811585742547:Unit:=()
def PySem.W.Fast.tw5633534069584176178:Unit:=()
def PySem.W.Fast.tw7261013552867681777:Unit:=()
def PySem.W.Fast.tw8732786577372707745:Unit:=()
def PySem.W.Fast.tw15489512792017682263:Unit:=()
def PySem.W.Fast.tw8113272428281463781:Unit:=()
def PySem.W.Fast.tw1152654948267644921:Unit:=()
def PySem.W.Fast.tw1220741393317268535:Unit:=()
def PySem.W.Fast.tw4362714418877027473:Unit:=()
def PySem.W.Fast.tw840929999650946403:Unit:=()
def PySem.W.Fast.tw266041713531958995:Unit:=()
def PySem.W.Fast.tw9315835540963979279:Unit:=()
def PySem.W.Fast.tw4433748562496585624:Unit:=()
def PySem.W.Fast.tw8188281989255559889:Unit:=()
def PySem.W.Fast.tw14597884687734244382:Unit:=()
def PySem.W.Fast.tw4072169648682110431:Unit:=()
def PySem.W.Fast.tw9295017035105096375:Unit:=()
def PySem.W.Fast.tw15388086150053259986:Unit:=()
def PySem.W.Fast.tw12714981116329891850:Unit:=()
def PySem.W.Fast.tw7181675716910001229:Unit:=()
def PySem.W.Fast.tw2323481283416624847:Unit:=()
def PySem.W.Fast.tw9987927478566157980:Unit:=()
def PySem.W.Fast.tw2338866069107018429:Unit:=()
def PySem.W.Fast.tw11267417980088759416:Unit:=()
def PySem.W.Fast.tw10854287005394073400:Unit:=()
def PySem.W.Fast.tw16592264155006009021:Unit:=()
def PySem.W.Fast.tw100837831746183334:Unit:=()
def PySem.W.Fast.tw15964363392472075604:Unit:=()
def PySem.W.Fast.tw3509282554723679703:Unit:=()
def PySem.W.Fast.tw9866820173185256833:Unit:=()
def PySem.W.Fast.tw4514116504351776864:Unit:=()
def PySem.W.Fast.tw7967002083950598418:Unit:=()
def PySem.W.Fast.tw7295810025244594266:Unit:=()
def PySem.W.Fast.tw13757874379096606116:Unit:=()
def PySem.W.Fast.tw4613459259262481318:Unit:=()
def PySem.W.Fast.tw2058592889898757704:Unit:=()
def PySem.W.Fast.tw162824267384967567:Unit:=()
def PySem.W.Fast.tw14144344465371407240:Unit:=()
def PySem.W.Fast.tw17050751840121227505:Unit:=()
def PySem.W.Fast.tw16073578050602400917:Unit:=()
def PySem.W.Fast.tw769768011926463665:Unit:=()
def PySem.W.Fast.tw16111808859434554863:Unit:=()
def PySem.W.Fast.tw6979775346896649413:Unit:=()
def PySem.W.Fast.tw3857728331341400460:Unit:=()
def PySem.W.Fast.tw7988272718591875239:Unit:=()
def PySem.W.Fast.tw5837248068264923890:Unit:=()
def PySem.W.Fast.tw9459067697584186053:Unit:=()
def PySem.W.Fast.tw3595657329553620953:Unit:=()
def PySem.W.Fast.tw4552176713795572617:Unit:=()
def PySem.W.Fast.tw9571169002325820827:Unit:=()
def PySem.W.Fast.tw11978602210058702313:Unit:=()
def PySem.W.Fast.tw17217560905302864165:Unit:=()
def PySem.W.Fast.tw17468493363601243007:Unit:=()
def PySem.W.Fast.tw7632485306214484824:Unit:=()
def PySem.W.Fast.tw5910054467343567212:Unit:=()
def PySem.W.Fast.tw10528578429108174824:Unit:=()
def PySem.W.Fast.tw4490243642088219858:Unit:=()
def PySem.W.Fast.tw10661469031983973114:Unit:=()
def PySem.W.Fast.tw5018649941065950804:Unit:=()
def PySem.W.Fast.tw9174779720701948123:Unit:=()
def PySem.W.Fast.tw9808884572169517300:Unit:=()
def PySem.W.Fast.tw5970895425442106635:Unit:=()
def PySem.W.Fast.tw8699747266983450935:Unit:=()
def PySem.W.Fast.tw6141294432110065143:Unit:=()
def PySem.W.Fast.tw1356784063977230592:Unit:=()
def PySem.W.Fast.tw12440733904358023232:Unit:=()
def PySem.W.Fast.tw10088040831327594156:Unit:=()
def PySem.W.Fast.tw2741143908538239317:Unit:=()
def PySem.W.Fast.tw15617531798498569856:Unit:=()
def PySem.W.Fast.tw7360198215393549406:Unit:=()
def PySem.W.Fast.tw13629694332433839625:Unit:=()
def PySem.W.Fast.tw12128569182217176631:Unit:=()
def PySem.W.Fast.tw8429589972928087730:Unit:=()
def PySem.W.Fast.tw17476835921683511253:Unit:=()
def PySem.W.Fast.tw6586377089995310577:Unit:=()
def PySem.W.Fast.tw2202405623896370572:Unit:=()
def PySem.W.Fast.tw17720749425177100133:Unit:=()
def PySem.W.Fast.tw17226208713332487501:Unit:=()
def PySem.W.Fast.tw1274554863673561761:Unit:=()
def PySem.W.Fast.tw3207521994421498801:Unit:=()
def PySem.W.Fast.tw257969720807037437:Unit:=()
def PySem.W.Fast.tw15757469629498580736:Unit:=()
def PySem.W.Fast.tw794717785567480536:Unit:=()
def PySem.W.Fast.tw15019245353577748967:Unit:=()
def PySem.W.Fast.tw7121210996760136833:Unit:=()
def PySem.W.Fast.tw17027323004635899654:Unit:=()
def PySem.W.Fast.tw7522840373816706290:Unit:=()
def PySem.W.Fast.tw12780265757064164664:Unit:=()
def PySem.W.Fast.tw10785449614999198948:Unit:=()
def PySem.W.Fast.tw12026570860662929363:Unit:=()
def PySem.W.Fast.tw9921341910310065756:Unit:=()
def PySem.W.Fast.tw11344758448633544369:Unit:=()
def PySem.W.Fast.tw6571305795532313819:Unit:=()
def PySem.W.Fast.tw6437305403704085930:Unit:=()
def PySem.W.Fast.tw16649409115972965850:Unit:=()
def PySem.W.Fast.tw5736790021473580523:Unit:=()
def PySem.W.Fast.tw15775095600698206339:Unit:=()
def PySem.W.Fast.tw18009714639107081326:Unit:=()
def PySem.W.Fast.tw14288167143752890071:Unit:=()
def PySem.W.Fast.tw6204938084807888633:Unit:=()
def PySem.W.Fast.tw12091020010442500391:Unit:=()
def PySem.W.Fast.tw10210391890904709697:Unit:=()
def PySem.W.Fast.tw7579331652760575652:Unit:=()
def PySem.W.Fast.tw7066556323617053225:Unit:=()
def PySem.W.Fast.tw16867553034167441784:Unit:=()
def PySem.W.Fast.tw12099346025938054072:Unit:=()
def PySem.W.Fast.tw13025821046844143591:Unit:=()
def PySem.W.Fast.tw847736534604080374:Unit:=()
def PySem.W.Fast.tw7188689501280739591:Unit:=()
def PySem.W.Fast.tw7078718731418915560:Unit:=()
def PySem.W.Fast.tw3655974922679129789:Unit:=()
def PySem.W.Fast.tw15115869261103055675:Unit:=()
def PySem.W.Fast.tw16209838348107365643:Unit:=()
def PySem.W.Fast.tw4134727525473460188:Unit:=()
def PySem.W.Fast.tw2751965579018009652:Unit:=()
def PySem.W.Fast.tw2181642831837734067:Unit:=()
def PySem.W.Fast.tw10182428602457960183:Unit:=()
def PySem.W.Fast.tw7707029524865470562:Unit:=()
def PySem.W.Fast.tw5600698930613776593:Unit:=()
def PySem.W.Fast.tw1686644606971703294:Unit:=()
def PySem.W.Fast.tw10388330882252784974:Unit:=()
def PySem.W.Fast.tw1275988859507453557:Unit:=()
def PySem.W.Fast.tw8585183392294571778:Unit:=()
def PySem.W.Fast.tw5960911180423952414:Unit:=()
def PySem.W.Fast.tw17270903399455116513:Unit:=()
def PySem.W.Fast.tw5794646200599094556:Unit:=()
def PySem.W.Fast.tw5110375196705048545:Unit:=()
def PySem.W.Fast.tw4503163511953167189:Unit:=()
def PySem.W.Fast.tw12461117636993204463:Unit:=()
def PySem.W.Fast.tw17324285548777072182:Unit:=()
def PySem.W.Fast.tw14848855230631144401:Unit:=()
def PySem.W.Fast.tw10297512686273714365:Unit:=()
def PySem.W.Fast.tw14098007182118808300:Unit:=()
def PySem.W.Fast.tw11036619311740003861:Unit:=()
def PySem.W.Fast.tw9594336328781747990:Unit:=()
def PySem.W.Fast.tw26465345546895408:Unit:=()
def PySem.W.Fast.tw10734152667624505776:Unit:=()
def PySem.W.Fast.tw16415276749900416214:Unit:=()
def PySem.W.Fast.tw16357820446058073746:Unit:=()
def PySem.W.Fast.tw17449418015788300175:Unit:=()
def PySem.W.Fast.tw13450063253844490715:Unit:=()
def PySem.W.Fast.tw1030471593123663868:Unit:=()
def PySem.W.Fast.tw11942431283577094068:Unit:=()
def PySem.W.Fast.tw17450531214935516618:Unit:=()
open PySem PySem.W PyProof.Rows
set_option maxRecDepth 100000 in
set_option maxHeartbeats 0 in
theorem PySem.Challenge.cw_ferrynight_k06_whole_a_shortest_plan_or_holds : PySem.Challenge.rw_ferrynight_k06_whole_a_shortest_plan_or.Holds := by
 w_on; o_law; k_head; (case hw=>w_witness2)
 k_fill
 refine FN.walk (l:=PySem.Challenge.rw_ferrynight_k06_whole_a_shortest_plan_or) rfl rfl (fun w h Y=>PySem.W.kIn_of Y) ?F
 case F =>
  intro w mg fa h KX G K7
  have gC:=FN.gl KX G "Night"
  have gF:=FN.gl KX G "FerryError"
  obtain ⟨QJ,TY,U1⟩:=FN.bd KX G "check_things" FN.dB ["things"]
  obtain ⟨Tp,Qj,Rc⟩:=FN.bd KX G "check_room" FN.fm ["room"]
  obtain ⟨QA,Sl,UE⟩:=FN.bd KX G "is_pair" FN.gM ["one","other","count"]
  obtain ⟨Sv,Ui,UL⟩:=FN.bd KX G "is_keeper" FN.eS ["keeper","one","other","count"]
  obtain ⟨SX,RV,TZ⟩:=FN.bd KX G "check_quarrels" FN.cP ["quarrels","count"]
  obtain ⟨f4,d4,F4⟩:=FN.bd KX G "is_thing" FN.cT ["number","count"]
  obtain ⟨f5,d5,F5⟩:=FN.bd KX G "rises" FN.nD ["group"]
  obtain ⟨f6,d6,F6⟩:=FN.bd KX G "is_standing" FN.fV ["night","standing"]
  obtain ⟨f7,d7,F7⟩:=FN.bd KX G "other_bank" FN.fq ["night","group"]
  obtain ⟨f8,d8,F8⟩:=FN.bd KX G "is_good" FN.kP ["night","standing"]
  obtain ⟨f9,d9,F9⟩:=FN.bd KX G "check_standing" FN.fE ["night","standing"]
  obtain ⟨QK,S0,Qn⟩:=FN.bd KX G "check_start" FN.iD ["night","standing"]
  obtain ⟨Rl,So,Tf⟩:=FN.bd KX G "groups_of" FN.iq ["bank"]
  obtain ⟨RO,T9,Qq⟩:=FN.bd KX G "bank_of_boat" FN.g9 ["night","standing"]
  obtain ⟨QE,Tt,RL⟩:=FN.bd KX G "is_manned" FN.jP ["night","crew"]
  obtain ⟨UR,R5,U2⟩:=FN.bd KX G "crossed" FN.kO ["standing","crew"]
  obtain ⟨T6,U4,QY⟩:=FN.bd KX G "crews" FN.uX ["night","standing"]
  obtain ⟨Qy,Q4,Q9⟩:=FN.bd KX G "_law_cell_at" FN.cc ["script","k"]
  obtain ⟨Ry,UW,Uk⟩:=FN.bd KX G "_law_whole" FN.cX ["found"]
  obtain ⟨Tw,T5,Rr⟩:=FN.bd KX G "_law_quarrel" FN.cL ["cell","many"]
  obtain ⟨SQ,Rz,Rm⟩:=FN.bd KX G "_law_quarrels" FN.c6 ["script","start","many"]
  obtain ⟨S5,Sx,UH⟩:=FN.bd KX G "_law_things" FN.dZ ["script","start","many"]
  obtain ⟨Rg,SB,T0⟩:=FN.bd KX G "_law_night" FN.dM ["script","most"]
  obtain ⟨S4,QI,Qz⟩:=FN.bd KX G "_law_group" FN.fc ["found","due"]
  obtain ⟨RX,SN,Rp⟩:=FN.bd KX G "_law_minutes" FN.cK ["things","crew"]
  obtain ⟨Qv,U5,Rs⟩:=FN.bd KX G "_law_standings" FN.bY ["quarrels","many"]
  obtain ⟨SH,Ub,RC⟩:=FN.bd KX G "_law_heights" FN.cI ["things","room","quarrels"]
  obtain ⟨RA,UD,Uv⟩:=FN.bd KX G "_law_come_to" FN.fA ["night","standing"]
  obtain ⟨RU,TD,Uu⟩:=FN.bd KX G "_law_plan_right" FN.dj ["plan","night","standing","height"]
  obtain ⟨Ut,Ud,TL⟩:=FN.bd KX G "_law_shut_right" FN.di ["found","due"]
  obtain ⟨S8,Q2,Us⟩:=FN.bd KX G "plan_from" FN.gc ["crossings","fewest","standing","end"]
  obtain ⟨Ss,SL,R4⟩:=FN.bd KX G "come_to" FN.iW ["crossings","standing"]
  obtain ⟨UG,Qw,Tv⟩:=FN.bd KX G "shortest" FN.jy ["night","standing"]
  obtain ⟨Qm,Ue,TC⟩:=FN.bd KX G "minutes" FN.kI ["night","crew"]
  obtain ⟨SG,Uw,TF⟩:=FN.bd KX G "by_side" FN.gP ["standing"]
  obtain ⟨QM,TB,RQ⟩:=FN.bd KX G "good_standings" FN.dL ["night"]
  obtain ⟨Ro,QB,RY⟩:=FN.bd KX G "all_crossings" FN.gw ["night"]
  obtain ⟨TV,T8,SC⟩:=FN.bd KX G "begun_by" FN.fF ["ways","fewest"]
  obtain ⟨TJ,Sw,Su⟩:=FN.bd KX G "with_one_more" FN.eG ["crossings","fewest"]
  obtain ⟨Tn,TU,Tr⟩:=FN.bd KX G "fewest_minutes" FN.cN ["crossings","end"]
  obtain ⟨Qs,Sm,Rh⟩:=FN.bd KX G "_law_peace" FN.eW ["quarrels","group"]
  obtain ⟨Q8,Tq,RE⟩:=FN.bd KX G "_law_bits" FN.gj ["number","many"]
  obtain ⟨SE,Ts,TM⟩:=FN.bd KX G "_law_groups" FN.fX ["many"]
  obtain ⟨SI,UF,TK⟩:=FN.bd KX G "_law_rest" FN.gi ["group","many"]
  obtain ⟨Sf,Uh,Ta⟩:=FN.bd KX G "_law_good" FN.ii ["quarrels","group","many"]
  obtain ⟨RH,QS,TR⟩:=FN.bd KX G "_law_behind" FN.gb ["standing","crew","many"]
  obtain ⟨Tc,Ti,SU⟩:=FN.bd KX G "_law_crews" FN.fk ["things","room","quarrels","standing"]
  obtain ⟨f1,d1,F1,M1⟩:=FN.tf KX gC "things" "Night.things" FN.bO ["self"]
  obtain ⟨f2,d2,F2,M2⟩:=FN.tf KX gC "room" "Night.room" FN.gJ ["self"]
  obtain ⟨f3,d3,F3,M3⟩:=FN.tf KX gC "peace" "Night.peace" FN.eh ["self","group"]
  obtain ⟨S9,S3,RG,O2⟩:=FN.tf KX gC "__init__" "Night.__init__" FN.dQ ["self","things","room","quarrels"]
  obtain ⟨Q7,Te,QU,Uf⟩:=FN.tf KX gC "begins" "Night.begins" FN.dE ["self"]
  obtain ⟨SV,Um,UU,Rv⟩:=FN.tf KX gC "ends" "Night.ends" FN.gG ["self"]
  obtain ⟨VD,OY,PM,Q0⟩:=FN.KF KX G "law" FN.wP
  obtain ⟨k0,v0⟩:=FN.wU KX G "MOST_THINGS" (6)
  obtain ⟨k1,v1⟩:=FN.wU KX G "MOST_MINUTES" (1000000000)
  obtain ⟨k2,v2⟩:=FN.wU KX G "MOST_ROOM" (3)
  obtain ⟨k3,v3⟩:=FN.wU KX G "MOST_QUARRELS" (30)
  obtain ⟨k4,v4⟩:=FN.wU KX G "NO_KEEPER" (-1)
  obtain ⟨sd,vS,lS⟩:=FN.Lg KX G "SIDES"
  obtain ⟨An,zP⟩:=FN.Bs KX G "BadThing"
  obtain ⟨BE,BV⟩:=FN.Bs KX G "BadRoom"
  obtain ⟨wV,vP⟩:=FN.Bs KX G "BadQuarrel"
  obtain ⟨w8,wu⟩:=FN.FL KX G gF "NoStanding"
  obtain ⟨AZ,A1⟩:=FN.FL KX G gF "BadStart"
  let Z:FN.Ad:=⟨k0,k1,k2,k3,k4,sd,FN.NI gF,An,BE,wV,w8,AZ,0,0⟩
  have T:FN.Txt _ mg _ Z:=⟨FN.nn KX G,FN.nn KX G,FN.nn KX G,FN.nn KX G,FN.nn KX G,FN.nn KX G,FN.nn KX G,FN.nn KX G,FN.nn KX G,FN.nn KX G,FN.nn KX G,FN.nn KX G,FN.nn KX G,FN.nn KX G,FN.nn KX G,FN.nn KX G,v0,v1,v2,v3,v4,gC,⟨by k_is,by k_is,by k_is,by k_is⟩,FN.na,FN.na,FN.na,vS,lS,gF,zP,BV,vP,wu Z rfl,A1 Z rfl⟩
  let fs:Nat->Addr:=fun i=>match i with | 1=>f1 | 2=>f2 | 3=>f3 | 4=>f4 | 5=>f5 | 6=>f6 | 7=>f7 | 8=>f8 | 9=>f9 | 10=>QK | 11=>Rl | 12=>RO | 13=>QE | 14=>UR | 15=>T6 | 21=>QJ | 22=>Tp | 23=>QA | 24=>Sv | 25=>SX | 26=>S9 | 28=>Qy | 29=>Ry | 30=>Tw | 31=>SQ | 32=>S5 | 33=>Rg | 34=>S4 | 35=>RX | 36=>Qv | 37=>SH | 38=>RA | 39=>RU | 40=>Ut | 41=>Qs | 42=>Q8 | 43=>SE | 44=>SI | 45=>Sf | 46=>RH | 47=>Tc | 51=>S8 | 52=>Ss | 53=>UG | 60=>Q7 | 61=>SV | 62=>Qm | 63=>SG | 64=>QM | 65=>Ro | 66=>TV | 67=>TJ | 68=>Tn | _=>0
  let ds:Nat->FuncData:=fun i=>match i with | 1=>d1 | 2=>d2 | 3=>d3 | 4=>d4 | 5=>d5 | 6=>d6 | 7=>d7 | 8=>d8 | 9=>d9 | 10=>S0 | 11=>So | 12=>T9 | 13=>Tt | 14=>R5 | 15=>U4 | 21=>TY | 22=>Qj | 23=>Sl | 24=>Ui | 25=>RV | 26=>S3 | 28=>Q4 | 29=>UW | 30=>T5 | 31=>Rz | 32=>Sx | 33=>SB | 34=>QI | 35=>SN | 36=>U5 | 37=>Ub | 38=>UD | 39=>TD | 40=>Ud | 41=>Sm | 42=>Tq | 43=>Ts | 44=>UF | 45=>Uh | 46=>QS | 47=>Ti | 51=>Q2 | 52=>SL | 53=>Qw | 60=>Te | 61=>Um | 62=>Ue | 63=>Uw | 64=>TB | 65=>QB | 66=>T8 | 67=>Sw | 68=>TU | _=>OY
  have lk:FN.Lk _ mg _ fs ds:=⟨M1,F1,M2,F2,M3,F3,F4,F5,F6,F7,F8,F9,Qn,Tf,Qq,RL,U2,QY⟩
  have lw:FN.Lw _ mg (fun i=>fs (i + 40)) (fun i=>ds (i + 40)):=⟨Rh,RE,TM,TK,Ta,TR,SU⟩
  have lp:FN.Lp _ mg _ fs ds:=⟨Uf,QU,Rv,UU,TC,TF,RQ,RY,SC,Su,Tr⟩
  have A:FN.All _ mg _ fs ds:=⟨U1,Rc,UE,UL,TZ,RG,Q9,Uk,Rr,Rm,UH,T0,Qz,Rp,Rs,RC,Uv,Uu,TL,Us,R4,Tv,lk,lw,lp,⟨by k_is,O2.at_,O2.fn,by k_is⟩⟩
  cases K7.symm.trans PM.g
  exact ⟨OY,Q0,fun base _ _=>FN.Hi PM T A⟩
