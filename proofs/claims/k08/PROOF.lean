import PyProof.Rows.All
import Wide.All
import OpenK.AllK
import Wide.FinOn
import Lean
import PyProof.EqAt
import PyProof.EqKinds
import PyProof.TupleCall
import PyProof.Rows.SortRuns
import PyProof.DictItems
import KE.KPairComp
import PySem.Challenge.RW_ferrynight_k08_nights_written
set_option linter.all false
def X3:=@PySem.wpAny_bind
def X4:=@PySem.wpAny_pure
def X5:=@PySem.Heap.get?_push_of_some
def X6:=@List.length_map.{0,0}
def X7:=@Nat.le_refl
def X8:=@List.mem_cons_of_mem.{0}
def X9:=@List.mem_cons_self.{0}
def Ya:=@List.getElem?_eq_getElem.{0}
def Yb:=@List.mem_cons.{0}
def Yc:=@Bool.false_ne_true
def Yd:=@List.map_append.{0,0}
def Ye:=@Array.length_toList.{0}
def Yf:=@PyProof.Rows.wpS_bind
def Yg:=@PySem.Heap.get?_push_size
def Yh:=@Nat.le_trans
def Yi:=@decide_eq_true
def Yj:=@List.take_of_length_le.{0}
def Yk:=@List.size_toArray.{0}
def Yl:=@List.getElem?_map.{0,0}
def Ym:=@PySem.Heap.lt_size
def Yn:=@PyProof.Rows.wpS_pure
def Yo:=@List.append_assoc.{0}
def Yp:=@List.getD_eq_getElem?_getD.{0}
def Yq:=@List.map_cons.{0,0}
def Yr:=@List.pairwise_append.{0}
def Ys:=@List.getElem?_eq_some_iff.{0}
def Yt:=@List.length_take.{0}
def Yu:=@Bool.false_eq_true
def Yv:=@List.take_add_one.{0}
def Yw:=@decide_eq_false
def Yx:=@List.length_append.{0}
def Yy:=@List.length_filter_le.{0}
def Yz:=@List.mem_append.{0}
def YA:=@of_decide_eq_true
def YB:=@Nat.ne_of_lt
def YC:=@List.filter_append.{0}
def YD:=@Nat.zero_le
def YE:=@List.mem_of_getElem?.{0}
def YF:=@Nat.lt_of_lt_of_le
def YG:=@List.mem_singleton.{0}
def YH:=@List.mem_append_right.{0}
def YI:=@List.mem_map.{0,0}
def YJ:=@List.filter_cons.{0}
def YK:=@List.mem_filter.{0}
def YL:=@PySem.wpAny_call_entry
def YM:=@Bool.and_eq_true
def YN:=@PySem.boot_len
def YO:=@Bool.false_and
def YQ:=@List.map_map.{0,0,0}
def YR:=@PySem.wpAny_newObj_type
def YS:=@PySem.PassesOwn.never
def YT:=@Array.toList_append.{0}
def YU:=@Option.map_eq_some_iff.{0,0}
def YV:=@List.getElem?_append_right.{0}
def YW:=@List.length_cons.{0}
def YX:=@bind_congr.{0,0}
def YY:=@List.pairwise_cons.{0}
def YZ:=@if_false.{1}
def Y0:=@List.mem_map_of_mem.{0,0}
def Y1:=@PySem.wpAny_dictEntries
def Y2:=@List.pairwise_map.{0,0}
def Y3:=@PySem.wpAny_callSpecial?_slot
def Y4:=@Option.some.inj.{0}
def Y5:=@Array.getElem?_toList.{0}
def Y6:=@PySem.Heap.SameBut.update
def Y7:=@List.all_eq_true.{0}
def Y8:=@Bool.not_true
def Y9:=@PySem.wpAny_truthy_bool
def Za:=@Int.toNat_natCast
def Zb:=@PySem.wpAny_field
def Zc:=@PyProof.Rows.wpS_forRange
def Zd:=@PySem.wpAny_setField_rec
def Ze:=@List.nodup_cons.{0}
def Zf:=@Nat.lt_irrefl
def Zg:=@beq_eq_false_iff_ne.{0}
def Zh:=@PyProof.Rows.slot_tuple_getitem
def Zi:=@congrArg.{1,1}
def Zj:=@List.mem_iff_getElem.{0}
def Zk:=@PySem.wpAny_holding
def Zl:=@PySem.Paired.length
def Zm:=@List.getElem?_append_left.{0}
def Zn:=@PySem.wpAny_mono
def Zo:=@Option.isSome_map.{0,0}
def Zp:=@PySem.W.kia_one
def Zq:=@List.forIn_cons.{0,0,0}
def Zr:=@List.take_length.{0}
def Zs:=@List.countP_cons.{0}
def Zt:=@List.mem_of_mem_take.{0}
def Zu:=@List.mem_append_left.{0}
def Zv:=@PySem.F.plainAttrs_list
def Zw:=@if_true.{1}
def Zx:=@PyProof.Rows.wpS_mono
def Zy:=@List.drop_drop.{0}
def Zz:=@Bool.and_false
def ZA:=@List.take_sublist.{0}
def ZB:=@Array.size_append.{0}
def ZC:=@PySem.mem_of_lookup
def ZD:=@PySem.wpAny_rule
def ZE:=@PySem.wpAny_isInstance
def ZF:=@List.getElem_mem.{0}
def ZG:=@Option.isSome_iff_exists.{0}
def ZH:=@List.Pairwise.imp_of_mem.{0}
def ZI:=@PySem.wpAny_seqItems
def ZJ:=@Nat.pow_le_pow_right
def ZK:=@PySem.F.slot_dict_itemiterator_next
def ZL:=@List.drop_sublist.{0}
def ZM:=@PySem.wpAny_dictEpoch
def ZN:=@List.find?_cons.{0}
def ZO:=@Array.size_push.{0}
def ZP:=@PySem.F.slot_dict_keyiterator_next
def ZQ:=@PySem.sizeLine_eq
def ZR:=@PyProof.Rows.boot_tuple
def ZS:=@List.take_append_drop.{0}
def ZT:=@List.Perm.append_left.{0}
def ZU:=@List.foldl_cons.{0,0}
def ZV:=@Nat.le_succ
def ZW:=@List.getElem_drop.{0}
def ZX:=@PySem.Heap.get?_none_of_le
def ZY:=@Array.toArray_toList.{0}
def ZZ:=@beq_iff_eq.{0}
def Z0:=@PySem.wpAny_attempt
def Z1:=@PySem.F.type_list_append
def Z2:=@PySem.F.slot_list_append
def Z3:=@PySem.Heap.size_push
def Z4:=@List.lookup_cons.{0,0}
def Z5:=@PySem.wpAny_typeNameOfWhole_itemiter
def Z6:=@PySem.wpAny_typeNameOfWhole_keyiter
def Z7:=@True.intro
def Z8:=@List.zip_cons_cons.{0,0}
def Z9:=@Int.emod_lt_of_pos
def aaa:=@Array.size_extract.{0}
def aab:=@List.Perm.append_right.{0}
def aac:=@PySem.wpAny_passesOwn
def aad:=@Bool.eq_iff_iff
def aae:=@List.perm_append_comm.{0}
def aaf:=@List.mem_iff_getElem?.{0}
def aag:=@Ne.symm.{1}
def aah:=@List.getElem_take.{0}
def aai:=@PyProof.Rows.wpS_modify
def aaj:=@List.forIn_nil.{0,0,0}
def aak:=@Array.toList_reverse.{0}
def aal:=@PySem.F.slot_tuple_iterator_next
def aam:=@Nat.ne_of_gt
def aan:=@Nat.le_of_lt
def aao:=@PySem.wpAny_eqBool_int
def aap:=@List.not_mem_nil.{0}
def aaq:=@List.length_drop.{0}
def aar:=@List.drop_eq_getElem_cons.{0}
def aas:=@List.map_congr_left.{0,0}
def aat:=@List.length_pos_iff.{0}
def aau:=@List.filter_sublist.{0}
def aav:=@PyProof.Rows.listUpdate_at
def aaw:=@PySem.W.mg_of
def aax:=@Bool.true_and
def aay:=@PySem.wpAny_specialOf
def aaz:=@PySem.size_of_entries
def aaA:=@List.append_nil.{0}
def aaB:=@Int.emod_nonneg
def aaC:=@PySem.wpAny_tupleItemsOf
def aaD:=@PySem.wpAny_Call_Name_kw
def aaE:=@Nat.add_sub_cancel_left
def aaF:=@List.pairwise_singleton.{0}
abbrev aaG:=PySem.W.Frag
set_option Elab.async false
set_option linter.all false
set_option maxRecDepth 100000
namespace L2
open PySem PySem.Spec PyProof.Rows
abbrev Key:=Sum Int Str
def Im:Key->Value->Bool
 | .inl k,v=>Value.isInt k v
 | .inr x,v=>Value.isStrOf x v
def Pp (w:World):Key->Int
 | .inl k=>hashInt k
 | .inr x=>hashStr w x
theorem cw:∀ {k:Key} {v:Value},Im k v = true->(∃ i t,k = Sum.inl i /\ v = Value.int i t) \/ (∃ x t,k = Sum.inr x /\ v = Value.str x t)
 | .inl i,v,h=>by
  obtain ⟨t,e⟩:=Value.isInt_shape (k:=i) (v:=v) h
  exact .inl ⟨i,t,rfl,e⟩
 | .inr x,v,h=>by
  obtain ⟨t,e⟩:=Value.isStrOf_shape (x:=x) (v:=v) h
  exact .inr ⟨x,t,rfl,e⟩
theorem JN (a b:Int):decide ((Sum.inl a:Key) = Sum.inl b) = (a == b):=by
 by_cases e:a = b
 ·subst e; simp
 ·have h:¬ (Sum.inl a:Key) = Sum.inl b:=fun q=>e (Sum.inl.inj q)
  rw [Yw h]
  exact (Zg.mpr e).symm
theorem IE (a b:Str):decide ((Sum.inr a:Key) = Sum.inr b) = decide (a = b):=by
 by_cases e:a = b
 ·subst e; simp
 ·have h:¬ (Sum.inr a:Key) = Sum.inr b:=fun q=>e (Sum.inr.inj q)
  rw [Yw h,Yw e]
theorem JJ (a:Int) (b:Str):decide ((Sum.inl a:Key) = Sum.inr b) = false:=Yw (fun q=>nomatch q)
theorem Js (a:Str) (b:Int):decide ((Sum.inr a:Key) = Sum.inl b) = false:=Yw (fun q=>nomatch q)
def vk (prog:Program) (w:World):PySem.KeyKind prog w Key where
 is:=Im
 hash:=Pp w
 inj:=fun v a b ha hb=>by
  rcases cw ha with ⟨i,t,rfl,rfl⟩ | ⟨x,t,rfl,rfl⟩
  ·rcases cw hb with ⟨j,u,rfl,e⟩ | ⟨y,u,rfl,e⟩
   ·injection e with e1 _; rw [e1]
   ·exact nomatch e
  ·rcases cw hb with ⟨j,u,rfl,e⟩ | ⟨y,u,rfl,e⟩
   ·exact nomatch e
   ·injection e with e1 _; rw [e1]
 byValue:=fun k v h=>by
  rcases cw h with ⟨i,t,rfl,rfl⟩ | ⟨x,t,rfl,rfl⟩ <;> rfl
 pyHash:=fun hv h=>by
  rcases cw hv with ⟨i,t,rfl,rfl⟩ | ⟨x,t,rfl,rfl⟩
  ·exact wpAny_pyHash_int h
  ·exact wpAny_pyHash_str h
 eqBool:=fun hu hv h=>by
  rcases cw hu with ⟨i,t,rfl,rfl⟩ | ⟨x,t,rfl,rfl⟩
  ·rcases cw hv with ⟨j,u,rfl,rfl⟩ | ⟨y,u,rfl,rfl⟩
   ·rw [JN] at h; exact aao h
   ·rw [JJ] at h; exact SeqAt.EqAt.int_str i t y u _ _ _ _ h
  ·rcases cw hv with ⟨j,u,rfl,rfl⟩ | ⟨y,u,rfl,rfl⟩
   ·rw [Js] at h; exact SeqAt.EqAt.str_int x t j u _ _ _ _ h
   ·rw [IE] at h; exact wpAny_eqBool_str h
 «strs»:=fun k x t v h=>by
  rcases cw h with ⟨i,u,rfl,e⟩ | ⟨y,u,rfl,e⟩
  ·exact nomatch e
  ·injection e with e1 _
   subst e1
   cases v <;> rfl
inductive V where
 | cP | bl (b:Bool) | int (i:Int) | str (x:Str) | AI (b:Array UInt8) | IT (b:UInt64) | ref (a:Addr) | ty (n:String)
 deriving DecidableEq
def RelV:V->Value->Prop
 | .cP,u=>u = Value.none
 | .bl b,u=>u = Value.bool b
 | .int i,u=>∃ t,u = Value.int i t
 | .str x,u=>∃ t,u = Value.str x t
 | .AI b,u=>∃ t,u = Value.bytes b t
 | .IT b,u=>∃ t,u = Value.float b t
 | .ref a,u=>u = Value.ref a
 | .ty n,u=>u = Value.type n
abbrev Vals:List V->List Value->Prop:=Paired RelV
theorem Vals.length {xs:List V} {us:List Value} (r:Vals xs us):xs.length = us.length:=Zl r
theorem Vals.get:∀ {xs:List V} {us:List Value} {i:Nat} {x:V},Vals xs us->xs[i]? = some x->∃ u,us[i]? = some u /\ RelV x u
 | _,_,_,_,.nil,e=>by simp at e
 | _,_,0,_,.cons r _,e=>by simp at e; subst e; exact ⟨_,rfl,r⟩
 | _,_,i + 1,x,.cons _ t,e=>by
  obtain ⟨u,h1,h2⟩:=Vals.get (i:=i) (x:=x) t (by simpa using e)
  exact ⟨u,by simpa using h1,h2⟩
theorem Vals.set {x:V} {u:Value} (r:RelV x u):∀ {xs:List V} {us:List Value} (i:Nat),Vals xs us->Vals (xs.set i x) (us.set i u)
 | _,_,_,.nil=>.nil
 | _,_,0,.cons _ t=>.cons r t
 | _,_,i + 1,.cons q t=>.cons q (Vals.set r i t)
theorem Vals.append:∀ {xs ys:List V} {us ws:List Value},Vals xs us->Vals ys ws->Vals (xs ++ ys) (us ++ ws)
 | _,_,_,_,.nil,s=>s
 | _,_,_,_,.cons r t,s=>.cons r (Vals.append t s)
theorem Vals.take:∀ {xs:List V} {us:List Value} (n:Nat),Vals xs us->Vals (xs.take n) (us.take n)
 | _,_,0,_=>.nil
 | _,_,_ + 1,.nil=>.nil
 | _,_,n + 1,.cons r t=>.cons r (Vals.take n t)
theorem Vals.drop:∀ {xs:List V} {us:List Value} (n:Nat),Vals xs us->Vals (xs.drop n) (us.drop n)
 | _,_,0,r=>r
 | _,_,_ + 1,.nil=>.nil
 | _,_,n + 1,.cons _ t=>Vals.drop n t
def ny:Option V->Option Value->Prop
 | some v,some u=>RelV v u
 | none,none=>True
 | _,_=>False
def KV {κ:Type}:List (κ × V)->List (κ × Value)->Prop:=Paired fun (p:κ × V) (q:κ × Value)=>p.1 = q.1 /\ RelV p.2 q.2
def kV:Key->V
 | .inl i=>.int i
 | .inr x=>.str x
inductive HO where
 | lst (xs:List V)
 | tup (xs:List V)
 | dK (kvs:List (Key × V)) | dT (kvs:List (List Key × V))
 | set (S:Int->Bool) (n:Nat)
 | ins (C dx:Addr) (fs:List (Str × V))
 | own (x:Addr)
 | xd (fs:List (Str × V))
 | met (f x:Addr)
 | CJ (lo hi:Int)
 | yA (o:Obj) (u:HO)
 | HF (ps:Array Value)
 | ext (φ:Heap->Prop)
abbrev Hp:=Addr->Option HO
def upd (H:Hp) (a:Addr) (o:HO):Hp:=fun b=>if b = a then some o else H b
theorem ae {H:Hp} {a:Addr} {o:HO}:upd H a o a = some o:=by unfold upd; rw [if_pos rfl]
theorem am {H:Hp} {a b:Addr} {o:HO} (h:b ≠ a):upd H a o b = H b:=by unfold upd; rw [if_neg h]
theorem fe {H:Hp} {a b:Addr} {o u:HO} (h:H a = some o) (h':H b = some u) (d:o ≠ u):a ≠ b:=by
 intro e; subst e; rw [h] at h'; exact d (Y4 h')
theorem ax {H:Hp} {a b:Addr} {o:HO} (h:H a = some o) (h':H b = none):a ≠ b:=by
 intro e; subst e; rw [h] at h'; cases h'
section
variable (P:Program) (w:World)
def cj (H:Hp) (h:Heap) (a:Addr):HO->Prop
 | .lst xs=>xs.length <= sizeLine /\ ∃ (az:List Value) (n:Nat),Vals xs az /\ h.get? a = some { cls:=.type "list",data:=.seq az.toArray n }
 | .tup xs=>xs.length <= sizeLine /\ ∃ az:List Value,Vals xs az /\ IsTup h a az.toArray
 | .dK kvs=>kvs.length <= sizeLine /\ (a == sysModules) = false /\ ∃ vs,KV kvs vs /\ h.DictOf (vk P w) a vs
 | .dT kvs=>kvs.length <= sizeLine /\ (a == sysModules) = false /\ ∃ xs:List (List Key × Addr × Value),
   Paired (fun (p:List Key × V) (q:List Key × Addr × Value)=>p.1 = q.1 /\ H q.2.1 = some (.tup (p.1.map kV)) /\ RelV p.2 q.2.2) kvs xs /\
   ∃ o es ep,h.get? a = some o /\ o.ExactDict /\ o.data = .dict es ep /\ es.toList = xs.map (entryOfKey (tupleKind (vk P w))) /\ (xs.map (·.1)).Nodup
 | .set S n=>h.SetOf (intKind P w) a S n
 | .ins C dx fs=>H dx = some (.own a) /\ fs.length <= 1000 /\ dx ≠ a /\ h.get? a = some (PySem.W.instObj C dx) /\
   ∃ mA,h.Ns1 dx mA /\ (∀ f,ny (fs.lookup f) (mA f)) /\ PySem.Within mA (fs.map (·.1))
 | .own _=>∃ o,h.get? a = some o
 | .xd fs=>∃ mA,h.Ns1 a mA /\ ∀ f,ny (fs.lookup f) (mA f)
 | .CJ lo hi=>∃ t u v,h.get? a = some { cls:=.type "range",data:=.fields #[.int lo t,.int hi u,.int 1 v] }
 | .yA o u=>h.get? a = some o /\ cj H h a u
 | .HF ps=>h.get? a = some { cls:=.none,data:=.fields ps }
 | .met f x=>h.get? a = some (PySem.W.methodObj (.ref f) (.ref x))
 | .ext φ=>φ h /\ (∃ o,h.get? a = some o) /\ ∀ h1 h2:Heap,φ h1->(∀ o,h1.get? a = some o->h2.get? a = some o)->φ h2
def jO (H:Hp) (h:Heap):Prop:=∀ a o,H a = some o->cj P w H h a o
end
section
variable {P:Program} {w:World} {H H':Hp} {h h':Heap} {a:Addr} {o:HO}
theorem cj.lt (x:cj P w H h a o):a < h.objs.size:=by
 cases o with
 | lst xs=>obtain ⟨_,_,_,_,e⟩:=x; exact Ym e
 | tup xs=>obtain ⟨_,_,_,p⟩:=x; exact p.lt
 | dK kvs=>obtain ⟨_,_,_,_,o,_,_,e,_⟩:=x; exact Ym e
 | dT kvs=>obtain ⟨_,_,_,_,o,_,_,e,_⟩:=x; exact Ym e
 | set S n=>obtain ⟨o,_,_,_,e,_⟩:=x; exact Ym e
 | ins C dx fs=>obtain ⟨_,_,_,e,_⟩:=x; exact Ym e
 | own y=>obtain ⟨_,e⟩:=x; exact Ym e
 | xd fs=>obtain ⟨_,⟨_,_,_,e,_⟩,_⟩:=x; exact Ym e
 | CJ lo hi=>obtain ⟨_,_,_,e⟩:=x; exact Ym e
 | yA ob u=>obtain ⟨e,_⟩:=x; exact Ym e
 | HF ps=>exact Ym (show h.get? a = some _ from x)
 | met f y=>exact Ym (show h.get? a = some _ from x)
 | ext φ=>obtain ⟨_,⟨_,e⟩,_⟩:=x; exact Ym e
theorem Paired.yJ {α β:Type} {F G:α->β->Prop}:∀ {l₁:List α} {l₂:List β},Paired F l₁ l₂->(∀ a b,F a b->G a b)->Paired G l₁ l₂
 | _,_,.nil,_=>.nil
 | _,_,.cons r t,f=>.cons (f _ _ r) (Paired.yJ t f)
theorem Paired.imp' {α β:Type} {F G:α->β->Prop} (f:∀ a b,F a b->G a b) {l₁:List α} {l₂:List β} (r:Paired F l₁ l₂):Paired G l₁ l₂:=Paired.yJ r f
theorem cj.lT (x:cj P w H h a o) (k:∀ b u,(b = a \/ H b = some (.own a))->h.get? b = some u->h'.get? b = some u)
  (ho:∀ b,H b = some (.own a)->H' b = some (.own a)) (ht:∀ b xs,H b = some (.tup xs)->H' b = some (.tup xs)):cj P w H' h' a o:=by
 induction o with
 | lst xs=>obtain ⟨z,az,n,r,e⟩:=x; exact ⟨z,az,n,r,k _ _ (.inl rfl) e⟩
 | tup xs=>obtain ⟨z,az,r,ob,e,c⟩:=x; exact ⟨z,az,r,ob,k _ _ (.inl rfl) e,c⟩
 | dK kvs=>obtain ⟨z,y,vs,r,ob,es,ep,e,c⟩:=x; exact ⟨z,y,vs,r,ob,es,ep,k _ _ (.inl rfl) e,c⟩
 | dT kvs =>
  obtain ⟨z,y,xs,r,ob,es,ep,e,c⟩:=x
  exact ⟨z,y,xs,Paired.yJ r fun p q z=>⟨z.1,ht _ _ z.2.1,z.2.2⟩,ob,es,ep,k _ _ (.inl rfl) e,c⟩
 | set S n=>obtain ⟨ob,es,ep,t,e,c⟩:=x; exact ⟨ob,es,ep,t,k _ _ (.inl rfl) e,c⟩
 | ins C dx fs =>
  obtain ⟨d,z,ne,e,mA,⟨od,es,ep,e2,c⟩,r⟩:=x
  exact ⟨ho _ d,z,ne,k _ _ (.inl rfl) e,mA,⟨od,es,ep,k _ _ (.inr d) e2,c⟩,r⟩
 | own y=>obtain ⟨ob,e⟩:=x; exact ⟨ob,k _ _ (.inl rfl) e⟩
 | xd fs=>obtain ⟨mA,⟨od,es,ep,e,c⟩,r⟩:=x; exact ⟨mA,⟨od,es,ep,k _ _ (.inl rfl) e,c⟩,r⟩
 | CJ lo hi=>obtain ⟨t,u,v,e⟩:=x; exact ⟨t,u,v,k _ _ (.inl rfl) e⟩
 | yA ob u ih=>obtain ⟨e,q⟩:=x; exact ⟨k _ _ (.inl rfl) e,ih q⟩
 | HF ps =>
  have e:h.get? a = some { cls:=.none,data:=.fields ps }:=x
  show h'.get? a = some { cls:=.none,data:=.fields ps }
  exact k a _ (.inl rfl) e
 | met f y =>
  have e:h.get? a = some (PySem.W.methodObj (.ref f) (.ref y)):=x
  show h'.get? a = some (PySem.W.methodObj (.ref f) (.ref y))
  exact k a _ (.inl rfl) e
 | ext φ=>obtain ⟨p,⟨o,e⟩,st⟩:=x; exact ⟨st _ _ p fun o q=>k _ _ (.inl rfl) q,⟨o,k _ _ (.inl rfl) e⟩,st⟩
theorem jO.lt (x:jO P w H h) (e:H a = some o):a < h.objs.size:=(x a o e).lt
theorem jO.fresh (x:jO P w H h) (e:h.objs.size <= a):H a = none:=by
 cases q:H a with
 | none=>rfl
 | some u=>exact absurd (YF (x.lt q) e) (Zf _)
theorem jO.kept (x:jO P w H h) (k:∀ b u,h.get? b = some u->h'.get? b = some u):jO P w H h':=fun a o e =>
 (x a o e).lT (fun b u _ q=>k b u q) (fun _ q=>q) fun _ _ q=>q
theorem jO.laid (x:jO P w H h) (k:∀ b u,h.get? b = some u->h'.get? b = some u) (hp:h.objs.size <= a) (new:cj P w (upd H a o) h' a o):jO P w (upd H a o) h':=fun b u e=>by
 have hn:=x.fresh hp
 by_cases hb:b = a
 ·subst hb; rw [ae] at e; cases e; exact new
 ·rw [am hb] at e
  exact (x b u e).lT (fun c v _ q=>k c v q) (fun c q=>by rw [am (ax q hn)]; exact q) fun c xs q=>by rw [am (ax q hn)]; exact q
end
def Rd (H:Hp) (a:Addr) (u:HO):Prop:=H a = some u \/ ∃ o,H a = some (.yA o u)
theorem Rd.of {H:Hp} {a:Addr} {u:HO} (h:H a = some u):Rd H a u:=.inl h
theorem Rd.ok {P:Program} {w:World} {H:Hp} {h:Heap} {a:Addr} {u:HO} (r:Rd H a u) (x:jO P w H h):cj P w H h a u:=by
 rcases r with r | ⟨o,r⟩
 ·exact x a u r
 ·obtain ⟨_,q⟩:=x a _ r
  exact q
def N7:Option HO->Prop
 | some (.lst _)=>True
 | some (.dK _)=>True
 | some (.dT _)=>True
 | some (.set _ _)=>True
 | some (.ins _ _ _)=>True
 | some (.ext _)=>True
 | _=>False
section
variable {P:Program} {w:World} {H:Hp} {h h':Heap} {x e:Addr} {o':HO}
theorem jO.write (ok:jO P w H h) (mu:N7 (H x)) (he:e = x \/ H e = some (.own x)) (k:∀ b u,b ≠ e->h.get? b = some u->h'.get? b = some u) (B5:∃ u,h'.get? e = some u)
  (new:cj P w (upd H x o') h' x o'):jO P w (upd H x o') h':=fun b u q=>by
 have L4:∀ c y,H c = some (.own y)->c ≠ x:=fun c y r z=>by subst z; rw [r] at mu; exact mu
 have Po:∀ c xs,H c = some (.tup xs)->c ≠ x:=fun c xs r z=>by subst z; rw [r] at mu; exact mu
 by_cases hb:b = x
 ·subst hb; rw [ae] at q; cases q; exact new
 ·rw [am hb] at q
  by_cases JZ:b = e
  ·have q':H b = some (.own x):=by
    rcases he with z | z
    ·exact absurd (JZ.trans z) hb
    ·rw [JZ]; exact z
   rw [q] at q'; cases q'
   obtain ⟨v,hv⟩:=B5
   exact ⟨v,by rw [JZ]; exact hv⟩
  ·refine (ok b u q).lT (fun c v hc r=>k c v ?_ r) (fun c r=>by rw [am (L4 c b r)]; exact r) fun c xs r=>by rw [am (Po c xs r)]; exact r
   rcases hc with rfl | hc
   ·exact JZ
   ·rintro rfl
    rcases he with z | z
    ·exact L4 c b hc z
    ·rw [hc] at z; cases z; exact hb rfl
end
structure Un (fs ex:List Addr) (H H':Hp) (h h':Heap):Prop where
 keep:∀ b o,h.get? b = some o->H b = none->b ∉ fs->b ∉ ex->h'.get? b = some o
 slot:∀ b o,h.get? b = some o->H b = none->b ∈ fs->b ∉ ex->∃ sl,h'.get? b = some { o with slots:=sl }
 free:∀ b o,h.get? b = some o->H b = none->b ∉ ex->H' b = none
 there:∀ b o,h.get? b = some o->b ∉ ex->∃ o',h'.get? b = some o'
 iG:∀ b xs,H b = some (.tup xs)->H' b = some (.tup xs)
 jL:∀ b o u,H b = some (.yA o u)->H' b = some (.yA o u)
 jQ:∀ b ps,H b = some (.HF ps)->∃ more,H' b = some (.HF (ps ++ more))
section
variable {fs PQ ex R8:List Addr} {H H1 H2:Hp} {h h1 h2 h':Heap} {a x e:Addr} {o:HO}
theorem Un.any (u:Un fs ex H H1 h h1) {b:Addr} {ob:Obj} (q:h.get? b = some ob) (n:H b = none) (hx:b ∉ ex):∃ sl,h1.get? b = some { ob with slots:=sl }:=by
 by_cases hb:b ∈ fs
 ·exact u.slot b ob q n hb hx
 ·exact ⟨ob.slots,u.keep b ob q n hb hx⟩
theorem Un.trans (a:Un fs ex H H1 h h1) (b:Un fs ex H1 H2 h1 h2):Un fs ex H H2 h h2 where
 keep:=fun c ob q n hc hx=>b.keep c ob (a.keep c ob q n hc hx) (a.free c ob q n hx) hc hx
 slot:=fun c ob q n hc hx=>by
  obtain ⟨sl,e1⟩:=a.slot c ob q n hc hx
  obtain ⟨GJ,e2⟩:=b.slot c _ e1 (a.free c ob q n hx) hc hx
  exact ⟨GJ,e2⟩
 free:=fun c ob q n hx=>by
  obtain ⟨o',e1⟩:=a.there c ob q hx
  exact b.free c o' e1 (a.free c ob q n hx) hx
 there:=fun c ob q hx=>by
  obtain ⟨o',e1⟩:=a.there c ob q hx
  exact b.there c o' e1 hx
 iG:=fun c xs q=>b.iG c xs (a.iG c xs q)
 jL:=fun c ob xs q=>b.jL c ob xs (a.jL c ob xs q)
 jQ:=fun c ps q=>by
  obtain ⟨m1,e1⟩:=a.jQ c ps q
  obtain ⟨m2,e2⟩:=b.jQ c _ e1
  exact ⟨m1 ++ m2,by rw [e2,Array.append_assoc]⟩
theorem Un.kept (k:∀ b u,h.get? b = some u->h'.get? b = some u):Un fs ex H H h h' :=
 ⟨fun b ob q _ _ _=>k b ob q,fun b ob q _ _ _=>⟨ob.slots,k b ob q⟩,fun _ _ _ n _=>n,fun b ob q _=>⟨ob,k b ob q⟩,fun _ _ q=>q,fun _ _ _ q=>q,fun _ ps q=>⟨#[],by rw [q]; simp⟩⟩
theorem Un.refl:Un fs ex H H h h:=Un.kept fun _ _ q=>q
theorem Un.laid (k:∀ b u,h.get? b = some u->h'.get? b = some u) (hp:h.objs.size <= a) (hn:H a = none):Un fs ex H (upd H a o) h h' where
 keep:=fun b u q _ _ _=>k b u q
 slot:=fun b u q _ _ _=>⟨u.slots,k b u q⟩
 free:=fun b u q n _=>by rw [am (YB (YF (Ym q) hp))]; exact n
 there:=fun b u q _=>⟨u,k b u q⟩
 iG:=fun b xs q=>by rw [am (ax q hn)]; exact q
 jL:=fun b u xs q=>by rw [am (ax q hn)]; exact q
 jQ:=fun b ps q=>⟨#[],by rw [am (ax q hn),q]; simp⟩
theorem Un.write (mu:N7 (H x)) (he:e = x \/ H e = some (.own x)) (k:∀ b u,b ≠ e->h.get? b = some u->h'.get? b = some u) (B5:∃ u,h'.get? e = some u):Un fs ex H (upd H x o) h h':=by
 have hx:∀ b,H b = none->b ≠ x:=fun b n z=>by subst z; rw [n] at mu; exact mu
 have hb:∀ b,H b = none->b ≠ e:=fun b n z=>by
  subst z
  rcases he with r | r
  ·exact hx b n r
  ·rw [n] at r; cases r
 have hm:∀ b u,H b = some u->¬ N7 (some u)->b ≠ x:=fun b u q nm z=>by subst z; rw [q] at mu; exact nm mu
 refine ⟨fun b u q n _ _=>k b u (hb b n) q,fun b u q n _ _=>⟨u.slots,k b u (hb b n) q⟩,fun b u q n _=>by rw [am (hx b n)]; exact n,fun b u q _=>?_,
  fun b xs q=>by rw [am (hm b _ q fun z=>z)]; exact q,fun b u xs q=>by rw [am (hm b _ q fun z=>z)]; exact q,fun b ps q=>⟨#[],by rw [am (hm b _ q fun z=>z),q]; simp⟩⟩
 by_cases JZ:b = e
 ·subst JZ; exact B5
 ·exact ⟨u,k b u JZ q⟩
theorem Un.mono (u:Un fs ex H H1 h h1) (hs:∀ b ∈ fs,b ∈ PQ) (hx:∀ b ∈ ex,b ∈ R8):Un PQ R8 H H1 h h1 :=
 ⟨fun b ob q n hb he=>u.keep b ob q n (fun z=>hb (hs b z)) fun z=>he (hx b z),fun _ _ q n _ he=>u.any q n fun z=>he (hx _ z),fun b ob q n he=>u.free b ob q n fun z=>he (hx b z),fun b ob q he=>u.there b ob q fun z=>he (hx b z),u.iG,u.jL,u.jQ⟩
end
def JX (h:Heap) (H:Hp):List Addr:=(List.range h.objs.size).filter fun a=>(H a).isSome
def wf (h:Heap) (H:Hp):Heap:=PySem.W.hideAll h (JX h H)
theorem BD (h:Heap) (H:Hp):(wf h H).objs.size = h.objs.size:=PySem.W.hideAll_size _ _
theorem Dv {h:Heap} {H:Hp} {b:Addr} {o:Obj} (e:h.get? b = some o) (n:H b = none):(wf h H).get? b = some o :=
 PySem.W.hideAll_get _ e fun hm=>by
  have q:(H b).isSome = true:=(YK.mp hm).2
  rw [n] at q; simp at q
theorem GP {h:Heap} {H:Hp} {b:Addr} {o:Obj} (e:(wf h H).get? b = some o):h.get? b = some o /\ H b = none:=by
 have e':h.get? b = some o:=PySem.W.of_hideAll (JX h H) e
 refine ⟨e',?_⟩
 cases q:H b with
 | none=>rfl
 | some x =>
  have hm:b ∈ JX h H:=YK.mpr ⟨List.mem_range.mpr (Ym e'),by simp [q]⟩
  have z:(wf h H).get? b = none:=PySem.W.hideAll_none (JX h H) hm
  rw [z] at e; cases e
def Gu (g h:Heap) (L:Addr):List (Addr × Obj):=(List.range h.objs.size).filterMap fun a=>if a = L \/ (g.get? a).isSome = true then none else (h.get? a).map fun o=>(a,o)
def rest (g h:Heap) (L d:Addr):List (Addr × Obj):=(Gu g h L).filter fun p=>decide (p.1 ≠ d)
structure Mod (K:aaG) (mg:Str->Option Value) (base:Heap):Prop where
 A6:K.In base
 glob:base.Ns mainGlobals mg
 blt:∃ mb,base.Ns builtinsNs mb /\ ∀ x:Str,x ≠ "__name__"->mb x = bootBuiltins x
 nolimit:base.NoLimit
structure Cx where
 prog:Program
 w:World
 K:aaG
 mg:Str->Option Value
 base:Heap
 A:Around
 N:List Str
 s₀:Shared
 H₀:Hp
 env:Env
 outer:List Env
 stack:List Env
 ex:List Addr
 fn:Str->Bool
 calm:Bool
 pn:List (Addr × Obj)
 xe:Value->Shared->Prop
def mn (l:List Env):List Addr:=l.filterMap (·.frame)
abbrev Cx.fs (X:Cx):List Addr:=mn X.outer
def NL (sc:Scope) (x:Str):Prop:=sc.names.lookup x = some .local \/ sc.names.lookup x = some .cell \/ sc.names.lookup x = some .free
def Loc (sc:Scope) (x:Str):Prop:=sc.names.lookup x = some .local \/ sc.names.lookup x = some .cell
def Look (env:Env) (h:Heap) (m:Str->Option Value) (x:Str) (u:Value):Prop :=
 (env.kindOf x = some .local /\ m x = some u) \/ ((env.kindOf x = some .cell \/ env.kindOf x = some .free) /\ ∃ c,env.cells.lookup x = some c /\ h.IsCell c (some u))
structure Cx.Ok (X:Cx):Prop where
 mod:Mod X.K X.mg X.base
 kind:X.env.scope.kind = .function
 glob:X.env.globals = mainGlobals
 blt:X.env.builtins = builtinsNs
 above:X.s₀.heap.objs.size <= X.env.locals
 inj:∀ x y c,X.env.cells.lookup x = some c->X.env.cells.lookup y = some c->x = y
 has:∀ x,(X.env.kindOf x = some .cell \/ X.env.kindOf x = some .free)->∃ c,X.env.cells.lookup x = some c
 Jk:∀ x c,X.fn x = true->X.env.cells.lookup x = some c->X.s₀.heap.objs.size <= c
 hd:X.calm = true->X.A.handled = none
 frames:X.A.frames = some X.stack
 K3:X.stack = X.outer \/ (X.stack = X.env :: X.outer /\ X.env.frame = some X.env.locals)
 KW:∀ b ∈ X.ex,b ≠ X.env.locals /\ ∀ x c,X.env.cells.lookup x = some c->c ≠ b
 bs:∀ b o,X.base.get? b = some o->X.s₀.heap.get? b = some o /\ X.H₀ b = none
 BV:X.base.objs.size <= X.s₀.heap.objs.size
 zN:∀ b o,X.base.get? b = some o->b ∉ X.ex
 yP:∀ b ∈ X.ex,b ∉ X.fs
 lK:X.s₀.heap.FunFrames X.base X.outer
 Fw:∀ b ∈ X.fs,X.H₀ b = none
structure Inv (X:Cx) (pins:List (Addr × Obj)) (σ:List (Option V)) (H:Hp) (s:Shared):Prop where
 ok:X.Ok
 os:s.os = X.s₀.os
 bare:AllBare s.gens
 base:Un X.fs X.ex X.H₀ H X.s₀.heap s.heap
 loc:∃ m,s.heap.Ns X.env.locals m /\ ∀ (i:Nat) (x:Str) (v:V),X.N[i]? = some x->σ[i]? = some (some v)->NL X.env.scope x->∃ u,RelV v u /\ Look X.env s.heap m x u
 cell:∀ x c,X.env.cells.lookup x = some c->∃ v,s.heap.IsCell c v
 free:H X.env.locals = none
 ii:∀ x c,X.env.cells.lookup x = some c->H c = none
 pin:∀ p ∈ X.pn ++ pins,s.heap.get? p.1 = some p.2 /\ H p.1 = none /\ p.1 ≠ X.env.locals /\ p.1 ∉ X.fs /\ ∀ v,p.2.data ≠ .cell v
 aW:jO X.prog X.w H s.heap
 len:σ.length = X.N.length
section
variable {X:Cx} {pins:List (Addr × Obj)} {σ:List (Option V)} {H H':Hp} {s:Shared} {h':Heap}
theorem Cx.Ok.OM (ok:X.Ok) {b:Addr} {o:Obj} (e:X.base.get? b = some o):b ∉ X.fs:=fun hb=>by
 have:=(ok.lK.mem hb).1
 rw [e] at this; cases this
theorem Inv.bs (I:Inv X pins σ H s):∀ b o,X.base.get? b = some o->s.heap.get? b = some o /\ H b = none:=fun b o e =>
 ⟨I.base.keep b o (I.ok.bs b o e).1 (I.ok.bs b o e).2 (I.ok.OM e) (I.ok.zN b o e),I.base.free b o (I.ok.bs b o e).1 (I.ok.bs b o e).2 (I.ok.zN b o e)⟩
theorem Inv.bk (I:Inv X pins σ H s):∀ b o,X.base.get? b = some o->s.heap.get? b = some o:=fun b o e=>(I.bs b o e).1
theorem Inv.mod (I:Inv X pins σ H s):Mod X.K X.mg X.base:=I.ok.mod
theorem Inv.pV (I:Inv X pins σ H s):X.K.In s.heap:=I.ok.mod.A6.keeps I.bk
theorem Inv.nolimit (I:Inv X pins σ H s):s.heap.NoLimit:=I.ok.mod.nolimit.keeps I.bk
theorem Inv.fr (I:Inv X pins σ H s):∃ m,Fr X.base X.env.locals s.heap m :=
 let ⟨m,hn,_⟩:=I.loc
 ⟨m,hn,I.bk,Yh I.ok.BV I.ok.above⟩
theorem Inv.lt (I:Inv X pins σ H s):X.env.locals < s.heap.objs.size:=let ⟨_,hn,_⟩:=I.loc; hn.lt
theorem Inv.sz (I:Inv X pins σ H s):X.s₀.heap.objs.size <= s.heap.objs.size:=Yh I.ok.above (aan I.lt)
theorem Inv.K9 (I:Inv X pins σ H s) {a:Addr} (h:s.heap.objs.size <= a):a ∉ X.fs:=fun hb=>by
 obtain ⟨_,o,ho,_⟩:=I.ok.lK.mem hb
 exact absurd (YF (Ym ho) (Yh I.sz h)) (Zf _)
theorem Inv.CV (I:Inv X pins σ H s):∀ x c,X.env.cells.lookup x = some c->c ≠ X.env.locals:=fun x c e z=>by
 obtain ⟨v,o,ho,hd⟩:=I.cell x c e
 obtain ⟨m,⟨o',es,ep,mZ,wz,_⟩,_⟩:=I.loc
 rw [z,mZ] at ho; cases ho; rw [wz] at hd; cases hd
theorem Inv.lK (I:Inv X pins σ H s):s.heap.FunFrames X.base X.outer:=by
 have all:∀ (l:List Env),(∀ b ∈ mn l,b ∈ X.fs)->X.s₀.heap.FunFrames X.base l->s.heap.FunFrames X.base l:=by
  intro l
  induction l with
  | nil=>intro _ _; trivial
  | cons env r ih =>
   intro hs hl
   obtain ⟨hk,⟨L,o,hf,hn,ho,hd⟩,hr⟩:=hl
   have hL:L ∈ X.fs:=hs L (by unfold mn; rw [List.filterMap_cons,hf]; exact X9)
   obtain ⟨sl,e⟩:=I.base.slot L o ho (I.ok.Fw L hL) hL fun z=>I.ok.yP L z hL
   exact ⟨hk,⟨L,_,hf,hn,e,hd⟩,ih (fun b hb=>hs b (by unfold mn; rw [List.filterMap_cons,hf]; exact X8 _ hb)) hr⟩
 exact all X.outer (fun _ hb=>hb) I.ok.lK
theorem Inv.stack (I:Inv X pins σ H s):s.heap.FunFrames X.base X.stack:=by
 rcases I.ok.K3 with e | ⟨e,hf⟩
 ·rw [e]; exact I.lK
 ·rw [e]
  obtain ⟨m,hn,_⟩:=I.loc
  refine .cons (by rw [I.ok.kind]; decide) hf hn ?_ I.lK
  exact ZX (Yh I.ok.BV I.ok.above)
theorem Inv.mz (I:Inv X pins σ H s):∀ b ∈ mn X.stack,b ∈ X.env.locals :: X.fs:=fun b hb=>by
 rcases I.ok.K3 with e | ⟨e,hf⟩
 ·rw [e] at hb; exact X8 _ hb
 ·rw [e] at hb
  unfold mn at hb
  rw [List.filterMap_cons,hf] at hb
  exact hb
theorem Inv.qt (I:Inv X pins σ H s):∀ b ∈ mn X.stack,H b = none:=fun b hb=>by
 rcases Yb.mp (I.mz b hb) with e | hb
 ·rw [e]; exact I.free
 ·obtain ⟨_,o,ho,_⟩:=I.ok.lK.mem hb
  exact I.base.free b o ho (I.ok.Fw b hb) fun z=>I.ok.yP b z hb
theorem Inv.step {g':Array GenState} {t':Nat} {d':Drawn} {ch:List Addr} (I:Inv X pins σ H s)
  (pC:∀ b ∈ ch,(b ∈ X.ex \/ X.s₀.heap.objs.size <= b) /\ b ≠ X.env.locals /\ (∀ x c,X.env.cells.lookup x = some c->c ≠ b) /\ ∀ p ∈ X.pn ++ pins,p.1 ≠ b)
  (keep:∀ b o,b ≠ X.env.locals->b ∉ X.fs->b ∉ ch->s.heap.get? b = some o->H b = none->h'.get? b = some o)
  (slot:∀ b o,b ≠ X.env.locals->b ∈ X.fs->b ∉ ch->s.heap.get? b = some o->H b = none->∃ sl,h'.get? b = some { o with slots:=sl }) (free:∀ b o,b ∉ ch->s.heap.get? b = some o->H b = none->H' b = none)
  (there:∀ b o,b ∉ ch->s.heap.get? b = some o->∃ o',h'.get? b = some o')
  (iG:∀ b xs,H b = some (.tup xs)->H' b = some (.tup xs)) (jL:∀ b o u,H b = some (.yA o u)->H' b = some (.yA o u)) (jQ:∀ b ps,H b = some (.HF ps)->∃ more,H' b = some (.HF (ps ++ more)))
  (ns:∀ m,s.heap.Ns X.env.locals m->h'.Ns X.env.locals m) (aW:jO X.prog X.w H' h') (hg:AllBare g') :
  Inv X pins σ H' { s with heap:=h',gens:=g',drawn:=d',toks:=t' }:=by
 have Rz:∀ b o,X.s₀.heap.get? b = some o->b ≠ X.env.locals:=fun b o e=>YB (YF (Ym e) I.ok.above)
 have NO:∀ b o,X.s₀.heap.get? b = some o->b ∉ X.ex->b ∉ ch:=fun b o e hx hb=>by
  rcases (pC b hb).1 with z | z
  ·exact hx z
  ·exact absurd (YF (Ym e) z) (Zf _)
 have cellK:∀ x c,X.env.cells.lookup x = some c->∀ v,s.heap.IsCell c v->h'.IsCell c v:=fun x c e v ⟨o,ho,hd⟩=>by
  have DX:c ∉ ch:=fun z=>(pC c z).2.2.1 x c e rfl
  by_cases hc:c ∈ X.fs
  ·obtain ⟨sl,q⟩:=slot c o (I.CV x c e) hc DX ho (I.ii x c e)
   exact ⟨_,q,hd⟩
  ·exact ⟨o,keep c o (I.CV x c e) hc DX ho (I.ii x c e),hd⟩
 refine ⟨I.ok,I.os,hg,⟨fun b o e n hb hx=>?_,fun b o e n hb hx=>?_,fun b o e n hx=>?_,fun b o e hx=>?_,fun b xs e=>iG b xs (I.base.iG b xs e),fun b o xs e=>jL b o xs (I.base.jL b o xs e),fun b ps e=>?_⟩,?_,fun x c e=>?_,?_,fun x c e=>?_,fun p hp=>?_,aW,I.len⟩
 ·exact keep b o (Rz b o e) hb (NO b o e hx) (I.base.keep b o e n hb hx) (I.base.free b o e n hx)
 ·obtain ⟨sl,e1⟩:=I.base.slot b o e n hb hx
  obtain ⟨GJ,e2⟩:=slot b _ (Rz b o e) hb (NO b o e hx) e1 (I.base.free b o e n hx)
  exact ⟨GJ,e2⟩
 ·obtain ⟨o',e1⟩:=I.base.there b o e hx
  exact free b o' (NO b o e hx) e1 (I.base.free b o e n hx)
 ·obtain ⟨o',e1⟩:=I.base.there b o e hx
  exact there b o' (NO b o e hx) e1
 ·obtain ⟨m1,e1⟩:=I.base.jQ b ps e
  obtain ⟨m2,e2⟩:=jQ b _ e1
  exact ⟨m1 ++ m2,by rw [e2,Array.append_assoc]⟩
 ·obtain ⟨m,hn,hl⟩:=I.loc
  refine ⟨m,ns m hn,fun i x v e1 e2 e3=>?_⟩
  obtain ⟨u,r,l⟩:=hl i x v e1 e2 e3
  refine ⟨u,r,?_⟩
  rcases l with l | ⟨k,c,e,z⟩
  ·exact .inl l
  ·exact .inr ⟨k,c,e,cellK x c e _ z⟩
 ·obtain ⟨v,z⟩:=I.cell x c e
  exact ⟨v,cellK x c e v z⟩
 ·obtain ⟨m,⟨o,_,_,ho,_⟩,_⟩:=I.loc
  exact free _ o (fun z=>(pC _ z).2.1 rfl) ho I.free
 ·obtain ⟨v,o,ho,hd⟩:=I.cell x c e
  exact free c o (fun z=>(pC c z).2.2.1 x c e rfl) ho (I.ii x c e)
 ·obtain ⟨e,n,ne,nf,d⟩:=I.pin p hp
  have DX:p.1 ∉ ch:=fun z=>(pC p.1 z).2.2.2 p hp rfl
  exact ⟨keep p.1 p.2 ne nf DX e n,free p.1 p.2 DX e n,ne,nf,d⟩
theorem Inv.un {t':Nat} (I:Inv X pins σ H s) (u:Un X.fs [] H H' s.heap h') (aW:jO X.prog X.w H' h'):Inv X pins σ H' { s with heap:=h',toks:=t' }:=by
 obtain ⟨m,⟨o,es,ep,ho,r⟩,_⟩:=id I.loc
 obtain ⟨sl,hL⟩:=u.any ho I.free (by simp)
 exact I.step (g':=s.gens) (d':=s.drawn) (ch:=[]) (fun _ z=>nomatch z) (fun b o _ hb _ e n=>u.keep b o e n hb (by simp)) (fun b o _ hb _ e n=>u.slot b o e n hb (by simp)) (fun b o _ e n=>u.free b o e n (by simp)) (fun b o _ e=>u.there b o e (by simp)) u.iG u.jL u.jQ (fun m' hm=>by
  obtain ⟨o',Cy,CL,mZ,r'⟩:=hm
  rw [ho] at mZ; cases mZ
  exact ⟨_,Cy,CL,hL,r'⟩) aW I.bare
theorem Inv.call {g':Array GenState} {t':Nat} {d':Drawn} {ch:List Addr} (I:Inv X pins σ H s) (u:Un (mn X.stack) ch H H' s.heap h') (aW:jO X.prog X.w H' h') (hg:AllBare g')
  (pC:∀ b ∈ ch,(b ∈ X.ex \/ X.s₀.heap.objs.size <= b) /\ b ≠ X.env.locals /\ (∀ x c,X.env.cells.lookup x = some c->c ≠ b) /\ ∀ p ∈ X.pn ++ pins,p.1 ≠ b) :
  Inv X pins σ H' { s with heap:=h',gens:=g',drawn:=d',toks:=t' }:=by
 obtain ⟨m,⟨o,es,ep,ho,r⟩,_⟩:=id I.loc
 obtain ⟨sl,hL⟩:=u.any ho I.free fun z=>(pC _ z).2.1 rfl
 exact I.step (ch:=ch) pC (fun b o hL hb hc e n=>u.keep b o e n (fun z=>(Yb.mp (I.mz b z)).elim hL hb) hc) (fun b o _ _ hc e n=>u.any e n hc) (fun b o hc e n=>u.free b o e n hc) (fun b o hc e=>u.there b o e hc) u.iG u.jL u.jQ (fun m' hm=>by
  obtain ⟨o',Cy,CL,mZ,r'⟩:=hm
  rw [ho] at mZ; cases mZ
  exact ⟨_,Cy,CL,hL,r'⟩) aW hg
theorem Inv.turned {t':Nat} {it:Addr} (I:Inv X pins σ H s) (k:∀ b o,b ≠ it->s.heap.get? b = some o->h'.get? b = some o) (hn:H it = none) (hL:it ≠ X.env.locals)
  (h1:it ∈ X.ex \/ X.s₀.heap.objs.size <= it) (h2:∀ x c,X.env.cells.lookup x = some c->c ≠ it) (h3:∀ p ∈ X.pn ++ pins,p.1 ≠ it):Inv X pins σ H { s with heap:=h',toks:=t' }:=by
 have Nt:∀ b u,H b = some u->b ≠ it:=fun b u e z=>by rw [z,hn] at e; cases e
 refine I.step (g':=s.gens) (d':=s.drawn) (ch:=[it]) (fun b hb=>?_) (fun b o _ _ hc e _=>k b o (fun z=>hc (by simp [z])) e) (fun b o _ _ hc e _=>⟨o.slots,k b o (fun z=>hc (by simp [z])) e⟩) (fun _ _ _ _ n=>n)
  (fun b o hc e=>⟨o,k b o (fun z=>hc (by simp [z])) e⟩) (fun _ _ e=>e) (fun _ _ _ e=>e) (fun b ps e=>⟨#[],by rw [e]; simp⟩) (fun m hm=>?_) (fun b u e=>?_) I.bare
 ·have e:b = it:=by simpa using hb
  subst e
  exact ⟨h1,hL,h2,h3⟩
 ·obtain ⟨o,es,ep,ho,r⟩:=hm
  exact ⟨o,es,ep,k _ o (aag hL) ho,r⟩
 ·refine (I.aW b u e).lT (fun c v hc q=>k c v ?_ q) (fun _ q=>q) fun _ _ q=>q
  rcases hc with z | z
  ·rw [z]; exact Nt b u e
  ·exact Nt c _ z
theorem Inv.tok (I:Inv X pins σ H s) (t:Nat):Inv X pins σ H { s with toks:=t }:=I.un (h':=s.heap) (t':=t) Un.refl I.aW
theorem Inv.kept {t':Nat} (I:Inv X pins σ H s) (k:∀ b u,s.heap.get? b = some u->h'.get? b = some u):Inv X pins σ H { s with heap:=h',toks:=t' }:=I.un (Un.kept k) (I.aW.kept k)
theorem Inv.laid {a:Addr} {o:HO} {t':Nat} (I:Inv X pins σ H s) (k:∀ b u,s.heap.get? b = some u->h'.get? b = some u) (hp:s.heap.objs.size <= a) (new:cj X.prog X.w (upd H a o) h' a o) :
  Inv X pins σ (upd H a o) { s with heap:=h',toks:=t' }:=I.un (Un.laid k hp (I.aW.fresh hp)) (I.aW.laid k hp new)
theorem Inv.write {x e:Addr} {o:HO} {t':Nat} (I:Inv X pins σ H s) (mu:N7 (H x)) (he:e = x \/ H e = some (.own x)) (k:∀ b u,b ≠ e->s.heap.get? b = some u->h'.get? b = some u) (B5:∃ u,h'.get? e = some u)
  (new:cj X.prog X.w (upd H x o) h' x o):Inv X pins σ (upd H x o) { s with heap:=h',toks:=t' }:=I.un (Un.write mu he k B5) (I.aW.write mu he k B5 new)
theorem Inv.weak {σ':List (Option V)} (I:Inv X pins σ H s) (hl:σ'.length = σ.length) (w:∀ (i:Nat) v,σ'[i]? = some (some v)->σ[i]? = some (some v)):Inv X pins σ' H s :=
 ⟨I.ok,I.os,I.bare,I.base,let ⟨m,hn,jN⟩:=I.loc; ⟨m,hn,fun i x v e1 e2 e3=>jN i x v e1 (w i v e2) e3⟩,I.cell,I.free,I.ii,I.pin,I.aW,hl.trans I.len⟩
theorem Inv.AB {HP:List (Addr × Obj)} (I:Inv X pins σ H s) (h:∀ p ∈ HP,s.heap.get? p.1 = some p.2 /\ H p.1 = none /\ p.1 ≠ X.env.locals /\ p.1 ∉ X.fs /\ ∀ v,p.2.data ≠ .cell v):Inv X HP σ H s :=
 ⟨I.ok,I.os,I.bare,I.base,I.loc,I.cell,I.free,I.ii,fun p hp=>(Yz.mp hp).elim (fun z=>I.pin p (Zu _ z)) (h p),I.aW,I.len⟩
theorem xw {N:List Str} (hN:N.Nodup) {i j:Nat} {x:Str} (a:N[i]? = some x) (b:N[j]? = some x):i = j:=by
 obtain ⟨h1,e1⟩:=Ys.mp a
 obtain ⟨h2,e2⟩:=Ys.mp b
 exact (List.getElem_inj hN).mp (e1.trans e2.symm)
theorem uo {M:Model} {A:Around} {E:Value->Shared->Prop} {i:Nat} {x:Str} {v:V} {u:Value} {Q:Unit->Shared->Prop} (I:Inv X pins σ H s) (hN:X.N.Nodup) (hi:X.N[i]? = some x) (hx:Loc X.env.scope x) (r:RelV v u)
  (h:∀ s',Inv X pins (σ.set i (some v)) H s'->(∃ a,Heap.SameBut a s.heap s'.heap /\ (a = X.env.locals \/ X.env.cells.lookup x = some a))->Q () s') (hf:X.fn x = true \/ X.env.scope.names.lookup x = some .local:=by first | exact .inl rfl | exact .inr rfl | assumption):wpAny M A (storeName X.env x u) Q E s:=by
 obtain ⟨m,hn,hl⟩:=id I.loc
 have Ql:(X.env.scope.kind == .class || (X.env.scope.kind == .module && X.env.locals != X.env.globals)) = false:=by rw [I.ok.kind]; rfl
 have MX:i < σ.length:=by rw [I.len]; exact (Ys.mp hi).1
 have CV:=I.CV
 have tracked:∀ {a:Addr} {h':Heap},(∃ o,s.heap.get? a = some o /\ H a = none)->Heap.SameBut a s.heap h'->jO X.prog X.w H h':=fun {a h'} ha hs b ob e=>by
  obtain ⟨_,_,HJ⟩:=ha
  refine (I.aW b ob e).lT (fun c w' hc q=>(hs.2 c ?_).trans q) (fun _ q=>q) fun _ _ q=>q
  rintro rfl
  rcases hc with rfl | hc
  ·rw [HJ] at e; cases e
  ·rw [HJ] at hc; cases hc
 rcases hx with hk | hk
 ·refine wpAny_storeName_local hk hn (fun h' Tt hs=>?_) Ql
  obtain ⟨oL,_,_,Ny,_⟩:=id hn
  refine h _ ⟨I.ok,I.os,I.bare,⟨fun b o e n hb hx=>?_,fun b o e n hb hx=>?_,I.base.free,fun b o e hx=>?_,I.base.iG,I.base.jL,I.base.jQ⟩,⟨_,Tt,fun j y v' e1 e2 e3=>?_⟩,fun y c e=>?_,I.free,I.ii,fun p hp=>?_,tracked ⟨oL,Ny,I.free⟩ hs,by simpa using I.len⟩ ⟨_,hs,.inl rfl⟩
  ·exact (hs.2 b (YB (YF (Ym e) I.ok.above))).trans (I.base.keep b o e n hb hx)
  ·obtain ⟨sl,e1⟩:=I.base.slot b o e n hb hx
   exact ⟨sl,(hs.2 b (YB (YF (Ym e) I.ok.above))).trans e1⟩
  ·obtain ⟨o',e1⟩:=I.base.there b o e hx
   exact ⟨o',(hs.2 b (YB (YF (Ym e) I.ok.above))).trans e1⟩
  ·by_cases hj:j = i
   ·subst hj
    rw [hi] at e1; cases e1
    rw [List.getElem?_set_self MX] at e2
    cases e2
    exact ⟨u,r,.inl ⟨hk,by simp⟩⟩
   ·rw [List.getElem?_set_ne (aag hj)] at e2
    obtain ⟨u',r',q⟩:=hl j y v' e1 e2 e3
    refine ⟨u',r',?_⟩
    rcases q with ⟨k,e⟩ | ⟨k,c,e,z⟩
    ·refine .inl ⟨k,?_⟩
     have:y ≠ x:=fun e=>hj (xw hN e1 (e ▸ hi))
     simp [this,e]
    ·exact .inr ⟨k,c,e,z.sameBut hs (CV y c e)⟩
  ·obtain ⟨w',z⟩:=I.cell y c e
   exact ⟨w',z.sameBut hs (CV y c e)⟩
  ·obtain ⟨e,n,ne,nf,d⟩:=I.pin p hp
   exact ⟨(hs.2 p.1 ne).trans e,n,ne,nf,d⟩
 ·have Ps:X.fn x = true:=by
   rcases hf with z | z
   ·exact z
   ·rw [z] at hk; cases hk
  obtain ⟨c,hc⟩:=I.ok.has x (.inl hk)
  obtain ⟨w',z⟩:=I.cell x c hc
  refine wpAny_storeName_cell I.ok.kind hk hc z (fun h' yC hs=>?_)
  obtain ⟨oc,RL,Qy⟩:=id z
  refine h { s with heap:=h' } ⟨I.ok,I.os,I.bare,⟨fun b o e n hb hx=>?_,fun b o e n hb hx=>?_,I.base.free,fun b o e hx=>?_,I.base.iG,I.base.jL,I.base.jQ⟩,⟨m,hn.sameBut hs (aag (CV x c hc)),fun j y v' e1 e2 e3=>?_⟩,fun y c' e=>?_,I.free,I.ii,fun p hp=>?_,tracked ⟨oc,RL,I.ii x c hc⟩ hs,by simpa using I.len⟩ ⟨c,hs,.inr hc⟩
  ·exact (hs.2 b (YB (YF (Ym e) (I.ok.Jk x c Ps hc)))).trans (I.base.keep b o e n hb hx)
  ·obtain ⟨sl,e1⟩:=I.base.slot b o e n hb hx
   exact ⟨sl,(hs.2 b (YB (YF (Ym e) (I.ok.Jk x c Ps hc)))).trans e1⟩
  ·obtain ⟨o',e1⟩:=I.base.there b o e hx
   exact ⟨o',(hs.2 b (YB (YF (Ym e) (I.ok.Jk x c Ps hc)))).trans e1⟩
  ·by_cases hj:j = i
   ·subst hj
    rw [hi] at e1; cases e1
    rw [List.getElem?_set_self MX] at e2
    cases e2
    exact ⟨u,r,.inr ⟨.inl hk,c,hc,yC⟩⟩
   ·rw [List.getElem?_set_ne (aag hj)] at e2
    obtain ⟨u',r',q⟩:=hl j y v' e1 e2 e3
    refine ⟨u',r',?_⟩
    rcases q with q | ⟨k,c',e,z'⟩
    ·exact .inl q
    ·refine .inr ⟨k,c',e,z'.sameBut hs ?_⟩
     rintro rfl
     exact hj (xw hN e1 (I.ok.inj _ _ _ e hc ▸ hi))
  ·by_cases R7:c' = c
   ·subst R7; exact ⟨_,yC⟩
   ·obtain ⟨w2,z2⟩:=I.cell y c' e
    exact ⟨w2,z2.sameBut hs R7⟩
  ·obtain ⟨e,n,ne,nf,d⟩:=I.pin p hp
   refine ⟨(hs.2 p.1 ?_).trans e,n,ne,nf,d⟩
   intro q
   rw [q,RL] at e
   have q':oc = p.2:=Y4 e
   exact d w' (by rw [<- q']; exact Qy)
theorem qu {M:Model} {A:Around} {E:Value->Shared->Prop} {i:Nat} {x:Str} {v:V} {u:Value} {Q:Unit->Shared->Prop} (I:Inv X pins σ H s) (hN:X.N.Nodup) (hi:X.N[i]? = some x) (hx:Loc X.env.scope x) (r:RelV v u)
  (h:∀ s',Inv X pins (σ.set i (some v)) H s'->Q () s') (hf:X.fn x = true \/ X.env.scope.names.lookup x = some .local:=by first | exact .inl rfl | exact .inr rfl | assumption):wpAny M A (storeName X.env x u) Q E s :=
 uo I hN hi hx r (fun s' I' _=>h s' I') hf
theorem Inv.Iz {s':Shared} {ch:List Addr} (I:Inv X pins σ H s) (ho:s'.os = s.os) (u:Un (mn X.stack) ch H H' s.heap s'.heap) (aW:jO X.prog X.w H' s'.heap) (hg:AllBare s'.gens)
  (pC:∀ b ∈ ch,(b ∈ X.ex \/ X.s₀.heap.objs.size <= b) /\ b ≠ X.env.locals /\ (∀ x c,X.env.cells.lookup x = some c->c ≠ b) /\ ∀ p ∈ X.pn ++ pins,p.1 ≠ b):Inv X pins σ H' s':=by
 obtain ⟨h',g',d',t',o'⟩:=s'
 have e:o' = s.os:=ho
 subst e
 exact I.call (g':=g') (t':=t') (d':=d') u aW hg pC
end
abbrev XK:=Value->Option Addr->Hp->Prop
abbrev St:=List (Option V)
abbrev VK:=V->Hp->Prop
abbrev TE:=St->Hp->VK->Prop
abbrev TT:=St->Hp->(Bool->Hp->Prop)->Prop
abbrev TA:=St->Hp->(List V->Hp->Prop)->Prop
structure Ends where
 nx:St->Hp->Prop
 rt:VK
 bk:St->Hp->Prop:=fun _ _=>False
 ct:St->Hp->Prop:=fun _ _=>False
abbrev TS:=Ends->St->Hp->Prop
def EP (X:Cx) (pins:List (Addr × Obj)) (σ:St) (Q:VK) (u:Value) (s':Shared):Prop:=∃ v H',Inv X pins σ H' s' /\ RelV v u /\ Q v H'
def TP (X:Cx) (pins:List (Addr × Obj)) (σ:St) (Q:Bool->Hp->Prop) (b:Bool) (s':Shared):Prop:=∃ H',Inv X pins σ H' s' /\ Q b H'
def AP (X:Cx) (pins:List (Addr × Obj)) (σ:St) (Q:List V->Hp->Prop) (us:List Value) (s':Shared):Prop:=∃ vs H',Inv X pins σ H' s' /\ Vals vs us /\ Q vs H'
def SP (X:Cx) (pins:List (Addr × Obj)) (D:Ends) (f:Flow) (s':Shared):Prop :=
 match f with
 | .next=>∃ σ' H',Inv X pins σ' H' s' /\ D.nx σ' H'
 | .brk=>∃ σ' H',Inv X pins σ' H' s' /\ D.bk σ' H'
 | .cont=>∃ σ' H',Inv X pins σ' H' s' /\ D.ct σ' H'
 | .ret u=>∃ v σ' H',Inv X pins σ' H' s' /\ RelV v u /\ D.rt v H'
def PE (X:Cx) (e:Expr) (t:TE):Prop :=
 ∀ (pins:List (Addr × Obj)) (s:Shared) (σ:St) (H:Hp) (Q:VK),Inv X pins σ H s->t σ H Q->wpAny (model X.prog X.w) X.A (eval e X.env) (EP X pins σ Q) X.xe s
def PT (X:Cx) (e:Expr) (t:TT):Prop :=
 ∀ (pins:List (Addr × Obj)) (s:Shared) (σ:St) (H:Hp) (Q:Bool->Hp->Prop),Inv X pins σ H s->t σ H Q->wpAny (model X.prog X.w) X.A (isTrue e X.env (eval e X.env)) (TP X pins σ Q) X.xe s
def PW (X:Cx) (e:Expr) (t:TT):Prop :=
 ∀ (whole:Sem Value) (pins:List (Addr × Obj)) (s:Shared) (σ:St) (H:Hp) (Q:Bool->Hp->Prop),Inv X pins σ H s->t σ H Q->wpAny (model X.prog X.w) X.A (isTrue e X.env whole) (TP X pins σ Q) X.xe s
theorem PW.pt {X:Cx} {e:Expr} {t:TT} (h:PW X e t):PT X e t:=h _
def PA (X:Cx) (es:List Expr) (t:TA):Prop :=
 ∀ (pos:Pos) (pins:List (Addr × Obj)) (s:Shared) (σ:St) (H:Hp) (Q:List V->Hp->Prop),Inv X pins σ H s->t σ H Q->wpAny (model X.prog X.w) X.A (spliced (backTo pos (starEach es X.env))) (AP X pins σ Q) X.xe s
def PS (X:Cx) (st:Stmt) (t:TS):Prop :=
 ∀ (pins:List (Addr × Obj)) (s:Shared) (σ:St) (H:Hp) (D:Ends),Inv X pins σ H s->t D σ H->wpAny (model X.prog X.w) X.A (exec st X.env) (SP X pins D) X.xe s
def v8 (X:Cx) (st:List Stmt) (t:TS):Prop :=
 ∀ (pins:List (Addr × Obj)) (s:Shared) (σ:St) (H:Hp) (D:Ends),Inv X pins σ H s->t D σ H->wpAny (model X.prog X.w) X.A (execs st X.env) (SP X pins D) X.xe s
theorem bT {α:Type} {t:Sem α} {Q Q':α->Shared->Prop} {M:Model} {A:Around} {E:Value->Shared->Prop} {s:Shared} (h:wpAny M A t Q E s) (hQ:∀ a s,Q a s->Q' a s):wpAny M A t Q' E s:=Zn h hQ fun _ _ x=>x
section
variable {X:Cx}
theorem bin {a b:Expr} {ta tb:TE} (ha:PE X a ta) (hb:PE X b tb) {pins:List (Addr × Obj)} {s:Shared} {σ:St} {H:Hp} {R:V->V->Hp->Prop} (I:Inv X pins σ H s) (h:ta σ H fun x H1=>tb σ H1 fun y H2=>R x y H2)
  {α:Type} {Q:α->Shared->Prop} {f:Value->Value->Sem α}
  (hf:∀ v u s2 x y H2,Inv X pins σ H2 s2->RelV x v->RelV y u->R x y H2->wpAny (model X.prog X.w) X.A (f v u) Q X.xe s2) :
  wpAny (model X.prog X.w) X.A (eval a X.env) (fun v s₁=>wpAny (model X.prog X.w) X.A (eval b X.env) (fun u s₂=>wpAny (model X.prog X.w) X.A (f v u) Q X.xe s₂) X.xe s₁) X.xe s:=by
 refine bT (ha pins s σ H _ I h) fun v s1 ⟨x,H1,I1,r1,q1⟩=>?_
 refine bT (hb pins s1 σ H1 _ I1 q1) fun u s2 ⟨y,H2,I2,r2,q2⟩=>?_
 exact hf v u s2 x y H2 I2 r1 r2 q2
def MR (i:Nat):TE:=fun σ H Q=>∃ v,σ[i]? = some (some v) /\ Q v H
def tC (v:V):TE:=fun _ H Q=>Q v H
theorem IJ {i:Nat} {x:Str} {pos:Pos} (hN:X.N[i]? = some x) (hv:NL X.env.scope x) (hd:(x == ("__debug__":Str)) = false:=by decide) (yZ:(x == ("__classdict__":Str)) = false:=by decide):PE X (.Name x pos) (MR i):=by
 intro pins s σ H Q I h
 obtain ⟨v,e,h⟩:=h
 obtain ⟨m,hn,hl⟩:=I.loc
 obtain ⟨u,r,l⟩:=hl i x v hN e hv
 have fin:EP X pins σ Q u s:=⟨v,H,I,r,h⟩
 rcases l with ⟨hk,hm⟩ | ⟨hk,c,hc,ud⟩
 ·exact wpAny_Name (wpAny_loadName_local I.ok.kind hk hn hm fin) hd
 ·rcases hk with hk | hk
  ·exact wpAny_Name (wpAny_loadName_cell I.ok.kind hk hc ud fin) hd
  ·exact wpAny_Name (wpAny_loadName_free I.ok.kind hk hc ud fin yZ) hd
theorem ak {i j pos}:PE X (.Constant (.int i) j pos) (tC (.int i)):=fun _ _ _ H _ I h=>wpAny_Constant_int ⟨.int i,H,I.tok _,⟨_,rfl⟩,h⟩
theorem jy {b j pos}:PE X (.Constant (.bool b) j pos) (tC (.bl b)):=fun _ _ _ H _ I h=>Constant_bool ⟨.bl b,H,I,rfl,h⟩
theorem aS {x j pos}:PE X (.Constant (.str x) j pos) (tC (.str x)):=fun _ _ _ H _ I h=>Calls.Constant_str ⟨.str x,H,I.tok _,⟨_,rfl⟩,h⟩
def Gl (X:Cx) (x:Str):Prop:=X.env.kindOf x = some .globalImplicit
theorem mE {E:Value->Shared->Prop} {pins:List (Addr × Obj)} {s:Shared} {σ:St} {H:Hp} {x:Str} {u:Value} {pos:Pos} {Q:Value->Shared->Prop} (I:Inv X pins σ H s) (hg:Gl X x) (hm:X.mg x = some u) (h:Q u s)
  (hd:(x == ("__debug__":Str)) = false:=by decide):wpAny (model X.prog X.w) X.A (eval (.Name x pos) X.env) Q E s :=
 Calls.Name_function_global I.ok.kind hg (Calls.loadGlobal_global (by rw [I.ok.glob]; exact I.mod.glob.keeps I.bk) hm h) hd
theorem oB {E:Value->Shared->Prop} {pins:List (Addr × Obj)} {s:Shared} {σ:St} {H:Hp} {x:Str} {u:Value} {pos:Pos} {Q:Value->Shared->Prop} (I:Inv X pins σ H s) (hg:Gl X x) (hm:X.mg x = none) (hv:bootBuiltins x = some u) (h:Q u s)
  (hn:x ≠ "__name__":=by decide) (hd:(x == ("__debug__":Str)) = false:=by decide):wpAny (model X.prog X.w) X.A (eval (.Name x pos) X.env) Q E s:=by
 obtain ⟨mb,h1,h2⟩:=I.mod.blt
 exact Calls.Name_function_global I.ok.kind hg (Calls.loadGlobal_builtin (by rw [I.ok.glob]; exact I.mod.glob.keeps I.bk) hm (by rw [I.ok.blt]; exact h1.keeps I.bk) ((h2 x hn).trans hv) h) hd
theorem dU {x:Str} {v:V} {u:Value} {pos:Pos} (hg:Gl X x) (hm:X.mg x = some u) (r:RelV v u) (hd:(x == ("__debug__":Str)) = false:=by decide):PE X (.Name x pos) (tC v) :=
 fun _ _ _ H _ I h=>mE I hg hm ⟨v,H,I,r,h⟩ hd
theorem GX {x:Str} {v:V} {u:Value} {pos:Pos} (hg:Gl X x) (hm:X.mg x = none) (hv:bootBuiltins x = some u) (r:RelV v u) (hn:x ≠ "__name__":=by decide) (hd:(x == ("__debug__":Str)) = false:=by decide):PE X (.Name x pos) (tC v) :=
 fun _ _ _ H _ I h=>oB I hg hm hv ⟨v,H,I,r,h⟩ hn hd
variable {a b:Expr} {ta tb:TE} {pos:Pos}
def PC (X:Cx) (op:CmpOp) (a b:Expr) (t:TE):Prop :=
 ∀ (pins:List (Addr × Obj)) (s:Shared) (σ:St) (H:Hp) (Q:VK),Inv X pins σ H s->t σ H Q ->
  wpAny (model X.prog X.w) X.A (eval a X.env) (fun v s₁=>wpAny (model X.prog X.w) X.A (eval b X.env) (fun u s₂=>wpAny (model X.prog X.w) X.A (compareOp op v u) (EP X pins σ Q) X.xe s₂) X.xe s₁) X.xe s
theorem EF (b:Expr) {op:CmpOp} (h:op ≠ .In) (h2:op ≠ .NotIn):behindInMarks op b = false:=by
 have e1:(op == CmpOp.In) = false:=by cases op <;> first | rfl | exact absurd rfl h
 have e2:(op == CmpOp.NotIn) = false:=by cases op <;> first | rfl | exact absurd rfl h2
 cases b <;> simp [behindInMarks,e1,e2]
def tB (t:TE):TT:=fun σ H Q=>t σ H fun x H1=>∃ c,x = .bl c /\ Q c H1
theorem O6 {op:CmpOp} {t:TE} (h:PC X op a b t) (h1:behindInMarks op b = false:=by first | exact EF _ (by decide) (by decide) | rfl):PT X (.Compare a [op] [b] pos) (tB t):=by
 intro pins s σ H Q I hw
 refine wpAny_isTrue_Compare1 (bT (h pins s σ H _ I hw) fun v s1 h1=>bT h1 fun u s2 h2=>bT h2 fun c s3 ⟨x,H1,I1,r1,q1⟩=>?_) h1
 obtain ⟨d,rfl,q⟩:=q1
 cases r1
 exact Y9 ⟨H1,I1,q⟩
theorem eS {e:Expr} {t:TE} (h:PE X e t) (he:∀ whole,isTrue e X.env whole = (do let v <- whole; standAt e.pos; holding [v] (truthy v)):=by intro _; rfl):PT X e (tB t):=by
 intro pins s σ H Q I hw
 refine isTrue_plain (bT (h pins s σ H _ I hw) fun v s1 ⟨x,H1,I1,r1,q1⟩=>?_) (he _)
 obtain ⟨d,rfl,q⟩:=q1
 cases r1
 exact Y9 ⟨H1,I1,q⟩
variable {tA NG:TT} {rest:List Expr}
def O5 (t u:TT):TT:=fun σ H Q=>t σ H fun c H1=>if c = true then u σ H1 Q else Q false H1
def VF (t u:TT):TT:=fun σ H Q=>t σ H fun c H1=>if c = true then Q true H1 else u σ H1 Q
def Pf (t:TT):TT:=fun σ H Q=>t σ H fun c H1=>Q (!c) H1
theorem pw_and1 (ha:PT X a tA):PW X (.BoolOp .And [a] pos) tA:=by
 intro wh pins s σ H Q I h
 refine isTrue_and (bT (ha pins s σ H Q I h) fun c s1 e=>?_)
 cases c with
 | true=>exact isTrue_and_nil e
 | false=>exact e
theorem pw_or1 (ha:PT X a tA):PW X (.BoolOp .Or [a] pos) tA:=by
 intro wh pins s σ H Q I h
 refine isTrue_or (bT (ha pins s σ H Q I h) fun c s1 e=>?_)
 cases c with
 | false=>exact isTrue_or_nil e
 | true=>exact e
theorem pw_and (ha:PT X a tA) (hb:PW X (.BoolOp .And (b :: rest) pos) NG):PW X (.BoolOp .And (a :: b :: rest) pos) (O5 tA NG):=by
 intro wh pins s σ H Q I h
 refine isTrue_and (bT (ha pins s σ H _ I h) fun c s1 ⟨H1,I1,q1⟩=>?_)
 cases c with
 | true=>exact hb wh pins s1 σ H1 Q I1 q1
 | false=>exact ⟨H1,I1,q1⟩
theorem pw_or (ha:PT X a tA) (hb:PW X (.BoolOp .Or (b :: rest) pos) NG):PW X (.BoolOp .Or (a :: b :: rest) pos) (VF tA NG):=by
 intro wh pins s σ H Q I h
 refine isTrue_or (bT (ha pins s σ H _ I h) fun c s1 ⟨H1,I1,q1⟩=>?_)
 cases c with
 | true=>exact ⟨H1,I1,q1⟩
 | false=>exact hb wh pins s1 σ H1 Q I1 q1
theorem eK (ha:PT X a tA):PT X (.UnaryOp .Not a pos) (Pf tA):=by
 intro pins s σ H Q I h
 exact isTrue_not (ha pins s σ H (fun c H1=>Q (!c) H1) I h)
def Nj (ta tb:TE):TE:=fun σ H Q=>ta σ H fun x H1=>∃ c,x = .bl c /\ if c = true then tb σ H1 Q else Q (.bl false) H1
theorem mi {op} {t:TE} (h:PE X a t):PE X (.BoolOp op [a] pos) t:=fun pins s σ H Q I hw=>BoolOp_one (h pins s σ H Q I hw)
theorem ix (ha:PE X a ta) (hb:PE X (.BoolOp .And (b :: rest) pos) tb):PE X (.BoolOp .And (a :: b :: rest) pos) (Nj ta tb):=by
 intro pins s σ H Q I h
 refine BoolOp_and (bT (ha pins s σ H _ I h) fun v s1 ⟨x,H1,I1,r1,q1⟩=>?_)
 obtain ⟨c,rfl,q1⟩:=q1
 cases r1
 refine Y9 ?_
 cases c with
 | true=>exact hb pins s1 σ H1 Q I1 q1
 | false=>exact ⟨.bl false,H1,I1,rfl,q1⟩
def S7 (t:TT) (ta tb:TE):TE:=fun σ H Q=>t σ H fun c H1=>if c = true then ta σ H1 Q else tb σ H1 Q
theorem m6 {c:Expr} (hc:PT X c tA) (ha:PE X a ta) (hb:PE X b tb):PE X (.IfExp c a b pos) (S7 tA ta tb):=by
 intro pins s σ H Q I h
 refine wpAny_IfExp (bT (hc pins s σ H _ I h) fun d s1 ⟨H1,I1,q1⟩=>?_)
 cases d with
 | true=>exact ha pins s1 σ H1 Q I1 q1
 | false=>exact hb pins s1 σ H1 Q I1 q1
end
def aZ (K:aaG) (H:Hp) (a:Addr) (xs:List V):Prop :=
 Rd H a (.lst xs) \/
  ∃ (o:Obj) (az:Array Value) (n:Nat),K.lookup a = some o /\ o.cls = .type "list" /\ o.dict = none /\ o.data = .seq az n /\ az.size <= sizeLine /\ Vals xs az.toList
def bK (K:aaG) (H:Hp) (a:Addr) (xs:List V):Prop :=
 Rd H a (.tup xs) \/
  ∃ (o:Obj) (az:Array Value) (n:Nat),K.lookup a = some o /\ o.cls = .type "tuple" /\ o.data = .seq az n /\ az.size <= sizeLine /\ Vals xs az.toList
def Pr:Value->Option V
 | .none=>some .cP
 | .bool b=>some (.bl b)
 | .int i _=>some (.int i)
 | .str x _=>some (.str x)
 | .bytes b _=>some (.AI b)
 | .float b _=>some (.IT b)
 | .ref a=>some (.ref a)
 | .type n=>some (.ty n)
 | _=>none
theorem RelV.abs {x:V} {u:Value} (r:RelV x u):Pr u = some x:=by
 cases x with
 | cP=>cases r; rfl
 | bl _=>cases r; rfl
 | int _=>obtain ⟨t,rfl⟩:=r; rfl
 | str _=>obtain ⟨t,rfl⟩:=r; rfl
 | AI _=>obtain ⟨t,rfl⟩:=r; rfl
 | IT _=>obtain ⟨t,rfl⟩:=r; rfl
 | ref _=>cases r; rfl
 | ty _=>cases r; rfl
theorem RelV.inj {x y:V} {u:Value} (r:RelV x u) (q:RelV y u):x = y:=Y4 (r.abs.symm.trans q.abs)
theorem Vals.inj:∀ {xs ys:List V} {us:List Value},Vals xs us->Vals ys us->xs = ys
 | _,_,_,.nil,.nil=>rfl
 | _,_,_,.cons r t,.cons r' t'=>by rw [r.inj r',Vals.inj t t']
section
variable {X:Cx} {pins:List (Addr × Obj)} {σ:St} {H:Hp} {s:Shared} {a:Addr} {xs ys:List V}
theorem aZ.of {K:aaG} (h:H a = some (.lst xs)):aZ K H a xs:=.inl (.inl h)
theorem bK.of {K:aaG} (h:H a = some (.tup xs)):bK K H a xs:=.inl (.inl h)
theorem Inv.list (I:Inv X pins σ H s) (h:aZ X.K H a xs):∃ az:List Value,Vals xs az /\ PlainL s.heap a az.toArray /\ xs.length <= sizeLine:=by
 rcases h with h | ⟨o,az,n,hk,hc,hd,hs,hz,r⟩
 ·obtain ⟨z,az,n,r,e⟩:=h.ok I.aW
  exact ⟨az,r,⟨_,n,e,rfl,rfl,rfl⟩,z⟩
 ·refine ⟨az.toList,r,⟨o,n,I.pV a o hk,hc,hd,by simpa using hs⟩,?_⟩
  have e:=r.length
  simp only [Ye] at e
  omega
theorem Inv.tuple (I:Inv X pins σ H s) (h:bK X.K H a xs):∃ az:List Value,Vals xs az /\ IsTup s.heap a az.toArray /\ xs.length <= sizeLine:=by
 rcases h with h | ⟨o,az,n,hk,hc,hs,hz,r⟩
 ·obtain ⟨z,az,r,p⟩:=h.ok I.aW
  exact ⟨az,r,p,z⟩
 ·refine ⟨az.toList,r,⟨o,I.pV a o hk,hc,n,by simpa using hs⟩,?_⟩
  have e:=r.length
  simp only [Ye] at e
  omega
theorem Inv.DT (I:Inv X pins σ H s) (h:aZ X.K H a xs) (h':aZ X.K H a ys):xs = ys:=by
 obtain ⟨az,r,⟨o,n,e,_,_,d⟩,_⟩:=I.list h
 obtain ⟨its',r',⟨o',n',e',_,_,d'⟩,_⟩:=I.list h'
 rw [e] at e'; cases e'
 rw [d] at d'
 injection d' with d1 _
 have:az = its':=by simpa using Zi Array.toList d1
 subst this
 exact r.inj r'
theorem Inv.CG (I:Inv X pins σ H s) (h:bK X.K H a xs) (h':bK X.K H a ys):xs = ys:=by
 obtain ⟨az,r,⟨o,e,_,n,d⟩,_⟩:=I.tuple h
 obtain ⟨its',r',⟨o',e',_,n',d'⟩,_⟩:=I.tuple h'
 rw [e] at e'; cases e'
 rw [d] at d'
 injection d' with d1 _
 have:az = its':=by simpa using Zi Array.toList d1
 subst this
 exact r.inj r'
end
abbrev Cx.pJ (X:Cx) (E:Value->Shared->Prop):Cx:={ X with xe:=E }
abbrev Cx.FJ (X:Cx):Cx:=X.pJ fun _ _=>False
theorem Cx.Ok.pJ {X:Cx} (ok:X.Ok) (E:Value->Shared->Prop):(X.pJ E).Ok :=
 ⟨ok.mod,ok.kind,ok.glob,ok.blt,ok.above,ok.inj,ok.has,ok.Jk,ok.hd,ok.frames,ok.K3,ok.KW,ok.bs,ok.BV,ok.zN,ok.yP,ok.lK,ok.Fw⟩
theorem Cx.Ok.iA {X:Cx} {E:Value->Shared->Prop} (ok:(X.pJ E).Ok):X.Ok :=
 ⟨ok.mod,ok.kind,ok.glob,ok.blt,ok.above,ok.inj,ok.has,ok.Jk,ok.hd,ok.frames,ok.K3,ok.KW,ok.bs,ok.BV,ok.zN,ok.yP,ok.lK,ok.Fw⟩
section
variable {X:Cx} {pins:List (Addr × Obj)} {σ:St} {H:Hp} {s:Shared} {E:Value->Shared->Prop}
theorem Inv.pJ (I:Inv X pins σ H s) (E:Value->Shared->Prop):Inv (X.pJ E) pins σ H s:=⟨I.ok.pJ E,I.os,I.bare,I.base,I.loc,I.cell,I.free,I.ii,I.pin,I.aW,I.len⟩
theorem Inv.iA (I:Inv (X.pJ E) pins σ H s):Inv X pins σ H s:=⟨I.ok.iA,I.os,I.bare,I.base,I.loc,I.cell,I.free,I.ii,I.pin,I.aW,I.len⟩
theorem SP.iA {D:Ends} {f:Flow} {s':Shared} (h:SP (X.pJ E) pins D f s'):SP X pins D f s':=by
 cases f with
 | next=>obtain ⟨σ',H',I,q⟩:=h; exact ⟨σ',H',I.iA,q⟩
 | brk=>obtain ⟨σ',H',I,q⟩:=h; exact ⟨σ',H',I.iA,q⟩
 | cont=>obtain ⟨σ',H',I,q⟩:=h; exact ⟨σ',H',I.iA,q⟩
 | ret u=>obtain ⟨v,σ',H',I,r,q⟩:=h; exact ⟨v,σ',H',I.iA,r,q⟩
theorem PE.FJ {e:Expr} {t:TE} (h:PE X.FJ e t):PE X e t:=fun pins s σ H Q I hw =>
 Zn (h pins s σ H Q (I.pJ _) hw) (fun _ _ ⟨v,H',I',r,q⟩=>⟨v,H',I'.iA,r,q⟩) fun _ _ z=>False.elim z
theorem PT.FJ {e:Expr} {t:TT} (h:PT X.FJ e t):PT X e t:=fun pins s σ H Q I hw =>
 Zn (h pins s σ H Q (I.pJ _) hw) (fun _ _ ⟨H',I',q⟩=>⟨H',I'.iA,q⟩) fun _ _ z=>False.elim z
theorem v8.FJ {st:List Stmt} {t:TS} (h:v8 X.FJ st t):v8 X st t:=fun pins s σ H D I hw =>
 Zn (h pins s σ H D (I.pJ _) hw) (fun _ _ q=>q.iA) fun _ _ z=>False.elim z
end
section
variable {X:Cx} {st:Stmt} {rest:List Stmt} {t u:TS} {e:Expr} {te:TE} {pos:Pos}
def MP:TS:=fun D σ H=>D.nx σ H
def PL (t u:TS):TS:=fun D σ H=>t { D with nx:=u D } σ H
theorem aM:v8 X [] MP:=fun _ _ σ H _ I h=>wpAny_execs_nil ⟨σ,H,I,h⟩
theorem ag (h1:PS X st t) (h2:v8 X rest u):v8 X (st :: rest) (PL t u):=by
 intro pins s σ H D I h
 refine wpAny_execs_cons (bT (h1 pins s σ H { D with nx:=u D } I h) fun f s1 q=>?_)
 cases f with
 | next =>
  obtain ⟨σ',H',I',q⟩:=q
  exact h2 pins s1 σ' H' D I' q
 | ret v=>exact q
 | brk=>exact q
 | cont=>exact q
theorem ai (h1:PS X st t):v8 X [st] t:=by
 intro pins s σ H D I h
 refine wpAny_execs_cons (bT (h1 pins s σ H D I h) fun f s1 q=>?_)
 cases f with
 | next=>exact wpAny_execs_nil q
 | ret v=>exact q
 | brk=>exact q
 | cont=>exact q
theorem Inv.quiet {pins:List (Addr × Obj)} {σ:St} {H:Hp} {s:Shared} (I:Inv X pins σ H s):interactive X.env = false:=by simp [interactive,I.ok.kind]
def MK (te:TE):TS:=fun D σ H=>te σ H fun _ H1=>D.nx σ H1
theorem cp (he:PE X e te) (hs:swapsWith e none pos.line X.env = pure false:=by rfl):PS X (.Expr e pos) (MK te):=by
 intro pins s σ H D I h
 exact wpAny_Expr_any (bT (he pins s σ H _ I h) fun v s1 ⟨x,H1,I1,r1,q1⟩=>⟨σ,H1,I1,q1⟩) I.quiet hs
def Qz (te:TE):TS:=fun D σ H=>te σ H D.rt
theorem aA (he:PE X e te):PS X (.Return (some e) pos) (Qz te):=by
 intro pins s σ H D I h
 exact wpAny_Return_some (bT (he pins s σ H _ I h) fun v s1 ⟨x,H1,I1,r1,q1⟩=>⟨x,σ,H1,I1,r1,q1⟩)
def OL (c:TT) (t u:TS):TS:=fun D σ H=>c σ H fun b H1=>if b = true then t D σ H1 else u D σ H1
theorem bL {c:Expr} {a b:List Stmt} {tc:TT} (hc:PT X c tc) (ha:v8 X a t) (hb:v8 X b u):PS X (.If c a b pos) (OL tc t u):=by
 intro pins s σ H D I h
 refine wpAny_If (bT (hc pins s σ H _ I h) fun d s1 ⟨H1,I1,q1⟩=>?_)
 cases d with
 | true=>exact ha pins s1 σ H1 D I1 q1
 | false=>exact hb pins s1 σ H1 D I1 q1
def Jt:TS:=fun _ _ _=>False
theorem dO:PS X st Jt:=fun _ _ _ _ _ _ h=>h.elim
end
abbrev TG:=V->St->Hp->(St->Hp->Prop)->Prop
abbrev HG:=List V->St->Hp->(St->Hp->Prop)->Prop
def PG (X:Cx) (target:Expr) (t:TG):Prop :=
 ∀ (pins:List (Addr × Obj)) (s:Shared) (σ:St) (H:Hp) (v:V) (u:Value) (Q:St->Hp->Prop),Inv X pins σ H s->RelV v u->t v σ H Q ->
  wpAny (model X.prog X.w) X.A (assign target X.env u) (fun _ s'=>∃ σ' H',Inv X pins σ' H' s' /\ Q σ' H') X.xe s
def Lr (X:Cx) (ts:List Expr) (t:HG):Prop :=
 ∀ (pins:List (Addr × Obj)) (s:Shared) (σ:St) (H:Hp) (vs:List V) (us:List Value) (Q:St->Hp->Prop),Inv X pins σ H s->Vals vs us->t vs σ H Q ->
  wpAny (model X.prog X.w) X.A (assignInOrder ((assignEach ts X.env).map (·.2)) us) (fun _ s'=>∃ σ' H',Inv X pins σ' H' s' /\ Q σ' H') X.xe s
abbrev J3:=V->V->V->Hp->(Hp->Prop)->Prop
def Ha (X:Cx) (t:J3):Prop :=
 ∀ (pins:List (Addr × Obj)) (s:Shared) (σ:St) (H:Hp) (o i v:V) (ov iv u:Value) (Q:Hp->Prop),Inv X pins σ H s->RelV o ov->RelV i iv->RelV v u->t o i v H Q ->
  wpAny (model X.prog X.w) X.A (setItem ov iv u) (fun _ s'=>∃ H',Inv X pins σ H' s' /\ Q H') X.xe s
abbrev NQ:=V->V->Hp->VK->Prop
def Sl (X:Cx) (op:Operator) (t:NQ):Prop :=
 ∀ (pins:List (Addr × Obj)) (s:Shared) (σ:St) (H:Hp) (x y:V) (v u:Value) (Q:VK),Inv X pins σ H s->RelV x v->RelV y u->t x y H Q ->
  wpAny (model X.prog X.w) X.A (inplaceOp op v u) (EP X pins σ Q) X.xe s
section
variable {X:Cx} {pos:Pos}
def yn (i:Nat):TG:=fun v σ H Q=>Q (σ.set i (some v)) H
theorem G1 {i:Nat} {x:Str} (hN:X.N.Nodup) (hi:X.N[i]? = some x) (hx:Loc X.env.scope x) (hf:X.fn x = true \/ X.env.scope.names.lookup x = some .local:=by first | exact .inl rfl | exact .inr rfl | assumption):PG X (.Name x pos) (yn i):=by
 intro pins s σ H v u Q I r h
 exact wpAny_assign_Name (qu I hN hi hx r (fun s' I'=>⟨_,H,I',h⟩) hf)
def Q1:HG:=fun vs σ H Q=>vs = [] /\ Q σ H
def Nu (t:TG) (u:HG):HG:=fun vs σ H Q=>∃ v r,vs = v :: r /\ t v σ H fun σ' H'=>u r σ' H' Q
theorem di:Lr X [] Q1:=by
 intro pins s σ H vs us Q I r h
 obtain ⟨e,h⟩:=h
 subst e
 cases r
 exact assignInOrder_nil ⟨σ,H,I,h⟩
theorem aG {e:Expr} {es:List Expr} {t:TG} {u:HG} (h1:PG X e t) (h2:Lr X es u)
  (hs:(assignEach (e :: es) X.env).map (·.2) = assign e X.env :: (assignEach es X.env).map (·.2):=by rfl):Lr X (e :: es) (Nu t u):=by
 intro pins s σ H vs us Q I r h
 obtain ⟨v,vr,e1,h⟩:=h
 subst e1
 cases r with
 | cons r rr =>
  rw [hs]
  refine assignInOrder_cons (bT (h1 pins s σ H _ _ _ I r h) fun _ s1 ⟨σ1,H1,I1,q1⟩=>?_)
  exact h2 pins s1 σ1 H1 _ _ Q I1 rr q1
def Lh (K:aaG) (n:Nat) (t:HG):TG:=fun v σ H Q=>∃ a xs,v = .ref a /\ bK K H a xs /\ xs.length = n /\ t xs σ H Q
theorem jk {es:List Expr} {k:Nat} {t:HG} {n:Nat} (hc:X.calm = true) (h:Lr X es t)
  (hn:(assignEach es X.env).length = n:=by rfl) (kC:(assignEach es X.env).findIdx? (·.1) = none:=by rfl):PG X (.Tuple es k pos) (Lh X.K n t):=by
 intro pins s σ H v u Q I r hw
 obtain ⟨a,xs,e1,hq,hl,hw⟩:=hw
 subst e1
 cases r
 obtain ⟨az,rv,ht,hz⟩:=I.tuple hq
 refine assign_Tuple_tuple (I.ok.hd hc) ht (by simp [hn,<- hl,rv.length]) kC fun h' hx=>?_
 have I1:Inv X pins σ H { s with heap:=h' }:=I.kept (t':=s.toks) fun b o e=>hx b o (YB (Ym e)) e
 exact h pins _ σ H xs _ Q I1 (by simpa using rv) hw
def ON (to ti:TE) (t:J3):TG:=fun v σ H Q=>to σ H fun o H1=>ti σ H1 fun i H2=>t o i v H2 fun H3=>Q σ H3
theorem zk {o i:Expr} {to ti:TE} {t:J3} (ho:PE X o to) (hi:PE X i ti) (hs:Ha X t)
  (ha:∀ v,assign (.Subscript o i pos) X.env v = (do
   let ov <- holding [v] (eval o X.env)
   let iv <- holding [v,ov] (eval i X.env)
   standAt pos
   holding [v,ov,iv] (setItem ov iv v)
   release [v,ov,iv] []):=by intro _; rfl):PG X (.Subscript o i pos) (ON to ti t):=by
 intro pins s σ H v u Q I r h
 rw [ha]
 refine X3 (Zk (bT (ho pins s σ H _ I h) fun ov s1 ⟨x,H1,I1,r1,q1⟩=>?_))
 refine X3 (Zk (bT (hi pins s1 σ H1 _ I1 q1) fun iv s2 ⟨y,H2,I2,r2,q2⟩=>?_))
 refine X3 (wpAny_standAt (X3 (Zk (bT (hs pins s2 σ H2 x y v ov iv u _ I2 r1 r2 r q2) fun _ s3 ⟨H3,I3,q3⟩=>?_))))
 exact wpAny_release ⟨σ,H3,I3,q3⟩
def G4 (te:TE) (g:TG):TS:=fun D σ H=>te σ H fun x H1=>g x σ H1 D.nx
theorem zJ {tg e:Expr} {te:TE} {g:TG} (he:PE X e te) (hg:PG X tg g) (hs:swapsWithSole [tg] e pos.line X.env = pure false:=by rfl) (hw:swappedStores [tg] e X.env = pure none:=by rfl)
  (h1:(assignEach [tg] X.env).map (·.2) = [assign tg X.env]:=by rfl):PS X (.Assign [tg] e pos) (G4 te g):=by
 intro pins s σ H D I h
 refine wpAny_Assign_stores (bT (he pins s σ H _ I h) fun v s1 ⟨x,H1,I1,r1,q1⟩=>?_) hs hw
 rw [h1]
 exact bT (hg pins s1 σ H1 x v _ I1 r1 q1) fun _ s2 q=>q
theorem JM {i:Nat} {x:Str} {e:Expr} {te:TE} {pos':Pos} (hN:X.N.Nodup) (hi:X.N[i]? = some x) (hx:Loc X.env.scope x) (he:PE X e te) (hs:swapsWith e (some (.Name x pos')) pos.line X.env = pure false:=by rfl) (hf:X.fn x = true \/ X.env.scope.names.lookup x = some .local:=by first | exact .inl rfl | exact .inr rfl | assumption) :
  PS X (.Assign [.Name x pos'] e pos) (G4 te (yn i)):=by
 intro pins s σ H D I h
 refine wpAny_Assign_Name (bT (he pins s σ H _ I h) fun v s1 ⟨y,H1,I1,r1,q1⟩=>?_) hs
 exact qu I1 hN hi hx r1 (fun s2 I2=>⟨_,H1,I2,q1⟩) hf
def Pc (i:Nat) (te:TE) (ti:NQ):TS:=fun D σ H=>∃ x,σ[i]? = some (some x) /\ te σ H fun y H1=>ti x y H1 fun z H2=>D.nx (σ.set i (some z)) H2
theorem KC {i:Nat} {x:Str} {e:Expr} {te:TE} {op:Operator} {ti:NQ} {pos':Pos} (hN:X.N.Nodup) (hi:X.N[i]? = some x) (hx:Loc X.env.scope x) (he:PE X e te) (ho:Sl X op ti) (hf:X.fn x = true \/ X.env.scope.names.lookup x = some .local:=by first | exact .inl rfl | exact .inr rfl | assumption) :
  PS X (.AugAssign (.Name x pos') op e pos) (Pc i te ti):=by
 intro pins s σ H D I h
 obtain ⟨v,e1,h⟩:=h
 obtain ⟨m,hn,hl⟩:=I.loc
 have IP:NL X.env.scope x:=by rcases hx with k | k; exact .inl k; exact .inr (.inl k)
 obtain ⟨u,r,l⟩:=hl i x v hi e1 IP
 refine wpAny_AugAssign_Name ?_
 have go:wpAny (model X.prog X.w) X.A (eval e X.env) (fun w s₂=>wpAny (model X.prog X.w) X.A (inplaceOp op u w) (fun r s₃=>wpAny (model X.prog X.w) X.A (storeName X.env x r) (fun _=>SP X pins D .next) X.xe s₃) X.xe s₂) X.xe s:=by
  refine bT (he pins s σ H _ I h) fun w s1 ⟨y,H1,I1,r1,q1⟩=>?_
  refine bT (ho pins s1 σ H1 v y u w _ I1 r r1 q1) fun z s2 ⟨zv,H2,I2,r2,q2⟩=>?_
  exact qu I2 hN hi hx r2 (fun s3 I3=>⟨_,H2,I3,q2⟩) hf
 rcases l with ⟨hk,hm⟩ | ⟨hk,c,hc,ud⟩
 ·exact wpAny_loadName_local I.ok.kind hk hn hm go
 ·rcases hk with hk | hk
  ·exact wpAny_loadName_cell I.ok.kind hk hc ud go
  ·rcases hx with k | k
   ·have:X.env.scope.names.lookup x = some .free:=hk
    rw [k] at this; cases this
   ·have:X.env.scope.names.lookup x = some .free:=hk
    rw [k] at this; cases this
def VT (f:Int->Int->Int):NQ:=fun x y H Q=>∃ i j,x = .int i /\ y = .int j /\ Q (.int (f i j)) H
theorem JY:Sl X .Add (VT fun i j=>i + j):=by
 intro pins s σ H x y v u Q I r1 r2 h
 obtain ⟨i,j,e1,e2,q⟩:=h
 subst e1; subst e2
 obtain ⟨t,rfl⟩:=r1
 obtain ⟨t',rfl⟩:=r2
 exact iadd_int ⟨.int _,H,I.tok _,⟨_,rfl⟩,q⟩
end
section
variable {X:Cx} {pos:Pos}
def Ji (c:TT) (tb:TS):TS:=fun D σ H=>∃ W:Nat->St->Hp->Prop,(∃ m,W m σ H) /\ ∀ m σ H,W m σ H ->
 c σ H fun b H1=>if b = true then ∃ N:St->Hp->Prop,(∀ σ' H',N σ' H'->∃ m',m' < m /\ W m' σ' H') /\ tb { D with nx:=N,ct:=N,bk:=D.nx } σ H1 else D.nx σ H1
theorem rQ {c:Expr} {body:List Stmt} {tc:TT} {tb:TS} (hp:PassesOwn (model X.prog X.w) X.A X.env X.xe) (hc:PT X c tc) (hb:v8 X body tb):PS X (.While c body [] pos) (Ji tc tb):=by
 intro pins s σ H D I h
 obtain ⟨W,⟨m0,w0⟩,turn⟩:=h
 refine wpAny_While (codeAny_whileLoop (fun n s'=>∃ σ' H',Inv X pins σ' H' s' /\ W n σ' H') ?_ m0 ⟨σ,H,I,w0⟩)
 rintro n s1 ⟨σ1,H1,I1,w1⟩
 refine aac hp (bT (hc pins s1 σ1 H1 _ I1 (turn n σ1 H1 w1)) fun b s2 ⟨H2,I2,q2⟩=>?_)
 cases b with
 | true =>
  obtain ⟨N,hN,q2⟩:=q2
  rw [if_pos rfl]
  refine aac hp (bT (hb pins s2 σ1 H2 _ I2 q2) fun f s3 q3=>?_)
  cases f with
  | next =>
   obtain ⟨σ3,H3,I3,n3⟩:=q3
   obtain ⟨m',hm,w3⟩:=hN σ3 H3 n3
   exact ⟨m',hm,σ3,H3,I3,w3⟩
  | cont =>
   obtain ⟨σ3,H3,I3,n3⟩:=q3
   obtain ⟨m',hm,w3⟩:=hN σ3 H3 n3
   exact ⟨m',hm,σ3,H3,I3,w3⟩
  | brk=>exact q3
  | ret v=>exact q3
 | false =>
  rw [if_neg Yc]
  exact wpAny_execs_nil ⟨σ1,H2,I2,q2⟩
end
structure It where
 go:Nat->Hp->Prop
 Io:Nat->Hp->V->Hp->Prop
 stop:Nat->Hp->Prop
def wn (X:Cx) (pins:List (Addr × Obj)) (H:Hp) (b:Addr):Prop :=
 H b = none /\ b ≠ X.env.locals /\ b ∉ X.fs /\ (b ∈ X.ex \/ X.s₀.heap.objs.size <= b) /\ (∀ x c,X.env.cells.lookup x = some c->c ≠ b) /\ ∀ p ∈ X.pn ++ pins,p.1 ≠ b
theorem Inv.yV {X:Cx} {pins:List (Addr × Obj)} {σ:St} {H H':Hp} {s:Shared} {b:Addr} (I:Inv X pins σ H s) (hb:s.heap.objs.size <= b) (hn:H' b = none):wn X pins H' b:=by
 refine ⟨hn,aam (YF I.lt hb),I.K9 hb,.inr (Yh I.sz hb),fun x c e z=>?_,fun p hp z=>?_⟩
 ·obtain ⟨v,q⟩:=I.cell x c e
  exact absurd (YF q.lt (by rw [z]; exact hb)) (Zf _)
 ·exact absurd (YF (Ym (I.pin p hp).1) (by rw [z]; exact hb)) (Zf _)
structure Turn (P:Program) (w:World) (K:aaG) (tg:Expr) (J:It) (fp:List Addr) (it:Addr) (tn:Nat->Heap->Prop):Prop where
 mem:it ∈ fp
 obj:∀ i h,tn i h->∀ b ∈ fp,∃ o,h.get? b = some o /\ ∀ v,o.data ≠ .cell v
 keep:∀ i h h',tn i h->(∀ b ∈ fp,∀ o,h.get? b = some o->h'.get? b = some o)->tn i h'
 item:∀ (X:Cx),X.prog = P->X.w = w->X.K = K->X.calm = true->∀ (i:Nat) (pins:List (Addr × Obj)) (s:Shared) (σ:St) (H:Hp) (E:Value->Shared->Prop),Inv X pins σ H s->(∀ b ∈ fp,wn X pins H b)->tn i s.heap->J.go i H ->
  wpAny (model P w) X.A (pyNext (.ref it)) (fun r s1=>∃ u,r = some u /\
   wpAny (model P w) X.A (letOwnedTupleGo tg (.ref it) u) (fun _ s2=>∃ x H',Inv X pins σ H' s2 /\ RelV x u /\ J.Io i H x H' /\ tn (i + 1) s2.heap /\ ∀ b ∈ fp,H' b = none) E s1) E s
 done:∀ (X:Cx),X.prog = P->X.w = w->X.K = K->X.calm = true->∀ (i:Nat) (pins:List (Addr × Obj)) (s:Shared) (σ:St) (H:Hp) (E:Value->Shared->Prop),Inv X pins σ H s->(∀ b ∈ fp,wn X pins H b)->tn i s.heap->J.stop i H ->
  wpAny (model P w) X.A (pyNext (.ref it)) (fun r s1=>r = none /\ Inv X pins σ H s1) E s
 self:∀ (A:Around) (i:Nat) (s:Shared) (Q:Value->Shared->Prop) (E:Value->Shared->Prop),tn i s.heap->Q (.ref it) s->wpAny (model P w) A (pyIter (.ref it)) Q E s
abbrev TI:=St->Hp->(It->Hp->Prop)->Prop
def Rn (X:Cx) (pins:List (Addr × Obj)) (σ:St) (tg:Expr) (R:It->Hp->Prop) (PU:Value) (s2:Shared):Prop :=
 ∃ (it:Addr) (fp:List Addr) (tn:Nat->Heap->Prop) (J:It) (H':Hp),PU = .ref it /\ Inv X pins σ H' s2 /\ Turn X.prog X.w X.K tg J fp it tn /\ tn 0 s2.heap /\ (∀ b ∈ fp,wn X pins H' b) /\ R J H'
def PI (X:Cx) (tg iter:Expr) (wi:TI):Prop :=
 ∀ (pins:List (Addr × Obj)) (s:Shared) (σ:St) (H:Hp) (R:It->Hp->Prop),Inv X pins σ H s->wi σ H R ->
  wpAny (model X.prog X.w) X.A (eval iter X.env) (fun v s1=>wpAny (model X.prog X.w) X.A (pyIter v) (Rn X pins σ tg R) X.xe s1) X.xe s
theorem xj {M:Model} {A:Around} {E:Value->Shared->Prop} {s:Shared} {tg:Expr} {it:Addr} {u:Value} {o:Obj} {n:String} {vs:Array Value} {Q:Unit->Shared->Prop} (ho:s.heap.get? it = some o) (hc:o.cls = .type n) (hd:o.data = .fields vs)
  (hn:["enumerate","zip","dict_itemiterator","dict_reverseitemiterator","odict_iterator","itertools.zip_longest","itertools.pairwise"].contains n = false) (hQ:Q () s):wpAny M A (letOwnedTupleGo tg (.ref it) u) Q E s:=by
 unfold letOwnedTupleGo
 cases tg <;> first
  | exact X4 hQ
  | (cases u <;> first
    | exact X4 hQ
    | (
      refine X3 (wpAny_load ho ?_)
      rw [hc,hd]
      show wpAny M A (if (["enumerate","zip","dict_itemiterator","dict_reverseitemiterator","odict_iterator","itertools.zip_longest","itertools.pairwise"].contains n && vs[0]? == some (rawInt _)) = true then _ else _) Q E s
      rw [if_neg (by intro h; rw [hn,YO] at h; cases h)]
      exact X4 hQ))
def KL (K:aaG) (a:Addr):It :=
 ⟨fun i H=>∃ xs x,aZ K H a xs /\ xs[i]? = some x,fun i H x H'=>H' = H /\ ∀ xs,aZ K H a xs->xs[i]? = some x,fun i H=>∃ xs,aZ K H a xs /\ xs.length <= i⟩
def KI (K:aaG) (a:Addr):It :=
 ⟨fun i H=>∃ xs x,bK K H a xs /\ xs[i]? = some x,fun i H x H'=>H' = H /\ ∀ xs,bK K H a xs->xs[i]? = some x,fun i H=>∃ xs,bK K H a xs /\ xs.length <= i⟩
def Jl (lo:Int) (n:Nat):It:=⟨fun i _=>i < n,fun i H x H'=>H' = H /\ x = .int (lo + i),fun i _=>n <= i⟩
theorem Bl {P:Program} {w:World} {K:aaG} {tg:Expr} (a it:Addr):Turn P w K tg (KL K a) [it] it (fun i h=>h.IsListIter it a i) where
 mem:=by simp
 obj:=fun i h st b hb=>by
  have e:b = it:=by simpa using hb
  subst e
  obtain ⟨o,e,c,d⟩:=st
  exact ⟨o,e,fun v z=>by rw [d] at z; cases z⟩
 keep:=fun i h h' st k=>st.at fun o e=>k it (by simp) o e
 item:=by
  intro X hP hw hK hc i pins s σ H E I hf st hg
  subst hP hw hK
  obtain ⟨xs,x,hq,hx⟩:=hg
  obtain ⟨az,rv,p,hz⟩:=I.list hq
  obtain ⟨u,hu,ru⟩:=rv.get hx
  obtain ⟨f0,f1,f2,f3,f4,f5⟩:=hf it (by simp)
  refine wpAny_pyNext_list_item st p.isList (x:=u) (by simpa using hu) fun h' aB sb=>?_
  have I1:Inv X pins σ H { s with heap:=h' }:=I.turned (t':=s.toks) (fun b o hb e=>(sb.2 b hb).trans e) f0 f1 f3 f4 f5
  obtain ⟨o,e,c,d⟩:=id aB
  exact ⟨u,rfl,xj (s:={ s with heap:=h' }) e c d (by decide) ⟨x,H,I1,ru,⟨rfl,fun ys hy=>by rw [I.DT hy hq]; exact hx⟩,aB,fun b hb=>(hf b hb).1⟩⟩
 done:=by
  intro X hP hw hK hc i pins s σ H E I hf st hg
  subst hP hw hK
  obtain ⟨xs,hq,hx⟩:=hg
  obtain ⟨az,rv,p,hz⟩:=I.list hq
  obtain ⟨f0,f1,f2,f3,f4,f5⟩:=hf it (by simp)
  have hl:=rv.length
  exact wpAny_pyNext_list_end (I.ok.hd hc) st p.isList (by simp; omega) fun h' eb=>⟨rfl,I.turned (t':=s.toks) (fun b o hb e=>eb b o hb e) f0 f1 f3 f4 f5⟩
 self:=fun _ _ _ _ _ st h=>wpAny_pyIter_listiter st h
theorem zb {P:Program} {w:World} {K:aaG} {tg:Expr} (a it:Addr):Turn P w K tg (KI K a) [it] it (fun i h=>h.IsTupleIter it a i) where
 mem:=by simp
 obj:=fun i h st b hb=>by
  have e:b = it:=by simpa using hb
  subst e
  obtain ⟨o,e,c,d⟩:=st
  exact ⟨o,e,fun v z=>by rw [d] at z; cases z⟩
 keep:=fun i h h' st k=>st.at fun o e=>k it (by simp) o e
 item:=by
  intro X hP hw hK hc i pins s σ H E I hf st hg
  subst hP hw hK
  obtain ⟨xs,x,hq,hx⟩:=hg
  obtain ⟨az,rv,p,hz⟩:=I.tuple hq
  obtain ⟨u,hu,ru⟩:=rv.get hx
  obtain ⟨f0,f1,f2,f3,f4,f5⟩:=hf it (by simp)
  refine wpAny_pyNext_tuple_item st (show s.heap.IsTuple a az.toArray from p) (x:=u) (by simpa using hu) fun h' aB sb=>?_
  have I1:Inv X pins σ H { s with heap:=h' }:=I.turned (t':=s.toks) (fun b o hb e=>(sb.2 b hb).trans e) f0 f1 f3 f4 f5
  obtain ⟨o,e,c,d⟩:=id aB
  exact ⟨u,rfl,xj (s:={ s with heap:=h' }) e c d (by decide) ⟨x,H,I1,ru,⟨rfl,fun ys hy=>by rw [I.CG hy hq]; exact hx⟩,aB,fun b hb=>(hf b hb).1⟩⟩
 done:=by
  intro X hP hw hK hc i pins s σ H E I hf st hg
  subst hP hw hK
  obtain ⟨xs,hq,hx⟩:=hg
  obtain ⟨az,rv,p,hz⟩:=I.tuple hq
  obtain ⟨f0,f1,f2,f3,f4,f5⟩:=hf it (by simp)
  have hl:=rv.length
  exact wpAny_pyNext_tuple_end (I.ok.hd hc) st (show s.heap.IsTuple a az.toArray from p) (by simp; omega) fun h' eb=>⟨rfl,I.turned (t':=s.toks) (fun b o hb e=>eb b o hb e) f0 f1 f3 f4 f5⟩
 self:=fun _ _ _ _ _ st h=>wpAny_pyIter_tupleiter st h
theorem zz {P:Program} {w:World} {K:aaG} {tg:Expr} (it:Addr) (lo:Int) (n:Nat):Turn P w K tg (Jl lo n) [it] it (fun i h=>IsRangeIter h it (lo + (i:Nat) * 1) ((n:Int) - (i:Nat)) 1) where
 mem:=by simp
 obj:=fun i h st b hb=>by
  have e:b = it:=by simpa using hb
  subst e
  exact ⟨_,st,fun v z=>by
   have z':Data.fields _ = Data.cell v:=z
   cases z'⟩
 keep:=fun i h h' st k=>k it (by simp) _ st
 item:=by
  intro X hP hw hK hc i pins s σ H E I hf st hg
  subst hP hw hK
  obtain ⟨f0,f1,f2,f3,f4,f5⟩:=hf it (by simp)
  have W:=Walks.range (prog:=X.prog) (w:=X.w) (I.ok.hd hc) it lo 1 n
  refine W.item i s _ _ hg st fun v h' tk hv aB kk=>?_
  obtain ⟨t,rfl⟩:=hv
  have I1:Inv X pins σ H { s with heap:=h',toks:=tk }:=I.turned (fun b o hb e=>kk b o (by simpa using hb) e) f0 f1 f3 f4 f5
  refine ⟨_,rfl,xj (s:={ s with heap:=h',toks:=tk }) (n:="range_iterator") aB rfl rfl (by decide) ⟨.int (lo + i),H,I1,⟨t,?_⟩,⟨rfl,rfl⟩,aB,fun b hb=>(hf b hb).1⟩⟩
  rw [Int.mul_one]
 done:=by
  intro X hP hw hK hc i pins s σ H E I hf st hg
  subst hP hw hK
  obtain ⟨f0,f1,f2,f3,f4,f5⟩:=hf it (by simp)
  exact wpAny_pyNext_range_end (I.ok.hd hc) st (by have:n <= i:=hg; omega) fun h' eb=>⟨rfl,I.turned (t':=s.toks) (fun b o hb e=>eb b o hb e) f0 f1 f3 f4 f5⟩
 self:=fun _ _ _ _ _ st h=>wpAny_pyIter_rangeiter st h
section
variable {X:Cx} {tg:Expr}
def K8 (K:aaG) (tl:TE):TI:=fun σ H R=>tl σ H fun x H1=>∃ a,x = .ref a /\ (∃ xs,aZ K H1 a xs) /\ R (KL K a) H1
def PK (K:aaG) (tl:TE):TI:=fun σ H R=>tl σ H fun x H1=>∃ a,x = .ref a /\ (∃ xs,bK K H1 a xs) /\ R (KI K a) H1
theorem bU {l:Expr} {tl:TE} (hl:PE X l tl):PI X tg l (K8 X.K tl):=by
 intro pins s σ H R I h
 refine bT (hl pins s σ H _ I h) fun v s1 ⟨x,H1,I1,r1,q1⟩=>?_
 obtain ⟨a,e,⟨xs,hq⟩,q⟩:=q1
 subst e
 cases r1
 obtain ⟨az,rv,p,hz⟩:=I1.list hq
 refine wpAny_pyIter_list p.isList ?_
 refine ⟨s1.heap.objs.size,[s1.heap.objs.size],_,_,H1,rfl,I1.kept (t':=s1.toks) fun b o e=>X5 _ e,Bl a _,⟨_,Yg _ rfl,rfl,rfl⟩,fun b hb=>?_,q⟩
 have e:b = s1.heap.objs.size:=by simpa using hb
 subst e
 exact I1.yV (X7 _) (I1.aW.fresh (X7 _))
theorem lY {l:Expr} {tl:TE} (hl:PE X l tl):PI X tg l (PK X.K tl):=by
 intro pins s σ H R I h
 refine bT (hl pins s σ H _ I h) fun v s1 ⟨x,H1,I1,r1,q1⟩=>?_
 obtain ⟨a,e,⟨xs,hq⟩,q⟩:=q1
 subst e
 cases r1
 obtain ⟨az,rv,p,hz⟩:=I1.tuple hq
 refine wpAny_pyIter_tuple (show s1.heap.IsTuple a az.toArray from p) ?_
 refine ⟨s1.heap.objs.size,[s1.heap.objs.size],_,_,H1,rfl,I1.kept (t':=s1.toks) fun b o e=>X5 _ e,zb a _,⟨_,Yg _ rfl,rfl,rfl⟩,fun b hb=>?_,q⟩
 have e:b = s1.heap.objs.size:=by simpa using hb
 subst e
 exact I1.yV (X7 _) (I1.aW.fresh (X7 _))
theorem EZ {pins:List (Addr × Obj)} {σ:St} {H:Hp} {s:Shared} {R:It->Hp->Prop} {E:Value->Shared->Prop} {lo hi:Int} {t u v:Tok} {tk:Nat} (I:Inv X pins σ H s) (h1:-(2 ^ 62) <= lo) (h2:lo < 2 ^ 62) (h3:-(2 ^ 62) <= hi) (h4:hi < 2 ^ 62)
  (q:R (Jl lo (hi - lo).toNat) H):wpAny (model X.prog X.w) X.A (pyIter (.ref s.heap.objs.size)) (Rn X pins σ tg R) E { s with heap:=s.heap.push { cls:=.type "range",data:=.fields #[.int lo t,.int hi u,.int 1 v] },toks:=tk }:=by
 refine wpAny_pyIter_range (IsRange.new ..) (small_one h1 h2 h3 h4) ?_
 have I1:Inv X pins σ H { s with heap:=s.heap.push { cls:=.type "range",data:=.fields #[.int lo t,.int hi u,.int 1 v] },toks:=tk }:=I.kept fun b o e=>X5 _ e
 refine ⟨(s.heap.push { cls:=.type "range",data:=.fields #[.int lo t,.int hi u,.int 1 v] }).objs.size,[(s.heap.push { cls:=.type "range",data:=.fields #[.int lo t,.int hi u,.int 1 v] }).objs.size],_,_,H,rfl,
  I1.kept (t':=tk) fun b o e=>X5 _ e,zz _ lo (hi - lo).toNat,?_,fun b hb=>?_,q⟩
 ·have e1:lo + ((0:Nat):Int) * 1 = lo:=by simp
  have e2:(((hi - lo).toNat:Nat):Int) - ((0:Nat):Int) = Builtin.Range.rangeSize lo hi 1:=by rw [rangeSize_one]; split <;> omega
  show IsRangeIter _ _ (lo + ((0:Nat):Int) * 1) ((((hi - lo).toNat:Nat):Int) - ((0:Nat):Int)) 1
  rw [e1,e2]
  exact Yg _ rfl
 ·have e:b = (s.heap.push { cls:=.type "range",data:=.fields #[.int lo t,.int hi u,.int 1 v] }).objs.size:=by simpa using hb
  subst e
  exact I1.yV (X7 _) (I1.aW.fresh (X7 _))
def Li (ta:TA):TI:=fun σ H R=>ta σ H fun vs H1=>∃ j:Int,vs = [.int j] /\ -(2 ^ 62) <= j /\ j < 2 ^ 62 /\ R (Jl 0 j.toNat) H1
theorem iU {a:Expr} {ta:TA} {p pos:Pos} (hg:Gl X "range") (hm:X.mg "range" = none) (ha:PA X [a] ta) (hs:starEach [a] X.env = [(false,eval a X.env)]:=by rfl):PI X tg (.Call (.Name "range" p) [a] [] pos) (Li ta):=by
 intro pins s σ H R I h
 refine Call_ (oB I hg hm boot_range (PyProof.Rows.callWith_type1 (bT (ha pos pins s σ H _ I h) fun us s1 ⟨vs,H1,I1,r1,q1⟩=>?_) hs rfl))
 obtain ⟨j,e,q1,q2,q⟩:=q1
 subst e
 cases r1 with
 | cons r rr =>
  cases rr
  obtain ⟨t,rfl⟩:=r
  exact call_range_1 (EZ I1 (by omega) (by omega) q1 q2 (by simpa using q))
def QG (wi:TI) (g:TG) (tb:TS):TS:=fun D σ H=>wi σ H fun J H1=>∃ W:Nat->Nat->St->Hp->Prop,(∃ m,W 0 m σ H1) /\ ∀ i m σ H,W i m σ H ->
 (J.stop i H /\ D.nx σ H) \/ (J.go i H /\ ∃ N:St->Hp->Prop,(∀ σ' H',N σ' H'->∃ m',m' < m /\ W (i + 1) m' σ' H') /\ ∀ x H',J.Io i H x H'->g x σ H' fun σ2 H2=>tb { D with nx:=N,ct:=N,bk:=D.nx } σ2 H2)
def rV (fp:List Addr) (h:Heap):List (Addr × Obj):=fp.filterMap fun b=>(h.get? b).map fun o=>(b,o)
theorem i0 {fp:List Addr} {h:Heap} {b:Addr} {o:Obj} (hb:b ∈ fp) (e:h.get? b = some o):(b,o) ∈ rV fp h:=List.mem_filterMap.mpr ⟨b,hb,by rw [e]; rfl⟩
theorem BK {fp:List Addr} {h:Heap} {p:Addr × Obj} (hp:p ∈ rV fp h):p.1 ∈ fp /\ h.get? p.1 = some p.2:=by
 obtain ⟨b,hb,e⟩:=List.mem_filterMap.mp hp
 cases q:h.get? b with
 | none=>rw [q] at e; cases e
 | some o =>
  rw [q] at e
  have e':(b,o) = p:=Y4 e
  subst e'
  exact ⟨hb,q⟩
theorem Inv.pinned {pins:List (Addr × Obj)} {σ:St} {H:Hp} {s:Shared} {fp:List Addr} (I:Inv X pins σ H s) (hf:∀ b ∈ fp,wn X pins H b) (ho:∀ b ∈ fp,∃ o,s.heap.get? b = some o /\ ∀ v,o.data ≠ .cell v):Inv X (pins ++ rV fp s.heap) σ H s :=
 I.AB fun p hp=>(Yz.mp hp).elim (fun z=>I.pin p (YH _ z)) fun z=>by
  obtain ⟨hb,e⟩:=BK z
  obtain ⟨f0,f1,f2,_⟩:=hf p.1 hb
  obtain ⟨o,e',d⟩:=ho p.1 hb
  rw [e] at e'; cases e'
  exact ⟨e,f0,f1,f2,d⟩
theorem Inv.mI {pins pl:List (Addr × Obj)} {σ:St} {H:Hp} {s:Shared} (I:Inv X (pins ++ pl) σ H s):Inv X pins σ H s:=I.AB fun p hp=>I.pin p (YH _ (Zu _ hp))
theorem fA {iter:Expr} {body:List Stmt} {wi:TI} {g:TG} {tb:TS} {pos:Pos} (hp:PassesOwn (model X.prog X.w) X.A X.env X.xe) (hc:X.calm = true) (hi:PI X tg iter wi) (hg:PG X tg g) (hb:v8 X body tb)
  (hs:∀ x,foldedSetIterable iter X.env x = pure x:=by intro _; rfl):PS X (.For tg iter body [] pos) (QG wi g tb):=by
 intro pins s σ H D I h
 refine wpAny_For (bT (hi pins s σ H _ I h) fun v s1 h1=>bT h1 fun PU s2 h2=>?_) hs
 obtain ⟨it,fp,tn,J,H2,e,I2,T,Ib,f2,W,⟨m0,w0⟩,turn⟩:=h2
 subst e
 have Ky:∀ {H':Hp},(∀ b ∈ fp,H' b = none)->∀ b ∈ fp,wn X pins H' b:=fun hn b hb=>⟨hn b hb,(f2 b hb).2⟩
 refine codeAny_forLoop_any (fun n s'=>∃ i σ' H',Inv X pins σ' H' s' /\ tn i s'.heap /\ (∀ b ∈ fp,H' b = none) /\ W i n σ' H') ?_ m0 ⟨0,σ,H2,I2,Ib,fun b hb=>(f2 b hb).1,w0⟩
 rintro n s3 ⟨i,σ3,H3,I3,Hz,Ss,w3⟩
 rcases turn i n σ3 H3 w3 with ⟨stop,qn⟩ | ⟨go,N,hN,step⟩
 ·refine aac hp (bT (T.done X rfl rfl rfl hc i pins s3 σ3 H3 X.xe I3 (Ky Ss) Hz stop) fun r s4 ⟨hr,I4⟩=>?_)
  subst hr
  exact wpAny_execs_nil ⟨σ3,H3,I4,qn⟩
 ·refine aac hp (bT (T.item X rfl rfl rfl hc i pins s3 σ3 H3 X.xe I3 (Ky Ss) Hz go) fun r s4 ⟨u,hr,h4⟩=>?_)
  subst hr
  refine aac hp (bT h4 fun _ s5 ⟨x,H5,I5,r5,y5,Mq,Vv⟩=>?_)
  have Wt:=I5.pinned (Ky Vv) (T.obj _ _ Mq)
  refine aac hp (bT (hg _ s5 σ3 H5 x u _ Wt r5 (step x H5 y5)) fun _ s6 ⟨σ6,H6,I6,q6⟩=>?_)
  refine aac hp (bT (hb _ s6 σ6 H6 _ I6 q6) fun f s7 q7=>?_)
  have again:∀ {σ7:St} {H7:Hp},Inv X (pins ++ rV fp s5.heap) σ7 H7 s7->N σ7 H7->∃ m,m < n /\ ∃ i σ' H',Inv X pins σ' H' s7 /\ tn i s7.heap /\ (∀ b ∈ fp,H' b = none) /\ W i m σ' H':=fun {σ7 H7} I7 n7=>by
   obtain ⟨m',hm,w7⟩:=hN σ7 H7 n7
   refine ⟨m',hm,i + 1,σ7,H7,I7.mI,T.keep _ _ _ Mq fun b hb o e=>(I7.pin (b,o) (YH _ (YH _ (i0 hb e)))).1,fun b hb=>?_,w7⟩
   obtain ⟨o,e,d⟩:=T.obj _ _ Mq b hb
   exact (I7.pin (b,o) (YH _ (YH _ (i0 hb e)))).2.1
  cases f with
  | next=>obtain ⟨σ7,H7,I7,n7⟩:=q7; exact again I7 n7
  | cont=>obtain ⟨σ7,H7,I7,n7⟩:=q7; exact again I7 n7
  | brk=>obtain ⟨σ7,H7,I7,q7⟩:=q7; exact ⟨σ7,H7,I7.mI,q7⟩
  | ret v=>obtain ⟨x7,σ7,H7,I7,r7,q7⟩:=q7; exact ⟨x7,σ7,H7,I7.mI,r7,q7⟩
end
theorem eX {K:aaG} {a:Addr} {xs:List V} {g:TG} {tb:TS} {D:Ends} {σ:St} {H:Hp} (Pv:Nat->St->Hp->Prop) (h0:Pv 0 σ H) (hl:∀ i σ H,i <= xs.length->Pv i σ H->aZ K H a xs)
  (hs:∀ i x σ H,xs[i]? = some x->Pv i σ H->g x σ H fun σ2 H2=>tb { D with nx:=Pv (i + 1),ct:=Pv (i + 1),bk:=D.nx } σ2 H2) (hd:∀ σ H,Pv xs.length σ H->D.nx σ H) :
  ∃ W:Nat->Nat->St->Hp->Prop,(∃ m,W 0 m σ H) /\ ∀ i m σ H,W i m σ H ->
   ((KL K a).stop i H /\ D.nx σ H) \/ ((KL K a).go i H /\ ∃ N:St->Hp->Prop,(∀ σ' H',N σ' H'->∃ m',m' < m /\ W (i + 1) m' σ' H') /\ ∀ x H',(KL K a).Io i H x H'->g x σ H' fun σ2 H2=>tb { D with nx:=N,ct:=N,bk:=D.nx } σ2 H2):=by
 refine ⟨fun i m σ H=>m = xs.length - i /\ i <= xs.length /\ Pv i σ H,⟨xs.length,by simp,YD _,h0⟩,?_⟩
 rintro i m σ H ⟨rfl,hi,p⟩
 have q:=hl i σ H hi p
 by_cases fT:i < xs.length
 ·refine .inr ⟨⟨xs,xs[i],q,by simp [fT]⟩,Pv (i + 1),fun σ' H' p'=>⟨xs.length - (i + 1),by omega,rfl,fT,p'⟩,fun x H' y=>?_⟩
  obtain ⟨e,y⟩:=y
  subst e
  exact hs i x σ _ (y xs q) p
 ·have e:i = xs.length:=by omega
  subst e
  exact .inl ⟨⟨xs,q,X7 _⟩,hd σ H p⟩
theorem Ay {K:aaG} {a:Addr} {xs:List V} {g:TG} {tb:TS} {D:Ends} {σ:St} {H:Hp} (Pv:Nat->St->Hp->Prop) (h0:Pv 0 σ H) (hl:∀ i σ H,i <= xs.length->Pv i σ H->bK K H a xs)
  (hs:∀ i x σ H,xs[i]? = some x->Pv i σ H->g x σ H fun σ2 H2=>tb { D with nx:=Pv (i + 1),ct:=Pv (i + 1),bk:=D.nx } σ2 H2) (hd:∀ σ H,Pv xs.length σ H->D.nx σ H) :
  ∃ W:Nat->Nat->St->Hp->Prop,(∃ m,W 0 m σ H) /\ ∀ i m σ H,W i m σ H ->
   ((KI K a).stop i H /\ D.nx σ H) \/ ((KI K a).go i H /\ ∃ N:St->Hp->Prop,(∀ σ' H',N σ' H'->∃ m',m' < m /\ W (i + 1) m' σ' H') /\ ∀ x H',(KI K a).Io i H x H'->g x σ H' fun σ2 H2=>tb { D with nx:=N,ct:=N,bk:=D.nx } σ2 H2):=by
 refine ⟨fun i m σ H=>m = xs.length - i /\ i <= xs.length /\ Pv i σ H,⟨xs.length,by simp,YD _,h0⟩,?_⟩
 rintro i m σ H ⟨rfl,hi,p⟩
 have q:=hl i σ H hi p
 by_cases fT:i < xs.length
 ·refine .inr ⟨⟨xs,xs[i],q,by simp [fT]⟩,Pv (i + 1),fun σ' H' p'=>⟨xs.length - (i + 1),by omega,rfl,fT,p'⟩,fun x H' y=>?_⟩
  obtain ⟨e,y⟩:=y
  subst e
  exact hs i x σ _ (y xs q) p
 ·have e:i = xs.length:=by omega
  subst e
  exact .inl ⟨⟨xs,q,X7 _⟩,hd σ H p⟩
theorem Bz {lo:Int} {n:Nat} {g:TG} {tb:TS} {D:Ends} {σ:St} {H:Hp} (Pv:Nat->St->Hp->Prop) (h0:Pv 0 σ H)
  (hs:∀ i σ H,i < n->Pv i σ H->g (.int (lo + i)) σ H fun σ2 H2=>tb { D with nx:=Pv (i + 1),ct:=Pv (i + 1),bk:=D.nx } σ2 H2) (hd:∀ σ H,Pv n σ H->D.nx σ H) :
  ∃ W:Nat->Nat->St->Hp->Prop,(∃ m,W 0 m σ H) /\ ∀ i m σ H,W i m σ H ->
   ((Jl lo n).stop i H /\ D.nx σ H) \/ ((Jl lo n).go i H /\ ∃ N:St->Hp->Prop,(∀ σ' H',N σ' H'->∃ m',m' < m /\ W (i + 1) m' σ' H') /\ ∀ x H',(Jl lo n).Io i H x H'->g x σ H' fun σ2 H2=>tb { D with nx:=N,ct:=N,bk:=D.nx } σ2 H2):=by
 refine ⟨fun i m σ H=>m = n - i /\ i <= n /\ Pv i σ H,⟨n,by simp,YD _,h0⟩,?_⟩
 rintro i m σ H ⟨rfl,hi,p⟩
 by_cases fT:i < n
 ·refine .inr ⟨fT,Pv (i + 1),fun σ' H' p'=>⟨n - (i + 1),by omega,rfl,fT,p'⟩,fun x H' y=>?_⟩
  obtain ⟨e,y⟩:=y
  subst e y
  exact hs i σ _ fT p
 ·have e:i = n:=by omega
  subst e
  exact .inl ⟨X7 _,hd σ H p⟩
abbrev R2:=V->V->Hp->VK->Prop
def iH (X:Cx) (f:Value->Value->Sem Value) (r:R2):Prop :=
 ∀ (pins:List (Addr × Obj)) (s:Shared) (σ:St) (H:Hp) (x y:V) (v u:Value) (Q:VK),Inv X pins σ H s->RelV x v->RelV y u->r x y H Q ->
  wpAny (model X.prog X.w) X.A (f v u) (EP X pins σ Q) X.xe s
def QK (X:Cx) (f:Value->Sem Value) (r:V->Hp->VK->Prop):Prop :=
 ∀ (pins:List (Addr × Obj)) (s:Shared) (σ:St) (H:Hp) (x:V) (v:Value) (Q:VK),Inv X pins σ H s->RelV x v->r x H Q ->
  wpAny (model X.prog X.w) X.A (f v) (EP X pins σ Q) X.xe s
def cK (X:Cx) (f:Value) (r:List V->Hp->VK->Prop):Prop :=
 ∀ (pins:List (Addr × Obj)) (s:Shared) (σ:St) (H:Hp) (xs:List V) (us:List Value) (Q:VK),Inv X pins σ H s->Vals xs us->r xs H Q ->
  wpAny (model X.prog X.w) X.A (call f us) (EP X pins σ Q) X.xe s
def PJ (X:Cx) (r:V->Hp->(Bool->Hp->Prop)->Prop):Prop :=
 ∀ (pins:List (Addr × Obj)) (s:Shared) (σ:St) (H:Hp) (x:V) (v:Value) (Q:Bool->Hp->Prop),Inv X pins σ H s->RelV x v->r x H Q ->
  wpAny (model X.prog X.w) X.A (truthy v) (TP X pins σ Q) X.xe s
def NM (r:R2) (ta tb:TE):TE:=fun σ H Q=>ta σ H fun x H1=>tb σ H1 fun y H2=>r x y H2 Q
def Wq (r:V->Hp->VK->Prop) (ta:TE):TE:=fun σ H Q=>ta σ H fun x H1=>r x H1 Q
def rI (C:Int->Int->Prop) (g:Int->Int->V):R2:=fun x y H Q=>∃ i j,x = .int i /\ y = .int j /\ C i j /\ Q (g i j) H
def Ii (g:Int->Int->V):R2:=fun x y H Q=>∃ i j,x = .int i /\ y = .int j /\ Q (g i j) H
def rU (g:Int->V):V->Hp->VK->Prop:=fun x H Q=>∃ i,x = .int i /\ Q (g i) H
section
variable {X:Cx} {a b c:Expr} {ta tb tc:TE} {pos:Pos}
theorem J5 (ha:PE X a ta) (hb:PE X b tb) {pins:List (Addr × Obj)} {s:Shared} {σ:St} {H:Hp} {R:V->V->Hp->Prop} (I:Inv X pins σ H s)
  (h:ta σ H fun x H1=>tb σ H1 fun y H2=>R x y H2) {Q:Value->Shared->Prop} {f:Value->Value->Sem Value}
  (hf:∀ v u s2 x y H2,Inv X pins σ H2 s2->RelV x v->RelV y u->R x y H2->wpAny (model X.prog X.w) X.A (f v u) Q X.xe s2) :
  wpAny (model X.prog X.w) X.A (eval a X.env) (fun v s₁=>wpAny (model X.prog X.w) X.A (eval b X.env) (fun u s₂=>wpAny (model X.prog X.w) X.A (f v u) Q X.xe s₂) X.xe s₁) X.xe s:=by
 refine bT (ha pins s σ H _ I h) fun v s1 ⟨x,H1,I1,r1,q1⟩=>?_
 refine bT (hb pins s1 σ H1 _ I1 q1) fun u s2 ⟨y,H2,I2,r2,q2⟩=>?_
 exact hf v u s2 x y H2 I2 r1 r2 q2
theorem bu {op:Operator} {r:R2} (ho:iH X (binaryOp op) r) (ha:PE X a ta) (hb:PE X b tb):PE X (.BinOp a op b pos) (NM r ta tb):=by
 intro pins s σ H Q I h
 exact wpAny_BinOp (J5 ha hb I h fun v u s2 x y H2 I2 rx ry q=>ho pins s2 σ H2 x y v u Q I2 rx ry q)
theorem Ic {op:UnaryOp} {r:V->Hp->VK->Prop} (ho:QK X (unaryOp op) r) (ha:PE X a ta):PE X (.UnaryOp op a pos) (Wq r ta):=by
 intro pins s σ H Q I h
 exact UnaryOp_ (bT (ha pins s σ H _ I h) fun v s1 ⟨x,H1,I1,r1,q1⟩=>ho pins s1 σ H1 x v Q I1 r1 q1)
theorem OA {f:Value->Value->Sem Value} {C:Int->Int->Prop} {g:Int->Int->Int}
  (rule:∀ (i j:Int) (t u:Tok) (s:Shared) (Q:Value->Shared->Prop) (E:Value->Shared->Prop),C i j->Q (.int (g i j) s.toks) { s with toks:=s.toks + 1 }->wpAny (model X.prog X.w) X.A (f (.int i t) (.int j u)) Q E s) :
  iH X f (rI C fun i j=>.int (g i j)):=by
 intro pins s σ H x y v u Q I rx ry h
 obtain ⟨i,j,rfl,rfl,hc,q⟩:=h
 obtain ⟨t,rfl⟩:=rx
 obtain ⟨t',rfl⟩:=ry
 exact rule i j t t' s _ _ hc ⟨.int (g i j),H,I.tok _,⟨_,rfl⟩,q⟩
theorem No {f:Value->Value->Sem Value} {g:Int->Int->Int}
  (rule:∀ (i j:Int) (t u:Tok) (s:Shared) (Q:Value->Shared->Prop) (E:Value->Shared->Prop),Q (.int (g i j) s.toks) { s with toks:=s.toks + 1 }->wpAny (model X.prog X.w) X.A (f (.int i t) (.int j u)) Q E s) :
  iH X f (Ii fun i j=>.int (g i j)):=by
 intro pins s σ H x y v u Q I rx ry h
 obtain ⟨i,j,rfl,rfl,q⟩:=h
 obtain ⟨t,rfl⟩:=rx
 obtain ⟨t',rfl⟩:=ry
 exact rule i j t t' s _ _ ⟨.int (g i j),H,I.tok _,⟨_,rfl⟩,q⟩
theorem Hi {f:Value->Value->Sem Value} {g:Int->Int->Bool}
  (rule:∀ (i j:Int) (t u:Tok) (s:Shared) (Q:Value->Shared->Prop) (E:Value->Shared->Prop),Q (.bool (g i j)) s->wpAny (model X.prog X.w) X.A (f (.int i t) (.int j u)) Q E s) :
  iH X f (Ii fun i j=>.bl (g i j)):=by
 intro pins s σ H x y v u Q I rx ry h
 obtain ⟨i,j,rfl,rfl,q⟩:=h
 obtain ⟨t,rfl⟩:=rx
 obtain ⟨t',rfl⟩:=ry
 exact rule i j t t' s _ _ ⟨.bl (g i j),H,I,rfl,q⟩
def Qh (i j:Int):Prop:=0 < j /\ j < 1073741824
def OU (i j:Int):Prop:=0 <= j /\ j <= 1000000 /\ i.natAbs < 2 ^ 64
def JB (i j:Int):Prop:=(-(2 ^ 64) < i /\ i < 2 ^ 64) \/ (-(2 ^ 64) < j /\ j < 2 ^ 64)
theorem JB.ok {i j:Int} (h:JB i j):IntMulOk i j:=by
 rcases h with ⟨h1,h2⟩ | ⟨h1,h2⟩
 ·exact .of_left (intBits_le_64 h1 h2)
 ·exact .of_right (intBits_le_64 h1 h2)
theorem js:iH X (binaryOp .Add) (Ii fun i j=>.int (i + j)):=No fun _ _ _ _ _ _ _ q=>add_int q
theorem E8:iH X (binaryOp .Sub) (Ii fun i j=>.int (i - j)):=No fun _ _ _ _ _ _ _ q=>sub_int q
theorem Jj:iH X (binaryOp .Mult) (rI JB fun i j=>.int (i * j)):=OA fun _ _ _ _ _ _ _ hc q=>mul_int q hc.ok
theorem nK:iH X (binaryOp .FloorDiv) (rI Qh fun i j=>.int (i / j)):=OA fun i j _ _ _ _ _ hc q=>by
 have h1:(0:Int) < j:=hc.1
 have h2:j < 1073741824:=hc.2
 exact floordiv_int (by omega) (by rw [Int.fdiv_eq_ediv_of_nonneg i (by omega)]; exact q) (.inl (PyProof.noPylong_small (by omega)))
theorem fE:iH X (binaryOp .Mod) (rI (fun _ j=>0 < j) fun i j=>.int (i % j)):=OA fun i j _ _ _ _ _ hc q=>by
 have h1:(0:Int) < j:=hc
 exact mod_int' (by omega) (by rw [Int.fmod_eq_emod_of_nonneg i (by omega)]; exact q)
theorem DH:iH X (binaryOp .Pow) (rI OU fun i j=>.int (i ^ j.toNat)):=OA fun _ _ _ _ _ _ _ hc q=>pow_int_small hc.1 hc.2.1 hc.2.2 q
theorem Sx {f:Value->Sem Value} {g:Int->Int}
  (rule:∀ (i:Int) (t:Tok) (s:Shared) (Q:Value->Shared->Prop) (E:Value->Shared->Prop),Q (.int (g i) s.toks) { s with toks:=s.toks + 1 }->wpAny (model X.prog X.w) X.A (f (.int i t)) Q E s) :
  QK X f (rU fun i=>.int (g i)):=by
 intro pins s σ H x v Q I rx h
 obtain ⟨i,rfl,q⟩:=h
 obtain ⟨t,rfl⟩:=rx
 exact rule i t s _ _ ⟨.int (g i),H,I.tok _,⟨_,rfl⟩,q⟩
theorem Ff:QK X (unaryOp .USub) (rU fun i=>.int (-i)):=Sx fun _ _ _ _ _ q=>neg_int q
end
def Ln:V->V->Bool
 | .cP,.cP=>true | .cP,.int _=>true | .int _,.cP=>true | .cP,.bl _=>true | .bl _,.cP=>true | .cP,.str _=>true | .str _,.cP=>true
 | .int _,.int _=>true | .bl _,.bl _=>true | .str _,.str _=>true | .AI _,.AI _=>true
 | .int _,.str _=>true | .str _,.int _=>true | .bl _,.str _=>true | .str _,.bl _=>true
 | _,_=>false
def Tg:R2:=fun x y H Q=>Ln x y = true /\ Q (.bl (decide (x = y))) H
def Wa:R2:=fun x y H Q=>Ln x y = true /\ Q (.bl (!decide (x = y))) H
theorem Bc {i j:Int}:decide (V.int i = V.int j) = (i == j):=by
 rw [aad]
 simp
theorem Fm {i j:Bool}:decide (V.bl i = V.bl j) = (i == j):=by
 rw [aad]
 simp
theorem Bf {i j:Str}:decide (V.str i = V.str j) = (i == j):=by
 rw [aad]
 simp
theorem Ba {i j:Array UInt8}:decide (V.AI i = V.AI j) = (i.toList == j.toList):=by
 rw [aad]
 cases i
 cases j
 simp
section
variable {X:Cx} {a b c:Expr} {ta tb tc:TE} {pos:Pos}
theorem bn {pins:List (Addr × Obj)} {σ:St} {H:Hp} {s:Shared} {Q:VK} {k k':Bool} (I:Inv X pins σ H s) (q:Q (.bl k) H) (e:k = k'):EP X pins σ Q (.bool k') s:=by
 subst e
 exact ⟨.bl k,H,I,rfl,q⟩
theorem j0:iH X (compareOp .Eq) Tg:=by
 intro pins s σ H x y v u Q I rx ry h
 obtain ⟨hs,q⟩:=h
 cases x with
 | cP =>
  cases rx
  cases y with
  | cP=>cases ry; exact PySem.EqNone.eq_none_none (bn I q (by simp))
  | bl j=>cases ry; exact PySem.EqNone.eq_none_bool (bn I q (by simp))
  | int j=>obtain ⟨t',rfl⟩:=ry; exact PySem.EqNone.eq_none_int (bn I q (by simp))
  | str j=>obtain ⟨t',rfl⟩:=ry; exact PySem.EqNone.eq_none_str (bn I q (by simp))
  | _=>exact absurd (show false = true from hs) Yc
 | bl i =>
  cases rx
  cases y with
  | cP=>cases ry; exact PySem.EqNone.eq_bool_none (bn I q (by simp))
  | bl j=>cases ry; exact eq_bool (bn I q Fm)
  | str j=>obtain ⟨t',rfl⟩:=ry; exact PySem.EqMixed.eq_bool_str (bn I q (by simp))
  | _=>exact absurd (show false = true from hs) Yc
 | int i =>
  obtain ⟨t,rfl⟩:=rx
  cases y with
  | cP=>cases ry; exact PySem.EqNone.eq_int_none (bn I q (by simp))
  | int j=>obtain ⟨t',rfl⟩:=ry; exact eq_int (bn I q Bc)
  | str j=>obtain ⟨t',rfl⟩:=ry; exact PySem.EqMixed.eq_int_str (bn I q (by simp))
  | _=>exact absurd (show false = true from hs) Yc
 | str i =>
  obtain ⟨t,rfl⟩:=rx
  cases y with
  | cP=>cases ry; exact PySem.EqNone.eq_str_none (bn I q (by simp))
  | bl j=>cases ry; exact PySem.EqMixed.eq_str_bool (bn I q (by simp))
  | int j=>obtain ⟨t',rfl⟩:=ry; exact PySem.EqMixed.eq_str_int (bn I q (by simp))
  | str j=>obtain ⟨t',rfl⟩:=ry; exact eq_str (bn I q Bf)
  | _=>exact absurd (show false = true from hs) Yc
 | AI i =>
  obtain ⟨t,rfl⟩:=rx
  cases y with
  | AI j=>obtain ⟨t',rfl⟩:=ry; exact PySem.W.eq_bytes (bn I q Ba)
  | _=>exact absurd (show false = true from hs) Yc
 | _=>cases y <;> exact absurd (show false = true from hs) Yc
theorem jB:iH X (compareOp .NotEq) Wa:=by
 intro pins s σ H x y v u Q I rx ry h
 obtain ⟨hs,q⟩:=h
 cases x with
 | cP =>
  cases rx
  cases y with
  | cP=>cases ry; exact PySem.EqNone.ne_none_none (bn I q (by simp))
  | bl j=>cases ry; exact PySem.EqNone.ne_none_bool (bn I q (by simp))
  | int j=>obtain ⟨t',rfl⟩:=ry; exact PySem.EqNone.ne_none_int (bn I q (by simp))
  | str j=>obtain ⟨t',rfl⟩:=ry; exact PySem.EqNone.ne_none_str (bn I q (by simp))
  | _=>exact absurd (show false = true from hs) Yc
 | bl i =>
  cases rx
  cases y with
  | cP=>cases ry; exact PySem.EqNone.ne_bool_none (bn I q (by simp))
  | bl j=>cases ry; exact ne_bool (bn I q (Zi not Fm))
  | str j=>obtain ⟨t',rfl⟩:=ry; exact PySem.EqMixed.ne_bool_str (bn I q (by simp))
  | _=>exact absurd (show false = true from hs) Yc
 | int i =>
  obtain ⟨t,rfl⟩:=rx
  cases y with
  | cP=>cases ry; exact PySem.EqNone.ne_int_none (bn I q (by simp))
  | int j=>obtain ⟨t',rfl⟩:=ry; exact ne_int (bn I q (Zi not Bc))
  | str j=>obtain ⟨t',rfl⟩:=ry; exact PySem.EqMixed.ne_int_str (bn I q (by simp))
  | _=>exact absurd (show false = true from hs) Yc
 | str i =>
  obtain ⟨t,rfl⟩:=rx
  cases y with
  | cP=>cases ry; exact PySem.EqNone.ne_str_none (bn I q (by simp))
  | bl j=>cases ry; exact PySem.EqMixed.ne_str_bool (bn I q (by simp))
  | int j=>obtain ⟨t',rfl⟩:=ry; exact PySem.EqMixed.ne_str_int (bn I q (by simp))
  | str j=>obtain ⟨t',rfl⟩:=ry; exact ne_str (bn I q (Zi not Bf))
  | _=>exact absurd (show false = true from hs) Yc
 | AI i =>
  obtain ⟨t,rfl⟩:=rx
  cases y with
  | AI j=>obtain ⟨t',rfl⟩:=ry; exact PySem.W.ne_bytes (bn I q (Zi not Ba))
  | _=>exact absurd (show false = true from hs) Yc
 | _=>cases y <;> exact absurd (show false = true from hs) Yc
theorem xJ:iH X (compareOp .Lt) (Ii fun i j=>.bl (decide (i < j))):=Hi fun _ _ _ _ _ _ _ q=>lt_int q
theorem jX:iH X (compareOp .LtE) (Ii fun i j=>.bl (decide (i <= j))):=Hi fun _ _ _ _ _ _ _ q=>le_int q
theorem D3:iH X (compareOp .Gt) (Ii fun i j=>.bl (decide (j < i))):=Hi fun _ _ _ _ _ _ _ q=>gt_int q
theorem LJ:iH X (compareOp .GtE) (Ii fun i j=>.bl (decide (j <= i))):=Hi fun _ _ _ _ _ _ _ q=>ge_int q
theorem B6:iH X (compareOp .In) (fun x y H Q=>∃ i j,x = .str i /\ y = .str j /\ Q (.bl (!(Builtin.Str.occurrences j i 0 j.length 1).isEmpty)) H):=by
 intro pins s σ H x y v u Q I rx ry h
 obtain ⟨i,j,rfl,rfl,q⟩:=h
 obtain ⟨t,rfl⟩:=rx
 obtain ⟨t',rfl⟩:=ry
 exact in_str (bn I q rfl)
theorem iH.or {f:Value->Value->Sem Value} {r r':R2} (h:iH X f r) (h':iH X f r'):iH X f (fun x y H Q=>r x y H Q \/ r' x y H Q):=by
 intro pins s σ H x y v u Q I rx ry q
 rcases q with q | q
 ·exact h pins s σ H x y v u Q I rx ry q
 ·exact h' pins s σ H x y v u Q I rx ry q
theorem aY (b:Expr) {op:CmpOp} (h:op ≠ .In:=by decide) (h2:op ≠ .NotIn:=by decide):behindInMarks op b = false:=by
 have e1:(op == CmpOp.In) = false:=by cases op <;> first | rfl | exact absurd rfl h
 have e2:(op == CmpOp.NotIn) = false:=by cases op <;> first | rfl | exact absurd rfl h2
 cases b <;> simp [behindInMarks,e1,e2]
theorem fN {op:CmpOp} {r:R2} (ho:iH X (compareOp op) r) (ha:PE X a ta) (hb:PE X b tb) (hm:behindInMarks op b = false):PE X (.Compare a [op] [b] pos) (NM r ta tb):=by
 intro pins s σ H Q I h
 exact wpAny_Compare1 (J5 ha hb I h fun v u s2 x y H2 I2 rx ry q=>ho pins s2 σ H2 x y v u Q I2 rx ry q) hm
def HR (t:TE):TT:=fun σ H Q=>t σ H fun x H'=>∃ k,x = .bl k /\ Q k H'
theorem aD {op:CmpOp} {r:R2} (ho:iH X (compareOp op) r) (ha:PE X a ta) (hb:PE X b tb) (hm:behindInMarks op b = false):PT X (.Compare a [op] [b] pos) (HR (NM r ta tb)):=by
 intro pins s σ H Q I h
 refine wpAny_isTrue_Compare1 (bT (ha pins s σ H _ I h) fun v s1 ⟨x,H1,I1,r1,q1⟩=>bT (hb pins s1 σ H1 _ I1 q1) fun u s2 ⟨y,H2,I2,r2,q2⟩ =>
  bT (ho pins s2 σ H2 x y v u _ I2 r1 r2 q2) fun c s3 ⟨z,H3,I3,r3,k,e,q3⟩=>?_) hm
 subst e
 cases r3
 exact Y9 ⟨H3,I3,q3⟩
def ER (r r':R2) (ta tb tc:TE):TE:=fun σ H Q=>ta σ H fun x H1=>tb σ H1 fun y H2=>r x y H2 fun z H3=>∃ k,z = .bl k /\
 (if k = true then tc σ H3 fun w' H4=>r' y w' H4 Q else Q (.bl false) H3)
theorem xb {op JH:CmpOp} {r r':R2} (ho:iH X (compareOp op) r) (mZ:iH X (compareOp JH) r') (ha:PE X a ta) (hb:PE X b tb) (hc:PE X c tc)
  (hm:lastMarks [op,JH] [b,c] = false:=by with_unfolding_all rfl):PE X (.Compare a [op,JH] [b,c] pos) (ER r r' ta tb tc):=by
 intro pins s σ H Q I h
 refine Compare_chain (bT (ha pins s σ H _ I h) fun v s1 ⟨x,H1,I1,r1,q1⟩=>chain_link (bT (hb pins s1 σ H1 _ I1 q1) fun u s2 ⟨y,H2,I2,r2,q2⟩ =>
  bT (ho pins s2 σ H2 x y v u _ I2 r1 r2 q2) fun d s3 ⟨z,H3,I3,r3,k,e,q3⟩=>?_)) hm
 subst e
 cases r3
 refine Y9 ?_
 cases k with
 | false=>exact ite_ff ⟨.bl false,H3,I3,rfl,q3⟩
 | true=>exact ite_tt (chain_last (bT (hc pins s3 σ H3 _ I3 q3) fun w' s4 ⟨z',H4,I4,r4,q4⟩=>mZ pins s4 σ H4 y z' u w' Q I4 r2 r4 q4))
theorem mG {op JH:CmpOp} {r r':R2} (ho:iH X (compareOp op) r) (mZ:iH X (compareOp JH) r') (ha:PE X a ta) (hb:PE X b tb) (hc:PE X c tc)
  (hm:lastMarks [op,JH] [b,c] = false:=by with_unfolding_all rfl):PT X (.Compare a [op,JH] [b,c] pos) (HR (ER r r' ta tb tc)):=by
 intro pins s σ H Q I h
 refine isTrue_chain (bT (ha pins s σ H _ I h) fun v s1 ⟨x,H1,I1,r1,q1⟩=>test_link (bT (hb pins s1 σ H1 _ I1 q1) fun u s2 ⟨y,H2,I2,r2,q2⟩ =>
  bT (ho pins s2 σ H2 x y v u _ I2 r1 r2 q2) fun d s3 ⟨z,H3,I3,r3,k,e,q3⟩=>?_)) hm
 subst e
 cases r3
 refine Y9 ?_
 cases k with
 | false =>
  obtain ⟨k',e',q'⟩:=q3
  cases e'
  exact ite_ff ⟨H3,I3,q'⟩
 | true =>
  refine ite_tt (test_last (bT (hc pins s3 σ H3 _ I3 q3) fun w' s4 ⟨z',H4,I4,r4,q4⟩=>bT (mZ pins s4 σ H4 y z' u w' _ I4 r2 r4 q4) fun d' s5 ⟨z2,H5,I5,r5,k2,e2,q5⟩=>?_))
  subst e2
  cases r5
  exact Y9 ⟨H5,I5,q5⟩
def LQ (K:aaG) (x:V) (H:Hp) (k:Bool):Prop :=
 match x with
 | .cP=>k = false
 | .bl b=>k = b
 | .int i=>k = (i != 0)
 | .str y=>y.length <= sizeLine /\ k = ((y.length:Int) != 0)
 | .AI y=>y.size <= sizeLine /\ k = ((y.size:Int) != 0)
 | .ref p=>(∃ xs,aZ K H p xs /\ k = !xs.isEmpty) \/ (∃ xs,bK K H p xs /\ k = !xs.isEmpty) \/ ∃ kvs,H p = some (.dK kvs) /\ k = !kvs.isEmpty
 | _=>False
theorem zR {κ:Type} {kvs:List (κ × V)} {vs:List (κ × Value)} (r:KV kvs vs):(!vs.isEmpty) = !kvs.isEmpty:=by
 cases r <;> rfl
theorem rT {xs:List V} {az:List Value} (r:Vals xs az):(!az.toArray.isEmpty) = !xs.isEmpty:=by
 cases r <;> simp
theorem lU:(sizeLine:Nat) < 2 ^ 63:=by rw [ZQ]; decide
theorem Jw:PJ X (fun x H Q=>∃ k,LQ X.K x H k /\ Q k H):=by
 intro pins s σ H x v Q I rx h
 obtain ⟨k,e,q⟩:=h
 have hl:=lU
 have hs:sizeLine = 16777216:=ZQ
 cases x with
 | cP =>
  cases rx
  have e':k = false:=e
  subst e'
  exact truthy_none ⟨H,I,q⟩
 | bl b =>
  cases rx
  have e':k = b:=e
  subst e'
  exact Y9 ⟨H,I,q⟩
 | int i =>
  obtain ⟨t,rfl⟩:=rx
  have e':k = (i != 0):=e
  subst e'
  exact PySem.P.truthy_int ⟨H,I,q⟩
 | str y =>
  obtain ⟨t,rfl⟩:=rx
  obtain ⟨hy,e'⟩:y.length <= sizeLine /\ k = ((y.length:Int) != 0):=e
  subst e'
  exact PySem.P.truthy_str (by omega) ⟨H,I.tok _,q⟩
 | AI y =>
  obtain ⟨t,rfl⟩:=rx
  obtain ⟨hy,e'⟩:y.size <= sizeLine /\ k = ((y.size:Int) != 0):=e
  subst e'
  exact PySem.W.truthy_bytes (by omega) ⟨H,I.tok _,q⟩
 | ref p =>
  cases rx
  have e':(∃ xs,aZ X.K H p xs /\ k = !xs.isEmpty) \/ (∃ xs,bK X.K H p xs /\ k = !xs.isEmpty) \/ ∃ kvs,H p = some (.dK kvs) /\ k = !kvs.isEmpty:=e
  rcases e' with ⟨xs,hx,e'⟩ | ⟨xs,hx,e'⟩ | ⟨kvs,hx,e'⟩
  ·subst e'
   obtain ⟨az,r,pl,hz⟩:=I.list hx
   have hlen:=r.length
   exact wpAny_truthy_list pl.isList (by simp only [Yk]; omega) ⟨H,I.tok _,by rw [rT r]; exact q⟩
  ·subst e'
   obtain ⟨az,r,pl,hz⟩:=I.tuple hx
   have hlen:=r.length
   exact truthy_tuple pl (by simp only [Yk]; omega) ⟨H,I.tok _,by rw [rT r]; exact q⟩
  ·subst e'
   obtain ⟨hz,hS,vs,r,m⟩:kvs.length <= sizeLine /\ (p == sysModules) = false /\ ∃ vs,KV kvs vs /\ s.heap.DictOf (vk X.prog X.w) p vs:=I.aW p _ hx
   have hlen:kvs.length = vs.length:=Zl r
   exact wpAny_truthy_dict hS m (by omega) ⟨H,I.tok _,by rw [zR r]; exact q⟩
 | _=>exact (show False from e).elim
theorem xx (ha:PE X a ta) (he:∀ whole,isTrue a X.env whole = (do let v <- whole; standAt a.pos; holding [v] (truthy v))) :
  PT X a (fun σ H Q=>ta σ H fun x H'=>∃ k,LQ X.K x H' k /\ Q k H'):=by
 intro pins s σ H Q I h
 exact isTrue_plain (bT (ha pins s σ H _ I h) fun v s1 ⟨x,H1,I1,r1,q1⟩=>Jw pins s1 σ H1 x v Q I1 r1 q1) (he _)
theorem gS:iH X (binaryOp .Add) (fun x y H Q=>∃ i j,x = .str i /\ y = .str j /\ i.length + j.length <= sizeLine /\ Q (.str (i ++ j)) H):=by
 intro pins s σ H x y v u Q I rx ry h
 obtain ⟨i,j,rfl,rfl,hz,q⟩:=h
 obtain ⟨t,rfl⟩:=rx
 obtain ⟨t',rfl⟩:=ry
 exact add_str (fun t' tk=>⟨.str (i ++ j),H,I.tok _,⟨_,rfl⟩,q⟩) hz
theorem vals1 {x:V} {us:List Value} (r:Vals [x] us):∃ u,us = [u] /\ RelV x u:=by
 cases r with
 | cons r1 r2=>cases r2; exact ⟨_,rfl,r1⟩
theorem vals2 {x y:V} {us:List Value} (r:Vals [x,y] us):∃ u w',us = [u,w'] /\ RelV x u /\ RelV y w':=by
 cases r with
 | cons r1 r2 =>
  cases r2 with
  | cons r3 r4=>cases r4; exact ⟨_,_,rfl,r1,r3⟩
theorem dA:cK X (.type "str") (fun xs H Q=>∃ i,xs = [.int i] /\ i.natAbs.log2 < 1920 /\ Q (.str (toString i)) H):=by
 intro pins s σ H xs us Q I r h
 obtain ⟨i,rfl,hz,q⟩:=h
 obtain ⟨u,rfl,t,rfl⟩:=vals1 r
 exact PySem.P.str_of_int hz ⟨.str _,H,I.tok _,⟨_,rfl⟩,q⟩
end
structure yH (h:Heap) (x dx C:Addr) (mA:Str->Option Value):Prop where
 obj:h.get? x = some (PySem.W.instObj C dx)
 ns:h.Ns1 dx mA
 ne:dx ≠ x
theorem Cs {h:Heap} {dx:Addr} {mA:Str->Option Value} (n:h.Ns1 dx mA):∃ od,h.get? dx = some od /\ ∀ name,PySem.W.lookIn name od = some (mA name):=by
 obtain ⟨o,es,ep,ho,hd,hk,_,hm⟩:=n
 refine ⟨o,ho,fun name=>?_⟩
 have e:=hm name
 unfold nsFind findBy at e
 rw [<- Array.find?_toList] at e
 unfold PySem.W.lookIn
 rw [hd]
 dsimp only
 split
 ·rename_i y q
  rw [q] at e
  exact Zi some e
 ·rename_i q
  rw [q] at e
  have a:es.toList.any (·.refKey) = false:=by
   rw [List.any_eq_false]
   intro y hy
   obtain ⟨z,t,OQ⟩:=hk y (Array.mem_toList_iff.mp hy)
   simp [DictEntry.refKey,OQ]
  have a':¬ es.toList.any (·.refKey) = true:=by rw [a]; exact Yc
  rw [if_neg a']
  exact Zi some e
theorem yH.look {h:Heap} {x dx C:Addr} {mA:Str->Option Value} (I:yH h x dx C mA):∃ od,PySem.W.InstAt h x (PySem.W.instObj C dx) C (some od) /\ ∀ name,PySem.W.lookIn name od = some (mA name) :=
 let ⟨od,ho,hl⟩:=Cs I.ns
 ⟨od,⟨I.obj,rfl,rfl,ho⟩,hl⟩
section
variable {prog:Program} {w:World} {A:Around} {E:Value->Shared->Prop} {s:Shared} {K:aaG} {x dx C f:Addr} {mA:Str->Option Value} {name:Str} {v:Value}
theorem get_map {expr:Bool} {Q:Value->Shared->Prop} (X:K.In s.heap) (I:yH s.heap x dx C mA) (hg:PySem.W.plainGet K C name = true) (hh:PySem.W.hasDictIn K C = true)
  (ha:PySem.W.findIn K (.ref C) name = some none) (hv:mA name = some v) (IL:PySem.W.handedIn v = true) (h:Q v { s with toks:=s.toks + 1 }) :
  wpAny (model prog w) A (getAttr (.ref x) name expr) Q E s:=by
 obtain ⟨od,J,hl⟩:=I.look
 exact PySem.W.get_value X J (PySem.W.plainGet_of hg).1 (PySem.W.findObj_own hh ha rfl (by rw [hl,hv])) IL h
theorem Dh {pl:Sem Bool} {Q:Value × List Value->Shared->Prop} (X:K.In s.heap) (I:yH s.heap x dx C mA) (hg:PySem.W.plainGet K C name = true)
  (hf:PySem.W.findIn K (.ref C) name = some (some (.ref f))) (ht:PySem.W.isFn K (.ref f) = true) (hv:mA name = none) (h:Q (.ref f,[.ref x]) s) :
  wpAny (model prog w) A (getMethod (.ref x) name pl) Q E s:=by
 obtain ⟨od,J,hl⟩:=I.look
 exact PySem.W.method_fn X J (PySem.W.plainGet_of hg).1 (PySem.W.plainGet_of hg).2 hf (ZZ.mp ht) (by show (PySem.W.lookIn name od).map (·.isSome) = some false; rw [hl,hv]; rfl) h
theorem Gn {ns:List Str} {Q:Unit->Shared->Prop} (X:K.In s.heap) (I:yH s.heap x dx C mA)
  (hs:PySem.W.findIn K (.ref C) "__setattr__" = some (some (.builtin "object.__setattr__"))) (hp:PySem.W.plainOver K C = true) (ht:PySem.W.takerIn K C name = some none) (hh:PySem.W.hasDictIn K C = true)
  (hw:PySem.Within mA ns) (hsz:ns.length <= sizeLine)
  (h:∀ h',yH h' x dx C (fun y=>if y = name then some v else mA y)->Heap.SameBut dx s.heap h'->Q () { s with heap:=h',toks:=s.toks + 2 }) :
  wpAny (model prog w) A (setAttr (.ref x) name v) Q E s:=by
 obtain ⟨od,J,hl⟩:=I.look
 refine PySem.W.set_plain X J hs (PySem.W.osa_open (s:={ s with toks:=s.toks + 1 }) (r:=none) X J hp ht fun b=>?_)
 obtain ⟨cd,hc,wz⟩:=PySem.W.any_some hh
 have hx:s.heap.get? x = some ⟨.ref C,some dx,.plain,#[]⟩:=I.obj
 refine X3 (X4 (X3 (X3 (wpAny_loadPart hx (X3 (PySem.W.Looks.here (s:={ s with toks:=s.toks + 1 }) (PySem.W.looks_clsIn X hc) ?_))))))
 rw [wz]
 refine X4 (a:=some dx) (X3 (X4 (X3 ?_)))
 refine wpAny_nsSet1 (s:={ s with toks:=s.toks + 1 }) I.ns fun h' N9 MM=>?_
 obtain ⟨oD,Xs,Xv,SD,T5,WX⟩:=N9.count (PySem.Within.cons name v hw)
 refine X3 (wpAny_lookBehind SD (by rw [T5]; exact pastItsLine_dict (Yh WX (by rw [YW]; omega))) ?_)
 exact X4 (h _ ⟨(MM.2 _ (aag I.ne)).trans I.obj,N9,I.ne⟩ MM)
theorem E3 {R:Result->Shared->Prop} {vs:List Value} {kw:List (Str × Value)} (X:K.In s.heap) (hm:PySem.W.makesIn K C = true)
  (hi:PySem.W.findIn K (.ref C) "__init__" = some (some (.ref f))) (hf:PySem.W.typeIn K (.ref f) = some (.type "function"))
  (h:codeAny (model prog w) (A.under (.builtin "type.__call__" ⟨.ref C :: vs,kw⟩)) (.call (.ref f) ⟨.ref (s.heap.objs.size + 1) :: vs,kw⟩) (PySem.W.InitBack (s.heap.objs.size + 1) R)
   { s with heap:=(s.heap.push PySem.W.emptyDict).push (PySem.W.instObj C s.heap.objs.size) }) :
  codeAny (model prog w) A (.call (.ref C) ⟨vs,kw⟩) R s:=by
 obtain ⟨hh,g,d,t,os⟩:=s
 exact PySem.W.make_core (PySem.W.makes_of X hm) (PySem.W.looks_findIn X hi) (fun self=>PySem.W.bind_fn X self hf) (.inl rfl) h
end
def dY (f:Str) (v:V):List (Str × V)->List (Str × V)
 | []=>[(f,v)]
 | (g,x) :: r=>if g = f then (g,v) :: r else (g,x) :: dY f v r
theorem bJ (f g:Str) (v:V):∀ fs:List (Str × V),(dY f v fs).lookup g = if g = f then some v else fs.lookup g
 | []=>by
  show List.lookup g [(f,v)] = _
  by_cases h:g = f
  ·have hb:(g == f) = true:=ZZ.mpr h
   simp only [List.lookup,hb,if_pos h]
  ·have hb:(g == f) = false:=Zg.mpr h
   simp only [List.lookup,hb,if_neg h]
 | (k,x) :: r=>by
  have ih:=bJ f g v r
  rw [show dY f v ((k,x) :: r) = (if k = f then (k,v) :: r else (k,x) :: dY f v r) from rfl]
  by_cases hk:k = f
  ·rw [if_pos hk]
   by_cases h:g = k
   ·have hb:(g == k) = true:=ZZ.mpr h
    simp only [List.lookup,hb,if_pos (h.trans hk)]
   ·have hb:(g == k) = false:=Zg.mpr h
    simp only [List.lookup,hb,if_neg (fun e:g = f=>h (e.trans hk.symm))]
  ·rw [if_neg hk]
   by_cases h:g = k
   ·have hb:(g == k) = true:=ZZ.mpr h
    simp only [List.lookup,hb,if_neg (fun e:g = f=>hk (h.symm.trans e))]
   ·have hb:(g == k) = false:=Zg.mpr h
    simp only [List.lookup,hb]
    exact ih
theorem oF (f:Str) (v:V):∀ fs:List (Str × V),f ∈ (dY f v fs).map (·.1) /\ ∀ g,g ∈ fs.map (·.1)->g ∈ (dY f v fs).map (·.1)
 | []=>⟨by simp [dY],fun g h=>by simp at h⟩
 | (k,x) :: r=>by
  obtain ⟨i1,i2⟩:=oF f v r
  rw [show dY f v ((k,x) :: r) = (if k = f then (k,v) :: r else (k,x) :: dY f v r) from rfl]
  by_cases hk:k = f
  ·rw [if_pos hk]
   subst hk
   exact ⟨by simp,fun g h=>by simpa using h⟩
  ·rw [if_neg hk]
   refine ⟨?_,fun g h=>?_⟩
   ·rw [Yq]
    exact X8 _ i1
   ·rw [Yq] at h ⊢
    rcases Yb.mp h with e | e
    ·exact Yb.mpr (.inl e)
    ·exact X8 _ (i2 g e)
theorem pk (f:Str) (v:V):∀ fs:List (Str × V),(dY f v fs).length <= fs.length + 1
 | []=>by simp [dY]
 | (k,x) :: r=>by
  have ih:=pk f v r
  rw [show dY f v ((k,x) :: r) = (if k = f then (k,v) :: r else (k,x) :: dY f v r) from rfl]
  by_cases hk:k = f
  ·rw [if_pos hk,YW,YW]; omega
  ·rw [if_neg hk,YW,YW]; omega
theorem ny.some_of {v:V} {o:Option Value} (r:ny (some v) o):∃ u,o = some u /\ RelV v u:=by
 cases o with
 | none=>exact (show False from r).elim
 | some u=>exact ⟨u,rfl,r⟩
theorem ny.none_of {o:Option Value} (r:ny none o):o = none:=by
 cases o with
 | none=>rfl
 | some u=>exact (show False from r).elim
theorem Bi {v:V} {u:Value} (r:RelV v u):PySem.W.handedIn u = true:=by
 cases v with
 | cP=>cases (show u = Value.none from r); rfl
 | bl b=>cases (show u = Value.bool b from r); rfl
 | int i=>obtain ⟨t,e⟩:=(show ∃ t,u = Value.int i t from r); cases e; rfl
 | str x=>obtain ⟨t,e⟩:=(show ∃ t,u = Value.str x t from r); cases e; rfl
 | AI b=>obtain ⟨t,e⟩:=(show ∃ t,u = Value.bytes b t from r); cases e; rfl
 | IT b=>obtain ⟨t,e⟩:=(show ∃ t,u = Value.float b t from r); cases e; rfl
 | ref a=>cases (show u = Value.ref a from r); rfl
 | ty n=>cases (show u = Value.type n from r); rfl
section
variable {P:Program} {w:World} {H H':Hp} {h h':Heap} {a C dx:Addr} {fs PQ:List (Str × V)}
theorem qc (aW:jO P w H h) (e:H a = some (.ins C dx fs)):∃ mA,yH h a dx C mA /\ (∀ f,ny (fs.lookup f) (mA f)) /\ PySem.Within mA (fs.map (·.1)) /\ fs.length <= 1000 /\ H dx = some (.own a):=by
 obtain ⟨d,z,ne,ob,mA,n,r,q⟩:=(show cj P w H h a (.ins C dx fs) from aW a _ e)
 exact ⟨mA,⟨ob,n,ne⟩,r,q,z,d⟩
end
structure CO (K:aaG) (C:Addr):Prop where
 pg:PySem.W.plainGet K C Str.empty = true
 hd:PySem.W.hasDictIn K C = true
 po:PySem.W.plainOver K C = true
 sa:PySem.W.findIn K (.ref C) "__setattr__" = some (some (.builtin "object.__setattr__"))
theorem CO.get {K:aaG} {C:Addr} (c:CO K C) (f:Str):PySem.W.plainGet K C f = true:=c.pg
def iB (K:aaG) (C:Addr) (f:Str):Prop:=PySem.W.findIn K (.ref C) f = some none
theorem iB.M8 {K:aaG} {C:Addr} {f:Str} (n:iB K C f):PySem.W.takerIn K C f = some none:=by
 unfold PySem.W.takerIn
 rw [show PySem.W.findIn K (.ref C) f = some none from n]
 rfl
structure Meth (K:aaG) (C:Addr) (m:Str) (f:Addr):Prop where
 at_:PySem.W.findIn K (.ref C) m = some (some (.ref f))
 fn:PySem.W.isFn K (.ref f) = true
 kp:PySem.W.keepIn K (.ref f) = true
section
variable {X:Cx} {pins:List (Addr × Obj)} {σ:St} {H:Hp} {s:Shared} {a C dx:Addr} {fs:List (Str × V)} {f:Str} {v:V} {A:Around} {E:Value->Shared->Prop}
theorem zc {b:Bool} {Q:Value->Shared->Prop} (I:Inv X pins σ H s) (e:H a = some (.ins C dx fs)) (c:CO X.K C) (n:iB X.K C f) (l:fs.lookup f = some v)
  (h:∀ u s',Inv X pins σ H s'->RelV v u->Q u s'):wpAny (model X.prog X.w) A (getAttr (.ref a) f b) Q E s:=by
 obtain ⟨mA,O,r,_,_,_⟩:=qc I.aW e
 obtain ⟨u,hu,ru⟩:=ny.some_of (v:=v) (o:=mA f) (by rw [<- l]; exact r f)
 exact get_map I.pV O (c.get f) c.hd n hu (Bi ru) (h u _ (I.tok _) ru)
theorem l9 {m:Str} {g:Addr} {pl:Sem Bool} {Q:Value × List Value->Shared->Prop} (I:Inv X pins σ H s) (e:H a = some (.ins C dx fs)) (c:CO X.K C) (k:Meth X.K C m g) (l:fs.lookup m = none)
  (h:Q (.ref g,[.ref a]) s):wpAny (model X.prog X.w) A (getMethod (.ref a) m pl) Q E s:=by
 obtain ⟨mA,O,r,_,_,_⟩:=qc I.aW e
 have hn:mA m = none:=ny.none_of (by rw [<- l]; exact r m)
 exact Dh I.pV O (c.get m) k.at_ k.fn hn h
theorem yF {y:V} {u:Value} {Q:Unit->Shared->Prop} (I:Inv X pins σ H s) (e:H a = some (.ins C dx fs)) (c:CO X.K C) (n:iB X.K C f) (hl:fs.length < 1000) (ry:RelV y u)
  (h:∀ s',Inv X pins σ (upd H a (.ins C dx (dY f y fs))) s'->Q () s'):wpAny (model X.prog X.w) A (setAttr (.ref a) f u) Q E s:=by
 obtain ⟨mA,O,r,wi,_,ho⟩:=qc I.aW e
 have hz:(fs.map (·.1)).length <= sizeLine:=by rw [X6,ZQ]; omega
 refine Gn I.pV O c.sa c.po n.M8 c.hd wi hz fun h' O' sb=>h _ ?_
 have hd:∃ o,h'.get? dx = some o:=let ⟨o,_,_,e',_⟩:=O'.ns; ⟨o,e'⟩
 refine I.write (x:=a) (e:=dx) (by rw [e]; exact Z7) (.inr ho) (fun b q hb z=>(sb.2 b hb).trans z) hd ?_
 refine ⟨by rw [am O.ne]; exact ho,?_,O.ne,O'.obj,_,O'.ns,fun g=>?_,fun g hg=>?_⟩
 ·have:=pk f y fs; omega
 ·show ny ((dY f y fs).lookup g) (if g = f then some u else mA g)
  rw [bJ]
  by_cases q:g = f
  ·rw [if_pos q,if_pos q]; exact ry
  ·rw [if_neg q,if_neg q]; exact r g
 ·by_cases q:g = f
  ·rw [q]; exact (oF f y fs).1
  ·refine (oF f y fs).2 g (wi g fun z=>hg ?_)
   show (if g = f then some u else mA g) = none
   rw [if_neg q]; exact z
theorem Inv.made (I:Inv X pins σ H s):Inv X pins σ (upd (upd H s.heap.objs.size (.own (s.heap.objs.size + 1))) (s.heap.objs.size + 1) (.ins C s.heap.objs.size []))
  { s with heap:=(s.heap.push PySem.W.emptyDict).push (PySem.W.instObj C s.heap.objs.size) }:=by
 have e1:(s.heap.push PySem.W.emptyDict).get? s.heap.objs.size = some PySem.W.emptyDict:=Yg s.heap rfl
 have e2:((s.heap.push PySem.W.emptyDict).push (PySem.W.instObj C s.heap.objs.size)).get? (s.heap.objs.size + 1) = some (PySem.W.instObj C s.heap.objs.size):=by
  have:=Yg (s.heap.push PySem.W.emptyDict) (o:=PySem.W.instObj C s.heap.objs.size) rfl
  rwa [Z3] at this
 have e3:(s.heap.push PySem.W.emptyDict).Ns s.heap.objs.size (fun _=>none):=⟨PySem.W.emptyDict,#[],_,e1,rfl,(fun e he=>absurd he (by simp)),fun _=>rfl⟩
 have I1:=I.laid (a:=s.heap.objs.size) (o:=.own (s.heap.objs.size + 1)) (h':=s.heap.push PySem.W.emptyDict) (t':=s.toks) (fun b u q=>X5 _ q) (X7 _) ⟨_,e1⟩
 refine I1.laid (a:=s.heap.objs.size + 1) (o:=.ins C s.heap.objs.size []) (t':=s.toks) (fun b u q=>X5 _ q) (Nat.le_of_eq (Z3 _ _)) ?_
 have ne:s.heap.objs.size ≠ s.heap.objs.size + 1:=YB (Nat.lt_succ_self _)
 refine ⟨by rw [am ne,ae],YD _,ne,e2,fun _=>none,(Heap.Ns1.of_empty e3).at fun o q=>X5 _ q,fun _=>Z7,fun y hy=>absurd rfl hy⟩
theorem Hu {prog:Program} {w:World} {env:Env} {e:Expr} {f:Str} {pos:Pos} {s:Shared} {Q:Value->Shared->Prop} (hb:attributeBase e f env (eval e env) = eval e env)
  (h:wpAny (model prog w) A (eval e env) (fun o s₁=>wpAny (model prog w) A (getAttr o f true) Q E s₁) E s):wpAny (model prog w) A (eval (.Attribute e f pos) env) Q E s :=
 Attribute_any_ h (by rw [arm_eval_Attribute,hb])
end
def OR (K:aaG) (ta:TE) (f:Str):TE:=fun σ H Q=>ta σ H fun x H1=>∃ a C dx fs v,x = .ref a /\ H1 a = some (.ins C dx fs) /\ CO K C /\ iB K C f /\ fs.lookup f = some v /\ Q v H1
def Pw (K:aaG) (ta tv:TE) (f:Str):TS:=fun D σ H=>tv σ H fun y H1=>ta σ H1 fun x H2=>∃ a C dx fs,x = .ref a /\ H2 a = some (.ins C dx fs) /\ CO K C /\ iB K C f /\ fs.length < 1000 /\
 D.nx σ (upd H2 a (.ins C dx (dY f y fs)))
section
variable {X:Cx} {o e value:Expr} {f:Str} {pos pos' Hk:Pos} {ta tv:TE}
theorem qV (he:PE X e ta) (hb:attributeBase e f X.env (eval e X.env) = eval e X.env):PE X (.Attribute e f pos) (OR X.K ta f):=by
 intro pins s σ H Q I h
 refine Hu hb (bT (he pins s σ H _ I h) fun u s1 ⟨x,H1,I1,rx,a,C,dx,fs,v,ex,ea,c,n,l,q⟩=>?_)
 subst ex
 obtain rfl:u = Value.ref a:=rx
 exact zc I1 ea c n l fun u' s2 I2 ru=>⟨v,H1,I2,ru,q⟩
theorem zK (ha:PE X o ta) (hv:PE X value tv) (hs:swapsWith value (some (.Attribute o f pos')) pos.line X.env = pure false):PS X (.Assign [.Attribute o f pos'] value pos) (Pw X.K ta tv f):=by
 intro pins s σ H D I h
 refine plainObj_wpAny_Assign_Attribute (bT (hv pins s σ H _ I h) fun u s1 ⟨y,H1,I1,ry,q⟩=>bT (ha pins s1 σ H1 _ I1 q) fun ov s2 ⟨x,H2,I2,rx,a,C,dx,fs,ex,ea,c,n,l,q2⟩=>?_) hs
 subst ex
 obtain rfl:ov = Value.ref a:=rx
 exact yF I2 ea c n l ry fun s3 I3=>⟨σ,_,I3,q2⟩
theorem HQ {pl:Sem Bool} {m:Str} {apos:Pos} {args:List Expr} {pins:List (Addr × Obj)} {s:Shared} {σ:St} {H:Hp} {Q:Value->Shared->Prop} {te:TE} (he:PE X e te) (I:Inv X pins σ H s)
  (h:te σ H fun x H1=>∃ a C dx fs g,x = .ref a /\ H1 a = some (.ins C dx fs) /\ CO X.K C /\ Meth X.K C m g /\ fs.lookup m = none /\
   ∀ s1,Inv X pins σ H1 s1->wpAny (model X.prog X.w) X.A (callWith pos (.ref g) [.ref a] (backTo pos (starEach args X.env)) (backToKw pos (keywordEach [] X.env))) Q X.xe s1)
  (ht:eval (.Call (.Attribute e m apos) args [] pos) X.env = (do
   let ov <- eval e X.env
   standAt apos.atName
   let (f,first) <- holding [ov] (getMethod ov m pl)
   callWith pos f first (backTo pos (starEach args X.env)) (backToKw pos (keywordEach [] X.env)))) :
  wpAny (model X.prog X.w) X.A (eval (.Call (.Attribute e m apos) args [] pos) X.env) Q X.xe s:=by
 refine PySem.W.methodCall_KW (pl:=pl) (bT (he pins s σ H _ I h) fun u s1 ⟨x,H1,I1,rx,a,C,dx,fs,g,ex,ea,c,k,l,q⟩=>?_) ht
 subst ex
 obtain rfl:u = Value.ref a:=rx
 exact l9 I1 ea c k l (q s1 I1)
end
section
variable {X:Cx} {pins:List (Addr × Obj)} {σ:St} {H:Hp} {s:Shared} {A:Around} {E:Value->Shared->Prop} {Q:Value->Shared->Prop} {c:Value} {b:Bool}
inductive nu (K:aaG) (H:Hp):V->Value->Prop where
 | cP:nu K H .cP (.type "NoneType")
 | bl (x:Bool):nu K H (.bl x) (.type "bool")
 | int (i:Int):nu K H (.int i) (.type "int")
 | str (x:Str):nu K H (.str x) (.type "str")
 | IT (x:UInt64):nu K H (.IT x) (.type "float")
 | lst {a:Addr} {xs:List V} (e:H a = some (.lst xs)):nu K H (.ref a) (.type "list")
 | yA {a:Addr} {o:Obj} {xs:List V} (e:H a = some (.yA o (.lst xs))):nu K H (.ref a) (.type "list")
 | tup {a:Addr} {xs:List V} (e:H a = some (.tup xs)):nu K H (.ref a) (.type "tuple")
 | dK {a:Addr} {kvs:List (Key × V)} (e:H a = some (.dK kvs)):nu K H (.ref a) (.type "dict")
 | dT {a:Addr} {kvs:List (List Key × V)} (e:H a = some (.dT kvs)):nu K H (.ref a) (.type "dict")
 | ins {a C dx:Addr} {fs:List (Str × V)} (e:H a = some (.ins C dx fs)) (cl:CO K C) (ha:PySem.W.findIn K (.ref C) "__class__" = some (some (.builtin "object.__class__")))
   (hn:PySem.W.specialIn K (.builtin "object.__class__") "__get__" = some (some (.builtin "getset_descriptor.__get__"))) (Om:PySem.W.takesIn K (.builtin "object.__class__") = some true)
   (hm:PySem.W.mroIn K C (.type "object") = some true):nu K H (.ref a) (.ref C)
theorem uv {x:V} {u t:Value} (I:Inv X pins σ H s) (rx:RelV x u) (ty:nu X.K H x t) (e:PySem.W.kitOne X.K t c = some b) (h:∀ tk,Q (.bool b) { s with toks:=tk }) :
  wpAny (model X.prog X.w) A (call (.builtin "isinstance") [u,c]) Q E s:=by
 cases ty with
 | cP=>cases (show u = Value.none from rx); exact Zp PySem.W.kitx_none I.pV Z7 e (fun z=>nomatch z) h
 | bl y=>cases (show u = Value.bool y from rx); exact Zp PySem.W.kitx_bool I.pV Z7 e (fun z=>nomatch z) h
 | int i=>obtain ⟨t,q⟩:=(show ∃ t,u = Value.int i t from rx); cases q; exact Zp PySem.W.kitx_int I.pV Z7 e (fun z=>nomatch z) h
 | str y=>obtain ⟨t,q⟩:=(show ∃ t,u = Value.str y t from rx); cases q; exact Zp PySem.W.kitx_str I.pV Z7 e (fun z=>nomatch z) h
 | IT y=>obtain ⟨t,q⟩:=(show ∃ t,u = Value.float y t from rx); cases q; exact Zp PySem.W.kitx_float I.pV Z7 e (fun z=>nomatch z) h
 | @lst a xs ea =>
  cases (show u = Value.ref a from rx)
  obtain ⟨_,_,n,_,h1⟩:=(show cj X.prog X.w H s.heap a (.lst xs) from I.aW a _ ea)
  exact Zp PySem.W.kitx_list I.pV ⟨_,h1,rfl⟩ e (fun z=>nomatch z) h
 | @yA a ob xs ea =>
  cases (show u = Value.ref a from rx)
  obtain ⟨_,_,_,n,_,h1⟩:=(show cj X.prog X.w H s.heap a (.yA ob (.lst xs)) from I.aW a _ ea)
  exact Zp PySem.W.kitx_list I.pV ⟨_,h1,rfl⟩ e (fun z=>nomatch z) h
 | @tup a xs ea =>
  cases (show u = Value.ref a from rx)
  obtain ⟨_,_,_,p⟩:=(show cj X.prog X.w H s.heap a (.tup xs) from I.aW a _ ea)
  obtain ⟨o,h1,h2,_⟩:=p
  exact Zp PySem.W.kitx_tuple I.pV ⟨o,h1,h2⟩ e (fun z=>nomatch z) h
 | @dK a kvs ea =>
  cases (show u = Value.ref a from rx)
  obtain ⟨_,_,vs,_,p⟩:=(show cj X.prog X.w H s.heap a (.dK kvs) from I.aW a _ ea)
  obtain ⟨o,es,ep,h1,h2,_⟩:=p
  exact Zp PySem.W.kitx_dict I.pV ⟨o,h1,h2.1⟩ e (fun z=>nomatch z) h
 | @dT a kvs ea =>
  cases (show u = Value.ref a from rx)
  obtain ⟨_,_,xs,_,o,es,ep,h1,h2,_⟩:=(show cj X.prog X.w H s.heap a (.dT kvs) from I.aW a _ ea)
  exact Zp PySem.W.kitx_dict I.pV ⟨o,h1,h2.1⟩ e (fun z=>nomatch z) h
 | @ins a C dx fs ea cl ha hn Om hm =>
  cases (show u = Value.ref a from rx)
  obtain ⟨mA,O,_⟩:=qc I.aW ea
  obtain ⟨od,J,_⟩:=O.look
  exact Zp (PySem.W.kitx_own (cl.get _) cl.hd ha hn Om hm) I.pV J e (fun z=>nomatch z) h
end
structure eD (k:Nat) (A:Around):Prop where
 hd:A.handled = none
 dp:A.depth + 3 * k + 5 < recursionLimit
 un:A.units + 16 * k + 200 < cLine
theorem eD.mono {j k:Nat} {A:Around} (r:eD k A) (h:j <= k):eD j A:=⟨r.hd,by have:=r.dp; omega,by have:=r.un; omega⟩
theorem eD.deeper {k:Nat} {A:Around} (r:eD (k + 1) A) (env:Env):eD k (A.deeper env) :=
 ⟨r.hd,by have:=r.dp; show A.depth + 1 + 3 * k + 5 < _; omega,by have:=r.un; show A.units + 3 + 16 * k + 200 < _; omega⟩
theorem eD.in1 {k:Nat} {A:Around} (r:eD (k + 1) A):eD k A.in1 :=
 ⟨r.hd,by have:=r.dp; show A.depth + 3 * k + 5 < _; omega,by have:=r.un; show A.units + 1 + 16 * k + 200 < _; omega⟩
theorem zd {A:Around} {C:Addr} {us:List Value} {kw:List (Str × Value)}:(A.under (.builtin "type.__call__" ⟨.ref C :: us,kw⟩)).depth = A.depth + 1:=by
 first | rfl | simp [Around.under,Code.weight,Code.isCreation,Code.isGuard,Code.isCaller,Code.frames,Code.isFrame,guardIds]
theorem yI {A:Around} {C:Addr} {us:List Value} {kw:List (Str × Value)}:(A.under (.builtin "type.__call__" ⟨.ref C :: us,kw⟩)).units = A.units + 1:=by
 first | rfl | simp [Around.under,Code.cUnits,Code.frames,Code.isFrame]
theorem eD.make {k:Nat} {A:Around} (r:eD (k + 1) A) (C:Addr) (us:List Value) (kw:List (Str × Value)):eD k (A.under (.builtin "type.__call__" ⟨.ref C :: us,kw⟩)) :=
 ⟨r.hd,by have:=r.dp; rw [zd]; omega,by have:=r.un; rw [yI]; omega⟩
theorem eD.depth {k:Nat} {A:Around} (r:eD k A):A.depth < recursionLimit:=by have:=r.dp; omega
theorem eD.units {k:Nat} {A:Around} (r:eD k A):A.units + 64 < cLine:=by have:=r.un; omega
def LD:TA:=fun _ H Q=>Q [] H
def Lv (ta:TE) (tr:TA):TA:=fun σ H Q=>ta σ H fun x H1=>tr σ H1 fun xs H2=>Q (x :: xs) H2
section
variable {X:Cx} {e:Expr} {es:List Expr} {te:TE} {t:TA} {pos:Pos}
theorem af:PA X [] LD:=fun _ _ _ _ H Q I h=>Calls.spliced_nil ⟨[],H,I,.nil,h⟩
theorem aa (ha:PE X e te) (hr:PA X es t) (hs:starEach (e :: es) X.env = (false,eval e X.env) :: starEach es X.env:=by rfl):PA X (e :: es) (Lv te t):=by
 intro pos pins s σ H Q I h
 rw [hs]
 show wpAny _ _ (spliced ((false,eval e X.env) :: backTo pos (starEach es X.env))) _ _ s
 refine Calls.spliced_cons (bT (ha pins s σ H _ I h) fun u s1 ⟨x,H1,I1,r1,q1⟩=>?_)
 exact bT (hr pos pins s1 σ H1 _ I1 q1) fun us s2 ⟨xs,H2,I2,r2,q2⟩=>⟨x :: xs,H2,I2,.cons r1 r2,q2⟩
def Px (t:TA):TE:=fun σ H Q=>t σ H fun xs H1=>xs.length <= sizeLine /\ ∀ p,H1 p = none->Q (.ref p) (upd H1 p (.tup xs))
def QM (t:TA):TE:=fun σ H Q=>t σ H fun xs H1=>xs.length <= sizeLine /\ ∀ p,H1 p = none->Q (.ref p) (upd H1 p (.lst xs))
theorem cM {x1} (h:PA X es t):PE X (.Tuple es x1 pos) (Px t):=by
 intro pins s σ H Q I hq
 refine wpAny_Tuple_spliced (bT (h pos pins s σ H _ I hq) fun us s1 ⟨xs,H1,I1,r,z,q⟩=>⟨by rw [<- r.length]; exact z,?_⟩)
 have hf:H1 s1.heap.objs.size = none:=I1.aW.fresh (X7 _)
 refine ⟨.ref s1.heap.objs.size,upd H1 s1.heap.objs.size (.tup xs),I1.laid (t':=s1.toks) (fun b u e=>X5 _ e) (X7 _) ?_,rfl,q _ hf⟩
 exact ⟨z,us,r,⟨_,Yg _ rfl,rfl,_,rfl⟩⟩
theorem eT (h:PA X es t):PE X (.List es pos) (QM t):=by
 intro pins s σ H Q I hq
 refine wpAny_List_spliced (bT (h pos pins s σ H _ I hq) fun us s1 ⟨xs,H1,I1,r,z,q⟩=>⟨by rw [<- r.length]; exact z,?_⟩)
 have hf:H1 s1.heap.objs.size = none:=I1.aW.fresh (X7 _)
 refine ⟨.ref s1.heap.objs.size,upd H1 s1.heap.objs.size (.lst xs),I1.laid (t':=s1.toks) (fun b u e=>X5 _ e) (X7 _) ?_,rfl,q _ hf⟩
 exact ⟨z,us,0,r,Yg _ rfl⟩
end
abbrev Sp:=List V->Hp->VK->XK->Prop
abbrev zA:=List Env->Hp->Shared->XK->Value->Shared->Prop
structure rz (P:Program) (w:World) (K:aaG) (mg:Str->Option Value) (base:Heap) (A:Around) (outer:List Env) (s:Shared) (H:Hp):Prop where
 frames:A.frames = some outer
 mod:Mod K mg base
 bs:∀ b o,base.get? b = some o->s.heap.get? b = some o /\ H b = none
 BV:base.objs.size <= s.heap.objs.size
 lK:s.heap.FunFrames base outer
 Fw:∀ b ∈ mn outer,H b = none
 aW:jO P w H s.heap
 bare:AllBare s.gens
def CE (outer:List Env) (P:Program) (w:World) (H:Hp) (s:Shared) (Q:VK) (u:Value) (s':Shared):Prop :=
 ∃ v H',s'.os = s.os /\ AllBare s'.gens /\ Un (mn outer) [] H H' s.heap s'.heap /\ jO P w H' s'.heap /\ RelV v u /\ Q v H'
def CR (CX:zA) (outer:List Env) (P:Program) (w:World) (H:Hp) (s:Shared) (Q:VK) (E:XK) (r:Result) (s':Shared):Prop :=
 match r with
 | .ok (.ret u)=>CE outer P w H s Q u s'
 | .ok _=>False
 | .error e=>CX outer H s E e s'
structure au (P:Program) (w:World) (K:aaG) (mg:Str->Option Value) (base:Heap) (CX:zA) (k:Nat) (f:Addr) (fd:FuncData) (ps:List Str) (sp:Sp):Prop where
 len:∀ vs H Q E,sp vs H Q E->vs.length = ps.length
 run:∀ (A:Around) (outer:List Env) (s:Shared) (H:Hp) (args:Args) (us:List Value) (vs:List V) (Q:VK) (E:XK),eD k A->rz P w K mg base A outer s H->BindsTo s fd args (ps.zip us)->Vals vs us->sp vs H Q E ->
  codeAny (model P w) A (.call (.ref f) args) (CR CX outer P w H s Q E) s
theorem au.mono {P:Program} {w:World} {K:aaG} {mg:Str->Option Value} {base:Heap} {CX:zA} {j k:Nat} {f:Addr} {fd:FuncData} {ps:List Str} {sp:Sp} (F:au P w K mg base CX j f fd ps sp) (h:j <= k) :
  au P w K mg base CX k f fd ps sp:=⟨F.len,fun A outer s H args us vs Q E hr=>F.run A outer s H args us vs Q E (hr.mono h)⟩
theorem au.imp {P:Program} {w:World} {K:aaG} {mg:Str->Option Value} {base:Heap} {CX:zA} {k:Nat} {f:Addr} {fd:FuncData} {ps:List Str} {sp Sg:Sp} (F:au P w K mg base CX k f fd ps sp)
  (h:∀ vs H Q E,Sg vs H Q E->sp vs H Q E):au P w K mg base CX k f fd ps Sg :=
 ⟨fun vs H Q E q=>F.len vs H Q E (h _ _ _ _ q),fun A outer s H args us vs Q E hr he hb hv hs=>F.run A outer s H args us vs Q E hr he hb hv (h _ _ _ _ hs)⟩
theorem rz.make {P:Program} {w:World} {K:aaG} {mg:Str->Option Value} {base:Heap} {A:Around} {outer:List Env} {s:Shared} {H:Hp} (e:rz P w K mg base A outer s H) (C:Addr) (us:List Value) (kw:List (Str × Value)) :
  rz P w K mg base (A.under (.builtin "type.__call__" ⟨.ref C :: us,kw⟩)) outer s H:=⟨by first | exact e.frames | (simpa [Around.under,Code.envs,Code.isFrame,pushEnvs] using e.frames),e.mod,e.bs,e.BV,e.lK,e.Fw,e.aW,e.bare⟩
theorem rz.in1 {P:Program} {w:World} {K:aaG} {mg:Str->Option Value} {base:Heap} {A:Around} {outer:List Env} {s:Shared} {H:Hp} (e:rz P w K mg base A outer s H) :
  rz P w K mg base A.in1 outer s H:=⟨e.frames,e.mod,e.bs,e.BV,e.lK,e.Fw,e.aW,e.bare⟩
section
variable {X:Cx} {pins:List (Addr × Obj)} {σ:St} {H:Hp} {s s':Shared}
theorem Inv.IV (I:Inv X pins σ H s):rz X.prog X.w X.K X.mg X.base X.A X.stack s H :=
 ⟨I.ok.frames,I.ok.mod,I.bs,Yh I.ok.BV I.sz,I.stack,I.qt,I.aW,I.bare⟩
theorem Inv.after {Q:VK} {u:Value} (I:Inv X pins σ H s) (h:CE X.stack X.prog X.w H s Q u s'):EP X pins σ Q u s':=by
 obtain ⟨v,H',os,bare,un,aW,r,q⟩:=h
 obtain ⟨hh,g,d,t,Qp⟩:=s'
 obtain rfl:Qp = s.os:=os
 exact ⟨v,H',I.call (h':=hh) (g':=g) (d':=d) (t':=t) (ch:=[]) un aW bare (fun b z=>absurd z (by simp)),r,q⟩
end
def Iu (sp:Sp) (kU:List V) (E:XK) (t:TA):TE:=fun σ H Q=>t σ H fun vs H1=>sp (vs ++ kU) H1 Q E
def HN (C:Addr) (m:Str) (sp:Sp) (kU:List V) (E:XK) (ta:TE) (t:TA):TE:=fun σ H Q=>ta σ H fun x H1=>∃ a dx fs,x = .ref a /\ H1 a = some (.ins C dx fs) /\ fs.lookup m = none /\
 t σ H1 fun vs H2=>sp (x :: (vs ++ kU)) H2 Q E
def Lc (C:Addr) (sp:Sp) (kU:List V) (E:XK) (t:TA):TE:=fun σ H Q=>t σ H fun vs H1=>∀ x dx,H1 x = none->H1 dx = none->dx ≠ x ->
 sp (.ref x :: (vs ++ kU)) (upd (upd H1 dx (.own x)) x (.ins C dx [])) (fun v H2=>v = .cP /\ Q (.ref x) H2) E
def Binds (K:aaG) (fd:FuncData) (ps:List Str) (ds:List Value):Prop :=
 ∀ (s:Shared) (us:List Value),K.In s.heap->(us ++ ds).length = ps.length->BindsTo s fd ⟨us,[]⟩ (ps.zip (us ++ ds))
theorem Binds.all {K:aaG} {fd:FuncData} {ps:List Str} (h:∀ us:List Value,us.length = ps.length->bindArgs fd ⟨us,[]⟩ = pure (ps.zip us)):Binds K fd ps []:=fun s us _ hl=>by
 rw [aaA] at hl ⊢
 exact .of_eq (h us hl)
def Passes (CX:zA) (X:Cx) (E:XK):Prop:=∀ (pins:List (Addr × Obj)) (σ:St) (H:Hp) (s:Shared) (e:Value) (s':Shared),Inv X pins σ H s->CX X.stack H s E e s'->X.xe e s'
section
variable {X:Cx} {CX:zA} {k:Nat} {f C:Addr} {fd:FuncData} {ps:List Str} {sp:Sp} {kU:List V} {ds:List Value} {E:XK} {x m:Str} {p pos apos:Pos} {e o:Expr} {es:List Expr} {ta:TE} {t:TA}
theorem zP {pins:List (Addr × Obj)} {σ:St} {H:Hp} {s:Shared} {Q:VK} {us:List Value} {vs:List V} (F:au X.prog X.w X.K X.mg X.base CX k f fd ps sp) (hr:eD k X.A) (hb:Binds X.K fd ps ds) (hd:Vals kU ds) (hx:Passes CX X E)
  (I:Inv X pins σ H s) (r:Vals vs us) (h:sp (vs ++ kU) H Q E):wpAny (model X.prog X.w) X.A (call (.ref f) us) (EP X pins σ Q) X.xe s:=by
 have r2:Vals (vs ++ kU) (us ++ ds):=r.append hd
 have hl:(us ++ ds).length = ps.length:=by rw [<- r2.length]; exact F.len _ _ _ _ h
 refine wpAny_call (codeAny_mono (F.run X.A X.stack s H ⟨us,[]⟩ (us ++ ds) (vs ++ kU) Q E hr I.IV (hb s us I.pV hl) r2 h) fun r s' hq=>?_)
 cases r with
 | error e=>exact hx pins σ H s e s' I hq
 | ok fl =>
  cases fl with
  | ret u=>exact I.after hq
  | next=>exact False.elim hq
  | brk=>exact False.elim hq
  | cont=>exact False.elim hq
theorem FQ (F:au X.prog X.w X.K X.mg X.base CX k f fd ps sp) (hr:eD k X.A) (hg:Gl X x) (hm:X.mg x = some (.ref f)) (hk:PySem.W.keepIn X.K (.ref f) = true) (hb:Binds X.K fd ps ds) (hd:Vals kU ds) (hx:Passes CX X E)
  (ha:PA X (e :: es) t) (su:(x == ("__debug__":Str)) = false:=by decide) (he:starEach (e :: es) X.env = (false,eval e X.env) :: starEach es X.env:=by rfl) (AR:(backTo pos (starEach es X.env)).any (·.1) = false:=by rfl) :
  PE X (.Call (.Name x p) (e :: es) [] pos) (Iu sp kU E t):=by
 intro pins s σ H Q I h
 refine aaD (mE I hg hm ?_ su)
 refine PySem.W.callWith_K (h₀:=X.base) I.ok.mod.A6 hk (bT (ha pos pins s σ H _ I h) fun us s1 ⟨vs,H1,I1,r,q⟩=>⟨I1.pV,?_⟩) he AR
 exact zP F hr hb hd hx I1 r q
theorem Bh {pl:Sem Bool} (he:PE X o ta) (c:CO X.K C) (hm:Meth X.K C m f) (F:au X.prog X.w X.K X.mg X.base CX k f fd ps sp) (hr:eD k X.A) (hb:Binds X.K fd ps ds) (hd:Vals kU ds) (hx:Passes CX X E) (ha:PA X (e :: es) t)
  (kC:starEach (e :: es) X.env = (false,eval e X.env) :: starEach es X.env:=by rfl) (AR:(backTo pos (starEach es X.env)).any (·.1) = false:=by rfl)
  (ht:eval (.Call (.Attribute o m apos) (e :: es) [] pos) X.env = (do
   let ov <- eval o X.env
   standAt apos.atName
   let (f,first) <- holding [ov] (getMethod ov m pl)
   callWith pos f first (backTo pos (starEach (e :: es) X.env)) (backToKw pos (keywordEach [] X.env))):=by rfl) :
  PE X (.Call (.Attribute o m apos) (e :: es) [] pos) (HN C m sp kU E ta t):=by
 intro pins s σ H Q I h
 refine PySem.W.methodCall_KW (pl:=pl) (bT (he pins s σ H _ I h) fun u s1 ⟨x,H1,I1,rx,a,dx,fs,ex,ea,l,q⟩=>?_) ht
 subst ex
 obtain rfl:u = Value.ref a:=rx
 refine l9 I1 ea c hm l ?_
 refine PySem.W.callWith_K (first:=[.ref a]) (h₀:=X.base) I.ok.mod.A6 hm.kp (bT (ha pos pins s1 σ H1 _ I1 q) fun us s2 ⟨vs,H2,I2,r,q2⟩=>⟨I2.pV,?_⟩) kC AR
 exact zP (us:=.ref a :: us) (vs:=.ref a :: vs) F hr hb hd hx I2 (.cons rfl r) q2
theorem bP {pl:Sem Bool} (he:PE X o ta) (c:CO X.K C) (hm:Meth X.K C m f) (F:au X.prog X.w X.K X.mg X.base CX k f fd ps sp) (hr:eD k X.A) (hb:Binds X.K fd ps ds) (hd:Vals kU ds) (hx:Passes CX X E)
  (ht:eval (.Call (.Attribute o m apos) [] [] pos) X.env = (do
   let ov <- eval o X.env
   standAt apos.atName
   let (f,first) <- holding [ov] (getMethod ov m pl)
   callWith pos f first (backTo pos (starEach [] X.env)) (backToKw pos (keywordEach [] X.env))):=by rfl) :
  PE X (.Call (.Attribute o m apos) [] [] pos) (HN C m sp kU E ta LD):=by
 intro pins s σ H Q I h
 refine PySem.W.methodCall_KW (pl:=pl) (bT (he pins s σ H _ I h) fun u s1 ⟨x,H1,I1,rx,a,dx,fs,ex,ea,l,q⟩=>?_) ht
 subst ex
 obtain rfl:u = Value.ref a:=rx
 refine l9 I1 ea c hm l ?_
 exact PySem.W.callWith_K0 (first:=[.ref a]) I1.pV hm.kp (zP (us:=[.ref a]) (vs:=[.ref a]) F hr hb hd hx I1 (.cons rfl .nil) q)
structure Mk (K:aaG) (C f:Addr):Prop where
 makes:PySem.W.makesIn K C = true
 init:PySem.W.findIn K (.ref C) "__init__" = some (some (.ref f))
 fn:PySem.W.isFn K (.ref f) = true
 kp:PySem.W.keepIn K (.ref C) = true
theorem EY {pins:List (Addr × Obj)} {σ:St} {H:Hp} {s:Shared} {Q:VK} {us:List Value} {vs:List V} (M:Mk X.K C f) (F:au X.prog X.w X.K X.mg X.base CX k f fd ps sp) (hr:eD (k + 1) X.A) (hb:Binds X.K fd ps ds) (hd:Vals kU ds)
  (hx:Passes CX X E) (I:Inv X pins σ H s) (r:Vals vs us)
  (h:∀ x dx,H x = none->H dx = none->dx ≠ x->sp (.ref x :: (vs ++ kU)) (upd (upd H dx (.own x)) x (.ins C dx [])) (fun v H2=>v = .cP /\ Q (.ref x) H2) E) :
  wpAny (model X.prog X.w) X.A (call (.ref C) us) (EP X pins σ Q) X.xe s:=by
 have hq:=h (s.heap.objs.size + 1) s.heap.objs.size (I.aW.fresh (ZV _)) (I.aW.fresh (X7 _)) (YB (Nat.lt_succ_self _))
 have I2:=Inv.made (C:=C) I
 have r2:Vals (V.ref (s.heap.objs.size + 1) :: (vs ++ kU)) (Value.ref (s.heap.objs.size + 1) :: (us ++ ds)):=.cons rfl (r.append hd)
 have hl:(Value.ref (s.heap.objs.size + 1) :: us ++ ds).length = ps.length:=by
  have e:=r2.length
  rw [F.len _ _ _ _ hq] at e
  exact e.symm
 refine wpAny_call (E3 (f:=f) I.pV M.makes M.init (ZZ.mp M.fn) (codeAny_mono (F.run _ X.stack _ _ ⟨Value.ref (s.heap.objs.size + 1) :: us,[]⟩ (Value.ref (s.heap.objs.size + 1) :: (us ++ ds)) _ _ E (hr.make C us [])
  (I2.IV.make C us []) (hb _ (Value.ref (s.heap.objs.size + 1) :: us) I2.pV hl) r2 hq) fun r s' oy=>?_))
 cases r with
 | error e=>exact hx pins σ _ _ e s' I2 oy
 | ok fl =>
  cases fl with
  | ret u =>
   obtain ⟨v,H',I3,rv,ev,q3⟩:=I2.after oy
   subst ev
   exact ⟨rv,⟨V.ref (s.heap.objs.size + 1),H',I3,rfl,q3⟩⟩
  | next=>exact False.elim oy
  | brk=>exact False.elim oy
  | cont=>exact False.elim oy
theorem AC (M:Mk X.K C f) (F:au X.prog X.w X.K X.mg X.base CX k f fd ps sp) (hr:eD (k + 1) X.A) (hg:Gl X x) (hm:X.mg x = some (.ref C)) (hb:Binds X.K fd ps ds) (hd:Vals kU ds) (hx:Passes CX X E)
  (ha:PA X (e :: es) t) (su:(x == ("__debug__":Str)) = false:=by decide) (he:starEach (e :: es) X.env = (false,eval e X.env) :: starEach es X.env:=by rfl) (AR:(backTo pos (starEach es X.env)).any (·.1) = false:=by rfl) :
  PE X (.Call (.Name x p) (e :: es) [] pos) (Lc C sp kU E t):=by
 intro pins s σ H Q I h
 refine aaD (mE I hg hm ?_ su)
 refine PySem.W.callWith_K (h₀:=X.base) I.ok.mod.A6 M.kp (bT (ha pos pins s σ H _ I h) fun us s1 ⟨vs,H1,I1,r,q⟩=>⟨I1.pV,?_⟩) he AR
 exact EY M F hr hb hd hx I1 r q
end
structure av (N P:List Str) (sc:Scope):Prop where
 kind:sc.kind = .function
 co:sc.isCoroutine = false
 gen:sc.isGenerator = false
 nd:N.Nodup
 pre:N.take P.length = P
 par:∀ x ∈ P,sc.names.lookup x = some .local \/ sc.names.lookup x = some .cell
 J4:∀ y ∈ sc.names,y.2 ≠ .free
theorem ur {kindOf:Str->Option NameKind} {x:Str}:∀ {binds:List (Str × Value)} {m:Str->Option Value},(∀ v,(x,v) ∉ binds)->bindL kindOf binds m x = m x
 | [],_,_=>rfl
 | (n,v) :: r,m,h=>by
  unfold bindL
  rw [ur fun w hw=>h w (X8 _ hw)]
  split
  ·have:x ≠ n:=by rintro rfl; exact h v X9
   simp [this]
  ·rfl
theorem tO {kindOf:Str->Option NameKind} {x:Str}:∀ {binds:List (Str × Value)} {m:Str->Option Value},(∀ v,(x,v) ∉ binds)->bindC kindOf binds m x = m x
 | [],_,_=>rfl
 | (n,v) :: r,m,h=>by
  unfold bindC
  rw [tO fun w hw=>h w (X8 _ hw)]
  split
  ·rfl
  ·have:x ≠ n:=by rintro rfl; exact h v X9
   simp [this]
theorem uG {kindOf:Str->Option NameKind} {x:Str} {v:Value}:∀ {P:List Str} {vs:List Value} {i:Nat} {m:Str->Option Value},P.Nodup->P[i]? = some x->vs[i]? = some v->kindOf x = some .local ->
  bindL kindOf (P.zip vs) m x = some v
 | [],_,_,_,_,h,_,_=>by simp at h
 | _ :: _,[],_,_,_,_,h,_=>by simp at h
 | p :: P,w :: vs,0,m,nd,h1,h2,hk=>by
  simp at h1 h2; subst h1; subst h2
  show bindL kindOf ((p,w) :: P.zip vs) m p = _
  unfold bindL
  rw [ur fun v hv=>(Ze.mp nd).1 (List.of_mem_zip hv).1,if_pos hk]
  simp
 | p :: P,w :: vs,i + 1,m,nd,h1,h2,hk=>by
  show bindL kindOf ((p,w) :: P.zip vs) m x = _
  unfold bindL
  exact uG (i:=i) (Ze.mp nd).2 (by simpa using h1) (by simpa using h2) hk
theorem uH {kindOf:Str->Option NameKind} {x:Str} {v:Value}:∀ {P:List Str} {vs:List Value} {i:Nat} {m:Str->Option Value},P.Nodup->P[i]? = some x->vs[i]? = some v->kindOf x ≠ some .local ->
  bindC kindOf (P.zip vs) m x = some v
 | [],_,_,_,_,h,_,_=>by simp at h
 | _ :: _,[],_,_,_,_,h,_=>by simp at h
 | p :: P,w :: vs,0,m,nd,h1,h2,hk=>by
  simp at h1 h2; subst h1; subst h2
  show bindC kindOf ((p,w) :: P.zip vs) m p = _
  unfold bindC
  rw [tO fun v hv=>(Ze.mp nd).1 (List.of_mem_zip hv).1,if_neg hk]
  simp
 | p :: P,w :: vs,i + 1,m,nd,h1,h2,hk=>by
  show bindC kindOf ((p,w) :: P.zip vs) m x = _
  unfold bindC
  exact uH (i:=i) (Ze.mp nd).2 (by simpa using h1) (by simpa using h2) hk
def start (N:List Str) (vs:List V):St:=vs.map some ++ List.replicate (N.length - vs.length) none
def xo (CX:zA) (P:Program) (w:World) (K:aaG) (mg:Str->Option Value) (base:Heap) (N:List Str) (qual:Str) (scope:Scope) (f:Addr) (cd:Value) (A:Around) (outer:List Env) (s:Shared) (H:Hp) (E:XK):Cx where
 prog:=P
 w:=w
 K:=K
 mg:=mg
 base:=base
 A:=A.deeper (envOfC qual scope s.heap.objs.size f cd)
 N:=N
 s₀:=s
 H₀:=H
 env:=envOfC qual scope s.heap.objs.size f cd
 outer:=outer
 stack:=envOfC qual scope s.heap.objs.size f cd :: outer
 ex:=[]
 calm:=true
 fn:=fun _=>true
 pn:=[]
 xe:=fun e s'=>wpAny (model P w) (A.deeper (envOfC qual scope s.heap.objs.size f cd)) (leaving (envOfC qual scope s.heap.objs.size f cd) e) (fun _ wA=>CX outer H s E e wA) (fun e' wA=>CX outer H s E e' wA) s'
theorem wP {sc:Scope} {n:Nat} {x:Str} (h:sc.names.lookup x = some .cell):∃ c,(cellsFrom n sc.names []).lookup x = some c:=by
 have q:=PySem.W.cellsFrom_some sc.names n [] (.inl h)
 exact ZG.mp q
theorem Bv {CX:zA} {P:Program} {w:World} {K:aaG} {mg:Str->Option Value} {base:Heap} {N ps:List Str} {qual:Str} {scope:Scope} {f:Addr} {cd:Value} {A:Around} {outer:List Env} {s s1:Shared} {H:Hp} {E:XK} {us:List Value} {vs:List V}
  (S:av N ps scope) (hd:A.handled = none) (e0:rz P w K mg base A outer s H) (hl:vs.length = ps.length) (r:Vals vs us)
  (x:InCallC s s.heap.objs.size (bindL (envOfC qual scope s.heap.objs.size f cd).kindOf (ps.zip us) fun _=>none) (cellsFrom (s.heap.objs.size + 1) scope.names []) (bindC (envOfC qual scope s.heap.objs.size f cd).kindOf (ps.zip us) fun _=>none) s1) :
  Inv (xo CX P w K mg base N qual scope f cd A outer s H E) [] (start N vs) H s1:=by
 have AR:ps.length <= N.length:=by have:=Zi List.length S.pre; rw [Yt] at this; omega
 obtain ⟨h1,tk,rfl,hk⟩:=x.done
 have Lg:∀ b:Addr,b ∉ (xo CX P w K mg base N qual scope f cd A outer s H E).ex:=fun b z=>absurd (show b ∈ ([]:List Addr) from z) (by simp)
 refine ⟨⟨e0.mod,S.kind,rfl,rfl,X7 _,fun y z c h1 h2=>?_,fun y hy=>?_,fun y c _ h=>?_,fun _=>hd,Around.frames_deeper e0.frames,.inr ⟨rfl,rfl⟩,fun b z=>absurd z (Lg b),e0.bs,e0.BV,fun b _ _=>Lg b,fun b z=>absurd z (Lg b),e0.lK,e0.Fw⟩,
  rfl,e0.bare,Un.kept hk,⟨_,x.toInCall.ns,fun i y v h1 h2 h3=>?_⟩,fun y c h=>⟨_,x.cell y c h⟩,e0.aW.fresh (X7 _),fun y c h=>?_,fun p hp=>absurd (show p ∈ ([]:List (Addr × Obj)) from hp) (by simp),e0.aW.kept hk,?_⟩
 ·exact name_of_addr x.apart (ZC h1) (ZC h2)
 ·have hy:scope.names.lookup y = some .cell \/ scope.names.lookup y = some .free:=hy
  rcases hy with hy | hy
  ·exact wP hy
  ·exact absurd rfl (S.J4 _ (ZC hy))
 ·exact aan (x.above y c (ZC h))
 ·have hi:i < vs.length:=by
   unfold start at h2
   by_cases hi:i < vs.length
   ·exact hi
   ·rw [YV (by simpa using hi)] at h2
    rw [List.getElem?_replicate] at h2
    split at h2 <;> cases h2
  have ha:vs[i]? = some v:=by
   unfold start at h2
   rw [Zm (by simpa using hi),Yl] at h2
   cases e:vs[i]? with
   | none=>rw [e] at h2; cases h2
   | some a=>rw [e] at h2; cases h2; rfl
  obtain ⟨u,hu,rv⟩:=r.get ha
  have hp:ps[i]? = some y:=by
   rw [<- S.pre,List.getElem?_take_of_lt (by omega)]; exact h1
  have RG:ps.Nodup:=by rw [<- S.pre]; exact S.nd.sublist (ZA _ _)
  refine ⟨u,rv,?_⟩
  rcases S.par y (YE hp) with k | k
  ·exact .inl ⟨k,uG RG hp hu k⟩
  ·obtain ⟨c,e⟩:=wP (n:=s.heap.objs.size + 1) k
   refine .inr ⟨.inl k,c,e,?_⟩
   have q:=x.cell y c e
   rw [uH RG hp hu (by show scope.names.lookup y ≠ _; rw [k]; decide)] at q
   exact q
 ·exact e0.aW.fresh (aan (x.above y c (ZC h)))
 ·unfold start
  show _ = N.length
  rw [Yx,X6,List.length_replicate]
  omega
theorem Ih {CX:zA} {P:Program} {w:World} {K:aaG} {mg:Str->Option Value} {base:Heap} {k:Nat} {f:Addr} {name qual:Str} {params:Arguments} {body:List Stmt} {scope:Scope} {dV kV doc pm ci ct oc:Value} {an od:Option Addr}
  {GS:Array (Option Value)} {N ps:List Str} {sp:Sp} (lk:K.lookup f = some ⟨oc,od,.func (PySem.W.fnOf name qual params body scope dV kV doc pm an ci ct),GS⟩) (yZ:PySem.W.codeIn K ci qual = true) (S:av N ps scope)
  (len:∀ vs H Q E,sp vs H Q E->vs.length = ps.length)
  (yd:∀ (A:Around) (outer:List Env) (s:Shared) (H:Hp) (vs:List V) (Q:VK) (E:XK),eD k (A.deeper (envOfC qual scope s.heap.objs.size f ci))->sp vs H Q E ->
   ∃ t,v8 (xo CX P w K mg base N qual scope f ci A outer s H E) body t /\ t { nx:=fun _ H'=>Q .cP H',rt:=Q } (start N vs) H) :
  au P w K mg base CX (k + 1) f (PySem.W.fnOf name qual params body scope dV kV doc pm an ci ct) ps sp:=by
 refine ⟨len,fun A outer s H args us vs Q E hr e0 hb r CM=>?_⟩
 have hl:=len _ _ _ _ CM
 have KX:K.In s.heap:=e0.mod.A6.keeps fun b o e=>(e0.bs b o e).1
 have lim:s.heap.NoLimit:=e0.mod.nolimit.keeps fun b o e=>(e0.bs b o e).1
 have Lw:∀ y ∈ ps.zip us,scope.names.lookup y.1 = some .local \/ (scope.names.lookup y.1 = some .cell /\ ((cellsFrom (s.heap.objs.size + 1) scope.names []).lookup y.1).isSome = true):=fun ⟨n,v⟩ hy=>by
  rcases S.par n (List.of_mem_zip hy).1 with q | q
  ·exact .inl q
  ·exact .inr ⟨q,PySem.W.cellsFrom_some _ _ _ (.inl q)⟩
 refine codeAny_call_function hr.depth (KX _ _ lk) rfl S.co S.gen rfl (PySem.W.codeRec_of KX yZ) (hb _ _ _ _ ?_)
 refine wpAny_newFunctionEnv_cells S.kind Lw fun env he s1 x=>?_
 subst he
 refine ⟨lim.keeps x.toInCall.keep,codeAny_func ?_⟩
 obtain ⟨t,ht,hq⟩:=yd A outer s H vs Q E (hr.deeper _) CM
 have I:Inv (xo CX P w K mg base N qual scope f ci A outer s H E) [] (start N vs) H s1:=Bv S hr.hd e0 hl r x
 refine Zn (ht [] s1 (start N vs) H _ I hq) (fun fl s' hs=>?_) fun e s' hs=>hs
 have fin:∀ {σ':St} {H':Hp} {v:V} {u:Value},Inv (xo CX P w K mg base N qual scope f ci A outer s H E) [] σ' H' s'->RelV v u->Q v H'->CE outer P w H s Q u s' :=
  fun {σ' H' v u} J rv q=>⟨v,H',J.os,J.bare,J.base,J.aW,rv,q⟩
 cases fl with
 | ret u =>
  obtain ⟨v,σ',H',J,rv,q⟩:=hs
  exact fin J rv q
 | next =>
  obtain ⟨σ',H',J,q⟩:=hs
  exact fin (v:=V.cP) (u:=Value.none) J rfl q
 | brk =>
  obtain ⟨_,_,_,q⟩:=hs
  exact False.elim q
 | cont =>
  obtain ⟨_,_,_,q⟩:=hs
  exact False.elim q
section
variable {X:Cx} {x:Str} {p pos:Pos} {e:Expr} {es:List Expr} {t:TA} {id T:String} {r:List V->Hp->VK->Prop}
def PM (r:List V->Hp->VK->Prop) (t:TA):TE:=fun σ H Q=>t σ H fun vs H1=>r vs H1 Q
theorem aV (hc:cK X (.builtin id) r) (hg:Gl X x) (hm:X.mg x = none) (hv:bootBuiltins x = some (.builtin id)) (ha:PA X (e :: es) t) (hn:x ≠ "__name__":=by decide) (su:(x == ("__debug__":Str)) = false:=by decide)
  (he:starEach (e :: es) X.env = (false,eval e X.env) :: starEach es X.env:=by rfl) (AR:(backTo pos (starEach es X.env)).any (·.1) = false:=by rfl):PE X (.Call (.Name x p) (e :: es) [] pos) (PM r t):=by
 intro pins s σ H Q I h
 refine aaD (oB I hg hm hv ?_ hn su)
 exact PyProof.Rows.callWith_builtin1 (bT (ha pos pins s σ H _ I h) fun us s1 ⟨vs,H1,I1,r1,q1⟩=>hc pins s1 σ H1 vs us Q I1 r1 q1) he AR
theorem aO (hc:cK X (.type T) r) (hg:Gl X x) (hm:X.mg x = none) (hv:bootBuiltins x = some (.type T)) (ha:PA X (e :: es) t) (hn:x ≠ "__name__":=by decide) (su:(x == ("__debug__":Str)) = false:=by decide)
  (he:starEach (e :: es) X.env = (false,eval e X.env) :: starEach es X.env:=by rfl) (AR:(backTo pos (starEach es X.env)).any (·.1) = false:=by rfl):PE X (.Call (.Name x p) (e :: es) [] pos) (PM r t):=by
 intro pins s σ H Q I h
 refine aaD (oB I hg hm hv ?_ hn su)
 exact PyProof.Rows.callWith_type1 (bT (ha pos pins s σ H _ I h) fun us s1 ⟨vs,H1,I1,r1,q1⟩=>hc pins s1 σ H1 vs us Q I1 r1 q1) he AR
end
end L2
namespace HT
open PySem PyProof.Rows
def lexLt:List Int->List Int->Bool
 | [],[]=>false
 | [],_ :: _=>true
 | _ :: _,[]=>false
 | x :: xs,y :: ys=>if x = y then lexLt xs ys else decide (x < y)
theorem gN (x y:Int) (xs ys:List Int):lexLt (x :: xs) (y :: ys) = if x = y then lexLt xs ys else decide (x < y):=rfl
section
variable {prog:Program} {w:World} {A:Around} {E:Value->Shared->Prop} {s:Shared}
theorem Gw {t b:Addr} {vs ws:List Value} {Q:Value->Shared->Prop} (ht:IsTup s.heap t vs.toArray) (hb:IsTup s.heap b ws.toArray) (hv:vs ≠ [])
  (h1:ws = []->Q (.ref t) s) (h2:ws ≠ []->Q (.ref s.heap.objs.size) { s with heap:=s.heap.push { cls:=.type "tuple",data:=.seq (vs ++ ws).toArray } })
  (hsz:vs.length + ws.length <= sizeLine):wpAny (model prog w) A (binaryOp .Add (.ref t) (.ref b)) Q E s:=by
 obtain ⟨⟨cls,dd,data,sl⟩,ho,hc,n,hd⟩:=id ht
 obtain ⟨⟨Tp,RS,data2,Ot⟩,qv,Eb,n2,hd2⟩:=id hb
 simp only at hc hd Eb hd2
 subst hc hd Eb hd2
 have e:vs.toArray ++ ws.toArray = (vs ++ ws).toArray:=by simp
 by_cases hw:ws = []
 ·exact concat_meets ⟨_,ho,rfl⟩ ⟨_,qv,rfl⟩ noFill_tuple_add seq_tuple_add PySem.F.slot_tuple_add PySem.F.entry_tuple_add (PySem.F.args_tuple_add_2 _ _)
   (tuple_addW1 t b vs.toArray ws.toArray n n2 dd RS sl Ot (by simpa using hv) (by simp [hw])) ⟨ho,qv,h1 hw⟩
 ·refine concat_meets ⟨_,ho,rfl⟩ ⟨_,qv,rfl⟩ noFill_tuple_add seq_tuple_add PySem.F.slot_tuple_add PySem.F.entry_tuple_add (PySem.F.args_tuple_add_2 _ _)
   (tuple_addW2 t b vs.toArray ws.toArray n n2 dd RS sl Ot (by simpa using hv) (by simpa using hw) (by rw [Yk,Yk]; exact hsz)) ⟨ho,qv,?_⟩
  rw [e]
  exact h2 hw
def dN (n d:Nat):Option Int->Nat
 | none=>d
 | some v=>if v < 0 then (v + (n:Int)).toNat else min v.toNat n
theorem xY (n d:Nat):dN n d none = d:=rfl
theorem AJ (n d k:Nat):dN n d (some (k:Int)) = min k n:=by
 show (if (k:Int) < 0 then ((k:Int) + (n:Int)).toNat else min (k:Int).toNat n) = min k n
 rw [if_neg (by omega),Za]
theorem Jq (n d:Nat) (hd:d <= n) (o:Option Int):dN n d o <= n:=by
 cases o with
 | none=>exact hd
 | some v =>
  show (if v < 0 then (v + (n:Int)).toNat else min v.toNat n) <= n
  by_cases hv:v < 0
  ·rw [if_pos hv]; omega
  ·rw [if_neg hv]; exact Nat.min_le_right _ _
theorem vL (v:Int) (n d:Nat):(if v < 0 then max (v + (n:Int)) 0 else min v (n:Int)) = ((dN n d (some v):Nat):Int):=by
 show (if v < 0 then max (v + (n:Int)) 0 else min v (n:Int)) = (((if v < 0 then (v + (n:Int)).toNat else min v.toNat n):Nat):Int)
 by_cases hv:v < 0
 ·simp only [if_pos hv]; omega
 ·simp only [if_neg hv]; omega
theorem zo (lo hi:Option Int) (n:Nat):Builtin.Slice.sliceAdjust lo hi 1 (n:Int) = (((dN n 0 lo:Nat):Int),((dN n n hi:Nat):Int)):=by
 have h1:¬ ((1:Int) < 0):=by omega
 unfold Builtin.Slice.sliceAdjust
 simp only [h1,YZ]
 refine Prod.ext ?_ ?_
 ·cases lo with
  | none=>rfl
  | some v=>exact vL v n 0
 ·cases hi with
  | none=>rfl
  | some v=>exact vL v n n
theorem zT (i j:Nat):Builtin.Slice.slicePlaces (i:Int) (j:Int) 1 = j - i:=by
 unfold Builtin.Slice.slicePlaces
 have h1:(1:Int) > 0:=by omega
 simp only [h1,Zw,Int.ediv_one]
 split <;> omega
theorem qX {v:Value} {o:Option Int} {Q:Option Int->Shared->Prop} (p:IsPart v o) (h:Q o s):wpAny (model prog w) A (Builtin.Slice.slicePartIndex v) Q E s:=by
 cases p with
 | none=>exact slicePart_none h
 | int i t=>exact slicePart_int h
theorem iO {sl:Addr} {vl vu:Value} {lo hi:Option Int} {n:Nat} {Q:Int × Int × Nat->Shared->Prop} (hs:s.heap.IsSliceOf sl vl vu .none) (pl:IsPart vl lo) (pu:IsPart vu hi)
  (h:Q (((dN n 0 lo:Nat):Int),1,dN n n hi - dN n 0 lo) s):wpAny (model prog w) A (Builtin.Slice.sliceApplied (.ref sl) (pure (n:Int))) Q E s:=by
 obtain ⟨os,Fo,J7,K4⟩:=id hs
 unfold Builtin.Slice.sliceApplied Builtin.Slice.sliceFields
 refine X3 (X3 (Zb Fo K4 (x:=vl) rfl (X3 (Zb Fo K4 (x:=vu) rfl (X3 (Zb Fo K4 (x:=.none) rfl (X4 ?_)))))))
 refine X3 (slicePart_none ?_)
 show wpAny _ _ (if ((1:Int) == 0) = true then _ else _) _ _ s
 rw [if_neg (by decide)]
 refine X3 (qX pl (X3 (qX pu (X3 (X4 ?_)))))
 show wpAny _ _ (match Builtin.Slice.sliceAdjust lo hi 1 (n:Int) with | (lo,hi)=>pure (lo,(1:Int),Builtin.Slice.slicePlaces lo hi 1)) _ _ s
 rw [zo lo hi n]
 show wpAny _ _ (pure (((dN n 0 lo:Nat):Int),(1:Int),Builtin.Slice.slicePlaces ((dN n 0 lo:Nat):Int) ((dN n n hi:Nat):Int) 1)) _ _ s
 rw [zT]
 exact X4 h
theorem EG (xs:Array Value) (i k:Nat):((List.range k).filterMap fun (m:Nat)=>xs[((i:Int) + (m:Int) * 1).toNat]?).toArray = ((xs.toList.drop i).take k).toArray:=by
 have e:(fun (m:Nat)=>xs[((i:Int) + (m:Int) * 1).toNat]?) = fun m=>xs[i + m]?:=by
  funext m
  have:((i:Int) + (m:Int) * 1).toNat = i + m:=by omega
  rw [this]
 rw [e]
 have:=pick_run xs i k
 rw [List.filterMap_map] at this
 have e2:((fun x=>xs[x]?) ∘ fun x=>i + x) = fun m=>xs[i + m]?:=rfl
 rw [e2] at this
 rw [this]
theorem nZ {t sl:Addr} {items:Array Value} {vl vu:Value} {lo hi:Option Int} {Q:Value->Shared->Prop} (ht:IsTup s.heap t items) (hs:s.heap.IsSliceOf sl vl vu .none) (pl:IsPart vl lo) (pu:IsPart vu hi)
  (hw:¬ (dN items.size 0 lo = 0 /\ dN items.size items.size hi = items.size))
  (h:Q (.ref s.heap.objs.size) { s with heap:=s.heap.push { cls:=.type "tuple",data:=.seq ((items.toList.drop (dN items.size 0 lo)).take (dN items.size items.size hi - dN items.size 0 lo)).toArray } })
  (hsz:items.size <= sizeLine):wpAny (model prog w) A (getItem (.ref t) (.ref sl)) Q E s:=by
 have Bd:sizeOk (.seq ((items.toList.drop (dN items.size 0 lo)).take (dN items.size items.size hi - dN items.size 0 lo)).toArray):=by
  show ((items.toList.drop (dN items.size 0 lo)).take (dN items.size items.size hi - dN items.size 0 lo)).toArray.size <= sizeLine
  rw [Yk,Yt,aaq,Ye]
  omega
 have hj:dN items.size items.size hi <= items.size:=Jq _ _ (X7 _) hi
 obtain ⟨os,Fo,J7,K4⟩:=id hs
 have WS:s.TypeIs (.ref sl) "slice":=⟨os,Fo,J7⟩
 unfold getItem
 try with_reducible refine Zk ?_
 first | refine X3 (X4 ?_) | skip
 refine X3 (wpAny_sequenceKey ht.typeIs (by decide) ?_)
 refine X3 (Y3 (name:=Str.ofString "__getitem__") ht.typeIs Zh
  (YL Zh ht.typeIs entry_tuple_getitem ?_ (args_tuple_getitem _ _)))
 show wpAny _ _ (Builtin.Tuple.tupleItemsOf (.ref t) >>= _) _ _ s
 refine X3 (tupleItemsOf_ ht ?_)
 refine X3 (wpAny_typeOf WS ?_)
 rw [if_pos (by decide)]
 refine X3 (iO hs pl pu ?_)
 have QB:¬ ((((dN items.size 0 lo:Nat):Int) == 0 && (1:Int) == 1 && (dN items.size items.size hi - dN items.size 0 lo) == items.size) = true):=by
  intro q
  rw [YM,YM] at q
  have q1:((dN items.size 0 lo:Nat):Int) = 0:=eq_of_beq q.1.1
  have q2:dN items.size items.size hi - dN items.size 0 lo = items.size:=eq_of_beq q.2
  exact hw ⟨by omega,by omega⟩
 show wpAny _ _ (if (((dN items.size 0 lo:Nat):Int) == 0 && (1:Int) == 1 && (dN items.size items.size hi - dN items.size 0 lo) == items.size) = true then _ else _) _ _ s
 rw [if_neg QB,EG]
 first
  | exact X3 (m:=Builtin.Tuple.tupleExact _) (YR (X4 ⟨_,rfl,X4 h⟩) Bd)
  | exact X3 (m:=Builtin.Tuple.tupleExact _) (YR (X3 (X4 (X4 ⟨_,rfl,X4 h⟩))) Bd)
  | exact X3 (X3 (m:=Builtin.Tuple.tupleExact _) (YR (X4 (X4 ⟨_,rfl,X4 h⟩)) Bd))
  | exact X3 (X3 (m:=Builtin.Tuple.tupleExact _) (YR (X4 ⟨_,rfl,X4 h⟩) Bd))
end
end HT
namespace L2
open PySem PySem.Spec PyProof.Rows
abbrev TO:=St->Hp->(Option Int->Hp->Prop)->Prop
def PO (X:Cx) (e:Option Expr) (t:TO):Prop :=
 ∀ (pins:List (Addr × Obj)) (s:Shared) (σ:St) (H:Hp) (Q:Option Int->Hp->Prop),Inv X pins σ H s->t σ H Q ->
  wpAny (model X.prog X.w) X.A (evalPart e X.env) (fun u s'=>∃ o H',Inv X pins σ H' s' /\ IsPart u o /\ Q o H') X.xe s
def GV:TO:=fun _ H Q=>Q none H
def MW (t:TE):TO:=fun σ H Q=>t σ H fun x H1=>∃ i,x = .int i /\ Q (some i) H1
theorem intsAre_of {ns:List Int}:∀ {us:List Value},Vals (ns.map V.int) us->IntsAre us ns:=by
 induction ns with
 | nil=>intro us r; rw [List.map_nil] at r; cases r; exact .nil
 | cons n ns ih =>
  intro us r
  rw [Yq] at r
  cases r with
  | cons r1 r2 =>
   obtain ⟨t,e⟩:=r1
   subst e
   exact .cons n t (ih r2)
section
variable {X:Cx} {e:Expr} {te:TE} {lo hi:Option Expr} {tl th:TO} {pos p2:Pos}
theorem vZ:PO X none GV:=by
 intro pins s σ H Q I h
 rw [evalPart_none]
 exact X4 ⟨none,H,I,.none,h⟩
theorem vO (h:PE X e te):PO X (some e) (MW te):=by
 intro pins s σ H Q I hw
 rw [evalPart_some]
 refine bT (h pins s σ H _ I hw) fun u s1 ⟨x,H1,I1,r1,q1⟩=>?_
 obtain ⟨i,rfl,q⟩:=q1
 obtain ⟨t,rfl⟩:=r1
 exact ⟨some i,H1,I1,.int i t,q⟩
def Fx (X:Cx) (r:V->Option Int->Option Int->Hp->VK->Prop):Prop :=
 ∀ (pins:List (Addr × Obj)) (s:Shared) (σ:St) (H:Hp) (x:V) (v vl vu:Value) (lo hi:Option Int) (sl:Addr) (Q:VK),Inv X pins σ H s->RelV x v->s.heap.IsSliceOf sl vl vu .none->IsPart vl lo->IsPart vu hi->r x lo hi H Q ->
  ∃ T id,typeLookup (.type T) "__getitem__" = pure (some (.builtin id)) /\ s.TypeIs v T /\ wpAny (model X.prog X.w) X.A (getItem v (.ref sl)) (EP X pins σ Q) X.xe s
theorem Fx.or {r r':V->Option Int->Option Int->Hp->VK->Prop} (h:Fx X r) (h':Fx X r'):Fx X (fun x lo hi H Q=>r x lo hi H Q \/ r' x lo hi H Q):=by
 intro pins s σ H x v vl vu lo hi sl Q I rx hs pl pu q
 rcases q with q | q
 ·exact h pins s σ H x v vl vu lo hi sl Q I rx hs pl pu q
 ·exact h' pins s σ H x v vl vu lo hi sl Q I rx hs pl pu q
def WY (r:V->Option Int->Option Int->Hp->VK->Prop) (te:TE) (tl th:TO):TE:=fun σ H Q=>te σ H fun x H1=>tl σ H1 fun l H2=>th σ H2 fun u H3=>r x l u H3 Q
theorem qT {r:V->Option Int->Option Int->Hp->VK->Prop} (hr:Fx X r) (he:PE X e te) (hl:PO X lo tl) (hu:PO X hi th):PE X (.Subscript e (.Slice lo hi none p2) pos) (WY r te tl th):=by
 intro pins s σ H Q I h
 refine Subscript_ (bT (he pins s σ H _ I h) fun v s1 ⟨x,H1,I1,r1,q1⟩=>?_)
 refine wpAny_Slice (bT (hl pins s1 σ H1 _ I1 q1) fun vl s2 ⟨l,H2,I2,pl,q2⟩=>bT (hu pins s2 σ H2 _ I2 q2) fun vu s3 ⟨u,H3,I3,pu,q3⟩=>?_)
 rw [evalPart_none]
 refine X4 ?_
 have I4:Inv X pins σ H3 { s3 with heap:=s3.heap.push { cls:=.type "slice",data:=.fields #[vl,vu,.none] } }:=I3.kept (t':=s3.toks) fun b ob q=>X5 _ q
 obtain ⟨T,id,hT,ht,hg⟩:=hr pins { s3 with heap:=s3.heap.push { cls:=.type "slice",data:=.fields #[vl,vu,.none] } } σ H3 x v vl vu l u s3.heap.objs.size Q I4 r1 (Heap.IsSliceOf.new ..) pl pu q3
 show wpAny (model X.prog X.w) X.A (subscriptTail e (.Slice lo hi none p2) v (.ref s3.heap.objs.size)) (EP X pins σ Q) X.xe { s3 with heap:=s3.heap.push { cls:=.type "slice",data:=.fields #[vl,vu,.none] } }
 exact tail_any (ops:=[.ref s3.heap.objs.size,v]) ht hT hg (by with_unfolding_all rfl)
def oi (xs:List V) (lo hi:Option Int):List V:=(xs.drop (HT.dN xs.length 0 lo)).take (HT.dN xs.length xs.length hi - HT.dN xs.length 0 lo)
theorem px (xs:List V) (lo hi:Option Int):(oi xs lo hi).length <= xs.length:=by
 unfold oi
 rw [Yt,aaq]
 omega
def L6 (K:aaG):V->Option Int->Option Int->Hp->VK->Prop:=fun x lo hi H Q=>∃ a xs,x = .ref a /\ bK K H a xs /\
 ¬ (HT.dN xs.length 0 lo = 0 /\ HT.dN xs.length xs.length hi = xs.length) /\ ∀ p,H p = none->Q (.ref p) (upd H p (.tup (oi xs lo hi)))
theorem Ja:Fx X (L6 X.K):=by
 intro pins s σ H x v vl vu lo hi sl Q I rx hs pl pu h
 obtain ⟨a,xs,rfl,hx,hw,q⟩:=h
 cases rx
 obtain ⟨az,r,ht,hz⟩:=I.tuple hx
 have hlen:az.toArray.size = xs.length:=by rw [Yk]; exact r.length.symm
 refine ⟨"tuple",_,Zh.lookup,ht.typeIs,?_⟩
 refine HT.nZ ht hs pl pu (by rw [hlen]; exact hw) ?_ (by rw [hlen]; exact hz)
 rw [hlen]
 refine ⟨.ref s.heap.objs.size,_,I.laid (t':=s.toks) (o:=.tup (oi xs lo hi)) (fun b ob q=>X5 _ q) (X7 _) ?_,rfl,q _ (I.aW.fresh (X7 _))⟩
 exact ⟨Yh (px xs lo hi) hz,_,(r.drop (HT.dN xs.length 0 lo)).take (HT.dN xs.length xs.length hi - HT.dN xs.length 0 lo),IsTup.new _ _⟩
theorem Vals.p8 {xs:List V} {us:List Value} (r:Vals xs us):us = [] ↔ xs = []:=by
 cases r with
 | nil=>simp
 | cons _ _=>simp
end
def JS (n:Nat) (i:Int):Option Nat:=if 0 <= i then (if i < n then some i.toNat else none) else if -(n:Int) <= i then some (i + n).toNat else none
def BZ {α:Type} (xs:List α) (i:Int):Option α:=(JS xs.length i).bind fun j=>xs[j]?
theorem AK {n:Nat} {i:Int} {j:Nat} (h:JS n i = some j):seqIndex? i n = some j /\ j < n /\ -(n:Int) <= i /\ i < n:=by
 unfold JS at h
 by_cases h0:0 <= i
 ·rw [if_pos h0] at h
  by_cases h1:i < n
  ·rw [if_pos h1] at h
   have e:i.toNat = j:=Y4 h
   exact ⟨by rw [seqIndex_of h0 h1,e],by omega,by omega,h1⟩
  ·rw [if_neg h1] at h; cases h
 ·rw [if_neg h0] at h
  by_cases h1:-(n:Int) <= i
  ·rw [if_pos h1] at h
   have e:(i + n).toNat = j:=Y4 h
   exact ⟨by rw [seqIndex_neg (by omega) h1,e],by omega,h1,by omega⟩
  ·rw [if_neg h1] at h; cases h
theorem uO {α:Type} {xs:List α} {i:Int} {v:α} (h:BZ xs i = some v):∃ j,seqIndex? i xs.length = some j /\ xs[j]? = some v /\ j < xs.length /\ -(xs.length:Int) <= i /\ i < xs.length:=by
 unfold BZ at h
 cases e:JS xs.length i with
 | none=>rw [e] at h; cases h
 | some j =>
  rw [e] at h
  obtain ⟨h1,h2,h3,h4⟩:=AK e
  exact ⟨j,h1,h,h2,h3,h4⟩
theorem fQ {α:Type} {xs:List α} {j:Nat} {v:α} (h:xs[j]? = some v):BZ xs (j:Int) = some v:=by
 have hj:j < xs.length:=(Ys.mp h).1
 have e:JS xs.length (j:Int) = some j:=by
  unfold JS
  rw [if_pos (by omega),if_pos (by omega)]; simp
 unfold BZ; rw [e]; exact h
def FD (b:Expr):Prop:=∀ o i,subscripted b false o i = operate [o,i] (getItem o i)
def CQ (X:Cx) (r:R2):Prop :=
 ∀ (value slice:Expr) (pins:List (Addr × Obj)) (s:Shared) (σ:St) (H:Hp) (x y:V) (v u:Value) (Q:VK),Inv X pins σ H s->RelV x v->RelV y u->r x y H Q ->
  subscripted slice false v u = operate [v,u] (getItem v u)->wpAny (model X.prog X.w) X.A (subscriptTail value slice v u) (EP X pins σ Q) X.xe s
def IK (X:Cx) (id:String) (r:V->List V->Hp->VK->Prop):Prop :=
 ∀ (pins:List (Addr × Obj)) (s:Shared) (σ:St) (H:Hp) (x:V) (xs:List V) (v:Value) (us:List Value) (Q:VK),Inv X pins σ H s->RelV x v->Vals xs us->r x xs H Q ->
  wpAny (model X.prog X.w) X.A (call (.builtin id) (v :: us)) (EP X pins σ Q) X.xe s
section
variable {X:Cx} {a b:Expr} {ta tb:TE} {pos:Pos}
theorem CQ.or {r r':R2} (h:CQ X r) (h':CQ X r'):CQ X (fun x y H Q=>r x y H Q \/ r' x y H Q):=by
 intro value slice pins s σ H x y v u Q I rx ry q hs
 rcases q with q | q
 ·exact h value slice pins s σ H x y v u Q I rx ry q hs
 ·exact h' value slice pins s σ H x y v u Q I rx ry q hs
theorem IK.or {id:String} {r r':V->List V->Hp->VK->Prop} (h:IK X id r) (h':IK X id r'):IK X id (fun x xs H Q=>r x xs H Q \/ r' x xs H Q):=by
 intro pins s σ H x xs v us Q I rx rs q
 rcases q with q | q
 ·exact h pins s σ H x xs v us Q I rx rs q
 ·exact h' pins s σ H x xs v us Q I rx rs q
theorem aR {r:R2} (hr:CQ X r) (ha:PE X a ta) (hb:PE X b tb) (hs:FD b):PE X (.Subscript a b pos) (NM r ta tb):=by
 intro pins s σ H Q I h
 exact Subscript_ (J5 ha hb I h fun v u s2 x y H2 I2 rx ry q=>hr a b pins s2 σ H2 x y v u Q I2 rx ry q (hs _ _))
def LB (K:aaG):R2:=fun x y H Q=>∃ p xs i v,x = .ref p /\ y = .int i /\ aZ K H p xs /\ BZ xs i = some v /\ Q v H
def Nc (K:aaG):R2:=fun x y H Q=>∃ p xs i v,x = .ref p /\ y = .int i /\ bK K H p xs /\ BZ xs i = some v /\ Q v H
def P4:R2:=fun x y H Q=>∃ z i c,x = .str z /\ y = .int i /\ z.length <= sizeLine /\ BZ z.cps.toList i = some c /\ Q (.str ⟨#[c]⟩) H
theorem ce:CQ X (LB X.K):=by
 intro value slice pins s σ H x y v u Q I rx ry h hs
 obtain ⟨p,xs,i,z,rfl,rfl,hq,he,q⟩:=h
 cases rx
 obtain ⟨t,rfl⟩:=ry
 obtain ⟨az,r,pl,hz⟩:=I.list hq
 obtain ⟨j,h1,h2,h3,h4,h5⟩:=uO he
 obtain ⟨w,ew,LS⟩:=r.get h2
 have hl:=r.length
 have hn:=lU
 have fin:EP X pins σ Q w s:=⟨z,H,I,LS,q⟩
 by_cases h0:0 <= i
 ·have hj:i.toNat = j:=by
   rw [seqIndex_of h0 h5] at h1
   exact Y4 h1
  exact item_listR pl.isList h0 (by omega) (by rw [hj]; simpa using ew) fin hs
 ·have hj:(i + (az.toArray.size:Int)).toNat = j:=by
   rw [seqIndex_neg (by omega) h4] at h1
   rw [Yk,<- hl]
   exact Y4 h1
  exact subscriptTail_builtinR (x:=w) pl.isList.typeIs slot_list_getitem.lookup
   (wpAny_getItem_list_neg (Q:=fun r s'=>r = w /\ EP X pins σ Q r s') pl.isList (by omega) (by rw [Yk] <;> omega) (by omega) (by rw [hj]; simpa using ew) ⟨rfl,fin⟩) hs
theorem bz:CQ X (Nc X.K):=by
 intro value slice pins s σ H x y v u Q I rx ry h hs
 obtain ⟨p,xs,i,z,rfl,rfl,hq,he,q⟩:=h
 cases rx
 obtain ⟨t,rfl⟩:=ry
 obtain ⟨az,r,pl,hz⟩:=I.tuple hq
 obtain ⟨j,h1,h2,h3,h4,h5⟩:=uO he
 obtain ⟨w,ew,LS⟩:=r.get h2
 have hl:=r.length
 have hn:=lU
 have fin:EP X pins σ Q w s:=⟨z,H,I,LS,q⟩
 exact subscriptTail_builtinR (x:=w) pl.typeIs slot_tuple_getitem.lookup
  (getItem_tuple (j:=j) (Q:=fun r s'=>r = w /\ EP X pins σ Q r s') pl (by omega) (by omega) (by rw [Yk,<- hl]; exact h1) (by simpa using ew) ⟨rfl,fin⟩) hs
theorem JK:CQ X P4:=by
 intro value slice pins s σ H x y v u Q I rx ry h hs
 obtain ⟨z,i,c,rfl,rfl,hz,he,q⟩:=h
 obtain ⟨t,rfl⟩:=rx
 obtain ⟨t',rfl⟩:=ry
 obtain ⟨j,h1,h2,h3,h4,h5⟩:=uO he
 have hl:z.cps.toList.length = z.length:=by simp [Str.length]
 rw [hl] at h1 h4 h5
 have hn:=lU
 exact tail_any (typeIs_str s z t) slot_str_getitem.lookup (getItem_str (c:=c) (by
  have e1:decide (i < -(2 ^ 63:Int)) = false:=Yw (by omega)
  have e2:decide (i >= 2 ^ 63) = false:=Yw (by omega)
  rw [e1,e2,Bool.or_false]) (by rw [h1]; simpa using h2) ⟨.str ⟨#[c]⟩,H,I.tok _,⟨_,rfl⟩,q⟩) hs
theorem zh (az:List Value) (n j:Nat) (u:Value):Obj.mapSeq (·.setIfInBounds j u) { cls:=.type "list",data:=.seq az.toArray n } = { cls:=.type "list",data:=.seq (az.set j u).toArray n }:=by
 simp [Obj.mapSeq]
theorem Inv.lst {pins:List (Addr × Obj)} {σ:St} {H:Hp} {s:Shared} {p:Addr} {xs:List V} (I:Inv X pins σ H s) (h:H p = some (.lst xs)) :
  ∃ (az:List Value) (n:Nat),Vals xs az /\ s.heap.get? p = some { cls:=.type "list",data:=.seq az.toArray n } /\ xs.length <= sizeLine:=by
 obtain ⟨z,az,n,r,e⟩:=I.aW p _ h
 exact ⟨az,n,r,e,z⟩
theorem Inv.Kk {pins:List (Addr × Obj)} {σ:St} {H:Hp} {s:Shared} {p:Addr} {xs ys:List V} {az its':List Value} {n n':Nat} {f:Obj->Obj} (I:Inv X pins σ H s) (h:H p = some (.lst xs))
  (ho:s.heap.get? p = some { cls:=.type "list",data:=.seq az.toArray n }) (hf:f { cls:=.type "list",data:=.seq az.toArray n } = { cls:=.type "list",data:=.seq its'.toArray n' }) (r:Vals ys its') (hz:ys.length <= sizeLine) (t:Nat) :
  Inv X pins σ (upd H p (.lst ys)) { s with heap:=s.heap.update p f,toks:=t }:=by
 have e:(s.heap.update p f).get? p = some { cls:=.type "list",data:=.seq its'.toArray n' }:=by
  rw [Heap.get?_update_self f ho (by rw [hf] <;> rfl),hf]
 refine I.write (x:=p) (e:=p) (by rw [h]; trivial) (.inl rfl) (fun b u hb q=>(Heap.get?_update_other _ _ (aag hb)).trans q) ⟨_,e⟩ ?_
 exact ⟨hz,its',n',r,e⟩
def Ld:V->V->V->Hp->(Hp->Prop)->Prop:=fun o i v H Q=>∃ p xs k j,o = .ref p /\ i = .int k /\ H p = some (.lst xs) /\ JS xs.length k = some j /\ Q (upd H p (.lst (xs.set j v)))
theorem set_list:Ha X Ld:=by
 intro pins s σ H o i v ov iv u Q I ro ri rv h
 obtain ⟨p,xs,k,j,rfl,rfl,hp,hj,q⟩:=h
 cases ro
 obtain ⟨t,rfl⟩:=ri
 obtain ⟨az,n,r,ho,hz⟩:=I.lst hp
 obtain ⟨h1,h2,h3,h4⟩:=AK hj
 have hl:=r.length
 have hn:=lU
 have I':Inv X pins σ (upd H p (.lst (xs.set j v))) { s with heap:=s.heap.update p (Obj.mapSeq (·.setIfInBounds j u)) } :=
  I.Kk hp ho (zh az n j u) (r.set rv j) (by rw [List.length_set]; exact hz) s.toks
 by_cases h0:0 <= k
 ·have hk:k.toNat = j:=by
   rw [seqIndex_of h0 h4] at h1
   exact Y4 h1
  exact PySem.W.ki_setAt ho h0 (by omega) (by rw [Yk,<- hl]; exact h4) (by rw [hk]; exact ⟨_,I',q⟩)
 ·have hk:(k + (az.toArray.size:Int)).toNat = j:=by
   rw [seqIndex_neg (by omega) h3] at h1
   rw [Yk,<- hl]
   exact Y4 h1
  exact PySem.W.ki_setBack ho (by omega) (by rw [Yk,<- hl]; exact h3) (by omega) (by rw [hk]; exact ⟨_,I',q⟩)
theorem uN (lo hi:Option Int) (n:Nat):(sliceBounds lo hi none n).1 = ((HT.dN n 0 lo:Nat):Int) /\ (sliceBounds lo hi none n).2.1 = ((HT.dN n n hi:Nat):Int) /\ (sliceBounds lo hi none n).2.2 = 1:=by
 refine ⟨?_,?_,rfl⟩
 ·cases lo with
  | none=>simp [sliceBounds,HT.dN]
  | some i =>
   simp only [sliceBounds,HT.dN,Option.getD_none,show (1:Int) > 0 by decide,Zw]
   by_cases h:i < 0
   ·simp only [h,Zw] <;> omega
   ·simp only [h,YZ] <;> omega
 ·cases hi with
  | none=>simp [sliceBounds,HT.dN]
  | some i =>
   simp only [sliceBounds,HT.dN,Option.getD_none,show (1:Int) > 0 by decide,Zw]
   by_cases h:i < 0
   ·simp only [h,Zw] <;> omega
   ·simp only [h,YZ] <;> omega
theorem tI (az:List Value) (lo hi:Option Int):slicePick az.toArray lo hi none = ((az.drop (HT.dN az.length 0 lo)).take (HT.dN az.length az.length hi - HT.dN az.length 0 lo)).toArray:=by
 obtain ⟨h1,h2,h3⟩:=uN lo hi az.toArray.size
 unfold slicePick
 rw [h1,h2,h3]
 simp only [sliceRange_one,pick_run,Yk] <;> rfl
def O7 (K:aaG):V->Option Int->Option Int->Hp->VK->Prop:=fun x lo hi H Q=>∃ a xs,x = .ref a /\ aZ K H a xs /\ ∀ p,H p = none->Q (.ref p) (upd H p (.lst (oi xs lo hi)))
theorem AU:Fx X (O7 X.K):=by
 intro pins s σ H x v vl vu lo hi sl Q I rx hs pl pu h
 obtain ⟨a,xs,rfl,hx,q⟩:=h
 cases rx
 obtain ⟨az,r,ht,hz⟩:=I.list hx
 have hlen:=r.length
 refine ⟨"list",_,slot_list_getitem.lookup,ht.isList.typeIs,?_⟩
 refine wpAny_getItem_list_slice ht.isList hs pl pu .none (by simp) ?_ (by rw [Yk] <;> omega)
 rw [tI,<- hlen]
 refine ⟨.ref s.heap.objs.size,_,I.laid (t':=s.toks) (o:=.lst (oi xs lo hi)) (fun b ob q=>X5 _ q) (X7 _) ?_,rfl,q _ (I.aW.fresh (X7 _))⟩
 exact ⟨Yh (px xs lo hi) hz,_,0,(r.drop (HT.dN xs.length 0 lo)).take (HT.dN xs.length xs.length hi - HT.dN xs.length 0 lo),Yg _ rfl⟩
def mJ:V->Bool
 | .cP=>true
 | .bl _=>true
 | .int _=>true
 | .str _=>true
 | _=>false
def Iw:V->V->Bool
 | .cP,.cP=>true
 | .bl a,.bl b=>a == b
 | .bl a,.int b=>(if a then 1 else 0) == b
 | .int a,.bl b=>a == (if b then 1 else 0)
 | .int a,.int b=>a == b
 | .str a,.str b=>a == b
 | _,_=>false
theorem Kf {A:Around} {s:Shared} {y x:V} {u v:Value} (ry:RelV y u) (rx:RelV x v) (fy:mJ y = true) (fx:mJ x = true):SeqAt.EqAt A s u v (Iw y x):=by
 cases y with
 | cP =>
  cases ry
  cases x with
  | cP=>cases rx; exact SeqAt.EqAt.same _
  | bl b=>cases rx; exact SeqAt.EqAt.none_bool b
  | int b=>obtain ⟨t,rfl⟩:=rx; exact SeqAt.EqAt.none_int b t
  | str b=>obtain ⟨t,rfl⟩:=rx; exact SeqAt.EqAt.none_str b t
  | _=>exact absurd (show false = true from fx) Yc
 | bl a =>
  cases ry
  cases x with
  | cP=>cases rx; exact SeqAt.EqAt.bool_none a
  | bl b=>cases rx; exact SeqAt.EqAt.bool_bool a b
  | int b=>obtain ⟨t,rfl⟩:=rx; exact SeqAt.EqAt.bool_int a b t
  | str b=>obtain ⟨t,rfl⟩:=rx; exact SeqAt.EqAt.bool_str a b t
  | _=>exact absurd (show false = true from fx) Yc
 | int a =>
  obtain ⟨t',rfl⟩:=ry
  cases x with
  | cP=>cases rx; exact SeqAt.EqAt.int_none a t'
  | bl b=>cases rx; exact SeqAt.EqAt.int_bool a t' b
  | int b=>obtain ⟨t,rfl⟩:=rx; exact SeqAt.EqAt.int_int a t' b t
  | str b=>obtain ⟨t,rfl⟩:=rx; exact SeqAt.EqAt.int_str a t' b t
  | _=>exact absurd (show false = true from fx) Yc
 | str a =>
  obtain ⟨t',rfl⟩:=ry
  cases x with
  | cP=>cases rx; exact SeqAt.EqAt.str_none a t'
  | bl b=>cases rx; exact SeqAt.EqAt.str_bool a t' b
  | int b=>obtain ⟨t,rfl⟩:=rx; exact SeqAt.EqAt.str_int a t' b t
  | str b=>obtain ⟨t,rfl⟩:=rx; exact SeqAt.EqAt.str_str a t' b t
  | _=>exact absurd (show false = true from fx) Yc
 | _=>exact absurd (show false = true from fy) Yc
def yM (x:V) (u:Value):Bool:=match u with
 | .none=>Iw .cP x
 | .bool b=>Iw (.bl b) x
 | .int i _=>Iw (.int i) x
 | .str z _=>Iw (.str z) x
 | _=>false
theorem Ec {x y:V} {u:Value} (r:RelV y u) (f:mJ y = true):yM x u = Iw y x:=by
 cases y with
 | cP=>cases r; rfl
 | bl b=>cases r; rfl
 | int i=>obtain ⟨t,rfl⟩:=r; rfl
 | str z=>obtain ⟨t,rfl⟩:=r; rfl
 | _=>exact absurd (show false = true from f) Yc
theorem mC {x:V}:∀ {xs:List V} {us:List Value},Vals xs us->xs.all mJ = true->us.any (yM x) = xs.any fun y=>Iw y x
 | _,_,.nil,_=>rfl
 | y :: xs,u :: us,.cons r t,f=>by
  rw [List.all_cons,YM] at f
  rw [List.any_cons,List.any_cons,Ec r f.1,mC t f.2]
theorem j3 {A:Around} {s:Shared} {x:V} {v:Value} (rx:RelV x v) (fx:mJ x = true):∀ {xs:List V} {us:List Value},Vals xs us->xs.all mJ = true->∀ u ∈ us,SeqAt.EqAt A s u v (yM x u)
 | _,_,.nil,_=>fun u hu=>by cases hu
 | y :: xs,u :: us,.cons r t,f=>fun u' hu=>by
  rw [List.all_cons,YM] at f
  rcases Yb.mp hu with rfl | hu
  ·rw [Ec r f.1]; exact Kf r rx f.1 fx
  ·exact j3 rx fx t f.2 u' hu
def xa (x:V) (xs:List V):Bool:=xs.any fun y=>Iw y x
def Qj (K:aaG) (neg:Bool):R2:=fun x y H Q=>∃ p xs,y = .ref p /\ (aZ K H p xs \/ bK K H p xs) /\ mJ x = true /\ xs.all mJ = true /\ Q (.bl (if neg then !xa x xs else xa x xs)) H
theorem iS:iH X (compareOp .In) (Qj X.K false):=by
 intro pins s σ H x y v u Q I rx ry h
 obtain ⟨p,xs,rfl,hq,fx,fs,q⟩:=h
 cases ry
 rcases hq with hq | hq
 ·obtain ⟨az,r,pl,hz⟩:=I.list hq
  refine SeqAt.in_listAt (yM x) pl.isList (fun w hw=>j3 rx fx r fs w (by simpa using hw)) ⟨.bl _,H,I,rfl,?_⟩
  rw [show az.toArray.any (yM x) = az.any (yM x) by simp,mC r fs]
  exact q
 ·obtain ⟨az,r,pl,hz⟩:=I.tuple hq
  refine SeqAt.in_tupleAt (yM x) pl (fun w hw=>j3 rx fx r fs w (by simpa using hw)) ⟨.bl _,H,I,rfl,?_⟩
  rw [show az.toArray.any (yM x) = az.any (yM x) by simp,mC r fs]
  exact q
theorem jh:iH X (compareOp .NotIn) (Qj X.K true):=by
 intro pins s σ H x y v u Q I rx ry h
 obtain ⟨p,xs,rfl,hq,fx,fs,q⟩:=h
 cases ry
 rcases hq with hq | hq
 ·obtain ⟨az,r,pl,hz⟩:=I.list hq
  refine SeqAt.notIn_listAt (yM x) pl.isList (fun w hw=>j3 rx fx r fs w (by simpa using hw)) ⟨.bl _,H,I,rfl,?_⟩
  rw [show az.toArray.any (yM x) = az.any (yM x) by simp,mC r fs]
  exact q
 ·obtain ⟨az,r,pl,hz⟩:=I.tuple hq
  refine SeqAt.notIn_tupleAt (yM x) pl (fun w hw=>j3 rx fx r fs w (by simpa using hw)) ⟨.bl _,H,I,rfl,?_⟩
  rw [show az.toArray.any (yM x) = az.any (yM x) by simp,mC r fs]
  exact q
theorem ba:cK X (.builtin "len") (fun xs H Q=>∃ p ys,xs = [.ref p] /\ (aZ X.K H p ys \/ bK X.K H p ys) /\ Q (.int ys.length) H):=by
 intro pins s σ H xs us Q I r h
 obtain ⟨p,ys,rfl,hq,q⟩:=h
 obtain ⟨u,rfl,rx⟩:=vals1 r
 cases rx
 have hn:=lU
 rcases hq with hq | hq
 ·obtain ⟨az,r',pl,hz⟩:=I.list hq
  have hlen:=r'.length
  exact Calls.call_len_list pl.isList (by simp only [Yk] <;> omega) ⟨.int ys.length,H,I.tok _,⟨s.toks + 1,by rw [Yk,hlen]⟩,q⟩
 ·obtain ⟨az,r',pl,hz⟩:=I.tuple hq
  have hlen:=r'.length
  exact len_tuple pl (by simp only [Yk] <;> omega) ⟨.int ys.length,H,I.tok _,⟨s.toks + 1,by rw [Yk,hlen]⟩,q⟩
theorem vG:cK X (.builtin "len") (fun xs H Q=>∃ z,xs = [.str z] /\ z.length <= sizeLine /\ Q (.int z.length) H):=by
 intro pins s σ H xs us Q I r h
 obtain ⟨z,rfl,hz,q⟩:=h
 obtain ⟨u,rfl,t,rfl⟩:=vals1 r
 have hn:=lU
 exact len_str (by omega) ⟨.int z.length,H,I.tok _,⟨_,rfl⟩,q⟩
theorem cK.or {f:Value} {r r':List V->Hp->VK->Prop} (h:cK X f r) (h':cK X f r'):cK X f (fun xs H Q=>r xs H Q \/ r' xs H Q):=by
 intro pins s σ H xs us Q I rs q
 rcases q with q | q
 ·exact h pins s σ H xs us Q I rs q
 ·exact h' pins s σ H xs us Q I rs q
theorem gA:cK X (.type "list") (fun xs H Q=>∃ p ys,xs = [.ref p] /\ (aZ X.K H p ys \/ bK X.K H p ys) /\ ∀ l,H l = none->Q (.ref l) (upd H l (.lst ys))):=by
 intro pins s σ H xs us Q I r h
 obtain ⟨p,ys,rfl,hq,q⟩:=h
 obtain ⟨u,rfl,rx⟩:=vals1 r
 cases rx
 have fin:∀ (az:List Value),Vals ys az->ys.length <= sizeLine->∀ (h':Heap) (c':Nat),(∀ b o',s.heap.get? b = some o'->h'.get? b = some o') ->
   h'.get? s.heap.objs.size = some { cls:=.type "list",dict:=none,data:=.seq az.toArray c',slots:=#[] }->EP X pins σ Q (.ref s.heap.objs.size) { s with heap:=h' }:=fun az r' hz h' c' kp e =>
  ⟨.ref s.heap.objs.size,_,I.laid (t':=s.toks) kp (X7 _) (show cj X.prog X.w _ h' _ (.lst ys) from ⟨hz,az,c',r',e⟩),rfl,q _ (I.aW.fresh (X7 _))⟩
 rcases hq with hq | hq
 ·obtain ⟨az,r',pl,hz⟩:=I.list hq
  have hlen:=r'.length
  obtain ⟨o,ho,hc,n,hd⟩:=pl.isList
  exact call_list_seq p (.inl rfl) ho hc hd (fun h' c' kp e=>fin az r' hz h' c' kp e) (by simp only [Yk] <;> omega)
 ·obtain ⟨az,r',pl,hz⟩:=I.tuple hq
  have hlen:=r'.length
  obtain ⟨o,ho,hc,n,hd⟩:=pl
  exact call_list_seq p (.inr rfl) ho hc hd (fun h' c' kp e=>fin az r' hz h' c' kp e) (by simp only [Yk] <;> omega)
theorem cO:cK X (.type "tuple") (fun xs H Q=>∃ p ys,xs = [.ref p] /\ ((aZ X.K H p ys /\ ∀ l,H l = none->Q (.ref l) (upd H l (.tup ys))) \/ (bK X.K H p ys /\ Q (.ref p) H))):=by
 intro pins s σ H xs us Q I r h
 obtain ⟨p,ys,rfl,h⟩:=h
 obtain ⟨u,rfl,rx⟩:=vals1 r
 cases rx
 rcases h with ⟨hq,q⟩ | ⟨hq,q⟩
 ·obtain ⟨az,r',pl,hz⟩:=I.list hq
  have hlen:=r'.length
  refine call_tuple_list pl.isList (fun h' kp=>?_) (by simp only [Yk] <;> omega)
  have I1:Inv X pins σ H { s with heap:=h' }:=I.kept (t':=s.toks) kp
  have I2:Inv X pins σ (upd H h'.objs.size (.tup ys)) { s with heap:=h'.push { cls:=.type "tuple",data:=.seq az.toArray } } :=
   I1.laid (t':=s.toks) (fun b o e=>X5 _ e) (X7 _) (show cj X.prog X.w _ _ _ (.tup ys) from ⟨hz,az,r',IsTup.new _ _⟩)
  exact ⟨.ref h'.objs.size,_,I2,rfl,q _ (I1.aW.fresh (X7 _))⟩
 ·obtain ⟨az,r',pl,hz⟩:=I.tuple hq
  exact call_tuple_same pl ⟨.ref p,H,I,rfl,q⟩
def R1 (K:aaG) (T:String) (x:V) (H:Hp):Prop:=match x with
 | .str _=>T = "str"
 | .int _=>T = "int"
 | .ref p=>(T = "list" /\ ∃ xs,aZ K H p xs) \/ (T = "tuple" /\ ∃ o,K.lookup p = some o /\ o.cls = .type "tuple" /\ o.dict = none) \/
   (T = "dict" /\ ((∃ kvs,H p = some (.dK kvs)) \/ ∃ kvs,H p = some (.dT kvs))) \/ (T = "set" /\ ∃ S n,H p = some (.set S n))
 | _=>False
theorem II {pins:List (Addr × Obj)} {σ:St} {H:Hp} {s:Shared} {T:String} {x:V} {v:Value} (I:Inv X pins σ H s) (r:RelV x v) (ty:R1 X.K T x H) :
  s.TypeIs v T /\ ∀ a,v = .ref a->∃ ob,s.heap.get? a = some ob /\ ob.dict = none:=by
 cases x with
 | str z =>
  obtain ⟨t,rfl⟩:=r
  cases (show T = "str" from ty)
  exact ⟨typeIs_str s z t,fun _ e=>nomatch e⟩
 | int i =>
  obtain ⟨t,rfl⟩:=r
  cases (show T = "int" from ty)
  exact ⟨typeIs_int s i t,fun _ e=>nomatch e⟩
 | ref p =>
  cases r
  rcases ty with ⟨rfl,xs,hq⟩ | ⟨rfl,o,hk,hc,hd⟩ | ⟨rfl,hk⟩ | ⟨rfl,S,n,hk⟩
  ·obtain ⟨az,_,pl,_⟩:=I.list hq
   refine ⟨pl.isList.typeIs,fun a e=>?_⟩
   cases e
   obtain ⟨o,n,e,c,hd,_⟩:=pl
   exact ⟨o,e,hd⟩
  ·refine ⟨⟨o,I.pV p o hk,hc⟩,fun a e=>?_⟩
   cases e
   exact ⟨o,I.pV _ o hk,hd⟩
  ·have z:∃ o,s.heap.get? p = some o /\ o.ExactDict:=by
    rcases hk with ⟨kvs,hk⟩ | ⟨kvs,hk⟩
    ·obtain ⟨_,_,_,_,o,_,_,e,ex,_⟩:=I.aW p _ hk
     exact ⟨o,e,ex⟩
    ·obtain ⟨_,_,_,_,o,_,_,e,ex,_⟩:=I.aW p _ hk
     exact ⟨o,e,ex⟩
   obtain ⟨o,e,ex⟩:=z
   refine ⟨⟨o,e,ex.1⟩,fun a e2=>?_⟩
   cases e2
   exact ⟨o,e,ex.2.1⟩
  ·obtain ⟨o,_,_,_,e,ex,_⟩:=I.aW p _ hk
   refine ⟨⟨o,e,ex.1⟩,fun a e2=>?_⟩
   cases e2
   exact ⟨o,e,ex.2.1⟩
 | _=>exact False.elim ty
def Xo (K:aaG) (T:String) (r:V->List V->Hp->VK->Prop) (to:TE) (t:TA):TE:=fun σ H Q=>to σ H fun x H1=>R1 K T x H1 /\ t σ H1 fun xs H2=>r x xs H2 Q
variable {o e:Expr} {es:List Expr} {to:TE} {t:TA} {name:Str} {apos dM:Pos} {T id:String} {r:V->List V->Hp->VK->Prop}
theorem fc (pa:PlainAttrs T) (slot:Slot T name id) (KR:typeOf (.builtin id) = pure (.type "method_descriptor")) (hm:IK X id r) (ho:PE X o to) (ha:PA X (e :: es) t)
  (mK:attributeBase o name X.env (eval o X.env) = eval o X.env:=by rfl)
  (Db:((backTo dM (starEach (e :: es) X.env)).all (fun x=>!x.1) && (backToKw dM (keywordEach [] X.env)).all (fun x=>x.1.isSome)
   && decide ((e :: es).length + ([]:List Keyword).length + (if ([]:List Keyword).isEmpty then 0 else 1) < 30)) = true:=by rfl)
  (nY:(apos.endLine == dM.line) = true:=by rfl) (hs:starEach (e :: es) X.env = (false,eval e X.env) :: starEach es X.env:=by rfl) (ma:(backTo dM (starEach es X.env)).any (·.1) = false:=by rfl) :
  PE X (.Call (.Attribute o name apos) (e :: es) [] dM) (Xo X.K T r to t):=by
 intro pins s σ H Q I h
 refine wpAny_Call_method_late mK Db nY rfl (bT (ho pins s σ H _ I h) fun v s1 ⟨x,H1,I1,r1,ty,q1⟩=>?_)
 obtain ⟨h1,h2⟩:=II I1 r1 ty
 refine ⟨T,id,pa,slot,KR,h1,h2,?_⟩
 have hA:=ha dM pins s1 σ H1 _ I1 q1
 rw [hs] at hA ⊢
 refine Calls.callWith_builtin (by show (false || (backTo dM (starEach es X.env)).any (·.1)) = false; rw [ma] <;> rfl) (Calls.evalArgs_plain ?_)
 exact bT hA fun us s2 ⟨vs,H2,I2,r2,q2⟩=>hm pins s2 σ H2 x vs v us Q I2 r1 r2 q2
/- xs.append(e),list.index on a MA tuple .. are IK facts of 06m -/
end
def KU (X:Cx) (id:String) (r:V->List V->Hp->VK->Prop):Prop :=
 ∀ (pins:List (Addr × Obj)) (s:Shared) (σ:St) (H:Hp) (x:V) (xs:List V) (v:Value) (us:List Value) (Q:VK),Inv X pins σ H s->RelV x v->Vals xs us->r x xs H Q ->
  wpAny (model X.prog X.w) X.A (call (.builtin id) (v :: us)) (EP X pins σ Q) X.xe s
theorem Vals.one:∀ {x:V} {us:List Value},Vals [x] us->∃ u,us = [u] /\ RelV x u
 | _,_,.cons r .nil=>⟨_,rfl,r⟩
theorem Vals.zero:∀ {us:List Value},Vals [] us->us = []
 | _,.nil=>rfl
theorem Vals.dropLast {xs:List V} {us:List Value} (h:Vals xs us):Vals xs.dropLast us.dropLast:=by
 induction h with
 | nil=>exact .nil
 | cons r t ih =>
  cases t with
  | nil=>exact .nil
  | cons q t'=>exact .cons r ih
theorem Vals.reverse {xs:List V} {us:List Value} (h:Vals xs us):Vals xs.reverse us.reverse:=by
 induction h with
 | nil=>exact .nil
 | cons r t ih=>rw [List.reverse_cons,List.reverse_cons]; exact Vals.append ih (.cons r .nil)
section
variable {X:Cx} {pins:List (Addr × Obj)} {σ:St} {H:Hp} {s:Shared} {l b:Addr} {xs ys zs:List V}
theorem Inv.MF {az its':List Value} {n:Nat} {f:Array Value->Array Value} {t':Nat} (I:Inv X pins σ H s) (hH:H l = some (.lst xs))
  (e:s.heap.get? l = some { cls:=.type "list",data:=.seq az.toArray n }) (hf:f az.toArray = its'.toArray) (hv:Vals ys its') (hz:ys.length <= sizeLine) :
  Inv X pins σ (upd H l (.lst ys)) { s with heap:=s.heap.update l (Obj.mapSeq f),toks:=t' }:=by
 have q:=PySem.IsL.update e f
 rw [hf] at q
 refine I.write (x:=l) (e:=l) (by rw [hH]; exact trivial) (.inl rfl) (fun b' u hb hu=>(Heap.get?_update_other s.heap (Obj.mapSeq f) (aag hb)).trans hu) ⟨_,q⟩ ?_
 exact ⟨hz,its',_,hv,q⟩
theorem Inv.P5 {az:List Value} {t':Nat} (I:Inv X pins σ H s) (hv:Vals ys az) (hz:ys.length <= sizeLine) :
  Inv X pins σ (upd H s.heap.objs.size (.lst ys)) { s with heap:=s.heap.push { cls:=.type "list",data:=.seq az.toArray },toks:=t' } :=
 I.laid (fun _ _ q=>X5 _ q) (X7 _) ⟨hz,az,0,hv,Yg _ rfl⟩
theorem Inv.fresh (I:Inv X pins σ H s):H s.heap.objs.size = none:=I.aW.fresh (X7 _)
theorem Inv.Ee (I:Inv X pins σ H s) (hH:H l = some (.lst xs)):xs.length <= sizeLine /\ ∃ (az:List Value) (n:Nat),Vals xs az /\ xs.length = az.length /\ s.heap.get? l = some { cls:=.type "list",data:=.seq az.toArray n }:=by
 obtain ⟨z,az,n,r,e⟩:=I.aW l _ hH
 exact ⟨z,az,n,r,r.length,e⟩
theorem Dy {n:Nat} (h:n <= sizeLine):Builtin.List.listTooLong n = false:=by
 unfold Builtin.List.listTooLong
 exact Yw (by omega)
end
section
variable {X:Cx}
def FF:V->List V->Hp->VK->Prop:=fun x vs H Q=>∃ l xs y,x = .ref l /\ vs = [y] /\ H l = some (.lst xs) /\ xs.length < sizeLine /\ Q .cP (upd H l (.lst (xs ++ [y])))
theorem dm:KU X "list.append" FF:=by
 intro pins s σ H x vs v us Q I rx rv h
 obtain ⟨l,xs,y,rfl,rfl,hH,hz,q⟩:=h
 cases rx
 obtain ⟨u,rfl,ru⟩:=rv.one
 obtain ⟨z,az,n,r,hl,e⟩:=I.Ee hH
 refine call_meets F.slot_list_append ⟨_,e,rfl⟩ F.entry_list_append (F.args_list_append_2 _ _) (PySem.list_append l az.toArray n u (by rw [Yk]; omega)) ⟨e,?_⟩
 refine ⟨.cP,_,I.MF (its':=az ++ [u]) hH e (by simp) (r.append (.cons ru .nil)) ?_,rfl,q⟩
 rw [Yx,List.length_singleton]
 omega
def G0:V->List V->Hp->VK->Prop:=fun x vs H Q=>∃ l b xs zs,x = .ref l /\ vs = [.ref b] /\ H l = some (.lst xs) /\ H b = some (.lst zs) /\ xs.length + zs.length <= sizeLine /\ Q .cP (upd H l (.lst (xs ++ zs)))
theorem oO:KU X "list.extend" G0:=by
 intro pins s σ H x vs v us Q I rx rv h
 obtain ⟨l,b,xs,zs,rfl,rfl,hH,hB,hz,q⟩:=h
 cases rx
 obtain ⟨u,rfl,ru⟩:=rv.one
 cases ru
 obtain ⟨z,az,n,r,hl,e⟩:=I.Ee hH
 obtain ⟨z2,kX,n2,r2,ox,e2⟩:=I.Ee hB
 have hsz:az.toArray.size + kX.toArray.size <= sizeLine:=by rw [Yk,Yk]; omega
 have Mr:¬ (!az.toArray.isEmpty && Builtin.List.listTooLong (az.toArray.size + kX.toArray.size)) = true:=by
  rw [Dy hsz,Zz]
  exact Yc
 refine call_meets F.slot_list_extend ⟨_,e,rfl⟩ F.entry_list_extend (F.args_list_extend_2 _ _)
  (AutoSeq1.list_extend_list_list_0 l az.toArray n b kX.toArray n2 Mr (by rw [Yk]; omega) (by omega)) ⟨e,e2,?_⟩
 refine ⟨.cP,_,I.MF (its':=az ++ kX) hH e (by simp) (r.append r2) ?_,rfl,q⟩
 rw [Yx]
 omega
def PV:R2:=fun x y H Q=>∃ l b xs zs,x = .ref l /\ y = .ref b /\ H l = some (.lst xs) /\ H b = some (.lst zs) /\ xs.length + zs.length <= sizeLine /\ ∀ p,H p = none->Q (.ref p) (upd H p (.lst (xs ++ zs)))
theorem IG:iH X (binaryOp .Add) PV:=by
 intro pins s σ H x y v u Q I rx ry h
 obtain ⟨l,b,xs,zs,rfl,rfl,hH,hB,hz,q⟩:=h
 cases rx
 cases ry
 obtain ⟨z,az,n,r,hl,e⟩:=I.Ee hH
 obtain ⟨z2,kX,n2,r2,ox,e2⟩:=I.Ee hB
 refine PySem.P.add_list e e2 ?_ (by rw [Yk,Yk]; omega)
 have ea:az.toArray ++ kX.toArray = (az ++ kX).toArray:=by simp
 rw [ea]
 exact ⟨.ref _,_,I.P5 (t':=s.toks) (r.append r2) (by rw [Yx]; omega),rfl,q _ I.fresh⟩
end
end L2
namespace Sn
open PySem PySem.W PySem.Calls PyProof.Rows
theorem pU {P:Params} {h:Heap}:∀ (ns:List Int) (vs:List Value),WellAll P h vs (ns.map WData.int)->IntsAre vs ns:=by
 intro ns
 induction ns with
 | nil =>
  intro vs w
  rw [List.map_nil] at w
  cases w
  exact .nil
 | cons n ns ih =>
  intro vs w
  rw [Yq] at w
  cases w with
  | cons a b =>
   cases a
   exact .cons _ _ (ih _ b)
theorem Co {l:OpenLaw} {n:Nat} (hn:l.most = some n) {P:Params} {h:Heap} {args:List WData} {vals:List Value}
  (k8:l.row.toRowW.claim.pre args = true) (PX:WellAll P h vals args) :
  ∃ a vs ns,vals = [Value.ref a] /\ args = [WData.list (ns.map WData.int)] /\ h.get? a = some { cls:=.type "list",data:=.seq vs.toArray } /\ IntsAre vs ns /\ ns.length <= n:=by
 have Up:WShape.hasAll [] args [.list .int] = true:=(pre_splitW k8).1
 have hc:l.pre.holds [] { args:=args } = true:=(pre_splitW k8).2
 obtain ⟨d,r,rfl,h1,h2⟩:=hasAllW_cons Up
 obtain rfl:=hasAllW_nil h2
 obtain ⟨xs,rfl,h3⟩:=hasW_list h1
 obtain ⟨ns,rfl⟩:=items_int h3
 have hlen:ns.length <= n:=by
  unfold OpenLaw.pre at hc
  have h4:(WTm.not (.lt (.lit (.int (n:Int))) (.len (.arg 0)))).holds [] { args:=[.list (ns.map .int)] } = true:=by
   have h4:=(holds_andW hc).1
   rw [hn] at h4
   exact h4
  have h5:=condW_of h4 (w_not (w_lt w_lit (w_len_list (w_arg rfl))))
  rw [X6] at h5
  refine Nat.le_of_not_lt fun q=>?_
  have q':(n:Int) < ((ns.length:Nat):Int):=by omega
  first
   | (rw [Yi q'] at h5; exact absurd h5 (by decide))
   | (simp at h5; omega)
 cases PX with
 | cons w1 w2 =>
  cases w2
  cases w1 with
  | list ho BE=>exact ⟨_,_,ns,rfl,rfl,ho,pU ns _ BE,hlen⟩
theorem Cj (l:OpenLaw) (args:List WData):l.row.toRowW.claim.post args (.bool true) args = true :=
 postW_of (r:=l.row.toRowW) (X:=(true == true))
  (show WShape.has [] (.bool true) .bool = true by first | rfl | decide | simp [WShape.has,WShape.arms,WShape.armsAll])
  (show (WTm.eq .res (.lit (.bool true))).value [] { args:=args,res:=some (.bool true),after:=args } = some (.bool (true == true)) from w_eq_bool (w_res rfl) w_lit) rfl
theorem yw {l:OpenLaw} {n:Nat} {q:Program} {loose:List Str} {XP:(Str->Option Value)->Heap->Prop} {YP:World->Heap->Prop} {d:DefRec}
  (hn:l.most = some n) (Ng:d.params.defaults = [])
  (call:∀ (w:World) (s₀ s₁:Shared) (mg mb:Str->Option Value) (fa:Addr) (o:Obj) (pm cd doc:Value) (a:Addr) (vs:List Value) (ns:List Int),
   Ground q loose [] XP w s₀ mg mb s₁.heap->YP w s₁.heap ->
   s₁.heap.get? fa = some o->o.data = .func (docDef d.name d.params d.body d.scope pm cd doc)->s₁.heap.CodeRec cd d.name->mg d.name = some (.ref fa) ->
   s₁.heap.get? a = some { cls:=.type "list",data:=.seq vs.toArray }->IntsAre vs ns->ns.length <= n->s₁.gens = #[] ->
   codeAny (model l.prog w) callerA (.call (.ref fa) ⟨[.ref a],[]⟩) (fun r s'=>r = .ok (.ret (.bool true)) /\ OldK s₁.heap s'.heap /\ s'.os = s₁.os /\ AllBare s'.gens) s₁) :
  WalkO q loose XP YP l.row.toRowW d [] (fun f vs=>PySem.call f vs):=by
 intro w s₀ s₁ mg mb G Y fa o pm cd doc dV kV ho hd yZ hD Ll hg args vals as k8 LY XR PX Xp
 obtain rfl:dV = .none:=Dflts.none hD Ng
 obtain rfl:kV = .none:=Dflts.noKw hD
 obtain ⟨a,vs,ns,rfl,rfl,JD,hints,hlen⟩:=Co hn k8 PX
 refine enter_call (codeAny_mono (call w s₀ s₁ mg mb fa o pm cd doc a vs ns G Y ho (fd_plain hd) yZ Ll JD hints hlen hg) fun r s' hq=>?_)
 obtain ⟨rfl,h2,h3,h4⟩:=hq
 exact ⟨.inl ⟨.bool true,.bool true,[],rfl,fun _=>rfl,.bool true,Cj l _,fun _=>⟨List.Pairwise.nil,fun _ hm=>(nomatch hm)⟩⟩,h2,h3,h4⟩
end Sn
namespace L2
open PySem PySem.Spec PyProof.Rows
theorem oC:∀ {vs:List Value} {ns:List Int},IntsAre vs ns->Vals (ns.map V.int) vs
 | _,_,.nil=>.nil
 | _,_,.cons n t h=>.cons ⟨t,rfl⟩ (oC h)
def JU (H:Hp):Prop:=∀ b,H b = none \/ ∃ o xs,H b = some (.yA o (.lst xs))
theorem DZ {P:Program} {w:World} {K:aaG} {mg mb:Str->Option Value} {CX:zA} {k:Nat} {fa a:Addr} {fd:FuncData} {x:Str} {sp:Sp} {s₁:Shared} {vs:List Value} {ns:List Int}
  (KX:K.In s₁.heap) (Sr:s₁.heap.Ns mainGlobals mg) (hb:s₁.heap.Ns builtinsNs mb) (SR:∀ x:Str,x ≠ "__name__"->mb x = bootBuiltins x) (Pn:s₁.heap.NoLimit) (hg:s₁.gens = #[])
  (ha:s₁.heap.get? a = some { cls:=.type "list",data:=.seq vs.toArray }) (hi:IntsAre vs ns) (hl:ns.length <= sizeLine) (hr:eD k callerA)
  (F:∀ base:Heap,K.In base->base.Ns mainGlobals mg->au P w K mg base CX k fa fd [x] sp) (Mg:∀ (s:Shared) (u:Value),BindsTo s fd ⟨[u],[]⟩ [(x,u)])
  (CM:∀ H:Hp,JU H->aZ K H a (ns.map V.int)->sp [.ref a] H (fun v _=>v = .bl true) fun _ _ _=>False)
  (Qx:∀ H e s',CX [] H s₁ (fun _ _ _=>False) e s'->False) :
  codeAny (model P w) callerA (.call (.ref fa) ⟨[.ref a],[]⟩) (fun r s'=>r = .ok (.ret (.bool true)) /\ OldK s₁.heap s'.heap /\ s'.os = s₁.os /\ AllBare s'.gens) s₁:=by
 have rv:=oC hi
 have PH:=hi.length
 have core:∀ H:Hp,JU H->aZ K H a (ns.map V.int)->jO P w H s₁.heap->(∀ b,H b ≠ none->b = a)->(H a ≠ none->K.lookup a = none) ->
   codeAny (model P w) callerA (.call (.ref fa) ⟨[.ref a],[]⟩) (fun r s'=>r = .ok (.ret (.bool true)) /\ OldK s₁.heap s'.heap /\ s'.os = s₁.os /\ AllBare s'.gens) s₁:=by
  intro H hO hS aW hA hK
  have Aw:∀ {b:Addr} {o:Obj},s₁.heap.get? b = some o->H b = none->(wf s₁.heap H).get? b = some o:=fun e n=>Dv e n
  have Lg:∀ {b:Addr} {o:Obj} {es:Array DictEntry} {ep:Nat},s₁.heap.get? b = some o->o.data = .dict es ep->H b = none:=fun {b o es ep} e d=>by
   cases q:H b with
   | none=>rfl
   | some u =>
    have e':b = a:=hA b (by rw [q]; simp)
    subst e'
    rw [ha] at e; cases e
    have d':Data.seq vs.toArray _ = Data.dict es ep:=d
    cases d'
  have NN:∀ {b:Addr} {m:Str->Option Value},s₁.heap.Ns b m->(wf s₁.heap H).Ns b m:=fun {b m} ⟨o,es,ep,e,d,r⟩=>⟨o,es,ep,Aw e (Lg e d),d,r⟩
  have RM:K.In (wf s₁.heap H):=fun b o e=>Aw (KX b o e) (by
   cases q:H b with
   | none=>rfl
   | some u =>
    have e':b = a:=hA b (by rw [q]; simp)
    subst e'
    rw [hK (by rw [q]; simp)] at e; cases e)
  have hM:Mod K mg (wf s₁.heap H):=⟨RM,NN Sr,⟨mb,NN hb,SR⟩,let ⟨mc,h1,h2⟩:=Pn; ⟨mc,NN h1,h2⟩⟩
  have e0:rz P w K mg (wf s₁.heap H) callerA [] s₁ H:=⟨rfl,hM,fun b o e=>GP e,Nat.le_of_eq (BD _ _),trivial,fun b hb=>absurd (show b ∈ ([]:List Addr) from hb) (by simp),aW,.of_eq hg⟩
  refine codeAny_mono ((F _ RM (NN Sr)).run callerA [] s₁ H ⟨[.ref a],[]⟩ [.ref a] [.ref a] _ _ hr e0 (Mg s₁ (.ref a)) (.cons rfl .nil) (CM H hO hS)) fun r s' h=>?_
  cases r with
  | error e=>exact (Qx H e s' h).elim
  | ok fl =>
   cases fl with
   | next=>exact False.elim h
   | brk=>exact False.elim h
   | cont=>exact False.elim h
   | ret u =>
    obtain ⟨v,H',os,bare,un,PP,r',q⟩:=h
    have q':v = .bl true:=q
    subst q'
    obtain rfl:u = Value.bool true:=r'
    refine ⟨rfl,OldK.of_keep fun b o e=>?_,os,bare⟩
    cases q:H b with
    | none=>exact un.keep b o e q (by intro z; exact absurd (show b ∈ ([]:List Addr) from z) (by simp)) (by simp)
    | some u =>
     rcases hO b with z | ⟨ob,xs,z⟩
     ·rw [q] at z; cases z
     ·have z2:=un.jL b ob _ z
      obtain ⟨e1,_⟩:=aW b _ z
      obtain ⟨e2,_⟩:=PP b _ z2
      rw [e] at e1; cases e1
      exact e2
 cases hk:K.lookup a with
 | some o =>
  have e:=KX a o hk
  rw [ha] at e
  cases e
  refine core (fun _=>none) (fun _=>.inl rfl) (.inr ⟨_,vs.toArray,_,hk,rfl,rfl,rfl,by rw [Yk,PH]; exact hl,by simpa using rv⟩) (fun b u z=>by have z':(none:Option HO) = some u:=z; cases z') (fun b z=>absurd rfl z) fun z=>absurd rfl z
 | none =>
  refine core (fun b=>if b = a then some (.yA { cls:=.type "list",data:=.seq vs.toArray } (.lst (ns.map V.int))) else none) (fun b=>?_) (.inl (.inr ⟨{ cls:=.type "list",data:=.seq vs.toArray },if_pos rfl⟩)) (fun b u z=>?_) (fun b z=>?_) fun _=>hk
  ·by_cases hb:b = a
   ·exact .inr ⟨_,_,if_pos hb⟩
   ·exact .inl (if_neg hb)
  ·by_cases hb:b = a
   ·have z':=(if_pos hb).symm.trans z
    cases z'
    subst hb
    exact ⟨ha,by rw [X6]; exact hl,vs,_,rv,ha⟩
   ·have z':=(if_neg hb).symm.trans z
    cases z'
  ·by_cases hb:b = a
   ·exact hb
   ·exact absurd (if_neg hb) z
theorem Hb {l:PySem.W.OpenLaw} {n k:Nat} {q:Program} {loose:List Str} {XP:(Str->Option Value)->Heap->Prop} {YP:World->Heap->Prop} {d:DefRec} {K:Params->aaG} {CX:World->zA} {sp:World->Sp} {x:Str}
  (hn:l.most = some n) (N9:n <= sizeLine) (Ng:d.params.defaults = []) (hr:eD k callerA)
  (hY:∀ (w:World) (h:Heap),YP w h->(K w.params).In h)
  (F:∀ (w:World) (mg:Str->Option Value) (fa:Addr) (h:Heap),(K w.params).In h->h.Ns mainGlobals mg->mg d.name = some (.ref fa) ->
   ∃ fd:FuncData,(∀ (s:Shared) (u:Value),BindsTo s fd ⟨[u],[]⟩ [(x,u)]) /\
    ∀ base:Heap,(K w.params).In base->base.Ns mainGlobals mg->au l.prog w (K w.params) mg base (CX w) k fa fd [x] (sp w))
  (CM:∀ (w:World) (H:Hp) (a:Addr) (ns:List Int),ns.length <= n->JU H->aZ (K w.params) H a (ns.map V.int)->sp w [.ref a] H (fun v _=>v = .bl true) fun _ _ _=>False)
  (Qx:∀ (w:World) (H:Hp) (s:Shared) (e:Value) (s':Shared),CX w [] H s (fun _ _ _=>False) e s'->False) :
  PySem.W.WalkO q loose XP YP l.row.toRowW d [] (fun f vs=>PySem.call f vs):=by
 refine Sn.yw hn Ng fun w s₀ s₁ mg mb fa o pm cd doc a vs ns G Y ho hd yZ Ll JD hints hlen hg=>?_
 have KX:=hY w _ Y
 obtain ⟨fd,hb,hF⟩:=F w mg fa _ KX G.T.g Ll
 exact DZ KX G.T.g G.T.b G.T.builtins G.T.nolimit hg JD hints (Yh hlen N9) hr hF hb (fun H hO hS=>CM w H a ns hlen hO hS) fun H e s'=>Qx w H s₁ e s'
end L2
/- XF WP Oc (shape; Xx,My.* are Ry):
  My.X1: a structure of R5 addresses VP Wl RZ names (classes,KN); My.Txt K t: a structure (Prop) of R5 equations over K;
  My.OV:{K} {implicit addresses ..} (e1:nsIn K mainGlobals "law" = some (some (.ref f))) (e2:K.lookup f = some ⟨oc,od,.func (fnOf "law" "law" params body scope dV kV doc pm an ci ct),sl⟩) (e3:codeIn K ci "law" = true) ..:∃ t,My.Txt K t
(R5 tactic k_is has no namespace: write k_is) -/
namespace L2
open PySem PySem.Spec PyProof.Rows
def inClass (s:Stmt) (j:Nat):Stmt:=match s with
 | .ClassDef _ _ _ body _ _ _ _ _ _ _=>body.getD j (.Pass ⟨0,0,0,0⟩)
 | _=>.Pass ⟨0,0,0,0⟩
def fM (s:Stmt):Arguments:=match s with
 | .FunctionDef _ a _ _ _ _ _ _ _ _=>a
 | _=>{ posonlyargs:=[],args:=[],vararg:=none,kwonlyargs:=[],kw_defaults:=[],kwarg:=none,defaults:=[] }
def cD (s:Stmt):List Stmt:=match s with
 | .FunctionDef _ _ b _ _ _ _ _ _ _=>b
 | _=>[]
def aj (s:Stmt):Scope:=match s with
 | .FunctionDef _ _ _ _ _ _ sc _ _ _=>sc
 | _=>{ kind:=.function,names:=[],isGenerator:=false,isCoroutine:=false }
abbrev be:zA:=fun _ _ _ _ _ _=>False
abbrev E0:XK:=fun _ _ _=>False
theorem ay {X:Cx}:Passes be X E0:=fun _ _ _ _ _ _ _ h=>h.elim
structure Gp (K:aaG) (x qual:Str) (st:Stmt) (f:Addr) (fd:FuncData):Prop where
 ex:∃ (oc:Value) (od:Option Addr) (kV doc pm:Value) (an:Option Addr) (ci ct:Value) (GS:Array (Option Value)),
  fd = PySem.W.fnOf x qual (fM st) (cD st) (aj st) .none kV doc pm an ci ct /\ K.lookup f = some ⟨oc,od,.func fd,GS⟩ /\ PySem.W.codeIn K ci qual = true
 kp:PySem.W.keepIn K (.ref f) = true
section
variable {P:Program} {w:World} {K:aaG} {mg:Str->Option Value} {base:Heap}
theorem Gp.ok {x qual:Str} {st:Stmt} {f:Addr} {fd:FuncData} {N ps:List Str} {k:Nat} {sp:Sp} (F:Gp K x qual st f fd) (S:av N ps (aj st)) (len:∀ vs H Q E,sp vs H Q E->vs.length = ps.length)
  (yd:∀ (ci:Value) (A:Around) (outer:List Env) (s:Shared) (H:Hp) (vs:List V) (Q:VK) (E:XK),eD k (A.deeper (envOfC qual (aj st) s.heap.objs.size f ci))->sp vs H Q E ->
   ∃ t,v8 (xo be P w K mg base N qual (aj st) f ci A outer s H E).FJ (cD st) t /\ t { nx:=fun _ H'=>Q .cP H',rt:=Q } (start N vs) H):au P w K mg base be (k + 1) f fd ps sp:=by
 obtain ⟨oc,od,kV,doc,pm,an,ci,ct,GS,rfl,lk,yZ⟩:=F.ex
 refine Ih lk yZ S len fun A outer s H vs Q E hr CM=>?_
 obtain ⟨t,h,q⟩:=yd ci A outer s H vs Q E hr CM
 exact ⟨t,h.FJ,q⟩
theorem Gp.binds {x qual:Str} {st:Stmt} {f:Addr} {fd:FuncData} {ps:List Str} (F:Gp K x qual st f fd)
  (h:∀ (kV doc pm:Value) (an:Option Addr) (ci ct:Value) (us:List Value),us.length = ps.length->bindArgs (PySem.W.fnOf x qual (fM st) (cD st) (aj st) .none kV doc pm an ci ct) ⟨us,[]⟩ = pure (ps.zip us)):Binds K fd ps []:=by
 obtain ⟨oc,od,kV,doc,pm,an,ci,ct,GS,rfl,lk,yZ⟩:=F.ex
 exact .all (h kV doc pm an ci ct)
theorem oK {x qual:Str} {st:Stmt} {f:Addr} {oc:Value} {od an:Option Addr} {GS:Array (Option Value)} {kV doc pm ci ct:Value} (l:K.lookup f = some ⟨oc,od,.func (PySem.W.fnOf x qual (fM st) (cD st) (aj st) .none kV doc pm an ci ct),GS⟩)
  (c:PySem.W.codeIn K ci qual = true) (k:PySem.W.keepIn K (.ref f) = true):Gp K x qual st f (PySem.W.fnOf x qual (fM st) (cD st) (aj st) .none kV doc pm an ci ct):=⟨⟨oc,od,kV,doc,pm,an,ci,ct,GS,rfl,l,c⟩,k⟩
end
section
variable {X:Cx}
theorem pv (i:Nat) {x:Str} {pos:Pos} (hN:X.N[i]? = some x:=by rfl) (hv:NL X.env.scope x:=by first | exact Or.inl rfl | exact Or.inr (Or.inl rfl) | exact Or.inr (Or.inr rfl)) (hd:(x == ("__debug__":Str)) = false:=by decide)
  (yZ:(x == ("__classdict__":Str)) = false:=by decide):PE X (.Name x pos) (MR i):=IJ hN hv hd yZ
end
theorem ic {A B:Prop} (h:B):if false = true then A else B:=by
 rw [if_neg Yc]
 exact h
theorem yL {A B:Prop} (h:A):if true = true then A else B:=by
 rw [if_pos rfl]
 exact h
theorem Ge {c A B:Prop} [Decidable c] (h1:c->A) (h2:¬ c->B):if c then A else B:=by
 by_cases h:c
 ·rw [if_pos h]
  exact h1 h
 ·rw [if_neg h]
  exact h2 h
def ao (H H':Hp):Prop:=∀ b o,H b = some o->H' b = some o
theorem ao.refl (H:Hp):ao H H:=fun _ _ h=>h
theorem ao.trans {H H1 H2:Hp} (a:ao H H1) (b:ao H1 H2):ao H H2:=fun c o h=>b c o (a c o h)
theorem ao.free {H H':Hp} (e:ao H H') {l:Addr} (h:H' l = Option.none):H l = Option.none:=by
 cases q:H l with
 | none=>rfl
 | some o =>
  rw [e l o q] at h
  cases h
theorem ao.seq {K:aaG} {H H':Hp} {a:Addr} {xs:List V} (e:ao H H') (h:aZ K H a xs):aZ K H' a xs:=by
 rcases h with (h | ⟨o,h⟩) | h
 ·exact .inl (.inl (e _ _ h))
 ·exact .inl (.inr ⟨o,e _ _ h⟩)
 ·exact .inr h
end L2
set_option maxHeartbeats 4000000
namespace SO
open PySem PyProof.Rows
def BX:Bool->Keyed->Array Keyed->Nat->Nat->Nat->StateT SortSt Sem (Option Nat):=sortPriv% PySem.Builtin.gallop
def look (lf:Bool) (ky:Keyed) (ar:Array Keyed) (bs i:Nat):StateT SortSt Sem (Option Bool):=do
 let x <- elem' ar (bs + i)
 if lf then lt' x ky else return (<- lt' ky x).map (!·)
theorem J9 (lf:Bool) (ky:Keyed) (ar:Array Keyed) (bs n h:Nat):BX lf ky ar bs n h = (do
  let mut l:=0
  let mut o:=1
  let mut p:=0
  let mut q:=0
  let some rt <- look lf ky ar bs h | return none
  if rt then
   let mx:=n - h
   for _ in [0:n] do
    if o >= mx then break
    let some mm <- look lf ky ar bs (h + o) | return none
    if !mm then break
    l:=o
    o:=2 * o + 1
   p:=h + l + 1
   q:=h + min o mx
  else
   let mx:=h + 1
   for _ in [0:n] do
    if o >= mx then break
    let some ff <- look lf ky ar bs (h - o) | return none
    if ff then break
    l:=o
    o:=2 * o + 1
   p:=h + 1 - min o mx
   q:=h - l
  for _ in [0:n] do
   if p >= q then break
   let m:=p + (q - p) / 2
   let some mm <- look lf ky ar bs m | return none
   if mm then p:=m + 1 else q:=m
  return some q):=rfl
section
variable {prog:Program} {w:World} {A:Around} {E:Value->Shared->Prop} {s:Shared} {rk:Keyed->Nat} {S:Keyed->Prop} {kd:SortKind}
def pE (prog:Program) (w:World) (A:Around) (E:Value->Shared->Prop) (s:Shared) (rk:Keyed->Nat) (S:Keyed->Prop) (kd:SortKind):Prop :=
 ∀ (x y:Keyed) (st:SortSt) (Q:Option Bool->SortSt->Prop),S x->S y->kindOf st = kd->Q (some (decide (rk x < rk y))) st->wpS (model prog w) A E s (lt' x y) Q st
def B (rk:Keyed->Nat) (lf:Bool) (ky:Keyed) (ar:Array Keyed) (bs i:Nat):Bool:=match ar[bs + i]? with
 | some x=>if lf then decide (rk x < rk ky) else !decide (rk ky < rk x)
 | none=>false
theorem mL {lf:Bool} {ky:Keyed} {ar:Array Keyed} {bs i:Nat} {st:SortSt} {Q:Option Bool->SortSt->Prop} (hc:pE prog w A E s rk S kd) (hi:(bs + i) < (ar.size)) (hS:∀ x ∈ ar.toList,S x) (hk:S ky) (kk:kindOf st = kd)
  (h:Q (some (B rk lf ky ar bs i)) st):wpS (model prog w) A E s (look lf ky ar bs i) Q st:=by
 unfold look
 have e:ar[bs + i]? = some (ar[bs + i]'hi):=getElem?_pos ar (bs + i) hi
 have hm:S (ar[bs + i]'hi):=hS _ (by simp)
 unfold B at h
 rw [e] at h
 rw [elem'_eq,e]
 refine Yf (Yn ?_)
 cases lf with
 | true=>exact hc _ _ st _ hm hk kk h
 | false =>
  refine Yf (hc _ _ st _ hk hm kk ?_)
  exact Yn h
def bin (lf:Bool) (ky:Keyed) (ar:Array Keyed) (bs n p₀ q₀:Nat):StateT SortSt Sem (Option Nat):=do
 let mut p:=p₀
 let mut q:=q₀
 for _ in [0:n] do
  if p >= q then break
  let m:=p + (q - p) / 2
  let some mm <- look lf ky ar bs m | return none
  if mm then p:=m + 1 else q:=m
 return some q
theorem Au {lf:Bool} {ky:Keyed} {ar:Array Keyed} {bs n p q:Nat} {st:SortSt} {Q:Option Nat->SortSt->Prop} (hc:pE prog w A E s rk S kd) (hn:bs + n <= ar.size) (hS:∀ x ∈ ar.toList,S x) (hk:S ky) (kk:kindOf st = kd)
  (mono:∀ i j,i <= j->j < n->B rk lf ky ar bs j = true->B rk lf ky ar bs i = true) (Oo:p <= q) (Pd:q <= n) (hp:∀ i,i < p->B rk lf ky ar bs i = true) (oy:∀ i,q <= i->i < n->B rk lf ky ar bs i = false)
  (hq:∀ q,q <= n->(∀ i,i < q->B rk lf ky ar bs i = true)->(∀ i,q <= i->i < n->B rk lf ky ar bs i = false)->Q (some q) st):wpS (model prog w) A E s (bin lf ky ar bs n p q) Q st:=by
 unfold bin
 have Av:∀ i j,i <= j->j < n->B rk lf ky ar bs i = false->B rk lf ky ar bs j = false:=fun i j CK hj hb=>by
  cases e:B rk lf ky ar bs j with
  | false=>rfl
  | true=>rw [mono i j CK hj e] at hb; cases hb
 refine Yf (Zx (Zc (I:=fun x c aB=>aB = st /\ ∃ p q,c = (none,p,q) /\ p <= q /\ q <= n /\ q - p <= n - x /\ (∀ i,i < p->B rk lf ky ar bs i = true) /\ (∀ i,q <= i->i < n->B rk lf ky ar bs i = false))
  (Q:=fun c aB=>aB = st /\ ∃ q,c = (none,q,q) /\ q <= n /\ (∀ i,i < q->B rk lf ky ar bs i = true) /\ (∀ i,q <= i->i < n->B rk lf ky ar bs i = false)) ?step ?fin ⟨rfl,p,q,rfl,Oo,Pd,by omega,hp,oy⟩) ?post)
 case fin =>
  rintro c aB ⟨rfl,p,q,rfl,h1,h2,h3,h4,h5⟩
  have:p = q:=by omega
  subst this
  exact ⟨rfl,p,rfl,h2,h4,h5⟩
 case post =>
  rintro c aB ⟨rfl,q,rfl,h2,h4,h5⟩
  exact Yn (hq q h2 h4 h5)
 case step =>
  rintro x c aB _ hx ⟨rfl,p,q,rfl,h1,h2,h3,h4,h5⟩
  dsimp only
  by_cases vp:p >= q
  ·rw [if_pos vp]
   have:p = q:=by omega
   subst this
   exact Yn ⟨rfl,p,rfl,h2,h4,h5⟩
  ·rw [if_neg vp]
   refine Yf (mL hc (by omega) hS hk kk ?_)
   dsimp only
   cases e:B rk lf ky ar bs (p + (q - p) / 2) with
   | true =>
    rw [if_pos rfl]
    refine Yn ⟨rfl,_,q,rfl,by omega,h2,by omega,fun i hi=>?_,h5⟩
    exact mono i _ (by omega) (by omega) e
   | false =>
    rw [if_neg Yc]
    refine Yn ⟨rfl,p,_,rfl,by omega,by omega,by omega,h4,fun i hi p7=>?_⟩
    exact Av _ i hi p7 e
theorem FZ {lf:Bool} {ky:Keyed} {ar:Array Keyed} {bs n h:Nat} {st:SortSt} {Q:Option Nat->SortSt->Prop} (hc:pE prog w A E s rk S kd) (hn:bs + n <= ar.size) (hh:h < n) (hS:∀ x ∈ ar.toList,S x) (hk:S ky) (kk:kindOf st = kd)
  (mono:∀ i j,i <= j->j < n->B rk lf ky ar bs j = true->B rk lf ky ar bs i = true)
  (hq:∀ q,q <= n->(∀ i,i < q->B rk lf ky ar bs i = true)->(∀ i,q <= i->i < n->B rk lf ky ar bs i = false)->Q (some q) st):wpS (model prog w) A E s (BX lf ky ar bs n h) Q st:=by
 rw [J9]
 have Av:∀ i j,i <= j->j < n->B rk lf ky ar bs i = false->B rk lf ky ar bs j = false:=fun i j CK hj hb=>by
  cases e:B rk lf ky ar bs j with
  | false=>rfl
  | true=>rw [mono i j CK hj e] at hb; cases hb
 refine Yf (mL hc (by omega) hS hk kk ?_)
 dsimp only
 cases eB:B rk lf ky ar bs h with
 | true =>
  rw [if_pos rfl]
  refine Yf (Zx (Zc (I:=fun x c aB=>aB = st /\ ∃ l o,c = (none,l,o) /\ l < o /\ x + 1 <= o /\ h + l < n /\ B rk lf ky ar bs (h + l) = true)
   (Q:=fun c aB=>aB = st /\ ∃ l o,c = (none,l,o) /\ l < o /\ h + l < n /\ B rk lf ky ar bs (h + l) = true /\ (o >= n - h \/ B rk lf ky ar bs (h + o) = false)) ?step ?fin ⟨rfl,0,1,rfl,by omega,by omega,by omega,eB⟩) ?post)
  case fin =>
   rintro c aB ⟨rfl,l,o,rfl,h1,h2,h3,h4⟩
   exact ⟨rfl,l,o,rfl,h1,h3,h4,.inl (by omega)⟩
  case post =>
   rintro c aB ⟨rfl,l,o,rfl,h1,h3,h4,h5⟩
   show wpS _ _ _ _ (bin lf ky ar bs n (h + l + 1) (h + min o (n - h))) Q _
   refine Au hc hn hS hk kk mono (by omega) (by omega) (fun i hi=>mono i (h + l) (by omega) h3 h4) (fun i hi p7=>?_) hq
   rcases h5 with z | z
   ·omega
   ·by_cases hz:o >= n - h
    ·omega
    ·exact Av (h + o) i (by omega) p7 z
  case step =>
   rintro x c aB _ hx ⟨rfl,l,o,rfl,h1,h2,h3,h4⟩
   dsimp only
   by_cases vp:o >= n - h
   ·rw [if_pos vp]
    exact Yn ⟨rfl,l,o,rfl,h1,h3,h4,.inl vp⟩
   ·rw [if_neg vp]
    refine Yf (mL hc (by omega) hS hk kk ?_)
    dsimp only
    cases e:B rk lf ky ar bs (h + o) with
    | true =>
     rw [if_neg (by simp)]
     exact Yn ⟨rfl,o,2 * o + 1,rfl,by omega,by omega,by omega,e⟩
    | false =>
     rw [if_pos (by simp)]
     exact Yn ⟨rfl,l,o,rfl,h1,h3,h4,.inr e⟩
 | false =>
  rw [if_neg Yc]
  refine Yf (Zx (Zc (I:=fun x c aB=>aB = st /\ ∃ l o,c = (none,l,o) /\ l < o /\ x + 1 <= o /\ l <= h /\ B rk lf ky ar bs (h - l) = false)
   (Q:=fun c aB=>aB = st /\ ∃ l o,c = (none,l,o) /\ l < o /\ l <= h /\ B rk lf ky ar bs (h - l) = false /\ (o >= h + 1 \/ B rk lf ky ar bs (h - o) = true)) ?step ?fin ⟨rfl,0,1,rfl,by omega,by omega,by omega,eB⟩) ?post)
  case fin =>
   rintro c aB ⟨rfl,l,o,rfl,h1,h2,h3,h4⟩
   exact ⟨rfl,l,o,rfl,h1,h3,h4,.inl (by omega)⟩
  case post =>
   rintro c aB ⟨rfl,l,o,rfl,h1,h3,h4,h5⟩
   show wpS _ _ _ _ (bin lf ky ar bs n (h + 1 - min o (h + 1)) (h - l)) Q _
   refine Au hc hn hS hk kk mono (by omega) (by omega) (fun i hi=>?_) (fun i hi p7=>Av (h - l) i hi p7 h4) hq
   rcases h5 with z | z
   ·omega
   ·by_cases hz:o >= h + 1
    ·omega
    ·exact mono i (h - o) (by omega) (by omega) z
  case step =>
   rintro x c aB _ hx ⟨rfl,l,o,rfl,h1,h2,h3,h4⟩
   dsimp only
   by_cases vp:o >= h + 1
   ·rw [if_pos vp]
    exact Yn ⟨rfl,l,o,rfl,h1,h3,h4,.inl vp⟩
   ·rw [if_neg vp]
    refine Yf (mL hc (by omega) hS hk kk ?_)
    dsimp only
    cases e:B rk lf ky ar bs (h - o) with
    | true =>
     rw [if_pos rfl]
     exact Yn ⟨rfl,l,o,rfl,h1,h3,h4,.inr e⟩
    | false =>
     rw [if_neg Yc]
     exact Yn ⟨rfl,o,2 * o + 1,rfl,by omega,by omega,by omega,e⟩
end
abbrev SM:=StateT SortSt Sem
abbrev vI (st:SortSt) (g:Nat):SortSt:=SortSt.mk' (kindOf st) (arrOf st) (pendingOf st) g (failedOf st)
def wb (g:Nat):SM Unit:=modify fun s=>vI s g
def OE:Array Keyed->Array Keyed->SM (Array Keyed):=sortPriv% PySem.Builtin.mergeLo
def jj (a b out:Array Keyed) (i j:Nat):Array Keyed:=out ++ a.extract i a.size ++ b.extract j b.size
def fin2 (a b out:Array Keyed) (i j:Nat):Array Keyed:=out ++ b.extract j b.size ++ a.extract i a.size
abbrev L1:=Option (Array Keyed) × Array Keyed × Nat × Nat × Nat × Nat
abbrev L2:=Option (Array Keyed) × Array Keyed × Nat × Nat × Nat × Nat × Nat
abbrev L3:=Option (Array Keyed) × Array Keyed × Nat × Nat × Nat
def lo1 (a b:Array Keyed) (g:Nat) (out:Array Keyed) (i j ca cb:Nat):SM (ForInStep L1):=do
 let x <- elem' b j
 let y <- elem' a i
 match <- lt' x y with
 | some bw =>
  if bw = true then do
   let z <- elem' b j
   if (j + 1 == b.size) = true then pure (.done (some (jj a b (out.push z) i (j + 1)),out.push z,i,j + 1,0,cb + 1))
   else if cb + 1 >= g then pure (.done (none,out.push z,i,j + 1,0,cb + 1))
   else pure (.yield (none,out.push z,i,j + 1,0,cb + 1))
  else do
   let z <- elem' a i
   if (i + 1 + 1 == a.size) = true then pure (.done (some (fin2 a b (out.push z) (i + 1) j),out.push z,i + 1,j,ca + 1,0))
   else if ca + 1 >= g then pure (.done (none,out.push z,i + 1,j,ca + 1,0))
   else pure (.yield (none,out.push z,i + 1,j,ca + 1,0))
 | _=>pure (.done (some (jj a b out i j),out,i,j,ca,cb))
def NC (a b:Array Keyed) (out:Array Keyed) (i j g ca cb:Nat):SM (ForInStep L2):=do
 let x <- elem' a i
 if (i + 1 + 1 == a.size) = true then pure (.done (some (fin2 a b (out.push x) (i + 1) j),out.push x,i + 1,j,g,ca,cb))
 else if (decide (ca < 7) && decide (cb < 7)) = true then pure (.done (none,out.push x,i + 1,j,g,ca,cb))
 else pure (.yield (none,out.push x,i + 1,j,g,ca,cb))
def QH (a b:Array Keyed) (out:Array Keyed) (i j g ca cb:Nat):SM (ForInStep L2):=do
 let x <- elem' a i
 match <- BX true x b j (b.size - j) 0 with
 | some k =>
  if k > 0 then
   if (j + k == b.size) = true then pure (.done (some (jj a b (out ++ b.extract j (j + k)) i (j + k)),out ++ b.extract j (j + k),i,j + k,g,ca,k))
   else NC a b (out ++ b.extract j (j + k)) i (j + k) g ca k
  else NC a b out i j g ca k
 | _=>pure (.done (some (jj a b out i j),out,i,j,g,ca,cb))
def Ou (a b:Array Keyed) (out:Array Keyed) (i j g ca cb:Nat):SM (ForInStep L2):=do
 let x <- elem' b j
 if (j + 1 == b.size) = true then pure (.done (some (jj a b (out.push x) i (j + 1)),out.push x,i,j + 1,g,ca,cb))
 else QH a b (out.push x) i (j + 1) g ca cb
def NS (a b:Array Keyed) (out:Array Keyed) (i j g ca cb:Nat):SM (ForInStep L2):=do
 wb g
 let x <- elem' b j
 match <- BX false x a i (a.size - i) 0 with
 | some k =>
  if k > 0 then
   if (i + k + 1 == a.size) = true then pure (.done (some (fin2 a b (out ++ a.extract i (i + k)) (i + k) j),out ++ a.extract i (i + k),i + k,j,g,k,cb))
   else if (i + k == a.size) = true then pure (.done (some (jj a b (out ++ a.extract i (i + k)) (i + k) j),out ++ a.extract i (i + k),i + k,j,g,k,cb))
   else Ou a b (out ++ a.extract i (i + k)) (i + k) j g k cb
  else Ou a b out i j g k cb
 | _=>pure (.done (some (jj a b out i j),out,i,j,g,ca,cb))
def OI (a b:Array Keyed) (out:Array Keyed) (i j g ca cb:Nat):SM (ForInStep L2):=if g > 1 then NS a b out i j (g - 1) ca cb else NS a b out i j g ca cb
def NX (a b:Array Keyed) (out:Array Keyed) (i j g:Nat):SM (ForInStep L3):=do
 let c <- forIn [0:a.size + b.size] ((none,out,i,j,0,0):L1) fun _ c=>lo1 a b g c.2.1 c.2.2.1 c.2.2.2.1 c.2.2.2.2.1 c.2.2.2.2.2
 match c.1 with
 | some r=>pure (.done (some r,c.2.1,c.2.2.1,c.2.2.2.1,g))
 | none=>do
  rule "list.sort.gallop"
  let d <- forIn [0:a.size + b.size] ((none,c.2.1,c.2.2.1,c.2.2.2.1,g + 1,c.2.2.2.2.1,c.2.2.2.2.2):L2) fun _ d=>OI a b d.2.1 d.2.2.1 d.2.2.2.1 d.2.2.2.2.1 d.2.2.2.2.2.1 d.2.2.2.2.2.2
  match d.1 with
  | some r=>pure (.done (some r,d.2.1,d.2.2.1,d.2.2.2.1,d.2.2.2.2.1))
  | none=>do
   wb (d.2.2.2.2.1 + 1)
   pure (.yield (none,d.2.1,d.2.2.1,d.2.2.2.1,d.2.2.2.2.1 + 1))
theorem JC (a b:Array Keyed):OE a b = (do
  rule "list.sort.merge-lo"
  let tt:=a.size + b.size
  let mut out:Array Keyed:=#[<- elem' b 0]
  let mut i:=0
  let mut j:=1
  if j == b.size then return jj a b out i j
  if i + 1 == a.size then return fin2 a b out i j
  let mut g:=gallopOf (<- get)
  for _ in [0:tt] do
   let mut ca:=0
   let mut cb:=0
   for _ in [0:tt] do
    let some bw <- lt' (<- elem' b j) (<- elem' a i) | return jj a b out i j
    if bw then
     out:=out.push (<- elem' b j); j:=j + 1; cb:=cb + 1; ca:=0
     if j == b.size then return jj a b out i j
     if cb >= g then break
    else
     out:=out.push (<- elem' a i); i:=i + 1; ca:=ca + 1; cb:=0
     if i + 1 == a.size then return fin2 a b out i j
     if ca >= g then break
   rule "list.sort.gallop"
   g:=g + 1
   for _ in [0:tt] do
    if g > 1 then g:=g - 1
    wb g
    let some k <- BX false (<- elem' b j) a i (a.size - i) 0 | return jj a b out i j
    ca:=k
    if k > 0 then
     out:=out ++ a.extract i (i + k); i:=i + k
     if i + 1 == a.size then return fin2 a b out i j
     if i == a.size then return jj a b out i j
    out:=out.push (<- elem' b j); j:=j + 1
    if j == b.size then return jj a b out i j
    let some k <- BX true (<- elem' a i) b j (b.size - j) 0 | return jj a b out i j
    cb:=k
    if k > 0 then
     out:=out ++ b.extract j (j + k); j:=j + k
     if j == b.size then return jj a b out i j
    out:=out.push (<- elem' a i); i:=i + 1
    if i + 1 == a.size then return fin2 a b out i j
    if ca < 7 && cb < 7 then break
   g:=g + 1
   wb g
  unsupported "internal:list.sort.merge-bound"):=rfl
theorem FA (a b:Array Keyed):OE a b = (do
  rule "list.sort.merge-lo"
  let z <- elem' b 0
  if (1 == b.size) = true then pure (jj a b #[z] 0 1)
  else if (0 + 1 == a.size) = true then pure (fin2 a b #[z] 0 1)
  else do
   let st <- get
   let c <- forIn [0:a.size + b.size] ((none,#[z],0,1,gallopOf st):L3) fun _ c=>NX a b c.2.1 c.2.2.1 c.2.2.2.1 c.2.2.2.2
   match c.1 with
   | some r=>pure r
   | none=>unsupported "internal:list.sort.merge-bound"):=by
 rw [JC]
 refine YX fun _=>YX fun z=>?_
 refine ite_congr rfl (fun _=>rfl) (fun _=>?_)
 refine ite_congr rfl (fun _=>rfl) (fun _=>?_)
 refine YX fun st=>?_
 show (forIn _ _ _ >>= _) = (forIn _ _ _ >>= _)
 refine congr (Zi _ ?_) ?_
 ·refine Zi _ ?_
  funext x c
  rcases c with ⟨r,out,i,j,g⟩
  unfold NX
  show (forIn _ _ _ >>= _) = (forIn _ _ _ >>= _)
  refine YX fun d=>?_
  rcases d with ⟨_ | r,out,i,j,ca,cb⟩
  ·refine YX fun _=>?_
   show (forIn _ _ _ >>= _) = (forIn _ _ _ >>= _)
   refine YX fun e=>?_
   rcases e with ⟨_ | r,out,i,j,g,ca,cb⟩
   ·rfl
   ·rfl
  ·rfl
 ·funext c
  rcases c with ⟨_ | r,out,i,j,g⟩
  ·rfl
  ·rfl
abbrev gb (rk:Keyed->Nat) (l:List Keyed):Prop:=l.Pairwise fun x y=>rk x <= rk y
structure MI (rk:Keyed->Nat) (a b out:Array Keyed) (i j:Nat):Prop where
 hi:i <= a.size
 hj:j <= b.size
 sz:out.size = i + j
 p:(out.toList ++ (a.toList.drop i ++ b.toList.drop j)).Perm (a.toList ++ b.toList)
 s:gb rk out.toList
 ua:∀ x ∈ out.toList,∀ y ∈ a.toList.drop i,rk x <= rk y
 ub:∀ x ∈ out.toList,∀ y ∈ b.toList.drop j,rk x <= rk y
def Res (rk:Keyed->Nat) (a b r:Array Keyed):Prop:=r.toList.Perm (a.toList ++ b.toList) /\ gb rk r.toList
section
variable {rk:Keyed->Nat} {a b out:Array Keyed} {i j k:Nat}
theorem vY {l:List Keyed} {i:Nat} (h:i < l.length):l.drop i = l[i] :: l.drop (i + 1):=aar h
theorem bR (a:Array Keyed) (i j:Nat):(a.extract i j).toList = (a.toList.drop i).take (j - i):=by
 rw [Array.toList_extract,List.extract_eq_drop_take]
theorem MI.wS (h:MI rk a b out i j) (sa:gb rk a.toList) (hk:i + k <= a.size) (hy:∀ x ∈ (a.toList.drop i).take k,∀ y ∈ b.toList.drop j,rk x <= rk y):MI rk a b (out ++ a.extract i (i + k)) (i + k) j:=by
 have e:(out ++ a.extract i (i + k)).toList = out.toList ++ (a.toList.drop i).take k:=by rw [YT,bR,aaE]
 have ed:(a.toList.drop i).take k ++ a.toList.drop (i + k) = a.toList.drop i:=by rw [<- Zy,ZS]
 have ss:gb rk ((a.toList.drop i).take k ++ a.toList.drop (i + k)):=by rw [ed]; exact sa.sublist (ZL _ _)
 have Fb:=Yr.mp ss
 refine ⟨hk,h.hj,by rw [ZB,aaa,h.sz]; omega,?_,?_,?_,?_⟩
 ·rw [e,Yo,<- Yo ((a.toList.drop i).take k),ed]
  exact h.p
 ·rw [e]
  exact Yr.mpr ⟨h.s,Fb.1,fun x hx y hy=>h.ua x hx y (Zt hy)⟩
 ·intro x hx y hy
  rw [e] at hx
  rcases Yz.mp hx with z | z
  ·exact h.ua x z y (by rw [<- ed]; exact YH _ hy)
  ·exact Fb.2.2 x z y hy
 ·intro x hx y gL
  rw [e] at hx
  rcases Yz.mp hx with z | z
  ·exact h.ub x z y gL
  ·exact hy x z y gL
theorem MI.x4 (h:MI rk a b out i j) (sb:gb rk b.toList) (hk:j + k <= b.size) (hy:∀ x ∈ (b.toList.drop j).take k,∀ y ∈ a.toList.drop i,rk x <= rk y):MI rk a b (out ++ b.extract j (j + k)) i (j + k):=by
 have e:(out ++ b.extract j (j + k)).toList = out.toList ++ (b.toList.drop j).take k:=by rw [YT,bR,aaE]
 have ed:(b.toList.drop j).take k ++ b.toList.drop (j + k) = b.toList.drop j:=by rw [<- Zy,ZS]
 have ss:gb rk ((b.toList.drop j).take k ++ b.toList.drop (j + k)):=by rw [ed]; exact sb.sublist (ZL _ _)
 have Fb:=Yr.mp ss
 refine ⟨h.hi,hk,by rw [ZB,aaa,h.sz]; omega,?_,?_,?_,?_⟩
 ·rw [e,Yo]
  refine List.Perm.trans (ZT _ ?_) h.p
  have e2:a.toList.drop i ++ b.toList.drop j = a.toList.drop i ++ ((b.toList.drop j).take k ++ b.toList.drop (j + k)):=by rw [ed]
  rw [e2,<- Yo,<- Yo]
  exact aab _ aae
 ·rw [e]
  exact Yr.mpr ⟨h.s,Fb.1,fun x hx y hy=>h.ub x hx y (Zt hy)⟩
 ·intro x hx y gL
  rw [e] at hx
  rcases Yz.mp hx with z | z
  ·exact h.ua x z y gL
  ·exact hy x z y gL
 ·intro x hx y hy
  rw [e] at hx
  rcases Yz.mp hx with z | z
  ·exact h.ub x z y (by rw [<- ed]; exact YH _ hy)
  ·exact Fb.2.2 x z y hy
theorem yt {a out:Array Keyed} {i:Nat} (h:i < a.size):out.push a[i] = out ++ a.extract i (i + 1):=by
 apply Array.toList_inj.mp
 rw [Array.toList_push,YT,bR,aaE,vY (l:=a.toList) (by simpa using h)]
 simp
theorem take1 {l:List Keyed} {i:Nat} (h:i < l.length):(l.drop i).take 1 = [l[i]]:=by rw [vY h]; rfl
theorem MI.uz (h:MI rk a b out i j) (sa:gb rk a.toList) (hi:i < a.size) (hy:∀ y ∈ b.toList.drop j,rk a[i] <= rk y):MI rk a b (out.push a[i]) (i + 1) j:=by
 rw [yt hi]
 refine h.wS sa hi fun x hx y gL=>?_
 rw [take1 (by simpa using hi)] at hx
 rw [YG.mp hx]
 simpa using hy y gL
theorem MI.uu (h:MI rk a b out i j) (sb:gb rk b.toList) (hj:j < b.size) (hy:∀ y ∈ a.toList.drop i,rk b[j] <= rk y):MI rk a b (out.push b[j]) i (j + 1):=by
 rw [yt hj]
 refine h.x4 sb hj fun x hx y gL=>?_
 rw [take1 (by simpa using hj)] at hx
 rw [YG.mp hx]
 simpa using hy y gL
theorem ut (a b out:Array Keyed) (i j:Nat):(jj a b out i j).toList = out.toList ++ (a.toList.drop i ++ b.toList.drop j):=by
 unfold jj
 rw [YT,YT,bR,bR,Yo,Yj (by simp),Yj (by simp)]
theorem tM (a b out:Array Keyed) (i j:Nat):(fin2 a b out i j).toList = out.toList ++ (b.toList.drop j ++ a.toList.drop i):=by
 unfold fin2
 rw [YT,YT,bR,bR,Yo,Yj (by simp),Yj (by simp)]
theorem MI.EO (h:MI rk a b out i j) (sa:gb rk a.toList) (sb:gb rk b.toList) (e:i = a.size \/ j = b.size):Res rk a b (jj a b out i j):=by
 refine ⟨by rw [ut]; exact h.p,?_⟩
 rw [ut]
 refine Yr.mpr ⟨h.s,Yr.mpr ⟨sa.sublist (ZL _ _),sb.sublist (ZL _ _),?_⟩,fun x hx y hy=>?_⟩
 ·intro x hx y hy
  rcases e with e | e
  ·rw [e,List.drop_of_length_le (by simp)] at hx; cases hx
  ·rw [e,List.drop_of_length_le (by simp)] at hy; cases hy
 ·rcases Yz.mp hy with z | z
  ·exact h.ua x hx y z
  ·exact h.ub x hx y z
theorem MI.Hr (h:MI rk a b out i j) (sa:gb rk a.toList) (sb:gb rk b.toList) (e:i + 1 = a.size) (last:∀ y ∈ b.toList,∀ x,a.toList[a.size - 1]? = some x->rk y <= rk x):Res rk a b (fin2 a b out i j):=by
 refine ⟨by rw [tM]; exact (ZT _ aae).trans h.p,?_⟩
 rw [tM]
 refine Yr.mpr ⟨h.s,Yr.mpr ⟨sb.sublist (ZL _ _),sa.sublist (ZL _ _),?_⟩,fun x hx y hy=>?_⟩
 ·intro y hy x hx
  have hl:i < a.toList.length:=by simp; omega
  rw [vY hl,List.drop_of_length_le (by simp; omega)] at hx
  have ex:x = a.toList[i]:=by simpa using hx
  refine last y (List.mem_of_mem_drop hy) x ?_
  rw [show a.size - 1 = i by omega,ex]
  exact Ya hl
 ·rcases Yz.mp hy with z | z
  ·exact h.ub x hx y z
  ·exact h.ua x hx y z
theorem i9 {l:List Keyed} (h:gb rk l) {i j:Nat} (CK:i <= j) (hj:j < l.length):rk (l[i]'(by omega)) <= rk l[j]:=by
 by_cases e:i = j
 ·subst e; exact X7 _
 ·exact List.pairwise_iff_getElem.mp h i j (by omega) hj (by omega)
theorem m7 {l:List Keyed} (h:gb rk l) {i:Nat} (hi:i < l.length):∀ y ∈ l.drop i,rk l[i] <= rk y:=fun y hy=>by
 obtain ⟨m,hm,rfl⟩:=Zj.mp hy
 rw [ZW]
 exact i9 h (by omega) _
end
def Pb (rk:Keyed->Nat) (lf:Bool) (ky x:Keyed):Prop:=if lf = true then rk x < rk ky else rk x <= rk ky
section
variable {prog:Program} {w:World} {A:Around} {E:Value->Shared->Prop} {s:Shared} {rk:Keyed->Nat} {S:Keyed->Prop} {kd:SortKind}
theorem Be {lf:Bool} {ky:Keyed} {ar:Array Keyed} {bs i:Nat} (h:bs + i < ar.size):B rk lf ky ar bs i = true ↔ Pb rk lf ky (ar.toList[bs + i]'(by simpa using h)):=by
 unfold B Pb
 rw [getElem?_pos ar (bs + i) h]
 cases lf with
 | true=>simp
 | false=>simp
theorem kI {lf:Bool} {ky:Keyed} {ar:Array Keyed} {bs n h:Nat} {st:SortSt} {Q:Option Nat->SortSt->Prop} (hc:pE prog w A E s rk S kd) (hn:bs + n <= ar.size) (hh:h < n) (hS:∀ x ∈ ar.toList,S x) (hk:S ky) (kk:kindOf st = kd)
  (sr:gb rk ((ar.toList.drop bs).take n))
  (hq:∀ q,q <= n->(∀ x ∈ (ar.toList.drop bs).take q,Pb rk lf ky x)->(∀ x ∈ ((ar.toList.drop bs).take n).drop q,¬ Pb rk lf ky x)->Q (some q) st):wpS (model prog w) A E s (BX lf ky ar bs n h) Q st:=by
 have len:((ar.toList.drop bs).take n).length = n:=by rw [Yt,aaq,Ye]; omega
 have seg:∀ i (hi:i < n),((ar.toList.drop bs).take n)[i]'(by omega) = ar.toList[bs + i]'(by rw [Ye]; omega):=fun i hi=>by
  rw [aah,ZW]
 have mono:∀ i j,i <= j->j < n->B rk lf ky ar bs j = true->B rk lf ky ar bs i = true:=fun i j CK hj hb=>by
  have h1:=(Be (rk:=rk) (lf:=lf) (ky:=ky) (by omega:bs + j < ar.size)).mp hb
  refine (Be (by omega)).mpr ?_
  have h2:=i9 sr CK (by omega)
  rw [seg i (by omega),seg j hj] at h2
  unfold Pb at h1 ⊢
  cases lf with
  | true=>simp only [Zw] at h1 ⊢; omega
  | false=>simp only [Yu,YZ] at h1 ⊢; omega
 refine FZ hc hn hh hS hk kk mono fun q Pd h1 h2=>hq q Pd (fun x hx=>?_) (fun x hx=>?_)
 ·obtain ⟨m,hm,rfl⟩:=Zj.mp hx
  have HW:m < q:=by rw [Yt] at hm; omega
  rw [aah,ZW]
  exact (Be (by omega)).mp (h1 m HW)
 ·obtain ⟨m,hm,rfl⟩:=Zj.mp hx
  have HW:q + m < n:=by rw [aaq,len] at hm; omega
  rw [ZW,seg _ HW]
  intro z
  have:=h2 (q + m) (by omega) HW
  rw [(Be (by omega)).mpr z] at this
  cases this
def Gq (st aB:SortSt):Prop:=∃ g,aB = vI st g
theorem Gq.refl (st:SortSt):Gq st st:=⟨gallopOf st,rfl⟩
theorem Gq.set {st aB:SortSt} (h:Gq st aB) (g:Nat):Gq st (vI aB g):=by obtain ⟨_,rfl⟩:=h; exact ⟨g,rfl⟩
theorem Gq.kind {st aB:SortSt} (h:Gq st aB):kindOf aB = kindOf st:=by obtain ⟨_,rfl⟩:=h; rfl
theorem mT {g:Nat} {st:SortSt} {Q:Unit->SortSt->Prop} (h:Q () (vI st g)):wpS (model prog w) A E s (wb g) Q st:=aai h
theorem bb {ar:Array Keyed} {i:Nat} {st:SortSt} {Q:Keyed->SortSt->Prop} (hi:i < ar.size) (h:Q ar[i] st):wpS (model prog w) A E s (elem' ar i) Q st:=by
 rw [elem'_eq,getElem?_pos ar i hi]
 exact Yn h
structure sY (rk:Keyed->Nat) (S:Keyed->Prop) (a b:Array Keyed):Prop where
 sa:gb rk a.toList
 sb:gb rk b.toList
 Sa:∀ x ∈ a.toList,S x
 Sb:∀ x ∈ b.toList,S x
 last:∀ y ∈ b.toList,∀ x,a.toList[a.size - 1]? = some x->rk y <= rk x
 first:∀ y ∈ a.toList,∀ x,b.toList[0]? = some x->rk x <= rk y
theorem sY.Af {a b:Array Keyed} (T:sY rk S a b) {i:Nat} (h:i < a.size):S a[i]:=T.Sa _ (by simp)
theorem sY.An {a b:Array Keyed} (T:sY rk S a b) {i:Nat} (h:i < b.size):S b[i]:=T.Sb _ (by simp)
variable {a b:Array Keyed} {aK:SortSt}
def E1 (rk:Keyed->Nat) (a b:Array Keyed) (aK:SortSt) (n:Nat) (r:ForInStep L1) (aB:SortSt):Prop:=Gq aK aB /\ match r with
 | .done c=>(∃ z,c.1 = some z /\ Res rk a b z) \/ (c.1 = none /\ MI rk a b c.2.1 c.2.2.1 c.2.2.2.1 /\ c.2.2.1 + 1 < a.size /\ c.2.2.2.1 < b.size /\ n < c.2.1.size)
 | .yield c=>c.1 = none /\ MI rk a b c.2.1 c.2.2.1 c.2.2.2.1 /\ c.2.2.1 + 1 < a.size /\ c.2.2.2.1 < b.size /\ n < c.2.1.size
def E2 (rk:Keyed->Nat) (a b:Array Keyed) (aK:SortSt) (n:Nat) (r:ForInStep L2) (aB:SortSt):Prop:=Gq aK aB /\ match r with
 | .done c=>(∃ z,c.1 = some z /\ Res rk a b z) \/ (c.1 = none /\ MI rk a b c.2.1 c.2.2.1 c.2.2.2.1 /\ c.2.2.1 + 1 < a.size /\ c.2.2.2.1 < b.size /\ n < c.2.1.size)
 | .yield c=>c.1 = none /\ MI rk a b c.2.1 c.2.2.1 c.2.2.2.1 /\ c.2.2.1 + 1 < a.size /\ c.2.2.2.1 < b.size /\ n < c.2.1.size
theorem Hy {g:Nat} {out:Array Keyed} {i j ca cb n:Nat} {st:SortSt} (hc:pE prog w A E s rk S kd) (T:sY rk S a b) (gq:Gq aK st) (kk:kindOf aK = kd) (M:MI rk a b out i j) (hi:i + 1 < a.size) (hj:j < b.size) (hn:n <= out.size) :
  wpS (model prog w) A E s (lo1 a b g out i j ca cb) (E1 rk a b aK n) st:=by
 unfold lo1
 have p7:i < a.size:=by omega
 refine Yf (bb hj (Yf (bb p7 (Yf (hc _ _ st _ (T.An hj) (T.Af p7) (gq.kind.trans kk) ?_)))))
 dsimp only
 by_cases hb:rk b[j] < rk a[i]
 ·rw [Yi hb,if_pos rfl]
  refine Yf (bb hj ?_)
  have M':=M.uu T.sb hj fun y hy=>by
   have:=m7 T.sa (i:=i) (by simpa using p7) y hy
   simp at this
   omega
  by_cases e:(j + 1 == b.size) = true
  ·rw [if_pos e]
   exact Yn ⟨gq,.inl ⟨_,rfl,M'.EO T.sa T.sb (.inr (by simpa using e))⟩⟩
  ·rw [if_neg e]
   have e':j + 1 ≠ b.size:=by simpa using e
   have rest:MI rk a b (out.push b[j]) i (j + 1) /\ i + 1 < a.size /\ j + 1 < b.size /\ n < (out.push b[j]).size:=⟨M',hi,by omega,by rw [ZO]; omega⟩
   split
   ·exact Yn ⟨gq,.inr ⟨rfl,rest⟩⟩
   ·exact Yn ⟨gq,rfl,rest⟩
 ·rw [Yw hb,if_neg Yc]
  refine Yf (bb p7 ?_)
  have M':=M.uz T.sa p7 fun y hy=>by
   have:=m7 T.sb (i:=j) (by simpa using hj) y hy
   simp at this
   omega
  by_cases e:(i + 1 + 1 == a.size) = true
  ·rw [if_pos e]
   exact Yn ⟨gq,.inl ⟨_,rfl,M'.Hr T.sa T.sb (by simpa using e) T.last⟩⟩
  ·rw [if_neg e]
   have e':i + 1 + 1 ≠ a.size:=by simpa using e
   have rest:MI rk a b (out.push a[i]) (i + 1) j /\ i + 1 + 1 < a.size /\ j < b.size /\ n < (out.push a[i]).size:=⟨M',by omega,hj,by rw [ZO]; omega⟩
   split
   ·exact Yn ⟨gq,.inr ⟨rfl,rest⟩⟩
   ·exact Yn ⟨gq,rfl,rest⟩
theorem Az {out:Array Keyed} {i j g ca cb n:Nat} {st:SortSt} (T:sY rk S a b) (gq:Gq aK st) (M:MI rk a b out i j) (hi:i + 1 < a.size) (hj:j < b.size) (hn:n <= out.size) (ok:∀ y ∈ b.toList.drop j,rk (a[i]'(by omega)) <= rk y) :
  wpS (model prog w) A E s (NC a b out i j g ca cb) (E2 rk a b aK n) st:=by
 unfold NC
 have p7:i < a.size:=by omega
 refine Yf (bb p7 ?_)
 have M':=M.uz T.sa p7 ok
 by_cases e:(i + 1 + 1 == a.size) = true
 ·rw [if_pos e]
  exact Yn ⟨gq,.inl ⟨_,rfl,M'.Hr T.sa T.sb (by simpa using e) T.last⟩⟩
 ·rw [if_neg e]
  have e':i + 1 + 1 ≠ a.size:=by simpa using e
  have rest:MI rk a b (out.push a[i]) (i + 1) j /\ i + 1 + 1 < a.size /\ j < b.size /\ n < (out.push a[i]).size:=⟨M',by omega,hj,by rw [ZO]; omega⟩
  split
  ·exact Yn ⟨gq,.inr ⟨rfl,rest⟩⟩
  ·exact Yn ⟨gq,rfl,rest⟩
theorem qA (l:List Keyed) (i n:Nat) (h:n = l.length - i):(l.drop i).take n = l.drop i:=Yj (by rw [aaq]; omega)
theorem Hw {out:Array Keyed} {i j g ca cb n:Nat} {st:SortSt} (hc:pE prog w A E s rk S kd) (T:sY rk S a b) (gq:Gq aK st) (kk:kindOf aK = kd) (M:MI rk a b out i j) (hi:i + 1 < a.size) (hj:j < b.size) (hn:n <= out.size) :
  wpS (model prog w) A E s (QH a b out i j g ca cb) (E2 rk a b aK n) st:=by
 unfold QH
 have p7:i < a.size:=by omega
 have wd:(b.toList.drop j).take (b.size - j) = b.toList.drop j:=qA _ _ _ (by simp)
 refine Yf (bb p7 (Yf (kI hc (by omega) (by omega) T.Sb (T.Af p7) (gq.kind.trans kk) (by rw [wd]; exact T.sb.sublist (ZL _ _)) fun k hk h1 h2=>?_)))
 rw [wd,Zy] at h2
 have iL:∀ y ∈ b.toList.drop (j + k),rk a[i] <= rk y:=fun y hy=>by
  have:=h2 y hy
  unfold Pb at this
  simp only [Zw] at this
  omega
 have cV:∀ x ∈ (b.toList.drop j).take k,∀ y ∈ a.toList.drop i,rk x <= rk y:=fun x hx y hy=>by
  have:=h1 x hx
  unfold Pb at this
  simp only [Zw] at this
  have:=m7 T.sa (i:=i) (by simpa using p7) y hy
  simp at this
  omega
 dsimp only
 by_cases D8:k > 0
 ·rw [if_pos D8]
  have M':=M.x4 T.sb (k:=k) (by omega) cV
  by_cases e:(j + k == b.size) = true
  ·rw [if_pos e]
   exact Yn ⟨gq,.inl ⟨_,rfl,M'.EO T.sa T.sb (.inr (by simpa using e))⟩⟩
  ·rw [if_neg e]
   have e':j + k ≠ b.size:=by simpa using e
   exact Az T gq M' hi (by omega) (by rw [ZB]; omega) iL
 ·rw [if_neg D8]
  have:k = 0:=by omega
  subst this
  exact Az T gq M hi hj hn iL
theorem AX {out:Array Keyed} {i j g ca cb n:Nat} {st:SortSt} (hc:pE prog w A E s rk S kd) (T:sY rk S a b) (gq:Gq aK st) (kk:kindOf aK = kd) (M:MI rk a b out i j) (hi:i + 1 < a.size) (hj:j < b.size) (hn:n <= out.size) (ok:∀ y ∈ a.toList.drop i,rk b[j] <= rk y) :
  wpS (model prog w) A E s (Ou a b out i j g ca cb) (E2 rk a b aK n) st:=by
 unfold Ou
 refine Yf (bb hj ?_)
 have M':=M.uu T.sb hj ok
 by_cases e:(j + 1 == b.size) = true
 ·rw [if_pos e]
  exact Yn ⟨gq,.inl ⟨_,rfl,M'.EO T.sa T.sb (.inr (by simpa using e))⟩⟩
 ·rw [if_neg e]
  have e':j + 1 ≠ b.size:=by simpa using e
  exact Hw hc T gq kk M' hi (by omega) (by rw [ZO]; omega)
theorem Bb {out:Array Keyed} {i j g ca cb n:Nat} {st:SortSt} (hc:pE prog w A E s rk S kd) (T:sY rk S a b) (gq:Gq aK st) (kk:kindOf aK = kd) (M:MI rk a b out i j) (hi:i + 1 < a.size) (hj:j < b.size) (hn:n <= out.size) :
  wpS (model prog w) A E s (NS a b out i j g ca cb) (E2 rk a b aK n) st:=by
 unfold NS
 have wd:(a.toList.drop i).take (a.size - i) = a.toList.drop i:=qA _ _ _ (by simp)
 refine Yf (mT (Yf (bb hj (Yf (kI hc (by omega) (by omega) T.Sa (T.An hj) ((gq.set g).kind.trans kk) (by rw [wd]; exact T.sa.sublist (ZL _ _)) fun k hk h1 h2=>?_)))))
 have HK:=gq.set g
 rw [wd,Zy] at h2
 have iL:∀ y ∈ a.toList.drop (i + k),rk b[j] <= rk y:=fun y hy=>by
  have:=h2 y hy
  unfold Pb at this
  simp only [Yu,YZ] at this
  omega
 have cV:∀ x ∈ (a.toList.drop i).take k,∀ y ∈ b.toList.drop j,rk x <= rk y:=fun x hx y hy=>by
  have:=h1 x hx
  unfold Pb at this
  simp only [Yu,YZ] at this
  have:=m7 T.sb (i:=j) (by simpa using hj) y hy
  simp at this
  omega
 dsimp only
 by_cases D8:k > 0
 ·rw [if_pos D8]
  have M':=M.wS T.sa (k:=k) (by omega) cV
  by_cases e:(i + k + 1 == a.size) = true
  ·rw [if_pos e]
   exact Yn ⟨HK,.inl ⟨_,rfl,M'.Hr T.sa T.sb (by simpa using e) T.last⟩⟩
  ·rw [if_neg e]
   have e':i + k + 1 ≠ a.size:=by simpa using e
   by_cases f:(i + k == a.size) = true
   ·rw [if_pos f]
    exact Yn ⟨HK,.inl ⟨_,rfl,M'.EO T.sa T.sb (.inl (by simpa using f))⟩⟩
   ·rw [if_neg f]
    have f':i + k ≠ a.size:=by simpa using f
    exact AX hc T HK kk M' (by omega) hj (by rw [ZB]; omega) iL
 ·rw [if_neg D8]
  have:k = 0:=by omega
  subst this
  exact AX hc T HK kk M hi hj hn iL
theorem Hx {out:Array Keyed} {i j g ca cb n:Nat} {st:SortSt} (hc:pE prog w A E s rk S kd) (T:sY rk S a b) (gq:Gq aK st) (kk:kindOf aK = kd) (M:MI rk a b out i j) (hi:i + 1 < a.size) (hj:j < b.size) (hn:n <= out.size) :
  wpS (model prog w) A E s (OI a b out i j g ca cb) (E2 rk a b aK n) st:=by
 unfold OI
 split
 ·exact Bb hc T gq kk M hi hj hn
 ·exact Bb hc T gq kk M hi hj hn
end
section
variable {prog:Program} {w:World} {A:Around} {E:Value->Shared->Prop} {s:Shared} {rk:Keyed->Nat} {S:Keyed->Prop} {kd:SortKind} {a b:Array Keyed} {aK:SortSt}
def On (rk:Keyed->Nat) (a b:Array Keyed) (n:Nat) (out:Array Keyed) (i j:Nat):Prop:=MI rk a b out i j /\ i + 1 < a.size /\ j < b.size /\ n < out.size
theorem GK {out:Array Keyed} {i j g n:Nat} {st:SortSt} (hc:pE prog w A E s rk S kd) (T:sY rk S a b) (gq:Gq aK st) (kk:kindOf aK = kd) (M:MI rk a b out i j) (hi:i + 1 < a.size) (hj:j < b.size) (hn:n <= out.size) :
  wpS (model prog w) A E s (NX a b out i j g) (fun r aB=>Gq aK aB /\ match r with | .done c=>∃ z,c.1 = some z /\ Res rk a b z | .yield c=>c.1 = none /\ On rk a b n c.2.1 c.2.2.1 c.2.2.2.1) st:=by
 unfold NX
 refine Yf (Zx (Zc (I:=fun x (c:L1) aB=>Gq aK aB /\ c.1 = none /\ MI rk a b c.2.1 c.2.2.1 c.2.2.2.1 /\ c.2.2.1 + 1 < a.size /\ c.2.2.2.1 < b.size /\ n + min x 1 <= c.2.1.size)
  (Q:=fun (c:L1) aB=>Gq aK aB /\ ((∃ z,c.1 = some z /\ Res rk a b z) \/ (c.1 = none /\ On rk a b n c.2.1 c.2.2.1 c.2.2.2.1))) ?step ?fin ⟨gq,rfl,M,hi,hj,by simpa using hn⟩) ?post)
 case fin =>
  rintro c aB ⟨h1,h2,h3,h4,h5,h6⟩
  exact ⟨h1,.inr ⟨h2,h3,h4,h5,by omega⟩⟩
 case step =>
  rintro x c aB _ hx ⟨h1,h2,h3,h4,h5,h6⟩
  refine Zx (Hy hc T h1 kk h3 h4 h5 (X7 _)) fun r bI hr=>?_
  obtain ⟨g1,g2⟩:=hr
  cases r with
  | done d =>
   rcases g2 with z | ⟨z1,z2,z3,z4,z5⟩
   ·exact ⟨g1,.inl z⟩
   ·exact ⟨g1,.inr ⟨z1,z2,z3,z4,by omega⟩⟩
  | yield d =>
   obtain ⟨z1,z2,z3,z4,z5⟩:=g2
   exact ⟨g1,z1,z2,z3,z4,by omega⟩
 case post =>
  rintro ⟨c1,out,i,j,ca,cb⟩ aB ⟨g1,h⟩
  rcases h with ⟨z,hz,hr⟩ | ⟨hz,h1,h2,h3,h4⟩
  ·have pY:c1 = some z:=hz
   subst pY
   exact Yn ⟨g1,z,rfl,hr⟩
  ·have pY:c1 = none:=hz
   subst pY
   dsimp only
   refine Yf (wpS_lift (ZD ⟨rfl,?_⟩))
   refine Yf (Zx (Zc (I:=fun x (c:L2) aB=>Gq aK aB /\ c.1 = none /\ On rk a b n c.2.1 c.2.2.1 c.2.2.2.1)
    (Q:=fun (c:L2) aB=>Gq aK aB /\ ((∃ z,c.1 = some z /\ Res rk a b z) \/ (c.1 = none /\ On rk a b n c.2.1 c.2.2.1 c.2.2.2.1))) ?Et (fun c aB h=>⟨h.1,.inr h.2⟩) ⟨g1,rfl,h1,h2,h3,h4⟩) ?C6)
   case Et =>
    rintro x c bI _ hx ⟨h1,h2,h3,h4,h5,h6⟩
    refine Zx (Hx hc T h1 kk h3 h4 h5 (X7 _)) fun r Hz hr=>?_
    obtain ⟨g1,g2⟩:=hr
    cases r with
    | done d =>
     rcases g2 with z | ⟨z1,z2,z3,z4,z5⟩
     ·exact ⟨g1,.inl z⟩
     ·exact ⟨g1,.inr ⟨z1,z2,z3,z4,by omega⟩⟩
    | yield d =>
     obtain ⟨z1,z2,z3,z4,z5⟩:=g2
     exact ⟨g1,z1,z2,z3,z4,by omega⟩
   case C6 =>
    rintro ⟨c1,out,i,j,g,ca,cb⟩ bI ⟨g1,h⟩
    rcases h with ⟨z,hz,hr⟩ | ⟨hz,h1⟩
    ·have pY:c1 = some z:=hz
     subst pY
     exact Yn ⟨g1,z,rfl,hr⟩
    ·have pY:c1 = none:=hz
     subst pY
     exact Yf (mT (Yn ⟨g1.set _,rfl,h1⟩))
theorem MI.zero (rk:Keyed->Nat) (a b:Array Keyed):MI rk a b #[] 0 0:=⟨YD _,YD _,rfl,by simp,.nil,fun x hx=>by simp at hx,fun x hx=>by simp at hx⟩
theorem G9 {st:SortSt} {Q:Array Keyed->SortSt->Prop} (hc:pE prog w A E s rk S kd) (T:sY rk S a b) (ha:1 <= a.size) (hb:1 <= b.size) (kk:kindOf st = kd) (h:∀ r aB,Gq st aB->Res rk a b r->Q r aB) :
  wpS (model prog w) A E s (OE a b) Q st:=by
 rw [FA]
 refine Yf (wpS_lift (ZD ⟨rfl,?_⟩))
 refine Yf (bb hb ?_)
 have e0:b.toList[0]? = some b[0]:=by rw [Ya (show 0 < b.toList.length by rw [Ye]; omega)]; simp
 have M:MI rk a b #[b[0]] 0 1:=(MI.zero rk a b).uu T.sb hb fun y hy=>T.first y (List.mem_of_mem_drop hy) _ e0
 by_cases e:(1 == b.size) = true
 ·rw [if_pos e]
  exact Yn (h _ _ (Gq.refl st) (M.EO T.sa T.sb (.inr (by simpa using e))))
 rw [if_neg e]
 have e':1 ≠ b.size:=by simpa using e
 by_cases f:(0 + 1 == a.size) = true
 ·rw [if_pos f]
  exact Yn (h _ _ (Gq.refl st) (M.Hr T.sa T.sb (by simpa using f) T.last))
 rw [if_neg f]
 have f':0 + 1 ≠ a.size:=by simpa using f
 refine Yf (wpS_get ?_)
 refine Yf (Zx (Zc (I:=fun x (c:L3) aB=>Gq st aB /\ c.1 = none /\ On rk a b x c.2.1 c.2.2.1 c.2.2.2.1)
  (Q:=fun (c:L3) aB=>Gq st aB /\ ∃ z,c.1 = some z /\ Res rk a b z) ?step ?fin ⟨Gq.refl st,rfl,M,(by show 0 + 1 < a.size; omega),(by show 1 < b.size; omega),by show 0 < 1; decide⟩) ?post)
 case fin =>
  rintro c aB ⟨h1,h2,h3,h4,h5,h6⟩
  have:=h3.sz
  omega
 case step =>
  rintro x c aB _ hx ⟨h1,h2,h3,h4,h5,h6⟩
  refine Zx (GK hc T h1 kk h3 h4 h5 (X7 _)) fun r bI hr=>?_
  obtain ⟨g1,g2⟩:=hr
  cases r with
  | done d=>exact ⟨g1,g2⟩
  | yield d =>
   obtain ⟨z1,z2,z3,z4,z5⟩:=g2
   exact ⟨g1,z1,z2,z3,z4,by omega⟩
 case post =>
  rintro ⟨c1,out,i,j,g⟩ aB ⟨g1,z,hz,hr⟩
  have pY:c1 = some z:=hz
  subst pY
  exact Yn (h z aB g1 hr)
end
def NH:Array Keyed->Array Keyed->SM (Array Keyed):=sortPriv% PySem.Builtin.mergeHi
def jb (a b out:Array Keyed) (i j:Nat):Array Keyed:=a.extract 0 i ++ b.extract 0 j ++ out.reverse
def qO (a b out:Array Keyed) (i j:Nat):Array Keyed:=b.extract 0 j ++ a.extract 0 i ++ out.reverse
abbrev H1:=Option (Array Keyed) × Nat × Nat × Array Keyed × Nat × Nat
abbrev H2:=Option (Array Keyed) × Nat × Nat × Array Keyed × Nat × Nat × Nat
abbrev H3:=Option (Array Keyed) × Nat × Nat × Array Keyed × Nat
theorem JE (a b:Array Keyed):NH a b = (do
  rule "list.sort.merge-hi"
  let tt:=a.size + b.size
  let mut i:=a.size - 1
  let mut j:=b.size
  let mut out:Array Keyed:=#[<- elem' a i]
  if i == 0 then return jb a b out i j
  if j == 1 then return qO a b out i j
  let mut g:=gallopOf (<- get)
  for _ in [0:tt] do
   let mut ca:=0
   let mut cb:=0
   for _ in [0:tt] do
    let some aw <- lt' (<- elem' b (j - 1)) (<- elem' a (i - 1)) | return jb a b out i j
    if aw then
     i:=i - 1; out:=out.push (<- elem' a i); ca:=ca + 1; cb:=0
     if i == 0 then return jb a b out i j
     if ca >= g then break
    else
     j:=j - 1; out:=out.push (<- elem' b j); cb:=cb + 1; ca:=0
     if j == 1 then return qO a b out i j
     if cb >= g then break
   rule "list.sort.gallop"
   g:=g + 1
   for _ in [0:tt] do
    if g > 1 then g:=g - 1
    wb g
    let some u6 <- BX false (<- elem' b (j - 1)) a 0 i (i - 1) | return jb a b out i j
    let k:=i - u6
    ca:=k
    if k > 0 then
     out:=out ++ (a.extract u6 i).reverse; i:=u6
     if i == 0 then return jb a b out i j
    j:=j - 1; out:=out.push (<- elem' b j)
    if j == 1 then return qO a b out i j
    let some at2 <- BX true (<- elem' a (i - 1)) b 0 j (j - 1) | return jb a b out i j
    let k:=j - at2
    cb:=k
    if k > 0 then
     out:=out ++ (b.extract at2 j).reverse; j:=at2
     if j == 1 then return qO a b out i j
     if j == 0 then return jb a b out i j
    i:=i - 1; out:=out.push (<- elem' a i)
    if i == 0 then return jb a b out i j
    if ca < 7 && cb < 7 then break
   g:=g + 1
   wb g
  unsupported "internal:list.sort.merge-bound"):=rfl
def Py (a b:Array Keyed) (g i j:Nat) (out:Array Keyed) (ca cb:Nat):SM (ForInStep H1):=do
 let x <- elem' b (j - 1)
 let y <- elem' a (i - 1)
 match <- lt' x y with
 | some aw =>
  if aw = true then do
   let z <- elem' a (i - 1)
   if (i - 1 == 0) = true then pure (.done (some (jb a b (out.push z) (i - 1) j),i - 1,j,out.push z,ca + 1,0))
   else if ca + 1 >= g then pure (.done (none,i - 1,j,out.push z,ca + 1,0))
   else pure (.yield (none,i - 1,j,out.push z,ca + 1,0))
  else do
   let z <- elem' b (j - 1)
   if (j - 1 == 1) = true then pure (.done (some (qO a b (out.push z) i (j - 1)),i,j - 1,out.push z,0,cb + 1))
   else if cb + 1 >= g then pure (.done (none,i,j - 1,out.push z,0,cb + 1))
   else pure (.yield (none,i,j - 1,out.push z,0,cb + 1))
 | _=>pure (.done (some (jb a b out i j),i,j,out,ca,cb))
def NU (a b:Array Keyed) (i j:Nat) (out:Array Keyed) (g ca cb:Nat):SM (ForInStep H2):=do
 let x <- elem' a (i - 1)
 if (i - 1 == 0) = true then pure (.done (some (jb a b (out.push x) (i - 1) j),i - 1,j,out.push x,g,ca,cb))
 else if (decide (ca < 7) && decide (cb < 7)) = true then pure (.done (none,i - 1,j,out.push x,g,ca,cb))
 else pure (.yield (none,i - 1,j,out.push x,g,ca,cb))
def OK (a b:Array Keyed) (i j:Nat) (out:Array Keyed) (g ca cb:Nat):SM (ForInStep H2):=do
 let x <- elem' a (i - 1)
 match <- BX true x b 0 j (j - 1) with
 | some t =>
  if j - t > 0 then
   if (t == 1) = true then pure (.done (some (qO a b (out ++ (b.extract t j).reverse) i t),i,t,out ++ (b.extract t j).reverse,g,ca,j - t))
   else if (t == 0) = true then pure (.done (some (jb a b (out ++ (b.extract t j).reverse) i t),i,t,out ++ (b.extract t j).reverse,g,ca,j - t))
   else NU a b i t (out ++ (b.extract t j).reverse) g ca (j - t)
  else NU a b i j out g ca (j - t)
 | _=>pure (.done (some (jb a b out i j),i,j,out,g,ca,cb))
def NI (a b:Array Keyed) (i j:Nat) (out:Array Keyed) (g ca cb:Nat):SM (ForInStep H2):=do
 let x <- elem' b (j - 1)
 if (j - 1 == 1) = true then pure (.done (some (qO a b (out.push x) i (j - 1)),i,j - 1,out.push x,g,ca,cb))
 else OK a b i (j - 1) (out.push x) g ca cb
def NJ (a b:Array Keyed) (i j:Nat) (out:Array Keyed) (g ca cb:Nat):SM (ForInStep H2):=do
 wb g
 let x <- elem' b (j - 1)
 match <- BX false x a 0 i (i - 1) with
 | some t =>
  if i - t > 0 then
   if (t == 0) = true then pure (.done (some (jb a b (out ++ (a.extract t i).reverse) t j),t,j,out ++ (a.extract t i).reverse,g,i - t,cb))
   else NI a b t j (out ++ (a.extract t i).reverse) g (i - t) cb
  else NI a b i j out g (i - t) cb
 | _=>pure (.done (some (jb a b out i j),i,j,out,g,ca,cb))
def Jf (a b:Array Keyed) (i j:Nat) (out:Array Keyed) (g ca cb:Nat):SM (ForInStep H2):=if g > 1 then NJ a b i j out (g - 1) ca cb else NJ a b i j out g ca cb
def NE (a b:Array Keyed) (i j:Nat) (out:Array Keyed) (g:Nat):SM (ForInStep H3):=do
 let c <- forIn [0:a.size + b.size] ((none,i,j,out,0,0):H1) fun _ c=>Py a b g c.2.1 c.2.2.1 c.2.2.2.1 c.2.2.2.2.1 c.2.2.2.2.2
 match c.1 with
 | some r=>pure (.done (some r,c.2.1,c.2.2.1,c.2.2.2.1,g))
 | none=>do
  rule "list.sort.gallop"
  let d <- forIn [0:a.size + b.size] ((none,c.2.1,c.2.2.1,c.2.2.2.1,g + 1,c.2.2.2.2.1,c.2.2.2.2.2):H2) fun _ d=>Jf a b d.2.1 d.2.2.1 d.2.2.2.1 d.2.2.2.2.1 d.2.2.2.2.2.1 d.2.2.2.2.2.2
  match d.1 with
  | some r=>pure (.done (some r,d.2.1,d.2.2.1,d.2.2.2.1,d.2.2.2.2.1))
  | none=>do
   wb (d.2.2.2.2.1 + 1)
   pure (.yield (none,d.2.1,d.2.2.1,d.2.2.2.1,d.2.2.2.2.1 + 1))
theorem FR (a b:Array Keyed):NH a b = (do
  rule "list.sort.merge-hi"
  let z <- elem' a (a.size - 1)
  if (a.size - 1 == 0) = true then pure (jb a b #[z] (a.size - 1) b.size)
  else if (b.size == 1) = true then pure (qO a b #[z] (a.size - 1) b.size)
  else do
   let st <- get
   let c <- forIn [0:a.size + b.size] ((none,a.size - 1,b.size,#[z],gallopOf st):H3) fun _ c=>NE a b c.2.1 c.2.2.1 c.2.2.2.1 c.2.2.2.2
   match c.1 with
   | some r=>pure r
   | none=>unsupported "internal:list.sort.merge-bound"):=by
 rw [JE]
 refine YX fun _=>YX fun z=>?_
 refine ite_congr rfl (fun _=>rfl) (fun _=>?_)
 refine ite_congr rfl (fun _=>rfl) (fun _=>?_)
 refine YX fun st=>?_
 show (forIn _ _ _ >>= _) = (forIn _ _ _ >>= _)
 refine congr (Zi _ ?_) ?_
 ·refine Zi _ ?_
  funext x c
  rcases c with ⟨r,i,j,out,g⟩
  unfold NE
  show (forIn _ _ _ >>= _) = (forIn _ _ _ >>= _)
  refine YX fun d=>?_
  rcases d with ⟨_ | r,i,j,out,ca,cb⟩
  ·refine YX fun _=>?_
   show (forIn _ _ _ >>= _) = (forIn _ _ _ >>= _)
   refine YX fun e=>?_
   rcases e with ⟨_ | r,i,j,out,g,ca,cb⟩
   ·rfl
   ·rfl
  ·rfl
 ·funext c
  rcases c with ⟨_ | r,i,j,out,g⟩
  ·rfl
  ·rfl
structure MH (rk:Keyed->Nat) (a b out:Array Keyed) (i j:Nat):Prop where
 hi:i <= a.size
 hj:j <= b.size
 sz:out.size + i + j = a.size + b.size
 p:(a.toList.take i ++ (b.toList.take j ++ out.toList.reverse)).Perm (a.toList ++ b.toList)
 s:gb rk out.toList.reverse
 ua:∀ x ∈ a.toList.take i,∀ y ∈ out.toList,rk x <= rk y
 ub:∀ x ∈ b.toList.take j,∀ y ∈ out.toList,rk x <= rk y
section
variable {rk:Keyed->Nat} {a b out:Array Keyed} {i j k t:Nat}
theorem qN (l:List Keyed) {t i:Nat} (h:t <= i):l.take i = l.take t ++ (l.drop t).take (i - t):=by
 have e:i = t + (i - t):=by omega
 conv=>lhs; rw [e,List.take_add]
theorem MH.wS (h:MH rk a b out i j) (sa:gb rk a.toList) (ht:t <= i) (hy:∀ x ∈ b.toList.take j,∀ y ∈ (a.toList.drop t).take (i - t),rk x <= rk y):MH rk a b (out ++ (a.extract t i).reverse) t j:=by
 have e:(out ++ (a.extract t i).reverse).toList = out.toList ++ ((a.toList.drop t).take (i - t)).reverse:=by rw [YT,aak,bR]
 have er:(out ++ (a.extract t i).reverse).toList.reverse = (a.toList.drop t).take (i - t) ++ out.toList.reverse:=by rw [e,List.reverse_append,List.reverse_reverse]
 have ed:=qN a.toList ht
 have ss:gb rk (a.toList.take t ++ (a.toList.drop t).take (i - t)):=by rw [<- ed]; exact sa.sublist (ZA _ _)
 have Fb:=Yr.mp ss
 have sz:=h.sz
 have hi:=h.hi
 refine ⟨by omega,h.hj,by rw [ZB,Array.size_reverse,aaa]; omega,?_,?_,?_,?_⟩
 ·rw [er]
  refine List.Perm.trans ?_ h.p
  rw [ed,Yo]
  refine ZT _ ?_
  rw [<- Yo,<- Yo]
  exact aab _ aae
 ·rw [er]
  refine Yr.mpr ⟨Fb.2.1,h.s,fun x hx y gL=>h.ua x ?_ y (by simpa using gL)⟩
  rw [ed]
  exact YH _ hx
 ·intro x hx y gL
  rw [e] at gL
  rcases Yz.mp gL with z | z
  ·exact h.ua x (by rw [ed]; exact Zu _ hx) y z
  ·exact Fb.2.2 x hx y (by simpa using z)
 ·intro x hx y gL
  rw [e] at gL
  rcases Yz.mp gL with z | z
  ·exact h.ub x hx y z
  ·exact hy x hx y (by simpa using z)
theorem MH.x4 (h:MH rk a b out i j) (sb:gb rk b.toList) (ht:t <= j) (hy:∀ x ∈ a.toList.take i,∀ y ∈ (b.toList.drop t).take (j - t),rk x <= rk y):MH rk a b (out ++ (b.extract t j).reverse) i t:=by
 have e:(out ++ (b.extract t j).reverse).toList = out.toList ++ ((b.toList.drop t).take (j - t)).reverse:=by rw [YT,aak,bR]
 have er:(out ++ (b.extract t j).reverse).toList.reverse = (b.toList.drop t).take (j - t) ++ out.toList.reverse:=by rw [e,List.reverse_append,List.reverse_reverse]
 have ed:=qN b.toList ht
 have ss:gb rk (b.toList.take t ++ (b.toList.drop t).take (j - t)):=by rw [<- ed]; exact sb.sublist (ZA _ _)
 have Fb:=Yr.mp ss
 have sz:=h.sz
 have hj:=h.hj
 refine ⟨h.hi,by omega,by rw [ZB,Array.size_reverse,aaa]; omega,?_,?_,?_,?_⟩
 ·rw [er,<- Yo (b.toList.take t),<- ed]
  exact h.p
 ·rw [er]
  refine Yr.mpr ⟨Fb.2.1,h.s,fun x hx y gL=>h.ub x ?_ y (by simpa using gL)⟩
  rw [ed]
  exact YH _ hx
 ·intro x hx y gL
  rw [e] at gL
  rcases Yz.mp gL with z | z
  ·exact h.ua x hx y z
  ·exact hy x hx y (by simpa using z)
 ·intro x hx y gL
  rw [e] at gL
  rcases Yz.mp gL with z | z
  ·exact h.ub x (by rw [ed]; exact Zu _ hx) y z
  ·exact Fb.2.2 x hx y (by simpa using z)
theorem xG {a out:Array Keyed} {i:Nat} (h0:0 < i) (h:i <= a.size):out.push (a[i - 1]'(by omega)) = out ++ (a.extract (i - 1) i).reverse:=by
 apply Array.toList_inj.mp
 rw [Array.toList_push,YT,aak,bR,show i - (i - 1) = 1 by omega,take1 (l:=a.toList) (by rw [Ye]; omega)]
 simp
theorem MH.uz (h:MH rk a b out i j) (sa:gb rk a.toList) (h0:0 < i) (hy:∀ x ∈ b.toList.take j,rk x <= rk (a[i - 1]'(by have:=h.hi; omega))):MH rk a b (out.push (a[i - 1]'(by have:=h.hi; omega))) (i - 1) j:=by
 have hi:=h.hi
 rw [xG h0 hi]
 refine h.wS sa (by omega) fun x hx y gL=>?_
 rw [show i - (i - 1) = 1 by omega,take1 (l:=a.toList) (by rw [Ye]; omega)] at gL
 rw [YG.mp gL]
 simpa using hy x hx
theorem MH.uu (h:MH rk a b out i j) (sb:gb rk b.toList) (h0:0 < j) (hy:∀ x ∈ a.toList.take i,rk x <= rk (b[j - 1]'(by have:=h.hj; omega))):MH rk a b (out.push (b[j - 1]'(by have:=h.hj; omega))) i (j - 1):=by
 have hj:=h.hj
 rw [xG h0 hj]
 refine h.x4 sb (by omega) fun x hx y gL=>?_
 rw [show j - (j - 1) = 1 by omega,take1 (l:=b.toList) (by rw [Ye]; omega)] at gL
 rw [YG.mp gL]
 simpa using hy x hx
theorem t4 (a b out:Array Keyed) (i j:Nat):(jb a b out i j).toList = a.toList.take i ++ (b.toList.take j ++ out.toList.reverse):=by
 unfold jb
 rw [YT,YT,bR,bR,aak,Yo]
 simp
theorem uj (a b out:Array Keyed) (i j:Nat):(qO a b out i j).toList = b.toList.take j ++ (a.toList.take i ++ out.toList.reverse):=by
 unfold qO
 rw [YT,YT,bR,bR,aak,Yo]
 simp
theorem MH.Dr (h:MH rk a b out i j) (sa:gb rk a.toList) (sb:gb rk b.toList) (e:i = 0 \/ j = 0):Res rk a b (jb a b out i j):=by
 refine ⟨by rw [t4]; exact h.p,?_⟩
 rw [t4]
 refine Yr.mpr ⟨sa.sublist (ZA _ _),Yr.mpr ⟨sb.sublist (ZA _ _),h.s,fun x hx y hy=>h.ub x hx y (by simpa using hy)⟩,fun x hx y hy=>?_⟩
 rcases Yz.mp hy with z | z
 ·rcases e with e | e
  ·rw [e] at hx; simp at hx
  ·rw [e] at z; simp at z
 ·exact h.ua x hx y (by simpa using z)
theorem MH.GM (h:MH rk a b out i j) (sa:gb rk a.toList) (sb:gb rk b.toList) (e:j = 1) (first:∀ y ∈ a.toList,∀ x,b.toList[0]? = some x->rk x <= rk y):Res rk a b (qO a b out i j):=by
 have hj:=h.hj
 refine ⟨?_,?_⟩
 ·rw [uj]
  refine List.Perm.trans ?_ h.p
  rw [<- Yo,<- Yo]
  exact aab _ aae
 ·rw [uj]
  refine Yr.mpr ⟨sb.sublist (ZA _ _),Yr.mpr ⟨sa.sublist (ZA _ _),h.s,fun x hx y hy=>h.ua x hx y (by simpa using hy)⟩,fun x hx y hy=>?_⟩
  have Q4:b.toList[0]? = some x:=by
   rw [e] at hx
   cases hb:b.toList with
   | nil=>rw [hb] at hx; simp at hx
   | cons z r=>rw [hb] at hx; simp at hx; rw [hx]; rfl
  rcases Yz.mp hy with z | z
  ·exact first y (Zt z) x Q4
  ·exact h.ub x hx y (by simpa using z)
theorem nR {l:List Keyed} (h:gb rk l) {i:Nat} (h0:0 < i) (hi:i <= l.length):∀ y ∈ l.take i,rk y <= rk (l[i - 1]'(by omega)):=fun y hy=>by
 obtain ⟨m,hm,rfl⟩:=Zj.mp hy
 have HW:m < i:=by rw [Yt] at hm; omega
 rw [aah]
 exact i9 h (by omega) _
end
section
variable {prog:Program} {w:World} {A:Around} {E:Value->Shared->Prop} {s:Shared} {rk:Keyed->Nat} {S:Keyed->Prop} {kd:SortKind} {a b:Array Keyed} {aK:SortSt}
def CH (rk:Keyed->Nat) (a b:Array Keyed) (n i j:Nat) (out:Array Keyed):Prop:=MH rk a b out i j /\ 0 < i /\ 1 < j /\ n < out.size
def F1 (rk:Keyed->Nat) (a b:Array Keyed) (aK:SortSt) (n:Nat) (r:ForInStep H1) (aB:SortSt):Prop:=Gq aK aB /\ match r with
 | .done c=>(∃ z,c.1 = some z /\ Res rk a b z) \/ (c.1 = none /\ CH rk a b n c.2.1 c.2.2.1 c.2.2.2.1)
 | .yield c=>c.1 = none /\ CH rk a b n c.2.1 c.2.2.1 c.2.2.2.1
def F2 (rk:Keyed->Nat) (a b:Array Keyed) (aK:SortSt) (n:Nat) (r:ForInStep H2) (aB:SortSt):Prop:=Gq aK aB /\ match r with
 | .done c=>(∃ z,c.1 = some z /\ Res rk a b z) \/ (c.1 = none /\ CH rk a b n c.2.1 c.2.2.1 c.2.2.2.1)
 | .yield c=>c.1 = none /\ CH rk a b n c.2.1 c.2.2.1 c.2.2.2.1
theorem Ga {out:Array Keyed} {g i j ca cb n:Nat} {st:SortSt} (hc:pE prog w A E s rk S kd) (T:sY rk S a b) (gq:Gq aK st) (kk:kindOf aK = kd) (M:MH rk a b out i j) (h0:0 < i) (h1:1 < j) (hn:n <= out.size) :
  wpS (model prog w) A E s (Py a b g i j out ca cb) (F1 rk a b aK n) st:=by
 unfold Py
 have hi:=M.hi
 have hj:=M.hj
 have qi:i - 1 < a.size:=by omega
 have qj:j - 1 < b.size:=by omega
 refine Yf (bb qj (Yf (bb qi (Yf (hc _ _ st _ (T.An qj) (T.Af qi) (gq.kind.trans kk) ?_)))))
 dsimp only
 by_cases hb:rk b[j - 1] < rk a[i - 1]
 ·rw [Yi hb,if_pos rfl]
  refine Yf (bb qi ?_)
  have M':=M.uz T.sa h0 fun x hx=>by
   have:=nR T.sb (i:=j) (by omega) (by simpa using hj) x hx
   simp at this
   omega
  by_cases e:(i - 1 == 0) = true
  ·rw [if_pos e]
   exact Yn ⟨gq,.inl ⟨_,rfl,M'.Dr T.sa T.sb (.inl (by simpa using e))⟩⟩
  ·rw [if_neg e]
   have e':i - 1 ≠ 0:=by simpa using e
   have rest:CH rk a b n (i - 1) j (out.push a[i - 1]):=⟨M',by omega,h1,by rw [ZO]; omega⟩
   split
   ·exact Yn ⟨gq,.inr ⟨rfl,rest⟩⟩
   ·exact Yn ⟨gq,rfl,rest⟩
 ·rw [Yw hb,if_neg Yc]
  refine Yf (bb qj ?_)
  have M':=M.uu T.sb (by omega) fun x hx=>by
   have:=nR T.sa (i:=i) h0 (by simpa using hi) x hx
   simp at this
   omega
  by_cases e:(j - 1 == 1) = true
  ·rw [if_pos e]
   exact Yn ⟨gq,.inl ⟨_,rfl,M'.GM T.sa T.sb (by simpa using e) T.first⟩⟩
  ·rw [if_neg e]
   have e':j - 1 ≠ 1:=by simpa using e
   have rest:CH rk a b n i (j - 1) (out.push b[j - 1]):=⟨M',h0,by omega,by rw [ZO]; omega⟩
   split
   ·exact Yn ⟨gq,.inr ⟨rfl,rest⟩⟩
   ·exact Yn ⟨gq,rfl,rest⟩
theorem A8 {out:Array Keyed} {i j g ca cb n:Nat} {st:SortSt} (T:sY rk S a b) (gq:Gq aK st) (M:MH rk a b out i j) (h0:0 < i) (h1:1 < j) (hn:n <= out.size) (ok:∀ x ∈ b.toList.take j,rk x <= rk (a[i - 1]'(by have:=M.hi; omega))) :
  wpS (model prog w) A E s (NU a b i j out g ca cb) (F2 rk a b aK n) st:=by
 unfold NU
 have hi:=M.hi
 have qi:i - 1 < a.size:=by omega
 refine Yf (bb qi ?_)
 have M':=M.uz T.sa h0 ok
 by_cases e:(i - 1 == 0) = true
 ·rw [if_pos e]
  exact Yn ⟨gq,.inl ⟨_,rfl,M'.Dr T.sa T.sb (.inl (by simpa using e))⟩⟩
 ·rw [if_neg e]
  have e':i - 1 ≠ 0:=by simpa using e
  have rest:CH rk a b n (i - 1) j (out.push a[i - 1]):=⟨M',by omega,h1,by rw [ZO]; omega⟩
  split
  ·exact Yn ⟨gq,.inr ⟨rfl,rest⟩⟩
  ·exact Yn ⟨gq,rfl,rest⟩
theorem xU (l:List Keyed) (t i:Nat):((l.drop 0).take i).drop t = (l.drop t).take (i - t):=by rw [List.drop_zero,List.drop_take]
theorem GR {out:Array Keyed} {i j g ca cb n:Nat} {st:SortSt} (hc:pE prog w A E s rk S kd) (T:sY rk S a b) (gq:Gq aK st) (kk:kindOf aK = kd) (M:MH rk a b out i j) (h0:0 < i) (h1:1 < j) (hn:n <= out.size) :
  wpS (model prog w) A E s (OK a b i j out g ca cb) (F2 rk a b aK n) st:=by
 unfold OK
 have hi:=M.hi
 have hj:=M.hj
 have qi:i - 1 < a.size:=by omega
 refine Yf (bb qi (Yf (kI hc (by omega) (by omega) T.Sb (T.Af qi) (gq.kind.trans kk) (by rw [List.drop_zero]; exact T.sb.sublist (ZA _ _)) fun t ht g1 g2=>?_)))
 rw [xU] at g2
 rw [List.drop_zero] at g1
 have GU:∀ x ∈ b.toList.take t,rk x <= rk a[i - 1]:=fun x hx=>by
  have:=g1 x hx
  unfold Pb at this
  simp only [Zw] at this
  omega
 have Mn:∀ x ∈ a.toList.take i,∀ y ∈ (b.toList.drop t).take (j - t),rk x <= rk y:=fun x hx y hy=>by
  have:=g2 y hy
  unfold Pb at this
  simp only [Zw] at this
  have:=nR T.sa (i:=i) h0 (by simpa using hi) x hx
  simp at this
  omega
 dsimp only
 by_cases D8:j - t > 0
 ·rw [if_pos D8]
  have M':=M.x4 T.sb ht Mn
  by_cases e:(t == 1) = true
  ·rw [if_pos e]
   exact Yn ⟨gq,.inl ⟨_,rfl,M'.GM T.sa T.sb (by simpa using e) T.first⟩⟩
  ·rw [if_neg e]
   have e':t ≠ 1:=by simpa using e
   by_cases f:(t == 0) = true
   ·rw [if_pos f]
    exact Yn ⟨gq,.inl ⟨_,rfl,M'.Dr T.sa T.sb (.inr (by simpa using f))⟩⟩
   ·rw [if_neg f]
    have f':t ≠ 0:=by simpa using f
    exact A8 T gq M' h0 (by omega) (by rw [ZB]; omega) GU
 ·rw [if_neg D8]
  have:t = j:=by omega
  subst this
  exact A8 T gq M h0 h1 hn GU
theorem Ap {out:Array Keyed} {i j g ca cb n:Nat} {st:SortSt} (hc:pE prog w A E s rk S kd) (T:sY rk S a b) (gq:Gq aK st) (kk:kindOf aK = kd) (M:MH rk a b out i j) (h0:0 < i) (h1:1 < j) (hn:n <= out.size) (ok:∀ x ∈ a.toList.take i,rk x <= rk (b[j - 1]'(by have:=M.hj; omega))) :
  wpS (model prog w) A E s (NI a b i j out g ca cb) (F2 rk a b aK n) st:=by
 unfold NI
 have hj:=M.hj
 have qj:j - 1 < b.size:=by omega
 refine Yf (bb qj ?_)
 have M':=M.uu T.sb (by omega) ok
 by_cases e:(j - 1 == 1) = true
 ·rw [if_pos e]
  exact Yn ⟨gq,.inl ⟨_,rfl,M'.GM T.sa T.sb (by simpa using e) T.first⟩⟩
 ·rw [if_neg e]
  have e':j - 1 ≠ 1:=by simpa using e
  exact GR hc T gq kk M' h0 (by omega) (by rw [ZO]; omega)
theorem Ah {out:Array Keyed} {i j g ca cb n:Nat} {st:SortSt} (hc:pE prog w A E s rk S kd) (T:sY rk S a b) (gq:Gq aK st) (kk:kindOf aK = kd) (M:MH rk a b out i j) (h0:0 < i) (h1:1 < j) (hn:n <= out.size) :
  wpS (model prog w) A E s (NJ a b i j out g ca cb) (F2 rk a b aK n) st:=by
 unfold NJ
 have hi:=M.hi
 have hj:=M.hj
 have qj:j - 1 < b.size:=by omega
 refine Yf (mT (Yf (bb qj (Yf (kI hc (by omega) (by omega) T.Sa (T.An qj) ((gq.set g).kind.trans kk) (by rw [List.drop_zero]; exact T.sa.sublist (ZA _ _)) fun t ht g1 g2=>?_)))))
 have HK:=gq.set g
 rw [xU] at g2
 rw [List.drop_zero] at g1
 have GU:∀ x ∈ a.toList.take t,rk x <= rk b[j - 1]:=fun x hx=>by
  have:=g1 x hx
  unfold Pb at this
  simpa using this
 have Mn:∀ x ∈ b.toList.take j,∀ y ∈ (a.toList.drop t).take (i - t),rk x <= rk y:=fun x hx y hy=>by
  have:=g2 y hy
  unfold Pb at this
  simp only [Yu,YZ] at this
  have:=nR T.sb (i:=j) (by omega) (by simpa using hj) x hx
  simp at this
  omega
 dsimp only
 by_cases D8:i - t > 0
 ·rw [if_pos D8]
  have M':=M.wS T.sa ht Mn
  by_cases e:(t == 0) = true
  ·rw [if_pos e]
   exact Yn ⟨HK,.inl ⟨_,rfl,M'.Dr T.sa T.sb (.inl (by simpa using e))⟩⟩
  ·rw [if_neg e]
   have e':t ≠ 0:=by simpa using e
   exact Ap hc T HK kk M' (by omega) h1 (by rw [ZB]; omega) GU
 ·rw [if_neg D8]
  have:t = i:=by omega
  subst this
  exact Ap hc T HK kk M h0 h1 hn GU
theorem Hl {out:Array Keyed} {i j g ca cb n:Nat} {st:SortSt} (hc:pE prog w A E s rk S kd) (T:sY rk S a b) (gq:Gq aK st) (kk:kindOf aK = kd) (M:MH rk a b out i j) (h0:0 < i) (h1:1 < j) (hn:n <= out.size) :
  wpS (model prog w) A E s (Jf a b i j out g ca cb) (F2 rk a b aK n) st:=by
 unfold Jf
 split
 ·exact Ah hc T gq kk M h0 h1 hn
 ·exact Ah hc T gq kk M h0 h1 hn
theorem Hv {out:Array Keyed} {i j g n:Nat} {st:SortSt} (hc:pE prog w A E s rk S kd) (T:sY rk S a b) (gq:Gq aK st) (kk:kindOf aK = kd) (M:MH rk a b out i j) (h0:0 < i) (h1:1 < j) (hn:n <= out.size) :
  wpS (model prog w) A E s (NE a b i j out g) (fun r aB=>Gq aK aB /\ match r with | .done c=>∃ z,c.1 = some z /\ Res rk a b z | .yield c=>c.1 = none /\ CH rk a b n c.2.1 c.2.2.1 c.2.2.2.1) st:=by
 unfold NE
 have hi:=M.hi
 have hj:=M.hj
 refine Yf (Zx (Zc (I:=fun x (c:H1) aB=>Gq aK aB /\ c.1 = none /\ MH rk a b c.2.2.2.1 c.2.1 c.2.2.1 /\ 0 < c.2.1 /\ 1 < c.2.2.1 /\ n + min x 1 <= c.2.2.2.1.size)
  (Q:=fun (c:H1) aB=>Gq aK aB /\ ((∃ z,c.1 = some z /\ Res rk a b z) \/ (c.1 = none /\ CH rk a b n c.2.1 c.2.2.1 c.2.2.2.1))) ?step ?fin ⟨gq,rfl,M,h0,h1,by simpa using hn⟩) ?post)
 case fin =>
  rintro c aB ⟨h1,h2,h3,h4,h5,h6⟩
  exact ⟨h1,.inr ⟨h2,h3,h4,h5,by omega⟩⟩
 case step =>
  rintro x c aB _ hx ⟨h1,h2,h3,h4,h5,h6⟩
  refine Zx (Ga hc T h1 kk h3 h4 h5 (X7 _)) fun r bI hr=>?_
  obtain ⟨g1,g2⟩:=hr
  cases r with
  | done d =>
   rcases g2 with z | ⟨z1,z2,z3,z4,z5⟩
   ·exact ⟨g1,.inl z⟩
   ·exact ⟨g1,.inr ⟨z1,z2,z3,z4,by omega⟩⟩
  | yield d =>
   obtain ⟨z1,z2,z3,z4,z5⟩:=g2
   exact ⟨g1,z1,z2,z3,z4,by omega⟩
 case post =>
  rintro ⟨c1,i,j,out,ca,cb⟩ aB ⟨g1,h⟩
  rcases h with ⟨z,hz,hr⟩ | ⟨hz,h1,h2,h3,h4⟩
  ·have pY:c1 = some z:=hz
   subst pY
   exact Yn ⟨g1,z,rfl,hr⟩
  ·have pY:c1 = none:=hz
   subst pY
   dsimp only
   refine Yf (wpS_lift (ZD ⟨rfl,?_⟩))
   refine Yf (Zx (Zc (I:=fun x (c:H2) aB=>Gq aK aB /\ c.1 = none /\ CH rk a b n c.2.1 c.2.2.1 c.2.2.2.1)
    (Q:=fun (c:H2) aB=>Gq aK aB /\ ((∃ z,c.1 = some z /\ Res rk a b z) \/ (c.1 = none /\ CH rk a b n c.2.1 c.2.2.1 c.2.2.2.1))) ?Et (fun c aB h=>⟨h.1,.inr h.2⟩) ⟨g1,rfl,h1,h2,h3,h4⟩) ?C6)
   case Et =>
    rintro x c bI _ hx ⟨h1,h2,h3,h4,h5,h6⟩
    refine Zx (Hl hc T h1 kk h3 h4 h5 (X7 _)) fun r Hz hr=>?_
    obtain ⟨g1,g2⟩:=hr
    cases r with
    | done d =>
     rcases g2 with z | ⟨z1,z2,z3,z4,z5⟩
     ·exact ⟨g1,.inl z⟩
     ·exact ⟨g1,.inr ⟨z1,z2,z3,z4,by omega⟩⟩
    | yield d =>
     obtain ⟨z1,z2,z3,z4,z5⟩:=g2
     exact ⟨g1,z1,z2,z3,z4,by omega⟩
   case C6 =>
    rintro ⟨c1,i,j,out,g,ca,cb⟩ bI ⟨g1,h⟩
    rcases h with ⟨z,hz,hr⟩ | ⟨hz,h1⟩
    ·have pY:c1 = some z:=hz
     subst pY
     exact Yn ⟨g1,z,rfl,hr⟩
    ·have pY:c1 = none:=hz
     subst pY
     exact Yf (mT (Yn ⟨g1.set _,rfl,h1⟩))
theorem MH.zero (rk:Keyed->Nat) (a b:Array Keyed):MH rk a b #[] a.size b.size :=
 ⟨X7 _,X7 _,by simp,by rw [Yj (by simp),Yj (by simp)]; simp,by simp,fun x _ y hy=>by simp at hy,fun x _ y hy=>by simp at hy⟩
theorem FT {st:SortSt} {Q:Array Keyed->SortSt->Prop} (hc:pE prog w A E s rk S kd) (T:sY rk S a b) (ha:1 <= a.size) (hb:1 <= b.size) (kk:kindOf st = kd) (h:∀ r aB,Gq st aB->Res rk a b r->Q r aB) :
  wpS (model prog w) A E s (NH a b) Q st:=by
 rw [FR]
 refine Yf (wpS_lift (ZD ⟨rfl,?_⟩))
 have qa:a.size - 1 < a.size:=by omega
 refine Yf (bb qa ?_)
 have el:a.toList[a.size - 1]? = some a[a.size - 1]:=by rw [Ya (show a.size - 1 < a.toList.length by rw [Ye]; omega)]; simp
 have M:MH rk a b #[a[a.size - 1]] (a.size - 1) b.size:=(MH.zero rk a b).uz T.sa ha fun x hx=>T.last x (Zt hx) _ el
 by_cases e:(a.size - 1 == 0) = true
 ·rw [if_pos e]
  exact Yn (h _ _ (Gq.refl st) (M.Dr T.sa T.sb (.inl (by simpa using e))))
 rw [if_neg e]
 have e':a.size - 1 ≠ 0:=by simpa using e
 by_cases f:(b.size == 1) = true
 ·rw [if_pos f]
  exact Yn (h _ _ (Gq.refl st) (M.GM T.sa T.sb (by simpa using f) T.first))
 rw [if_neg f]
 have f':b.size ≠ 1:=by simpa using f
 refine Yf (wpS_get ?_)
 refine Yf (Zx (Zc (I:=fun x (c:H3) aB=>Gq st aB /\ c.1 = none /\ CH rk a b x c.2.1 c.2.2.1 c.2.2.2.1)
  (Q:=fun (c:H3) aB=>Gq st aB /\ ∃ z,c.1 = some z /\ Res rk a b z) ?step ?fin ⟨Gq.refl st,rfl,M,(by show 0 < a.size - 1; omega),(by show 1 < b.size; omega),by show 0 < 1; decide⟩) ?post)
 case fin =>
  rintro c aB ⟨h1,h2,h3,h4,h5,h6⟩
  have:=h3.sz
  omega
 case step =>
  rintro x c aB _ hx ⟨h1,h2,h3,h4,h5,h6⟩
  refine Zx (Hv hc T h1 kk h3 h4 h5 (X7 _)) fun r bI hr=>?_
  obtain ⟨g1,g2⟩:=hr
  cases r with
  | done d=>exact ⟨g1,g2⟩
  | yield d =>
   obtain ⟨z1,z2,z3,z4,z5⟩:=g2
   exact ⟨g1,z1,z2,z3,z4,by omega⟩
 case post =>
  rintro ⟨c1,i,j,out,g⟩ aB ⟨g1,z,hz,hr⟩
  have pY:c1 = some z:=hz
  subst pY
  exact Yn (h z aB g1 hr)
end
abbrev sg (l:List Keyed) (lo n:Nat):List Keyed:=(l.drop lo).take n
def back (m:Array Keyed) (lo:Nat) (xs:Array Keyed):Array Keyed:=m.toList.zipIdx.foldl (fun a (p,j)=>a.setIfInBounds (lo + j) p) xs
theorem JO (i:Nat):mergeAt' i = (do
  let s <- get
  let (some (sa,na,pw),some (sb,nb,_)):=((pendingOf s)[i]?,(pendingOf s)[i + 1]?) | unsupported "internal:list.sort.pending"
  set (setPending s (((pendingOf s).setIfInBounds i (sa,na + nb,pw)).eraseIdxIfInBounds (i + 1)))
  let some k <- BX false (<- elem' (arrOf s) sb) (arrOf s) sa na 0 | return false
  let (sa,na):=(sa + k,na - k)
  if na == 0 then return true
  let some nb <- BX true (<- elem' (arrOf s) (sa + na - 1)) (arrOf s) sb nb (nb - 1) | return false
  if nb == 0 then return true
  let x:=(arrOf s).extract sa sb
  let y:=(arrOf s).extract sb (sb + nb)
  let m <- if na <= nb then OE x y else NH x y
  modify fun s=>setArr s (back m sa (arrOf s))
  return (failedOf (<- get)).isNone):=rfl
theorem uJ (lo:Nat):∀ (l:List Keyed) (n:Nat) (xs:Array Keyed),lo + n + l.length <= xs.size->((l.zipIdx n).foldl (fun a (p:Keyed × Nat)=>a.setIfInBounds (lo + p.2) p.1) xs).toList = xs.toList.take (lo + n) ++ l ++ xs.toList.drop (lo + n + l.length)
 | [],n,xs,h=>by simp
 | p :: l,n,xs,h=>by
  rw [YW] at h
  rw [List.zipIdx_cons,ZU,uJ lo l (n + 1) _ (by rw [Array.size_setIfInBounds]; omega),Array.toList_setIfInBounds]
  have hl:lo + n < xs.toList.length:=by rw [Ye]; omega
  have e1:(xs.toList.set (lo + n) p).take (lo + (n + 1)) = xs.toList.take (lo + n) ++ [p]:=by
   rw [<- Nat.add_assoc,Yv,List.take_set_of_le (X7 _),List.getElem?_set_self hl]
   rfl
  have e2:(xs.toList.set (lo + n) p).drop (lo + (n + 1) + l.length) = xs.toList.drop (lo + n + (p :: l).length):=by
   rw [List.drop_set_of_lt (by omega),YW]
   congr 1
   omega
  rw [e1,e2]
  simp
theorem BG (m:Array Keyed) (lo:Nat) (xs:Array Keyed) (h:lo + m.size <= xs.size):(back m lo xs).toList = xs.toList.take lo ++ m.toList ++ xs.toList.drop (lo + m.size):=by
 have:=uJ lo m.toList 0 xs (by simpa using h)
 simp at this
 unfold back
 rw [<- Yo] at this
 exact this
theorem jr (l:List Keyed) (lo m n:Nat):sg l lo (m + n) = sg l lo m ++ sg l (lo + m) n:=by
 unfold sg
 rw [List.take_add,Zy]
theorem wo (l:List Keyed) (lo n:Nat):l = l.take lo ++ sg l lo n ++ l.drop (lo + n):=by
 unfold sg
 rw [Yo,<- Zy,ZS,ZS]
theorem Ac (l:List Keyed) (lo k n:Nat) (h:k <= n):(sg l lo n).drop k = sg l (lo + k) (n - k):=by
 unfold sg
 rw [List.drop_take,Zy]
theorem fC (l:List Keyed) (lo n:Nat) (h:lo + n <= l.length):(sg l lo n).length = n:=by
 unfold sg
 rw [Yt,aaq]
 omega
theorem lV (l:List Keyed) (lo n i:Nat) (h:i < n):(sg l lo n)[i]? = l[lo + i]?:=by
 unfold sg
 rw [List.getElem?_take,if_pos h,List.getElem?_drop]
theorem Fd {l:List Keyed} {lo n:Nat} {x:Keyed} (h:x ∈ sg l lo n):x ∈ l:=List.mem_of_mem_drop (Zt h)
theorem F0 {rk:Keyed->Nat} {l:List Keyed} {lo n:Nat} {y:Keyed} (s:gb rk (sg l lo n)) (hy:l[lo]? = some y) (h:lo + n <= l.length):∀ x ∈ sg l lo n,rk y <= rk x:=fun x hx=>by
 obtain ⟨m,hm,e⟩:=Zj.mp hx
 have h0:0 < (sg l lo n).length:=by omega
 have g0:(sg l lo n)[0]? = some y:=by
  rw [lV _ _ _ _ (by rw [fC l lo n h] at h0; exact h0)]
  exact hy
 have:=i9 s (YD m) hm
 rw [Ya h0] at g0
 rw [Y4 g0,e] at this
 exact this
theorem Ag {rk:Keyed->Nat} {l:List Keyed} {lo n:Nat} {y:Keyed} (s:gb rk (sg l lo n)) (hn:1 <= n) (hy:l[lo + n - 1]? = some y) (h:lo + n <= l.length):∀ x ∈ sg l lo n,rk x <= rk y:=fun x hx=>by
 obtain ⟨m,hm,e⟩:=Zj.mp hx
 have len:=fC l lo n h
 have h0:n - 1 < (sg l lo n).length:=by omega
 have g0:(sg l lo n)[n - 1]? = some y:=by
  rw [lV _ _ _ _ (by omega),show lo + (n - 1) = lo + n - 1 by omega]
  exact hy
 have:=i9 s (show m <= n - 1 by omega) h0
 rw [Ya h0] at g0
 rw [Y4 g0,e] at this
 exact this
section
variable {prog:Program} {w:World} {A:Around} {E:Value->Shared->Prop} {s:Shared} {rk:Keyed->Nat} {S:Keyed->Prop} {kd:SortKind}
theorem FC {st aB:SortSt} {Q:PUnit->SortSt->Prop} (h:Q ⟨⟩ aB):wpS (model prog w) A E s (set aB:SM PUnit) Q st:=by
 unfold wpS
 exact X4 ⟨rfl,h⟩
theorem Gh {i sa na pw sb nb K2:Nat} {st:SortSt} {Q:Bool->SortSt->Prop} (hc:pE prog w A E s rk S kd) (kk:kindOf st = kd) (hf:failedOf st = none) (hS:∀ x ∈ (arrOf st).toList,S x)
  (p1:(pendingOf st)[i]? = some (sa,na,pw)) (p2:(pendingOf st)[i + 1]? = some (sb,nb,K2)) (e:sb = sa + na) (n1:1 <= na) (n2:1 <= nb) (hsz:sb + nb <= (arrOf st).size)
  (s1:gb rk (sg (arrOf st).toList sa na)) (s2:gb rk (sg (arrOf st).toList sb nb))
  (h:∀ aB (l:List Keyed),kindOf aB = kd->failedOf aB = none->pendingOf aB = ((pendingOf st).setIfInBounds i (sa,na + nb,pw)).eraseIdxIfInBounds (i + 1)->l.Perm (sg (arrOf st).toList sa (na + nb))->gb rk l ->
   (arrOf aB).toList = (arrOf st).toList.take sa ++ l ++ (arrOf st).toList.drop (sa + (na + nb))->Q true aB):wpS (model prog w) A E s (mergeAt' i) Q st:=by
 rw [JO]
 refine Yf (wpS_get ?_)
 rw [p1,p2]
 dsimp only
 refine Yf (FC ?_)
 have L:(arrOf st).toList.length = (arrOf st).size:=Ye
 have qb:sb < (arrOf st).size:=by omega
 refine Yf (bb qb (Yf (kI hc (by omega) (by omega) hS (hS _ (by simp)) kk s1 fun k hk g1 g2=>?_)))
 dsimp only
 have ky:(arrOf st).toList[sb]? = some (arrOf st)[sb]:=by rw [Ya (by rw [L]; exact qb)]; simp
 generalize (arrOf st)[sb] = y0 at ky g1 g2
 have GU:∀ x ∈ sg (arrOf st).toList sa k,rk x <= rk y0:=fun x hx=>by
  have:=g1 x hx
  unfold Pb at this
  simpa using this
 have Mn:∀ x ∈ sg (arrOf st).toList (sa + k) (na - k),rk y0 < rk x:=fun x hx=>by
  have:=g2 x (by rw [Ac _ _ _ _ hk]; exact hx)
  unfold Pb at this
  simpa using this
 have hd:=F0 s2 ky (by rw [L]; omega)
 have eA:sg (arrOf st).toList sa na = sg (arrOf st).toList sa k ++ sg (arrOf st).toList (sa + k) (na - k):=by
  have:=jr (arrOf st).toList sa k (na - k)
  rw [show k + (na - k) = na by omega] at this
  exact this
 have RD:sg (arrOf st).toList sa (na + nb) = sg (arrOf st).toList sa na ++ sg (arrOf st).toList sb nb:=by rw [jr,e]
 have whole:∀ {aB:SortSt},kindOf aB = kd->failedOf aB = none->pendingOf aB = ((pendingOf st).setIfInBounds i (sa,na + nb,pw)).eraseIdxIfInBounds (i + 1)->arrOf aB = arrOf st->(∀ x ∈ sg (arrOf st).toList sa na,∀ y ∈ sg (arrOf st).toList sb nb,rk x <= rk y)->Q true aB:=fun {aB} a1 a2 a3 a4 a5=>by
  refine h aB (sg (arrOf st).toList sa (na + nb)) a1 a2 a3 (List.Perm.refl _) ?_ (by rw [a4]; exact wo _ _ _)
  rw [RD]
  exact Yr.mpr ⟨s1,s2,a5⟩
 by_cases hz:(na - k == 0) = true
 ·rw [if_pos hz]
  have pY:na - k = 0:=by simpa using hz
  have:k = na:=by omega
  subst this
  exact Yn (whole kk hf rfl rfl fun x hx y hy=>Yh (GU x hx) (hd y hy))
 rw [if_neg hz]
 have pY:na - k ≠ 0:=by simpa using hz
 have qa:sa + k + (na - k) - 1 < (arrOf st).size:=by omega
 refine Yf (bb qa (Yf (kI hc (by omega) (by omega) hS (hS _ (by simp)) kk s2 fun t ht g3 g4=>?_)))
 dsimp only
 have kl:(arrOf st).toList[sa + k + (na - k) - 1]? = some (arrOf st)[sa + k + (na - k) - 1]:=by rw [Ya (by rw [L]; exact qa)]; simp
 generalize (arrOf st)[sa + k + (na - k) - 1] = y1 at kl g3 g4
 have Wz:∀ x ∈ sg (arrOf st).toList sb t,rk x < rk y1:=fun x hx=>by
  have:=g3 x hx
  unfold Pb at this
  simpa using this
 have Rs:∀ x ∈ sg (arrOf st).toList (sb + t) (nb - t),rk y1 <= rk x:=fun x hx=>by
  have:=g4 x (by rw [Ac _ _ _ _ ht]; exact hx)
  unfold Pb at this
  simpa using this
 have RI:=Ag s1 n1 (by rw [show sa + na - 1 = sa + k + (na - k) - 1 by omega]; exact kl) (by rw [L]; omega)
 have eB:sg (arrOf st).toList sb nb = sg (arrOf st).toList sb t ++ sg (arrOf st).toList (sb + t) (nb - t):=by
  have:=jr (arrOf st).toList sb t (nb - t)
  rw [show t + (nb - t) = nb by omega] at this
  exact this
 by_cases hy:(t == 0) = true
 ·rw [if_pos hy]
  have gL:t = 0:=by simpa using hy
  subst gL
  refine Yn (whole kk hf rfl rfl fun x hx y hy=>Yh (RI x hx) (Rs y ?_))
  simpa using hy
 rw [if_neg hy]
 have gL:t ≠ 0:=by simpa using hy
 have tX:((arrOf st).extract (sa + k) sb).toList = sg (arrOf st).toList (sa + k) (na - k):=by rw [bR,show sb - (sa + k) = na - k by omega]
 have tY:((arrOf st).extract sb (sb + t)).toList = sg (arrOf st).toList sb t:=by rw [bR,aaE]
 have zX:((arrOf st).extract (sa + k) sb).size = na - k:=by rw [aaa]; omega
 have zY:((arrOf st).extract sb (sb + t)).size = t:=by rw [aaa]; omega
 have pA:=Yr.mp (eA ▸ s1)
 have pB:=Yr.mp (eB ▸ s2)
 have T:sY rk S ((arrOf st).extract (sa + k) sb) ((arrOf st).extract sb (sb + t)):=by
  refine ⟨by rw [tX]; exact pA.2.1,by rw [tY]; exact pB.1,fun x hx=>hS x (Fd (by rw [<- tX]; exact hx)),fun x hx=>hS x (Fd (by rw [<- tY]; exact hx)),fun y hy x hx=>?_,fun y hy x hx=>?_⟩
  ·rw [tX,zX,lV _ _ _ _ (by omega),show sa + k + (na - k - 1) = sa + k + (na - k) - 1 by omega,kl] at hx
   rw [<- Y4 hx]
   exact aan (Wz y (by rw [<- tY]; exact hy))
  ·rw [tY,lV _ _ _ _ (by omega),Nat.add_zero,ky] at hx
   rw [<- Y4 hx]
   exact aan (Mn y (by rw [<- tX]; exact hy))
 have fin:∀ (m:Array Keyed) (aB:SortSt),Gq (setPending st (((pendingOf st).setIfInBounds i (sa,na + nb,pw)).eraseIdxIfInBounds (i + 1))) aB->Res rk ((arrOf st).extract (sa + k) sb) ((arrOf st).extract sb (sb + t)) m ->
   wpS (model prog w) A E s (do modify fun s=>setArr s (back m (sa + k) (arrOf s)); return (failedOf (<- get)).isNone:SM Bool) Q aB:=by
  rintro m aB ⟨g,rfl⟩ ⟨mp,ms⟩
  rw [tX,tY] at mp
  have zm:m.size = (na - k) + t:=by
   have:=mp.length_eq
   rw [Yx,Ye,fC _ _ _ (by rw [L]; omega),fC _ _ _ (by rw [L]; omega)] at this
   exact this
  refine Yf (aai (Yf (wpS_get (Yn ?_))))
  have OS:(failedOf st).isNone = true:=by rw [hf]; rfl
  show Q (failedOf st).isNone _
  rw [OS]
  refine h _ (sg (arrOf st).toList sa k ++ m.toList ++ sg (arrOf st).toList (sb + t) (nb - t)) kk hf rfl ?_ ?_ ?_
  ·rw [RD,eA,eB]
   refine List.Perm.trans (aab _ (ZT _ mp)) ?_
   simp
  ·refine Yr.mpr ⟨Yr.mpr ⟨pA.1,ms,fun x hx y hy=>?_⟩,pB.2.1,fun x hx y hy=>?_⟩
   ·rcases Yz.mp (mp.mem_iff.mp hy) with z | z
    ·exact pA.2.2 x hx y z
    ·exact Yh (GU x hx) (hd y (by rw [eB]; exact Zu _ z))
   ·rcases Yz.mp hx with z | z
    ·exact Yh (GU x z) (hd y (by rw [eB]; exact YH _ hy))
    ·rcases Yz.mp (mp.mem_iff.mp z) with z | z
     ·exact Yh (RI x (by rw [eA]; exact YH _ z)) (Rs y hy)
     ·exact pB.2.2 x z y hy
  ·show (back m (sa + k) (arrOf st)).toList = _
   rw [BG _ _ _ (by omega),zm]
   have c1:(arrOf st).toList.take (sa + k) = (arrOf st).toList.take sa ++ sg (arrOf st).toList sa k:=List.take_add
   have c2:(arrOf st).toList.drop (sa + k + (na - k + t)) = sg (arrOf st).toList (sb + t) (nb - t) ++ (arrOf st).toList.drop (sa + (na + nb)):=by
    rw [show sa + k + (na - k + t) = sb + t by omega,show sa + (na + nb) = (sb + t) + (nb - t) by omega]
    unfold sg
    rw [<- Zy (i:=nb - t),ZS]
   rw [c1,c2]
   simp
 split
 ·exact Yf (G9 hc T (by rw [zX]; omega) (by rw [zY]; omega) kk fin)
 ·exact Yf (FT hc T (by rw [zX]; omega) (by rw [zY]; omega) kk fin)
end
def kW (xs ys:List Keyed) (lo n:Nat):Prop:=∃ l:List Keyed,l.Perm (sg xs lo n) /\ ys = xs.take lo ++ l ++ xs.drop (lo + n)
theorem kW.refl (xs:List Keyed) (lo n:Nat):kW xs xs lo n:=⟨_,List.Perm.refl _,wo xs lo n⟩
theorem kW.len {xs ys:List Keyed} {lo n:Nat} (h:kW xs ys lo n):ys.length = xs.length:=by
 obtain ⟨l,hp,e⟩:=h
 have h1:=Zi List.length (wo xs lo n)
 rw [e,Yx,Yx,hp.length_eq]
 rw [Yx,Yx] at h1
 omega
theorem kW.perm {xs ys:List Keyed} {lo n:Nat} (h:kW xs ys lo n):ys.Perm xs:=by
 obtain ⟨l,hp,e⟩:=h
 rw [e]
 conv=>rhs; rw [wo xs lo n]
 exact aab _ (ZT _ hp)
theorem kW.parts {xs ys l:List Keyed} {lo n:Nat} (hp:l.Perm (sg xs lo n)) (e:ys = xs.take lo ++ l ++ xs.drop (lo + n)) (h:lo + n <= xs.length):ys.take lo = xs.take lo /\ sg ys lo n = l /\ ys.drop (lo + n) = xs.drop (lo + n):=by
 have l1:(xs.take lo).length = lo:=by rw [Yt]; omega
 have l2:l.length = n:=by rw [hp.length_eq,fC xs lo n h]
 refine ⟨?_,?_,?_⟩
 ·rw [e,Yo,List.take_left' l1]
 ·unfold sg
  rw [e,Yo,List.drop_left' l1,List.take_left' l2]
 ·rw [e,<- Zy,Yo,List.drop_left' l1,List.drop_left' l2]
theorem kW.ahead {xs ys:List Keyed} {lo n p m:Nat} (h:kW xs ys lo n) (hl:lo + n <= xs.length) (hp:p + m <= lo):sg ys p m = sg xs p m:=by
 obtain ⟨l,h1,e⟩:=h
 obtain ⟨e1,_,_⟩:=kW.parts h1 e hl
 have f:∀ zs:List Keyed,sg zs p m = sg (zs.take lo) p m:=fun zs=>by
  unfold sg
  rw [List.drop_take,List.take_take,Nat.min_eq_left (by omega)]
 rw [f ys,f xs,e1]
theorem kW.behind {xs ys:List Keyed} {lo n p m:Nat} (h:kW xs ys lo n) (hl:lo + n <= xs.length) (hp:lo + n <= p):sg ys p m = sg xs p m:=by
 obtain ⟨l,h1,e⟩:=h
 obtain ⟨_,_,e3⟩:=kW.parts h1 e hl
 have f:∀ zs:List Keyed,zs.drop p = (zs.drop (lo + n)).drop (p - (lo + n)):=fun zs=>by rw [Zy]; congr 1; omega
 unfold sg
 rw [f ys,f xs,e3]
theorem kW.trans {xs ys zs:List Keyed} {lo n m:Nat} (h1:kW xs ys lo n) (h2:kW ys zs lo m) (XW:n <= m) (hl:lo + m <= xs.length):kW xs zs lo m:=by
 obtain ⟨l1,p1,e1⟩:=h1
 obtain ⟨l2,p2,e2⟩:=h2
 obtain ⟨a1,a2,a3⟩:=kW.parts p1 e1 (by omega)
 refine ⟨l2,p2.trans ?_,?_⟩
 ·have b1:sg ys lo m = sg ys lo n ++ sg ys (lo + n) (m - n):=by rw [<- jr,show n + (m - n) = m by omega]
  have b2:sg xs lo m = sg xs lo n ++ sg xs (lo + n) (m - n):=by rw [<- jr,show n + (m - n) = m by omega]
  rw [b1,b2,a2]
  refine List.Perm.append p1 ?_
  unfold sg
  rw [a3]
 ·rw [e2,a1]
  congr 1
  have f:∀ zs:List Keyed,zs.drop (lo + m) = (zs.drop (lo + n)).drop (m - n):=fun zs=>by rw [Zy]; congr 1; omega
  rw [f ys,f xs,a3]
structure Sa (st aB:SortSt):Prop where
 k:kindOf aB = kindOf st
 f:failedOf aB = failedOf st
 p:pendingOf aB = pendingOf st
theorem Sa.refl (st:SortSt):Sa st st:=⟨rfl,rfl,rfl⟩
theorem Sa.set {st aB:SortSt} (h:Sa st aB) (xs:Array Keyed):Sa st (setArr aB xs):=⟨h.k,h.f,h.p⟩
theorem wV (xs:Array Keyed) (lo n:Nat) (h:lo + n <= xs.size):(mirror xs lo (lo + n) ((lo + n - lo) / 2)).toList = xs.toList.take lo ++ (sg xs.toList lo n).reverse ++ xs.toList.drop (lo + n):=by
 apply List.ext_getElem?
 intro k
 rw [Y5,getElem?_mirror_all h]
 have L:xs.toList.length = xs.size:=Ye
 have lt:(xs.toList.take lo).length = lo:=by rw [Yt]; omega
 have ls:(sg xs.toList lo n).length = n:=fC _ _ _ (by rw [L]; exact h)
 by_cases h1:k < lo
 ·rw [if_neg (by omega),Yo,Zm (by omega),List.getElem?_take,if_pos h1,Y5]
 by_cases h2:k < lo + n
 ·rw [if_pos ⟨by omega,h2⟩,Yo,YV (by omega),lt,Zm (by rw [List.length_reverse]; omega),List.getElem?_reverse (by omega),ls,lV _ _ _ _ (by omega),Y5]
  congr 1
  omega
 ·rw [if_neg (by omega),YV (by rw [Yx,List.length_reverse]; omega),Yx,List.length_reverse,lt,ls,List.getElem?_drop,Y5]
  congr 1
  omega
theorem wJ (xs:Array Keyed) (lo k l:Nat) (hl:l <= k) (h:lo + k < xs.size):(bubble xs (lo + k) (lo + k - (lo + l))).toList = xs.toList.take lo ++ (sg xs.toList lo l ++ (xs[lo + k]'h :: sg xs.toList (lo + l) (k - l))) ++ xs.toList.drop (lo + (k + 1)):=by
 apply List.ext_getElem?
 intro i
 rw [Y5,getElem?_bubble h _ (by omega)]
 have L:xs.toList.length = xs.size:=Ye
 have lt:(xs.toList.take lo).length = lo:=by rw [Yt]; omega
 have l1:(sg xs.toList lo l).length = l:=fC _ _ _ (by omega)
 have l2:(sg xs.toList (lo + l) (k - l)).length = k - l:=fC _ _ _ (by omega)
 by_cases h1:i < lo
 ·rw [if_neg (by omega),if_neg (by omega),Yo,Zm (by omega),List.getElem?_take,if_pos h1,Y5]
 by_cases h2:i < lo + l
 ·rw [if_neg (by omega),if_neg (by omega),Yo,YV (by omega),lt,Yo,Zm (by omega),lV _ _ _ _ (by omega),Y5]
  congr 1
  omega
 by_cases h3:i = lo + l
 ·rw [if_pos (by omega),Yo,YV (by omega),lt,Yo,YV (by omega),l1,show i - lo - l = 0 by omega]
  simp
 by_cases h4:i <= lo + k
 ·rw [if_neg (by omega),if_pos (by omega),Yo,YV (by omega),lt,Yo,YV (by omega),l1,show i - lo - l = (i - lo - l - 1) + 1 by omega,List.cons_append,List.getElem?_cons_succ,Zm (by omega),lV _ _ _ _ (by omega),Y5]
  congr 1
  omega
 ·rw [if_neg (by omega),if_neg (by omega),YV (by simp only [Yx,YW]; omega),Yx,Yx,YW,lt,l1,l2,List.getElem?_drop,Y5]
  congr 1
  omega
section
variable {prog:Program} {w:World} {A:Around} {E:Value->Shared->Prop} {s:Shared} {rk:Keyed->Nat} {S:Keyed->Prop} {kd:SortKind}
theorem mF {st:SortSt} {i j:Nat} {Q:Option Bool->SortSt->Prop} (hc:pE prog w A E s rk S kd) (kk:kindOf st = kd) (hS:∀ x ∈ (arrOf st).toList,S x) (hi:i < (arrOf st).size) (hj:j < (arrOf st).size)
  (h:Q (some (decide (rk (arrOf st)[i] < rk (arrOf st)[j]))) st):wpS (model prog w) A E s (ltAt' i j) Q st:=by
 rw [ltAt'_eq]
 refine Yf (wpS_get ?_)
 refine Yf (bb hi (Yf (bb hj ?_)))
 exact hc _ _ st Q (hS _ (by simp)) (hS _ (by simp)) kk h
theorem B4 {lo n ok:Nat} {st:SortSt} {Q:Bool->SortSt->Prop} (hc:pE prog w A E s rk S kd) (kk:kindOf st = kd) (hS:∀ x ∈ (arrOf st).toList,S x) (hn:lo + n <= (arrOf st).size) (h1:1 <= ok) (aW:ok <= n) (s1:gb rk (sg (arrOf st).toList lo ok))
  (h:∀ aB,Sa st aB->kW (arrOf st).toList (arrOf aB).toList lo n->gb rk (sg (arrOf aB).toList lo n)->Q true aB):wpS (model prog w) A E s (binarySort' lo n ok) Q st:=by
 rw [binarySort'_eq]
 have L:(arrOf st).toList.length = (arrOf st).size:=Ye
 refine Yf (Zx (Zc (I:=fun k c aB=>c = (none,()) /\ Sa st aB /\ (arrOf aB).size = (arrOf st).size /\ kW (arrOf st).toList (arrOf aB).toList lo (min k n) /\ gb rk (sg (arrOf aB).toList lo (min k n)))
  (Q:=fun c aB=>c = (none,()) /\ Sa st aB /\ kW (arrOf st).toList (arrOf aB).toList lo n /\ gb rk (sg (arrOf aB).toList lo n)) ?step ?fin ?init) ?post)
 case init=>exact ⟨rfl,Sa.refl st,rfl,kW.refl _ _ _,by rw [show min (max ok 1) n = ok by omega]; exact s1⟩
 case fin =>
  rintro c aB ⟨yC,sa,_,pt,so⟩
  rw [show min (max (max ok 1) n) n = n by omega] at pt so
  exact ⟨yC,sa,pt,so⟩
 case post =>
  rintro c aB ⟨rfl,sa,pt,so⟩
  exact Yn (h aB sa pt so)
 case step =>
  rintro k c aB Xq XJ ⟨rfl,sa,sz,pt,so⟩
  rw [show min k n = k by omega] at pt so
  have L':(arrOf aB).toList.length = (arrOf aB).size:=Ye
  have qk:lo + k < (arrOf aB).size:=by omega
  have v9:∀ x ∈ (arrOf aB).toList,S x:=fun x hx=>hS x (pt.perm.mem_iff.mp hx)
  have gk:∀ i (hi:i < k),(sg (arrOf aB).toList lo k)[i]'(by rw [fC _ _ _ (by omega)]; exact hi) = (arrOf aB)[lo + i]'(by omega):=fun i hi=>by
   unfold sg
   rw [aah,ZW]
   simp
  refine Yf (Zx (Zc (I:=fun x c bI=>bI = aB /\ ∃ l r,c = (none,l,r) /\ l <= r /\ r <= k /\ r - l <= k - x /\ (∀ i (hi:i < k),i < l->rk ((arrOf aB)[lo + i]'(by omega)) <= rk (arrOf aB)[lo + k]) /\ (∀ i (hi:i < k),r <= i->rk (arrOf aB)[lo + k] <= rk ((arrOf aB)[lo + i]'(by omega))))
   (Q:=fun c bI=>bI = aB /\ ∃ l r,c = (none,l,r) /\ l <= k /\ (∀ i (hi:i < k),i < l->rk ((arrOf aB)[lo + i]'(by omega)) <= rk (arrOf aB)[lo + k]) /\ (∀ i (hi:i < k),l <= i->rk (arrOf aB)[lo + k] <= rk ((arrOf aB)[lo + i]'(by omega)))) ?Nk ?Pt ?LW) ?Nl)
  case LW=>exact ⟨rfl,0,k,rfl,by omega,by omega,by omega,fun i hi h=>by omega,fun i hi h=>by omega⟩
  case Pt =>
   rintro c bI ⟨rfl,l,r,rfl,a1,a2,a3,a4,a5⟩
   have:l = r:=by omega
   subst this
   exact ⟨rfl,l,l,rfl,a2,a4,a5⟩
  case Nk =>
   rintro x c bI _ hx ⟨rfl,l,r,rfl,a1,a2,a3,a4,a5⟩
   dsimp only
   by_cases vp:l >= r
   ·rw [if_pos vp]
    have:l = r:=by omega
    subst this
    exact Yn ⟨rfl,l,l,rfl,a2,a4,a5⟩
   ·rw [if_neg vp]
    have qm:lo + (l + r) / 2 < (arrOf bI).size:=by omega
    refine Yf (mF hc (sa.k.trans kk) v9 qk qm ?_)
    dsimp only
    by_cases hb:rk (arrOf bI)[lo + k] < rk (arrOf bI)[lo + (l + r) / 2]
    ·rw [Yi hb,if_pos rfl]
     refine Yn ⟨rfl,l,(l + r) / 2,rfl,by omega,by omega,by omega,a4,fun i hi hm=>?_⟩
     have:=i9 so (show (l + r) / 2 <= i from hm) (by rw [fC _ _ _ (by omega)]; exact hi)
     rw [gk _ (by omega),gk i hi] at this
     omega
    ·rw [Yw hb,if_neg Yc]
     refine Yn ⟨rfl,(l + r) / 2 + 1,r,rfl,by omega,by omega,by omega,fun i hi hm=>?_,a5⟩
     have:=i9 so (show i <= (l + r) / 2 by omega) (by rw [fC _ _ _ (by omega)]; omega)
     rw [gk i hi,gk ((l + r) / 2) (by omega)] at this
     omega
  case Nl =>
   rintro c bI ⟨rfl,l,r,rfl,a2,a4,a5⟩
   dsimp only
   rw [moveDown'_eq]
   refine Yf (aai (Yn ?_))
   have bl:=wJ (arrOf bI) lo k l a2 qk
   have es:sg (arrOf bI).toList lo k = sg (arrOf bI).toList lo l ++ sg (arrOf bI).toList (lo + l) (k - l):=by rw [<- jr,show l + (k - l) = k by omega]
   have ek:sg (arrOf bI).toList (lo + k) 1 = [(arrOf bI)[lo + k]]:=by
    unfold sg
    rw [take1 (by rw [L']; exact qk)]
    simp
   have pm:(sg (arrOf bI).toList lo l ++ ((arrOf bI)[lo + k] :: sg (arrOf bI).toList (lo + l) (k - l))).Perm (sg (arrOf bI).toList lo (k + 1)):=by
    rw [jr,es,ek,Yo]
    exact ZT _ (aae (l₁:=[(arrOf bI)[lo + k]]))
   have p2:kW (arrOf bI).toList (bubble (arrOf bI) (lo + k) (lo + k - (lo + l))).toList lo (k + 1):=⟨_,pm,bl⟩
   obtain ⟨_,b2,_⟩:=kW.parts pm bl (by omega)
   refine ⟨rfl,sa.set _,by show (bubble _ _ _).size = _; rw [bubble_size]; exact sz,?_,?_⟩
   ·rw [show min (k + 1) n = k + 1 by omega]
    exact pt.trans p2 (by omega) (by omega)
   ·rw [show min (k + 1) n = k + 1 by omega]
    show gb rk (sg (bubble _ _ _).toList lo (k + 1))
    rw [b2]
    rw [es] at so
    have pw:=Yr.mp so
    refine Yr.mpr ⟨pw.1,YY.mpr ⟨fun y hy=>?_,pw.2.1⟩,fun x hx y hy=>?_⟩
    ·obtain ⟨m,hm,e⟩:=Zj.mp hy
     have HW:m < k - l:=by rw [fC _ _ _ (by omega)] at hm; exact hm
     have:y = (arrOf bI)[lo + (l + m)]'(by omega):=by
      rw [<- e]
      unfold sg
      rw [aah,ZW]
      simp [Nat.add_assoc]
     rw [this]
     exact a5 (l + m) (by omega) (by omega)
    ·obtain ⟨m,hm,e⟩:=Zj.mp hx
     have HW:m < l:=by rw [fC _ _ _ (by omega)] at hm; exact hm
     have ex:x = (arrOf bI)[lo + m]'(by omega):=by
      rw [<- e]
      unfold sg
      rw [aah,ZW]
      simp
     rcases Yb.mp hy with z | z
     ·rw [z,ex]
      exact a4 m (by omega) HW
     ·exact pw.2.2 x hx y z
end
theorem mV (xs:Array Keyed) (lo n:Nat) (h:lo + n < xs.size):sg xs.toList lo (n + 1) = sg xs.toList lo n ++ [xs[lo + n]]:=by
 rw [jr]
 congr 1
 unfold sg
 rw [take1 (by rw [Ye]; exact h)]
 simp
theorem qE {rk:Keyed->Nat} (xs:Array Keyed) (lo n:Nat) (h:lo + n <= xs.size) (h1:1 <= n) (s:gb rk (sg xs.toList lo n)):∀ x ∈ sg xs.toList lo n,rk x <= rk (xs[lo + n - 1]'(by omega)) :=
 Ag s h1 (by rw [Ya (by rw [Ye]; omega)]; simp) (by rw [Ye]; exact h)
theorem HV {rk:Keyed->Nat} {xs:Array Keyed} (nd:(xs.toList.map rk).Nodup) {i j:Nat} (hi:i < xs.size) (hj:j < xs.size) (CK:i ≠ j):rk xs[i] ≠ rk xs[j]:=fun e=>by
 have h:=List.nodup_iff_pairwise_ne.mp nd
 rw [Y2] at h
 rw [List.pairwise_iff_getElem] at h
 rcases Nat.lt_or_gt_of_ne CK with z | z
 ·exact h i j (by rw [Ye]; exact hi) (by rw [Ye]; exact hj) z (by simpa using e)
 ·exact h j i (by rw [Ye]; exact hj) (by rw [Ye]; exact hi) z (by simpa using e.symm)
abbrev AS:=Option (Option Nat) × Nat
abbrev DS:=Option (Option Nat) × Nat × Nat
def asc (lo a bB:Nat):SM AS:=forIn [a:bB] ((none,a):AS) fun _ c=>do
 match <- ltAt' (lo + c.2) (lo + c.2 - 1) with
 | some sm=>if sm = true then pure (.done (none,c.2)) else pure (.yield (none,c.2 + 1))
 | _=>pure (.done (some none,c.2))
def Nq (lo a bB:Nat):SM DS:=forIn [a:bB] ((none,a,0):DS) fun _ c=>do
 match <- ltAt' (lo + c.2.1) (lo + c.2.1 - 1) with
 | some sm =>
  if sm = true then
   if c.2.2 > 0 then do
    reverseSlice' (lo + c.2.1 - (c.2.2 + 1)) (lo + c.2.1)
    pure (.yield (none,c.2.1 + 1,0))
   else pure (.yield (none,c.2.1 + 1,0))
  else do
   match <- ltAt' (lo + c.2.1 - 1) (lo + c.2.1) with
   | some lg=>if lg = true then pure (.done (none,c.2.1,c.2.2)) else pure (.yield (none,c.2.1 + 1,c.2.2 + 1))
   | _=>pure (.done (some none,c.2.1,c.2.2))
 | _=>pure (.done (some none,c.2.1,c.2.2))
def CI (lo n bB:Nat):SM (Option Nat):=do
 reverseSlice' lo (lo + n)
 let c <- asc lo n bB
 match c.1 with
 | some r=>pure r
 | none=>pure (some c.2)
def MY (lo n bB:Nat):SM (Option Nat):=do
 rule "list.sort.descending-run"
 let c <- Nq lo (n + 1) bB
 match c.1 with
 | some r=>pure r
 | none =>
  if c.2.2 > 0 then do
   reverseSlice' (lo + c.2.1 - (c.2.2 + 1)) (lo + c.2.1)
   CI lo c.2.1 bB
  else CI lo c.2.1 bB
theorem Ds (lo bB:Nat):countRun' lo bB = (do
  let c <- asc lo 1 bB
  match c.1 with
  | some r=>pure r
  | none =>
   if (c.2 == bB) = true then pure (some c.2)
   else if c.2 > 1 then do
    match <- ltAt' lo (lo + c.2 - 1) with
    | some MG =>
     if MG = true then pure (some c.2)
     else do
      reverseSlice' lo (lo + c.2)
      MY lo c.2 bB
    | _=>pure none
   else MY lo c.2 bB):=by
 rw [countRun'_eq]
 show (asc lo 1 bB >>= _) = (asc lo 1 bB >>= _)
 refine YX fun c=>?_
 have t2:∀ n,(do
   reverseSlice' lo (lo + n)
   let c <- asc lo n bB
   match c.1 with
   | some r=>pure r
   | none=>pure (some c.2):SM (Option Nat)) = CI lo n bB:=fun n=>rfl
 rcases c with ⟨_ | r,n⟩
 ·refine ite_congr rfl (fun _=>rfl) (fun _=>?_)
  have T1:∀ n,(do
    rule "list.sort.descending-run"
    let c <- Nq lo (n + 1) bB
    match c.1 with
    | some r=>pure r
    | none =>
     if c.2.2 > 0 then do
      reverseSlice' (lo + c.2.1 - (c.2.2 + 1)) (lo + c.2.1)
      CI lo c.2.1 bB
     else CI lo c.2.1 bB:SM (Option Nat)) = MY lo n bB:=fun n=>rfl
  have key:∀ (f:DS->SM (Option Nat)),(∀ r m q,f (some r,m,q) = pure r)->(∀ m q,f (none,m,q) = (if q > 0 then do
      reverseSlice' (lo + m - (q + 1)) (lo + m)
      CI lo m bB
     else CI lo m bB))->(do
    rule "list.sort.descending-run"
    let c <- Nq lo (n + 1) bB
    f c) = MY lo n bB:=fun f h1 h2=>by
   rw [<- T1 n]
   refine YX fun _=>YX fun c=>?_
   rcases c with ⟨_ | r,m,q⟩
   ·exact h2 m q
   ·exact h1 r m q
  have f2:∀ m q,(if q > 0 then (do
       reverseSlice' (lo + m - (q + 1)) (lo + m)
       CI lo m bB:SM (Option Nat)) else CI lo m bB) = (if q > 0 then do
      reverseSlice' (lo + m - (q + 1)) (lo + m)
      CI lo m bB
     else CI lo m bB):=fun _ _=>rfl
  refine ite_congr rfl (fun _=>?_) (fun _=>?_)
  ·refine YX fun x=>?_
   cases x with
   | none=>rfl
   | some MG =>
    refine ite_congr rfl (fun _=>rfl) (fun _=>?_)
    refine YX fun _=>?_
    refine key _ (fun r m q=>rfl) (fun m q=>?_)
    refine ite_congr rfl (fun _=>?_) (fun _=>?_)
    ·refine YX fun _=>YX fun _=>YX fun e=>?_
     rcases e with ⟨_ | r,n⟩
     ·rfl
     ·rfl
    ·refine YX fun _=>YX fun e=>?_
     rcases e with ⟨_ | r,n⟩
     ·rfl
     ·rfl
  ·refine key _ (fun r m q=>rfl) (fun m q=>?_)
   refine ite_congr rfl (fun _=>?_) (fun _=>?_)
   ·refine YX fun _=>YX fun _=>YX fun e=>?_
    rcases e with ⟨_ | r,n⟩
    ·rfl
    ·rfl
   ·refine YX fun _=>YX fun e=>?_
    rcases e with ⟨_ | r,n⟩
    ·rfl
    ·rfl
 ·rfl
section
variable {prog:Program} {w:World} {A:Around} {E:Value->Shared->Prop} {s:Shared} {rk:Keyed->Nat} {S:Keyed->Prop} {kd:SortKind}
theorem As {lo a bB:Nat} {st:SortSt} {Q:AS->SortSt->Prop} (hc:pE prog w A E s rk S kd) (kk:kindOf st = kd) (hS:∀ x ∈ (arrOf st).toList,S x) (h1:1 <= a) (ha:a <= bB) (hn:lo + bB <= (arrOf st).size) (s1:gb rk (sg (arrOf st).toList lo a))
  (h:∀ n,a <= n->n <= bB->gb rk (sg (arrOf st).toList lo n)->(∀ fT:n < bB,rk ((arrOf st)[lo + n]'(by omega)) < rk ((arrOf st)[lo + n - 1]'(by omega)))->Q (none,n) st):wpS (model prog w) A E s (asc lo a bB) Q st:=by
 unfold asc
 refine Zc (I:=fun x c aB=>aB = st /\ c = (none,x) /\ x <= bB /\ gb rk (sg (arrOf st).toList lo x)) ?step ?fin ⟨rfl,rfl,ha,s1⟩
 case fin =>
  rintro c aB ⟨rfl,rfl,hx,hs⟩
  rw [show max a bB = bB by omega] at hs ⊢
  exact h bB ha (X7 _) hs fun fT=>by omega
 case step =>
  rintro x c aB PY hx ⟨rfl,rfl,_,hs⟩
  dsimp only
  refine Yf (mF hc kk hS (by omega) (by omega) ?_)
  dsimp only
  by_cases hb:rk ((arrOf aB)[lo + x]'(by omega)) < rk ((arrOf aB)[lo + x - 1]'(by omega))
  ·rw [Yi hb,if_pos rfl]
   exact Yn (h x PY (by omega) hs fun _=>hb)
  ·rw [Yw hb,if_neg Yc]
   refine Yn ⟨rfl,rfl,by omega,?_⟩
   rw [mV _ _ _ (by omega)]
   refine Yr.mpr ⟨hs,aaF _ _,fun y hy z hz=>?_⟩
   rw [YG.mp hz]
   have:=qE (arrOf aB) lo x (by omega) (by omega) hs y hy
   omega
theorem GI {lo a bB:Nat} {st:SortSt} {Q:DS->SortSt->Prop} (hc:pE prog w A E s rk S kd) (kk:kindOf st = kd) (hS:∀ x ∈ (arrOf st).toList,S x) (nd:((arrOf st).toList.map rk).Nodup) (h1:1 <= a) (ha:a <= bB) (hn:lo + bB <= (arrOf st).size)
  (s1:gb rk (sg (arrOf st).toList lo a).reverse) (h:∀ n,a <= n->n <= bB->gb rk (sg (arrOf st).toList lo n).reverse->Q (none,n,0) st):wpS (model prog w) A E s (Nq lo a bB) Q st:=by
 unfold Nq
 refine Zc (I:=fun x c aB=>aB = st /\ c = (none,x,0) /\ x <= bB /\ gb rk (sg (arrOf st).toList lo x).reverse) ?step ?fin ⟨rfl,rfl,ha,s1⟩
 case fin =>
  rintro c aB ⟨rfl,rfl,hx,hs⟩
  rw [show max a bB = bB by omega] at hs ⊢
  exact h bB ha (X7 _) hs
 case step =>
  rintro x c aB PY hx ⟨rfl,rfl,_,hs⟩
  dsimp only
  refine Yf (mF hc kk hS (by omega) (by omega) ?_)
  dsimp only
  by_cases hb:rk ((arrOf aB)[lo + x]'(by omega)) < rk ((arrOf aB)[lo + x - 1]'(by omega))
  ·rw [Yi hb,if_pos rfl,if_neg (by omega)]
   refine Yn ⟨rfl,rfl,by omega,?_⟩
   rw [mV _ _ _ (by omega),List.reverse_append]
   refine YY.mpr ⟨fun y hy=>?_,hs⟩
   obtain ⟨m,hm⟩:∃ m,x = m + 1:=⟨x - 1,by omega⟩
   subst hm
   rw [mV _ _ _ (by omega),List.reverse_append] at hs hy
   have hp:=YY.mp hs
   have e:lo + (m + 1) - 1 = lo + m:=by omega
   have yB:rk ((arrOf aB)[lo + (m + 1)]'(by omega)) < rk ((arrOf aB)[lo + m]'(by omega)):=by
    have:=hb
    simp only [e] at this
    exact this
   rcases Yb.mp hy with z | z
   ·rw [z]; exact aan yB
   ·exact Yh (aan yB) (hp.1 y z)
  ·rw [Yw hb,if_neg Yc]
   refine Yf (mF hc kk hS (by omega) (by omega) ?_)
   dsimp only
   have oE:=HV nd (show lo + x < (arrOf aB).size by omega) (show lo + x - 1 < (arrOf aB).size by omega) (by omega)
   rw [Yi (show rk ((arrOf aB)[lo + x - 1]'(by omega)) < rk ((arrOf aB)[lo + x]'(by omega)) by omega),if_pos rfl]
   exact Yn (h x PY (by omega) hs)
theorem D6 {lo bB:Nat} {st:SortSt} {Q:Option Nat->SortSt->Prop} (hc:pE prog w A E s rk S kd) (kk:kindOf st = kd) (hS:∀ x ∈ (arrOf st).toList,S x) (nd:((arrOf st).toList.map rk).Nodup) (h1:1 <= bB) (hn:lo + bB <= (arrOf st).size)
  (h:∀ n aB,1 <= n->n <= bB->Sa st aB->kW (arrOf st).toList (arrOf aB).toList lo n->gb rk (sg (arrOf aB).toList lo n)->Q (some n) aB):wpS (model prog w) A E s (countRun' lo bB) Q st:=by
 rw [Ds]
 have L:(arrOf st).toList.length = (arrOf st).size:=Ye
 have one:∀ (xs:Array Keyed) (p:Nat),gb rk (sg xs.toList p 1):=fun xs p=>by
  unfold sg
  cases hd:xs.toList.drop p with
  | nil=>exact .nil
  | cons y r=>exact aaF _ _
 refine Yf (As hc kk hS (X7 _) h1 hn (one _ _) fun n n1 n2 s1 brk=>?_)
 dsimp only
 by_cases e:(n == bB) = true
 ·rw [if_pos e]
  exact Yn (h n st n1 n2 (Sa.refl st) (kW.refl _ _ _) s1)
 rw [if_neg e]
 have e':n ≠ bB:=by simpa using e
 by_cases N8:n > 1
 ·rw [if_pos N8]
  refine Yf (mF hc kk hS (by omega) (by omega) ?_)
  have hle:rk ((arrOf st)[lo]'(by omega)) <= rk ((arrOf st)[lo + n - 1]'(by omega)):=by
   refine qE (arrOf st) lo n (by omega) n1 s1 _ ?_
   obtain ⟨m,hm⟩:∃ m,n = 1 + m:=⟨n - 1,by omega⟩
   rw [hm,jr]
   refine Zu _ ?_
   unfold sg
   rw [take1 (by rw [L]; omega)]
   simp
  have oE:=HV nd (show lo < (arrOf st).size by omega) (show lo + n - 1 < (arrOf st).size by omega) (by omega)
  dsimp only
  rw [Yi (show rk ((arrOf st)[lo]'(by omega)) < rk ((arrOf st)[lo + n - 1]'(by omega)) by omega),if_pos rfl]
  exact Yn (h n st n1 n2 (Sa.refl st) (kW.refl _ _ _) s1)
 rw [if_neg N8]
 have:n = 1:=by omega
 subst this
 unfold MY
 refine Yf (wpS_lift (ZD ⟨rfl,?_⟩))
 have b1:=brk (by omega)
 have s2:gb rk (sg (arrOf st).toList lo 2).reverse:=by
  rw [mV _ _ 1 (by omega),mV _ _ 0 (by omega)]
  have e0:sg (arrOf st).toList lo 0 = []:=by unfold sg; simp
  rw [e0]
  refine YY.mpr ⟨fun y hy=>?_,aaF _ _⟩
  have gL:y = (arrOf st)[lo + 0]'(by omega):=by simpa using hy
  rw [gL]
  have:=b1
  simp only [Nat.add_sub_cancel] at this
  exact aan this
 refine Yf (GI hc kk hS nd (by omega) (by omega) hn s2 fun m m1 m2 s3=>?_)
 dsimp only
 rw [if_neg (by omega)]
 unfold CI
 rw [reverseSlice'_eq]
 refine Yf (aai ?_)
 have ml:=wV (arrOf st) lo m (by omega)
 have pm:(sg (arrOf st).toList lo m).reverse.Perm (sg (arrOf st).toList lo m):=List.reverse_perm _
 have pt:kW (arrOf st).toList (mirror (arrOf st) lo (lo + m) ((lo + m - lo) / 2)).toList lo m:=⟨_,pm,ml⟩
 obtain ⟨_,p2,_⟩:=kW.parts pm ml (by omega)
 have Wj:(mirror (arrOf st) lo (lo + m) ((lo + m - lo) / 2)).size = (arrOf st).size:=mirror_size _ _ _ _
 refine Yf (As (st:=setArr st (mirror (arrOf st) lo (lo + m) ((lo + m - lo) / 2))) hc kk (fun x hx=>hS x (pt.perm.mem_iff.mp hx)) (by omega) m2 (by show lo + bB <= (mirror _ _ _ _).size; rw [Wj]; exact hn) (by rw [p2]; exact s3) fun n n1 n2 s4 _=>?_)
 dsimp only
 refine Yn (h n _ (by omega) n2 ((Sa.refl st).set _) ?_ s4)
 exact pt.trans (kW.refl _ _ _) n1 (by omega)
end
def Ch:Nat->List (Nat × Nat)->Nat->Prop
 | a,[],b=>a = b
 | a,x :: r,b=>x.1 = a /\ 1 <= x.2 /\ Ch (a + x.2) r b
theorem Ch.le:∀ {p:List (Nat × Nat)} {a b:Nat},Ch a p b->a + p.length <= b
 | [],a,b,h=>by cases h; simp
 | x :: r,a,b,h=>by have:=h.2.2.le; have:=h.2.1; simp only [YW]; omega
theorem Ch.app:∀ {p q:List (Nat × Nat)} {a b:Nat},Ch a (p ++ q) b ↔ ∃ m,Ch a p m /\ Ch m q b
 | [],q,a,b=>⟨fun h=>⟨a,rfl,h⟩,fun ⟨m,e,h⟩=>by cases e; exact h⟩
 | x :: r,q,a,b=>by
  constructor
  ·intro h
   obtain ⟨m,h1,h2⟩:=Ch.app.1 h.2.2
   exact ⟨m,⟨h.1,h.2.1,h1⟩,h2⟩
  ·rintro ⟨m,h1,h2⟩
   exact ⟨h1.1,h1.2.1,Ch.app.2 ⟨m,h1.2.2,h2⟩⟩
theorem Ch.mem:∀ {p:List (Nat × Nat)} {a b:Nat},Ch a p b->∀ q ∈ p,a <= q.1 /\ q.1 + q.2 <= b
 | [],a,b,h,q,hq=>by cases hq
 | x :: r,a,b,h,q,hq=>by
  have hb:=h.2.2.le
  rcases Yb.1 hq with rfl | hq
  ·have:=h.1; exact ⟨by omega,by omega⟩
  ·have:=h.2.2.mem q hq
   exact ⟨by omega,this.2⟩
abbrev yy (p:Array (Nat × Nat × Nat)):List (Nat × Nat):=p.toList.map fun q=>(q.1,q.2.1)
section
variable {prog:Program} {w:World} {A:Around} {E:Value->Shared->Prop} {s:Shared} {rk:Keyed->Nat} {S:Keyed->Prop} {kd:SortKind} {a₀:Array Keyed}
structure Inv (rk:Keyed->Nat) (kd:SortKind) (a₀:Array Keyed) (lo:Nat) (st:SortSt):Prop where
 k:kindOf st = kd
 f:failedOf st = none
 pm:(arrOf st).toList.Perm a₀.toList
 le:lo <= a₀.size
 ch:Ch 0 (yy (pendingOf st)) lo
 so:∀ q ∈ yy (pendingOf st),gb rk (sg (arrOf st).toList q.1 q.2)
theorem Inv.sz {lo:Nat} {st:SortSt} (I:Inv rk kd a₀ lo st):(arrOf st).size = a₀.size:=by
 have:=I.pm.length_eq
 simpa using this
theorem Inv.put {lo n:Nat} {st aB:SortSt} (I:Inv rk kd a₀ lo st) (a:Sa st aB) (P:kW (arrOf st).toList (arrOf aB).toList lo n) (h:lo + n <= a₀.size):Inv rk kd a₀ lo aB:=by
 refine ⟨a.k.trans I.k,a.f.trans I.f,P.perm.trans I.pm,I.le,by rw [a.p]; exact I.ch,fun q hq=>?_⟩
 rw [a.p] at hq
 have hb:=(I.ch.mem q hq).2
 rw [P.ahead (by have:=I.sz; simp; omega) hb]
 exact I.so q hq
theorem rh {i lo:Nat} {st:SortSt} {Q:Bool->SortSt->Prop} (hc:pE prog w A E s rk S kd) (hS:∀ x ∈ a₀.toList,S x) (I:Inv rk kd a₀ lo st) (hi:i + 1 < (pendingOf st).size)
  (h:∀ aB,Inv rk kd a₀ lo aB->(pendingOf aB).size + 1 = (pendingOf st).size->(∀ p m,lo <= p->sg (arrOf aB).toList p m = sg (arrOf st).toList p m)->Q true aB):wpS (model prog w) A E s (mergeAt' i) Q st:=by
 obtain ⟨⟨sa,na,pw⟩,e1⟩:∃ x,(pendingOf st)[i]? = some x:=⟨_,getElem?_pos _ i (by omega)⟩
 obtain ⟨⟨sb,nb,K2⟩,e2⟩:∃ x,(pendingOf st)[i + 1]? = some x:=⟨_,getElem?_pos _ (i + 1) hi⟩
 obtain ⟨pre,post,ep,el⟩:∃ pre post,(pendingOf st).toList = pre ++ (sa,na,pw) :: (sb,nb,K2) :: post /\ pre.length = i:=by
  have f1:(pendingOf st).toList[i]? = some (sa,na,pw):=by simpa using e1
  have f2:(pendingOf st).toList[i + 1]? = some (sb,nb,K2):=by simpa using e2
  obtain ⟨l1,g1⟩:=Ys.1 f1
  obtain ⟨l2,g2⟩:=Ys.1 f2
  refine ⟨(pendingOf st).toList.take i,(pendingOf st).toList.drop (i + 2),?_,by rw [Yt]; omega⟩
  conv=>lhs; rw [<- ZS i (pendingOf st).toList,aar l1,aar l2,g1,g2]
 have ch:=I.ch
 have so:=I.so
 unfold yy at ch so
 rw [ep,Yd,Yq,Yq] at ch so
 obtain ⟨m,c1,c2⟩:=Ch.app.1 ch
 obtain ⟨rfl,n1,c3⟩:=c2
 obtain ⟨rfl,n2,c4⟩:=c3
 dsimp only at *
 have XX:=c4.le
 have LE:=I.le
 have SZ:=I.sz
 have L:(arrOf st).toList.length = (arrOf st).size:=Ye
 refine Gh hc I.k I.f (fun x hx=>hS x (I.pm.mem_iff.1 hx)) e1 e2 rfl n1 n2 (by omega) (so (sa,na) (by simp)) (so (sa + na,nb) (by simp)) fun aB l k' f' p' lp ls al=>?_
 have P:kW (arrOf st).toList (arrOf aB).toList sa (na + nb):=⟨l,lp,al⟩
 have CL:(pendingOf aB).toList = pre ++ (sa,na + nb,pw) :: post:=by
  rw [p',Array.toList_eraseIdxIfInBounds,Array.toList_setIfInBounds,ep,List.set_append_right _ _ (by omega),el,Nat.sub_self,List.set_cons_zero,List.eraseIdx_append_of_length_le (by omega),el,
   show i + 1 - i = 1 by omega]
  rfl
 refine h aB ⟨k',f',P.perm.trans I.pm,I.le,?_,fun q hq=>?_⟩ ?_ fun p m hp=>P.behind (by omega) (by omega)
 ·unfold yy
  rw [CL,Yd,Yq]
  exact Ch.app.2 ⟨_,c1,rfl,by dsimp only; omega,by dsimp only; rw [<- Nat.add_assoc]; exact c4⟩
 ·unfold yy at hq
  rw [CL,Yd,Yq] at hq
  rcases Yz.1 hq with hq | hq
  ·have:=(c1.mem q hq).2
   rw [P.ahead (by omega) this]
   exact so q (Zu _ hq)
  ·rcases Yb.1 hq with rfl | hq
   ·have:=(kW.parts lp al (by omega)).2.1
    dsimp only
    rw [this]
    exact ls
   ·have:=(c4.mem q hq).1
    rw [P.behind (by omega) (by omega)]
    exact so q (YH _ (X8 _ (X8 _ hq)))
 ·rw [<- Ye,<- Ye (xs:=pendingOf st),CL,ep]
  simp only [Yx,YW]
  omega
end
section
variable {prog:Program} {w:World} {A:Around} {E:Value->Shared->Prop} {s:Shared} {rk:Keyed->Nat} {S:Keyed->Prop} {kd:SortKind} {a₀:Array Keyed}
structure Es (rk:Keyed->Nat) (kd:SortKind) (a₀:Array Keyed) (lo n:Nat) (st:SortSt):Prop where
 I:Inv rk kd a₀ lo st
 n1:1 <= n
 le:lo + n <= a₀.size
 so:gb rk (sg (arrOf st).toList lo n)
theorem Es.push {lo n:Nat} {st:SortSt} (C:Es rk kd a₀ lo n st):Inv rk kd a₀ (lo + n) (setPending st ((pendingOf st).push (lo,n,0))):=by
 have e:yy (pendingOf (setPending st ((pendingOf st).push (lo,n,0)))) = yy (pendingOf st) ++ [(lo,n)]:=by
  show yy ((pendingOf st).push (lo,n,0)) = _
  unfold yy
  rw [Array.toList_push,Yd]
  rfl
 refine ⟨C.I.k,C.I.f,C.I.pm,C.le,?_,fun q hq=>?_⟩
 ·rw [e]
  exact Ch.app.2 ⟨lo,C.I.ch,rfl,C.n1,rfl⟩
 ·rw [e] at hq
  rcases Yz.1 hq with hq | hq
  ·exact C.I.so q hq
  ·cases YG.1 hq
   exact C.so
theorem qH (f:Nat × Nat × Nat->Nat × Nat × Nat) (hf:∀ q,((f q).1,(f q).2.1) = (q.1,q.2.1)):∀ (l:List (Nat × Nat × Nat)) (i:Nat),(l.modify i f).map (fun q=>(q.1,q.2.1)) = l.map fun q=>(q.1,q.2.1)
 | [],i=>by cases i <;> rfl
 | x :: r,0=>by rw [List.modify_zero_cons,Yq,Yq]; exact Zi (· :: _) (hf x)
 | x :: r,i + 1=>by rw [List.modify_succ_cons,Yq,Yq,qH f hf r i]
theorem Es.pow {lo n pw:Nat} {st:SortSt} (C:Es rk kd a₀ lo n st):Es rk kd a₀ lo n (setPending st ((pendingOf st).modify ((pendingOf st).size - 1) fun q=>(q.1,q.2.1,pw))):=by
 have e:yy ((pendingOf st).modify ((pendingOf st).size - 1) fun q=>(q.1,q.2.1,pw)) = yy (pendingOf st):=by
  unfold yy
  rw [Array.toList_modify]
  exact qH (fun q=>(q.1,q.2.1,pw)) (fun q=>rfl) _ _
 refine ⟨⟨C.I.k,C.I.f,C.I.pm,C.I.le,?_,fun q hq=>?_⟩,C.n1,C.le,C.so⟩
 ·show Ch 0 (yy _) lo
  rw [e]
  exact C.I.ch
 ·have hq:q ∈ yy ((pendingOf st).modify ((pendingOf st).size - 1) fun q=>(q.1,q.2.1,pw)):=hq
  rw [e] at hq
  exact C.I.so q hq
theorem xQ {st:SortSt} {Q:Unit->SortSt->Prop} (hc:pE prog w A E s rk S kd) (hS:∀ x ∈ a₀.toList,S x) (nd:(a₀.toList.map rk).Nodup) (kk:kindOf st = kd) (hf:failedOf st = none) (ha:arrOf st = a₀) (hp:pendingOf st = #[])
  (h:∀ aB,(arrOf aB).toList.Perm a₀.toList->failedOf aB = none->gb rk (arrOf aB).toList->Q () aB):wpS (model prog w) A E s sortRuns' Q st:=by
 rw [sortRuns'_eq]
 refine Yf (wpS_get ?_)
 dsimp only
 simp only [ha]
 have I0:Inv rk kd a₀ 0 st:=⟨kk,hf,by rw [ha],YD _,by rw [hp]; rfl,by rw [hp]; intro q hq; cases hq⟩
 refine Yf (Zx (Zc
  (I:=fun x c aB=>∃ lo,c = (none,lo) /\ (x <= lo \/ lo = a₀.size) /\ Inv rk kd a₀ lo aB)
  (Q:=fun c aB=>c = (none,a₀.size) /\ Inv rk kd a₀ a₀.size aB) ?step ?fin ⟨0,rfl,.inl (X7 _),I0⟩) ?post)
 case fin =>
  rintro c aB ⟨lo,rfl,hx,I⟩
  have:lo = a₀.size:=by have:=I.le; omega
  subst this
  exact ⟨rfl,I⟩
 case step =>
  rintro x c aB _ hx ⟨lo,rfl,XH,I⟩
  dsimp only
  by_cases vp:lo >= a₀.size
  ·rw [if_pos vp]
   have:lo = a₀.size:=by have:=I.le; omega
   subst this
   exact Yn ⟨rfl,I⟩
  rw [if_neg vp]
  have v9:∀ aB,Inv rk kd a₀ lo aB->∀ x ∈ (arrOf aB).toList,S x:=fun aB I x hx=>hS x (I.pm.mem_iff.1 hx)
  have VC:((arrOf aB).toList.map rk).Nodup:=((I.pm.map rk).nodup_iff).2 nd
  refine Yf (D6 hc I.k (v9 _ I) VC (by omega) (by have:=I.sz; omega) fun n Ib n1 n2 a2 P2 s2=>?_)
  dsimp only
  have C2:Es rk kd a₀ lo n Ib:=⟨I.put a2 P2 (by omega),n1,by omega,s2⟩
  by_cases fT:n < minRun' a₀.size a₀.size 0
  ·rw [if_pos fT]
   refine Yf (wpS_lift (ZD ⟨rfl,?_⟩))
   refine Yf (B4 hc C2.I.k (v9 _ C2.I) (by have:=C2.I.sz; omega) n1 (by omega) s2 fun Hz a3 P3 s3=>?_)
   simp only [Y8,Yu,YZ]
   have C3:Es rk kd a₀ lo (min (a₀.size - lo) (minRun' a₀.size a₀.size 0)) Hz:=⟨C2.I.put a3 P3 (by omega),by omega,by omega,s3⟩
   refine Yf (wpS_get ?_)
   cases hb:(pendingOf Hz).back? with
   | none =>
    dsimp only
    exact Yf (aai (Yn ⟨_,rfl,by have:=C3.n1; omega,C3.push⟩))
   | some y =>
    obtain ⟨s1,Rw,VS⟩:=y
    dsimp only
    refine Yf (Zx (Zc (I:=fun _ c tR=>c = (none,()) /\ Es rk kd a₀ lo (min (a₀.size - lo) (minRun' a₀.size a₀.size 0)) tR) (Q:=fun c tR=>c = (none,()) /\ Es rk kd a₀ lo (min (a₀.size - lo) (minRun' a₀.size a₀.size 0)) tR) ?_ (fun _ _ hh=>hh) ⟨rfl,C3⟩) ?_)
    ·rintro z c tR _ _ ⟨rfl,C4⟩
     refine Yf (wpS_get ?_)
     by_cases HX:(pendingOf tR).size > 1
     ·rw [if_pos HX]
      obtain ⟨⟨q1,q2,L0⟩,eq⟩:∃ q,(pendingOf tR)[(pendingOf tR).size - 2]? = some q:=⟨_,getElem?_pos _ _ (by omega)⟩
      rw [eq]
      dsimp only
      split
      ·exact Yn ⟨rfl,C4⟩
      ·refine Yf (rh hc hS C4.I (by omega) fun Mq I5 _ b5=>?_)
       simp only [Y8,Yu,YZ]
       exact Yn ⟨rfl,I5,C4.n1,C4.le,by rw [b5 lo _ (X7 _)]; exact C4.so⟩
     ·rw [if_neg HX]
      exact Yn ⟨rfl,C4⟩
    ·rintro c tR ⟨rfl,C4⟩
     dsimp only
     exact Yf (aai (Yf (aai (Yn ⟨_,rfl,by have:=C3.n1; omega,C4.pow.push⟩))))
  ·rw [if_neg fT]
   refine Yf (wpS_get ?_)
   cases hb:(pendingOf Ib).back? with
   | none =>
    dsimp only
    exact Yf (aai (Yn ⟨_,rfl,by have:=C2.n1; omega,C2.push⟩))
   | some y =>
    obtain ⟨s1,Rw,VS⟩:=y
    dsimp only
    refine Yf (Zx (Zc (I:=fun _ c tR=>c = (none,()) /\ Es rk kd a₀ lo n tR) (Q:=fun c tR=>c = (none,()) /\ Es rk kd a₀ lo n tR) ?_ (fun _ _ hh=>hh) ⟨rfl,C2⟩) ?_)
    ·rintro z c tR _ _ ⟨rfl,C4⟩
     refine Yf (wpS_get ?_)
     by_cases HX:(pendingOf tR).size > 1
     ·rw [if_pos HX]
      obtain ⟨⟨q1,q2,L0⟩,eq⟩:∃ q,(pendingOf tR)[(pendingOf tR).size - 2]? = some q:=⟨_,getElem?_pos _ _ (by omega)⟩
      rw [eq]
      dsimp only
      split
      ·exact Yn ⟨rfl,C4⟩
      ·refine Yf (rh hc hS C4.I (by omega) fun Mq I5 _ b5=>?_)
       simp only [Y8,Yu,YZ]
       exact Yn ⟨rfl,I5,C4.n1,C4.le,by rw [b5 lo _ (X7 _)]; exact C4.so⟩
     ·rw [if_neg HX]
      exact Yn ⟨rfl,C4⟩
    ·rintro c tR ⟨rfl,C4⟩
     dsimp only
     exact Yf (aai (Yf (aai (Yn ⟨_,rfl,by have:=C2.n1; omega,C4.pow.push⟩))))
 case post =>
  rintro c aB ⟨rfl,I⟩
  dsimp only
  have LP:(pendingOf aB).size <= a₀.size:=by
   have:=I.ch.le
   rw [X6,Ye] at this
   omega
  refine Yf (Zx (Zc (I:=fun x c bI=>c = (none,()) /\ Inv rk kd a₀ a₀.size bI /\ (pendingOf bI).size - 1 <= a₀.size - x) (Q:=fun c bI=>c = (none,()) /\ Inv rk kd a₀ a₀.size bI /\ (pendingOf bI).size <= 1) ?_ ?_ ⟨rfl,I,by omega⟩) ?_)
  ·rintro x c bI _ hx ⟨rfl,I,hm⟩
   refine Yf (wpS_get ?_)
   by_cases h1:(pendingOf bI).size <= 1
   ·rw [if_pos h1]
    exact Yn ⟨rfl,I,h1⟩
   rw [if_neg h1]
   refine Yf (rh hc hS I ?_ fun Hz I3 e3 _=>?_)
   ·have:∀ (c:Prop) [Decidable c] (a b:Nat),(if c then a - b else a) <= a:=fun c _ a b=>by split <;> omega
    have:=this (Option.any (fun x=>decide (x < ((pendingOf bI)[(pendingOf bI).size - 2 + 1]?.elim 0 fun x=>x.2.1))) (if (pendingOf bI).size - 2 > 0 then (pendingOf bI)[(pendingOf bI).size - 2 - 1]?.map fun x=>x.2.1 else none) = true) ((pendingOf bI).size - 2) 1
    omega
   ·simp only [Y8,Yu,YZ]
    exact Yn ⟨rfl,I3,by omega⟩
  ·rintro c bI ⟨rfl,I,hm⟩
   exact ⟨rfl,I,by omega⟩
  ·rintro c bI ⟨rfl,I,h1⟩
   refine Yn (h _ I.pm I.f ?_)
   have SZ:=I.sz
   have ch:=I.ch
   have so:=I.so
   have lp:(yy (pendingOf bI)).length <= 1:=by rw [X6,Ye]; exact h1
   cases hp:yy (pendingOf bI) with
   | nil =>
    rw [hp] at ch
    have:(arrOf bI).toList = []:=List.eq_nil_of_length_eq_zero (by rw [Ye,SZ]; exact ch.symm)
    rw [this]
    exact .nil
   | cons y r =>
    rw [hp] at ch lp so
    have:r = []:=List.eq_nil_of_length_eq_zero (by simp only [YW] at lp; omega)
    subst this
    obtain ⟨e1,_,e2⟩:=ch
    have:=so y (X9)
    rw [e1] at this
    have e2:0 + y.2 = a₀.size:=e2
    unfold sg at this
    rw [List.drop_zero,Yj (by rw [Ye]; omega)] at this
    exact this
end
end SO
namespace L2
open PySem PySem.Spec PyProof.Rows
theorem nI {c:Str->NameKind->Bool}:∀ (names:List (Str × NameKind)) (x:Str),
  (names.map fun (n,k)=>if c n k then (n,NameKind.cell) else (n,k)).lookup x = (names.lookup x).map fun k=>if c x k then NameKind.cell else k
 | [],_=>rfl
 | (n,k) :: r,x=>by
  have ih:=nI (c:=c) r x
  show List.lookup x ((if c n k = true then (n,NameKind.cell) else (n,k)) :: _) = _
  cases hx:x == n with
  | true =>
   have e:x = n:=eq_of_beq hx
   subst e
   by_cases hc:c x k = true
   ·rw [if_pos hc]; simp [Z4,hc]
   ·rw [if_neg hc]; simp [Z4,hc]
  | false =>
   by_cases hc:c n k = true
   ·rw [if_pos hc]; simp only [Z4,hx]; exact ih
   ·rw [if_neg hc]; simp only [Z4,hx]; exact ih
theorem o6 (scope:Scope) (cl:List (Str × Addr)) (C:Addr) (env:Env) (x:Str) :
  (compEnvC scope cl C env).kindOf x = (scope.names.lookup x).map fun k=>if (k == .free && env.scope.kind == .function && env.kindOf x == some .cell) then NameKind.cell else k :=
 nI (c:=fun n k=>(k == .free && env.scope.kind == .function && env.kindOf n == some .cell)) scope.names x
theorem oJ {scope:Scope} {cl:List (Str × Addr)} {C:Addr} {env:Env} {x:Str} (h:scope.names.lookup x = some .free):(compEnvC scope cl C env).kindOf x = some .cell \/ (compEnvC scope cl C env).kindOf x = some .free:=by
 rw [o6,h]
 show some (if _ then _ else _) = _ \/ some (if _ then _ else _) = _
 split
 ·exact .inl rfl
 ·exact .inr rfl
theorem pK {scope:Scope} {cl:List (Str × Addr)} {C:Addr} {env:Env} {x:Str} (nc:∀ y ∈ scope.names,y.2 ≠ .cell) (h:(compEnvC scope cl C env).kindOf x = some .cell \/ (compEnvC scope cl C env).kindOf x = some .free):scope.names.lookup x = some .free:=by
 rw [o6] at h
 cases e:scope.names.lookup x with
 | none=>rw [e] at h; rcases h with h | h <;> cases h
 | some k =>
  rw [e] at h
  have hm:=nc _ (ZC e)
  cases k with
  | free=>rfl
  | cell=>exact absurd rfl hm
  | _=>rcases h with h | h <;> cases h
theorem tf {scope:Scope} {env:Env} (h:∀ y ∈ scope.names,y.2 = .free->∃ c,env.cells.lookup y.1 = some c) :
  ∃ cl,closureFor scope env = pure cl /\ (∀ x c,cl.lookup x = some c->env.cells.lookup x = some c) /\ (∀ x,(x,NameKind.free) ∈ scope.names->∃ c,cl.lookup x = some c):=by
 have go:∀ (l:List (Str × NameKind)) (acc:List (Str × Addr)),(∀ y ∈ l,y.2 = .free->∃ c,env.cells.lookup y.1 = some c)->(∀ x c,acc.lookup x = some c->env.cells.lookup x = some c) ->
   ∃ cl,(forIn l acc (fun (x:Str × NameKind) (r:List (Str × Addr))=>if (x.2 == NameKind.free) = true then (do let a <- cellOf env x.1; pure (ForInStep.yield ((x.1,a) :: r))) else pure (ForInStep.yield r)):Sem (List (Str × Addr))) = pure cl /\
    (∀ x c,cl.lookup x = some c->env.cells.lookup x = some c) /\ (∀ x,(acc.lookup x).isSome = true \/ (x,NameKind.free) ∈ l->∃ c,cl.lookup x = some c):=by
  intro l
  induction l with
  | nil=>exact fun acc _ ha=>⟨acc,rfl,ha,fun x hx=>by
    rcases hx with hx | hx
    ·exact ZG.mp hx
    ·cases hx⟩
  | cons y l ih =>
   intro acc hl ha
   obtain ⟨n,k⟩:=y
   by_cases hk:k = .free
   ·subst hk
    obtain ⟨c,hc⟩:=hl (n,.free) X9 rfl
    obtain ⟨cl,e1,e2,e3⟩:=ih ((n,c) :: acc) (fun y hy=>hl y (X8 _ hy)) (fun x d hd=>by
     rw [Z4] at hd
     cases q:x == n with
     | true=>rw [q] at hd; cases hd; rw [eq_of_beq q]; exact hc
     | false=>rw [q] at hd; exact ha x d hd)
    refine ⟨cl,?_,e2,fun x hx=>e3 x ?_⟩
    ·rw [Zq]
     have ec:cellOf env n = pure c:=by unfold cellOf; rw [hc]
     show ((if (NameKind.free == NameKind.free) = true then (do let a <- cellOf env n; pure (ForInStep.yield ((n,a) :: acc))) else pure (ForInStep.yield acc)) >>= _) = _
     rw [if_pos (by decide),ec,pure_bind,pure_bind]
     exact e1
    ·rcases hx with hx | hx
     ·refine .inl ?_
      rw [Z4]
      cases q:x == n with
      | true=>rfl
      | false=>exact hx
     ·rcases Yb.mp hx with hx | hx
      ·cases hx
       exact .inl (by rw [Z4,beq_self_eq_true]; rfl)
      ·exact .inr hx
   ·obtain ⟨cl,e1,e2,e3⟩:=ih acc (fun y hy=>hl y (X8 _ hy)) ha
    refine ⟨cl,?_,e2,fun x hx=>e3 x ?_⟩
    ·rw [Zq]
     show ((if (k == NameKind.free) = true then (do let a <- cellOf env n; pure (ForInStep.yield ((n,a) :: acc))) else pure (ForInStep.yield acc)) >>= _) = _
     rw [if_neg (by simpa using hk),pure_bind]
     exact e1
    ·rcases hx with hx | hx
     ·exact .inl hx
     ·rcases Yb.mp hx with hx | hx
      ·cases hx; exact absurd rfl hk
      ·exact .inr hx
 obtain ⟨cl,e1,e2,e3⟩:=go scope.names [] h (fun x c hx=>by cases hx)
 refine ⟨cl,?_,e2,fun x hx=>e3 x (.inr hx)⟩
 rw [<- e1]
 simp only [closureFor,bind_pure]
theorem wl {prog:Program} {w:World} {A:Around} {R:Result->Shared->Prop} {s:Shared} {elt target iter:Expr} {ifs:List Expr} {scope:Scope} {pos:Pos} {it acc:Value} {env:Env} (I:Nat->Shared->Prop)
  (turn:∀ n s,I n s->wpAny (model prog w) A (pyNext it) (fun r s₁=>match r with
   | none=>R (.ok .next) s₁
   | some v=>wpAny (model prog w) A (letOwnedTupleGo target it v) (fun _ HA=>wpAny (model prog w) A (assign target env v) (fun _ s₂ =>
     wpAny (model prog w) A (forIn ifs true fun c r=>if r = true then do let ok <- isTrue c env (eval c env); pure (ForInStep.yield ok) else pure (ForInStep.yield r)) (fun ok s₃ =>
      if ok = true then wpAny (model prog w) A (eval elt env) (fun x s₄ =>
       wpAny (model prog w) A (call (.builtin "list.append") [acc,x]) (fun _ s₅=>∃ m,m < n /\ I m s₅) (fun _ _=>False) s₄) (fun _ _=>False) s₃
      else ∃ m,m < n /\ I m s₃) (fun _ _=>False) s₂) (fun _ _=>False) HA) (fun _ _=>False) s₁) (fun _ _=>False) s)
  (n:Nat) (h:I n s) :
  codeAny (model prog w) A (.compLoop (.ListComp elt [⟨target,iter,ifs,0⟩] scope pos) 0 it acc env) R s:=by
 refine codeAny_loop rfl I (fun n s hI=>?_) n h
 show wpAny _ A ((compTurn (.ListComp elt [⟨target,iter,ifs,0⟩] scope pos) 0 it acc env).onRaise (fun x=>do noteFrame x env; theTreesLotGoes x)) _ _ s
 refine wpAny_noted ?_
 rw [compTurn_list]
 refine X3 (wpAny_standAt (X3 (Zn (turn n s hI) (fun r s₁ h₁=>?_) fun _ _ h'=>h'.elim)))
 cases r with
 | none=>exact X4 h₁
 | some v =>
  refine X3 (Zn h₁ (fun _ HA Lu=>?_) fun _ _ h'=>h'.elim)
  refine X3 (Zn Lu (fun _ s₂ h₂=>X3 (Zn h₂ (fun ok s₃ h₃=>?_) fun _ _ h'=>h'.elim)) fun _ _ h'=>h'.elim)
  cases ok with
  | false=>exact X4 ⟨rfl,h₃⟩
  | true =>
   exact X3 (X3 (Zn h₃ (fun x s₄ h₄=>X3 (Zn h₄ (fun _ s₅ h₅=>X4 (X4 ⟨rfl,h₅⟩)) fun _ _ h'=>h'.elim)) fun _ _ h'=>h'.elim))
structure CP where
 cl:List (Str × Addr)
 C:Addr
 s:Shared
 H:Hp
 fp:List Addr
 pn:List (Addr × Obj)
abbrev Cx.comp (X:Cx) (N':List Str) (scope:Scope) (p:CP):Cx where
 prog:=X.prog
 w:=X.w
 K:=X.K
 mg:=X.mg
 base:=X.base
 A:=X.A
 N:=N'
 s₀:=p.s
 H₀:=p.H
 env:=compEnvC scope p.cl p.C X.env
 outer:=X.stack
 stack:=X.stack
 ex:=p.fp
 fn:=fun _=>false
 calm:=X.calm
 pn:=p.pn
 xe:=fun _ _=>False
def Dw (X:Cx) (ifs:List Expr) (t:TT):Prop :=
 ∀ (pins:List (Addr × Obj)) (s:Shared) (σ:St) (H:Hp) (Q:Bool->Hp->Prop),Inv X pins σ H s->t σ H Q ->
  wpAny (model X.prog X.w) X.A (forIn ifs true fun c r=>if r = true then do let ok <- isTrue c X.env (eval c X.env); pure (ForInStep.yield ok) else pure (ForInStep.yield r)) (TP X pins σ Q) X.xe s
def Qt:TT:=fun _ H Q=>Q true H
theorem cu {X:Cx}:Dw X [] Qt:=fun _ _ _ H _ I h=>wpAny_tests_nil ⟨H,I,h⟩
theorem fY {X:Cx} {c:Expr} {t:TT} (h:PT X c t):Dw X [c] t:=fun pins s σ H Q I hw=>wpAny_tests_one (h pins s σ H Q I hw)
def oN (N:List Str) (kinds:List (Str × NameKind)) (N':List Str) (cap:List (Option Nat)) (names:List (Str × NameKind)):Bool :=
 names.all (fun y=>y.2 != .cell) && names.all (fun y=>y.2 != .local || names.lookup y.1 == some .local) &&
 names.all (fun y=>y.2 != .free || (kinds.lookup y.1 == some .cell || kinds.lookup y.1 == some .free)) && (cap.length == N'.length) &&
 (N'.zip cap).all (fun q=>match q.2 with
  | none=>true
  | some j=>N[j]? == some q.1 && (kinds.lookup q.1 == some .cell || kinds.lookup q.1 == some .free) && names.lookup q.1 == some .free)
structure b6 (X:Cx) (N':List Str) (cap:List (Option Nat)) (scope:Scope):Prop where
 kind:scope.kind = .function
 ok:oN X.N X.env.scope.names N' cap scope.names = true
section
variable {X:Cx} {N':List Str} {cap:List (Option Nat)} {scope:Scope}
theorem b6.Ew (S:b6 X N' cap scope):∀ y ∈ scope.names,y.2 ≠ .cell:=by
 have h:=S.ok
 simp only [oN,YM,Y7] at h
 intro y hy
 simpa using h.1.1.1.1 y hy
theorem b6.names (S:b6 X N' cap scope):∀ y ∈ scope.names,y.2 = .local->scope.names.lookup y.1 = some .local:=by
 have h:=S.ok
 simp only [oN,YM,Y7] at h
 intro y hy hl
 have q:=h.1.1.1.2 y hy
 rw [hl] at q
 simpa using q
theorem b6.free (S:b6 X N' cap scope):∀ y ∈ scope.names,y.2 = .free->X.env.kindOf y.1 = some .cell \/ X.env.kindOf y.1 = some .free:=by
 have h:=S.ok
 simp only [oN,YM,Y7] at h
 intro y hy hl
 have q:=h.1.1.2 y hy
 rw [hl] at q
 have q':X.env.scope.names.lookup y.1 = some .cell \/ X.env.scope.names.lookup y.1 = some .free:=by simpa using q
 exact q'
theorem b6.len (S:b6 X N' cap scope):cap.length = N'.length:=by
 have h:=S.ok
 simp only [oN,YM,Y7] at h
 simpa using h.1.2
theorem b6.Pg (S:b6 X N' cap scope) {i j:Nat} {x:Str} (h1:N'[i]? = some x) (h2:cap[i]? = some (some j)) :
  X.N[j]? = some x /\ (X.env.kindOf x = some .cell \/ X.env.kindOf x = some .free) /\ scope.names.lookup x = some .free:=by
 have h:=S.ok
 simp only [oN,YM,Y7] at h
 have hm:(x,some j) ∈ N'.zip cap:=aaf.mpr ⟨i,by rw [List.getElem?_zip_eq_some]; exact ⟨h1,h2⟩⟩
 have q:=h.2 _ hm
 have q':X.N[j]? = some x /\ (X.env.scope.names.lookup x = some .cell \/ X.env.scope.names.lookup x = some .free) /\ scope.names.lookup x = some .free:=by simpa [and_assoc] using q
 exact q'
end
def eu (cap:List (Option Nat)) (σ:St):St:=cap.map fun o=>match o with
 | some j=>(σ[j]?).getD none
 | none=>none
def cm (σ σ':St):Prop:=σ'.length = σ.length /\ ∀ (i:Nat) v,σ[i]? = some (some v)->σ'[i]? = some (some v)
theorem cm.refl (σ:St):cm σ σ:=⟨rfl,fun _ _ h=>h⟩
theorem cm.trans {a b c:St} (h:cm a b) (h':cm b c):cm a c:=⟨h'.1.trans h.1,fun i v e=>h'.2 i v (h.2 i v e)⟩
theorem cm.set {σ:St} {i:Nat} {v:Option V} (h:σ[i]? = some none):cm σ (σ.set i v):=⟨List.length_set ..,fun j u e=>by
 have hj:i ≠ j:=fun z=>by subst z; rw [h] at e; cases e
 rw [List.getElem?_set_ne hj]; exact e⟩
def lN (J:It) (D:Addr) (cap:List (Option Nat)) (σ:St) (H1:Hp) (g:TG) (tc:TT) (te:TE) (Q:VK):Prop:=∃ (n:Nat) (Pv:Nat->List V->Hp->Prop),
 Pv 0 [] (upd H1 D (.lst [])) /\ ∀ i xs H2,i <= n->Pv i xs H2->H2 D = some (.lst xs) /\ ((i = n /\ J.stop i H2 /\ Q (.ref D) H2) \/ (i < n /\ J.go i H2 /\ ∀ x H3,J.Io i H2 x H3->g x (eu cap σ) H3 fun σ2 H4=>cm (eu cap σ) σ2 /\
  tc σ2 H4 fun b H5=>if b = true then te σ2 H5 fun y H6=>H6 D = some (.lst xs) /\ xs.length < sizeLine /\ Pv (i + 1) (xs ++ [y]) (upd H6 D (.lst (xs ++ [y]))) else Pv (i + 1) xs H5))
def Ev (cap:List (Option Nat)) (wi:TI) (g:TG) (tc:TT) (te:TE):TE:=fun σ H Q=>wi σ H fun J H1=>∀ D,H1 D = none->lN J D cap σ H1 g tc te Q
section
variable {X:Cx} {pins:List (Addr × Obj)} {σ:St} {H:Hp} {s:Shared} {N':List Str} {cap:List (Option Nat)} {scope:Scope} {elt iter tg:Expr} {ifs:List Expr} {pos:Pos} {wi:TI} {g:TG} {tc:TT} {te:TE}
theorem tS {pos':Pos} {use:Option (Value->Sem Unit)} {Q:VK} {Qf:Value->Shared->Prop} (Kp:X.calm = true) (S:b6 X N' cap scope) (hi:PI X tg iter wi) (hg:∀ p,PG (X.comp N' scope p) tg g) (hc:∀ p,Dw (X.comp N' scope p) ifs tc) (he:∀ p,PE (X.comp N' scope p) elt te)
  (hs:∀ x,foldedSetIterable iter X.env x = pure x) (I:Inv X pins σ H s) (h:Ev cap wi g tc te σ H Q)
  (fin:∀ D C H' s',Inv X pins σ H' s'->Q (.ref D) H'->(∃ m,s'.heap.Ns C m)->H' C = none->C ≠ X.env.locals->X.s₀.heap.objs.size <= C->(∀ x c,X.env.cells.lookup x = some c->c ≠ C)->(∀ p ∈ X.pn ++ pins,p.1 ≠ C) ->
   compPost (model X.prog X.w) X.A X.xe use Qf (.ref D) C (.ok .next) s') :
  wpAny (model X.prog X.w) X.A (comprehension (.ListComp elt [⟨tg,iter,ifs,0⟩] scope pos) scope X.env pos' (newList []) false (eval iter X.env) use) Qf X.xe s:=by
 obtain ⟨cl,OB,Kd,Sk⟩:=tf (scope:=scope) (env:=X.env) fun y hy hf=>I.ok.has _ (S.free y hy hf)
 refine wpAny_comprehension_free (g:=⟨tg,iter,ifs,0⟩) (gs:=[]) rfl hs OB S.kind S.names ?_
 refine bT (hi pins s σ H _ I h) fun xv s1 h1=>bT h1 fun PU s2 h2=>?_
 obtain ⟨it,fp,tn,J,H2,e,I2,T,Ib,f2,h2⟩:=h2
 subst e
 refine YR ?_ (by size_fits)
 have hD:H2 s2.heap.objs.size = none:=I2.aW.fresh (X7 _)
 obtain ⟨cnt,Pv,w0,turn⟩:=h2 s2.heap.objs.size hD
 refine wpAny_newFunctionEnv S.Ew (by intro y hy; cases hy) (fun h₁ zZ vU=>?_) S.kind
 dsimp only at zZ vU ⊢
 generalize Q3:s2.heap.push { cls:=.type "list",dict:=none,data:=.seq ([]:List Value).toArray } = A2 at zZ vU ⊢
 have hC:A2.objs.size = s2.heap.objs.size + 1:=by rw [<- Q3,Z3]
 have old:∀ b o,s2.heap.get? b = some o->h₁.get? b = some o:=fun b o e=>by
  have lt:@LT.lt Nat instLTNat b s2.heap.objs.size:=Ym e
  exact vU.extBut b o (YB (by omega)) (X5 _ (Q3 ▸ X5 _ e))
 have O1:h₁.get? s2.heap.objs.size = some { cls:=.type "list",dict:=none,data:=.seq ([]:List Value).toArray } :=
  vU.extBut _ _ (YB (by omega)) (X5 _ (Q3 ▸ Yg _ rfl))
 have DL:∀ x c,X.env.cells.lookup x = some c->@LT.lt Nat instLTNat c s2.heap.objs.size:=fun x c e=>by obtain ⟨v,q⟩:=I2.cell x c e; exact q.lt
 have HC:∀ p ∈ X.pn ++ pins,@LT.lt Nat instLTNat p.1 s2.heap.objs.size:=fun p hp=>Ym (I2.pin p hp).1
 have LI:∀ b ∈ fp,@LT.lt Nat instLTNat b s2.heap.objs.size:=fun b hb=>by obtain ⟨o,e,_⟩:=T.obj 0 _ Ib b hb; exact Ym e
 let p:CP:=⟨cl,A2.objs.size,s2,H2,fp,X.pn ++ pins⟩
 have ok:(X.comp N' scope p).Ok:={
  mod:=I2.ok.mod
  kind:=S.kind
  glob:=I2.ok.glob
  blt:=I2.ok.blt
  above:=by show s2.heap.objs.size <= A2.objs.size; omega
  inj:=fun x y c h1 h2=>I2.ok.inj x y c (Kd x c h1) (Kd y c h2)
  has:=fun x hx=>Sk x (ZC (pK S.Ew hx))
  Jk:=fun x c hf _=>by cases hf
  hd:=I2.ok.hd
  frames:=I2.ok.frames
  K3:=.inl rfl
  KW:=fun b hb=>⟨YB (show @LT.lt Nat instLTNat b A2.objs.size by have:=LI b hb; omega),fun x c e=>(f2 b hb).2.2.2.2.1 x c (Kd x c e)⟩
  bs:=I2.bs
  BV:=Yh I2.ok.BV I2.sz
  zN:=fun b o e hb=>by
   rcases (f2 b hb).2.2.2.1 with z | z
   ·exact I2.ok.zN b o e z
   ·exact absurd (YF (YF (Ym e) I2.ok.BV) z) (Zf _)
  yP:=fun b hb hf=>by
   rcases Yb.mp (I2.mz b hf) with z | z
   ·exact (f2 b hb).2.1 z
   ·exact (f2 b hb).2.2.1 z
  lK:=I2.stack
  Fw:=I2.qt }
 have LY:Un (mn X.stack) fp H2 (upd H2 s2.heap.objs.size (.lst [])) s2.heap h₁:=Un.laid old (X7 _) hD
 have I0:∀ tk,Inv (X.comp N' scope p) [] (eu cap σ) (upd H2 s2.heap.objs.size (.lst [])) { s2 with heap:=h₁,toks:=tk }:=fun tk=>{
  ok:=ok
  os:=rfl
  bare:=I2.bare
  base:=LY
  loc:=by
   refine ⟨_,zZ,fun i x v h1 h2 h3=>?_⟩
   unfold eu at h2
   rw [Yl] at h2
   cases hq:cap[i]? with
   | none=>rw [hq] at h2; cases h2
   | some o =>
    rw [hq] at h2
    cases o with
    | none=>cases h2
    | some j =>
     have iL:(σ[j]?).getD none = some v:=Y4 h2
     have QJ:σ[j]? = some (some v):=by
      cases hz:σ[j]? with
      | none=>rw [hz] at iL; cases iL
      | some z=>rw [hz] at iL; exact Zi some iL
     obtain ⟨n1,n2,n3⟩:=S.Pg h1 hq
     obtain ⟨m,hn,hl⟩:=I2.loc
     obtain ⟨u,r,l⟩:=hl j x v n1 QJ (by rcases n2 with z | z; exact .inr (.inl z); exact .inr (.inr z))
     refine ⟨u,r,.inr ⟨oJ n3,?_⟩⟩
     obtain ⟨c,hc⟩:=Sk x (ZC n3)
     refine ⟨c,hc,?_⟩
     rcases l with ⟨z,_⟩ | ⟨_,c',yC,ud⟩
     ·rcases n2 with n2 | n2 <;> (rw [n2] at z; cases z)
     ·have:=Kd x c hc
      rw [yC] at this; cases this
      obtain ⟨o,ho,hd⟩:=ud
      exact ⟨o,old _ _ ho,hd⟩
  cell:=fun x c e=>by
   obtain ⟨v,o,ho,hd⟩:=I2.cell x c (Kd x c e)
   exact ⟨v,o,old _ _ ho,hd⟩
  free:=by
   show upd H2 s2.heap.objs.size (.lst []) A2.objs.size = none
   rw [am (aam (by omega))]
   exact I2.aW.fresh (by omega)
  ii:=fun x c e=>by
   have:=DL x c (Kd x c e)
   show upd H2 s2.heap.objs.size (.lst []) c = none
   rw [am (YB this)]
   exact I2.ii x c (Kd x c e)
  pin:=fun q hq=>by
   have oy:q ∈ X.pn ++ pins:=by
    have z:q ∈ (X.pn ++ pins) ++ ([]:List (Addr × Obj)):=hq
    simpa using z
   have lt:=HC q oy
   obtain ⟨e,n,ne,nf,d⟩:=I2.pin q oy
   refine ⟨old _ _ e,by rw [am (YB lt)]; exact n,YB (show @LT.lt Nat instLTNat q.1 A2.objs.size by omega),fun hf=>?_,d⟩
   rcases Yb.mp (I2.mz _ hf) with z | z
   ·exact ne z
   ·exact nf z
  aW:=I2.aW.laid old (X7 _) ⟨YD _,[],_,.nil,O1⟩
  len:=by show (eu cap σ).length = N'.length; unfold eu; rw [X6,S.len] }
 have Kt:∀ {H':Hp},(∀ b ∈ fp,H' b = none)->∀ b ∈ fp,wn (X.comp N' scope p) [] H' b:=fun hn b hb =>
  ⟨hn b hb,(ok.KW b hb).1,ok.yP b hb,.inl hb,(ok.KW b hb).2,fun q hq=>(f2 b hb).2.2.2.2.2 q (by
   have z:q ∈ (X.pn ++ pins) ++ ([]:List (Addr × Obj)):=hq
   simpa using z)⟩
 have SA:∀ b ∈ fp,(upd H2 s2.heap.objs.size (.lst [])) b = none:=fun b hb=>by
  rw [am (YB (LI b hb))]
  exact (f2 b hb).1
 have loop:∀ s3:Shared,(∃ tk,s3 = { s2 with heap:=h₁,toks:=tk })->codeAny (model X.prog X.w) X.A (.compLoop (.ListComp elt [⟨tg,iter,ifs,0⟩] scope pos) 0 (.ref it) (.ref s2.heap.objs.size) (compEnvC scope cl A2.objs.size X.env))
   (compPost (model X.prog X.w) X.A X.xe use Qf (.ref s2.heap.objs.size) A2.objs.size) s3:=by
  rintro s3 ⟨tk,rfl⟩
  refine wl (fun n s'=>∃ i xs H',Inv (X.comp N' scope p) [] (eu cap σ) H' s' /\ tn i s'.heap /\ (∀ b ∈ fp,H' b = none) /\ n = cnt - i /\ i <= cnt /\ Pv i xs H') ?_ cnt
   ⟨0,[],_,I0 tk,T.keep 0 _ _ Ib (fun b _ o e=>old b o e),SA,rfl,YD _,w0⟩
  rintro n s4 ⟨i,xs,H4,I4,tR,RK,en,wL,w4⟩
  obtain ⟨V4,w4⟩:=turn i xs H4 wL w4
  rcases w4 with ⟨_,stop,qn⟩ | ⟨fT,go,step⟩
  ·refine bT (T.done (X.comp N' scope p) rfl rfl rfl Kp i [] s4 _ H4 _ I4 (Kt RK) tR stop) fun r s5 ⟨hr,I5⟩=>?_
   subst hr
   have I6:Inv X pins σ H4 s5:=I2.Iz I5.os I5.base I5.aW I5.bare fun b hb=>⟨(f2 b hb).2.2.2.1,(f2 b hb).2.1,(f2 b hb).2.2.2.2.1,(f2 b hb).2.2.2.2.2⟩
   obtain ⟨m,hm,_⟩:=I5.loc
   refine fin _ _ H4 s5 I6 qn ⟨m,hm⟩ I5.free ?_ ?_ (fun x c e=>?_) fun q hq=>?_
   ·exact aam (by have:@LT.lt Nat instLTNat X.env.locals s2.heap.objs.size:=I2.lt; omega)
   ·have:=I2.sz; omega
   ·exact YB (by have:=DL x c e; omega)
   ·exact YB (by have:=HC q hq; omega)
  ·refine bT (T.item (X.comp N' scope p) rfl rfl rfl Kp i [] s4 _ H4 _ I4 (Kt RK) tR go) fun r s5 ⟨u,hr,h5⟩=>?_
   subst hr
   refine bT h5 fun _ s6 ⟨x,H6,I6,r6,y6,QQ,WH⟩=>?_
   have UK:=I6.pinned (Kt WH) (T.obj _ _ QQ)
   refine bT (hg p _ s6 _ H6 x u _ UK r6 (step x H6 y6)) fun _ s7 ⟨σ7,H7,I7,Sm,q7⟩=>?_
   refine bT (hc p _ s7 σ7 H7 _ I7 q7) fun b s8 ⟨H8,I8,q8⟩=>?_
   have again:∀ {H9:Hp} {s9:Shared} {zs:List V},Inv (X.comp N' scope p) ([] ++ rV fp s6.heap) σ7 H9 s9->Pv (i + 1) zs H9 ->
     ∃ m,m < n /\ ∃ i xs H',Inv (X.comp N' scope p) [] (eu cap σ) H' s9 /\ tn i s9.heap /\ (∀ b ∈ fp,H' b = none) /\ m = cnt - i /\ i <= cnt /\ Pv i xs H':=fun {H9 s9 zs} I9 w9=>by
    refine ⟨cnt - (i + 1),by omega,i + 1,zs,H9,I9.mI.weak Sm.1.symm (fun i v e=>Sm.2 i v e),T.keep _ _ _ QQ fun b hb o e=>(I9.pin (b,o) (YH _ (YH _ (i0 hb e)))).1,fun b hb=>?_,rfl,fT,w9⟩
    obtain ⟨o,e,d⟩:=T.obj _ _ QQ b hb
    exact (I9.pin (b,o) (YH _ (YH _ (i0 hb e)))).2.1
   cases b with
   | false =>
    exact again I8 q8
   | true =>
    refine bT (he p _ s8 σ7 H8 _ I8 q8) fun yv s9 ⟨y,H9,I9,ry,Pe,hz,w9⟩=>?_
    refine bT (dm (X:=X.comp N' scope p) _ s9 σ7 H9 (.ref s2.heap.objs.size) [y] (.ref s2.heap.objs.size) [yv] (fun v H'=>v = .cP /\ H' = upd H9 s2.heap.objs.size (.lst (xs ++ [y]))) I9 rfl (.cons ry .nil) ⟨_,xs,y,rfl,rfl,Pe,hz,rfl,rfl⟩) fun _ Og ⟨_,K0,Vp,_,_,VB⟩=>?_
    subst VB
    exact again Vp w9
 refine codeAny_compStart_list (loop _ ⟨_,rfl⟩) (T.self _ 0 _ _ _ (T.keep 0 _ _ Ib fun b _ o e=>old b o e) (loop _ ⟨_,rfl⟩))
theorem bS (Kp:X.calm = true) (S:b6 X N' cap scope) (hi:PI X tg iter wi) (hg:∀ p,PG (X.comp N' scope p) tg g) (hc:∀ p,Dw (X.comp N' scope p) ifs tc) (he:∀ p,PE (X.comp N' scope p) elt te)
  (hs:∀ x,foldedSetIterable iter X.env x = pure x:=by intro _; rfl):PE X (.ListComp elt [⟨tg,iter,ifs,0⟩] scope pos) (Ev cap wi g tc te):=by
 intro pins s σ H Q I h
 rw [eval_ListComp]
 refine tS (use:=none) (Q:=Q) Kp S hi hg hc he hs I h ?_
 intro D C H' s' I' q ns hC hL h1 h2 h3
 obtain ⟨m,hm⟩:=ns
 exact ⟨m,hm,fun Ow sb=>⟨.ref D,H',I'.turned (t':=s'.toks) (fun b o hb e=>(sb.2 b hb).trans e) hC hL (.inr h1) h2 h3,rfl,q⟩⟩
theorem vx {j:Nat} {y:Str} {py Jr:Pos} (Kp:X.calm = true) (S:b6 X N' cap scope) (hi:PI X tg iter wi) (hg:∀ p,PG (X.comp N' scope p) tg g) (hc:∀ p,Dw (X.comp N' scope p) ifs tc) (he:∀ p,PE (X.comp N' scope p) elt te)
  (hN:X.N.Nodup) (hj:X.N[j]? = some y) (hy:X.env.scope.names.lookup y = some .local)
  (Wf:swapsWith (.ListComp elt [⟨tg,iter,ifs,0⟩] scope pos) (some (.Name y py)) Jr.line X.env = pure true)
  (hs:∀ x,foldedSetIterable iter X.env x = pure x:=by intro _; rfl):PS X (.Assign [.Name y py] (.ListComp elt [⟨tg,iter,ifs,0⟩] scope pos) Jr) (G4 (Ev cap wi g tc te) (yn j)):=by
 intro pins s σ H D I h
 rw [exec_Assign_Name_used _ _ _ _ Wf]
 refine X3 (wpAny_standAt (X3 ?_))
 show wpAny _ X.A (do let _ <- comprehension (.ListComp elt [⟨tg,iter,ifs,0⟩] scope pos) scope X.env _ (newList []) false (eval iter X.env) (some (assign (.Name y py) X.env))) _ _ s
 refine X3 (Zn (tS (use:=some (assign (.Name y py) X.env)) (Qf:=fun _ s'=>SP X pins D .next s') Kp S hi hg hc he hs I h ?_) (fun _ s' hq=>X4 (X4 hq)) fun _ _ e=>e)
 intro D' C H' s' I' q ns hC hL h1 h2 h3
 obtain ⟨m,hm⟩:=ns
 show wpAny _ X.A (assign (.Name y py) X.env (.ref D')) _ _ _
 refine wpAny_assign_Name (uo I' hN hj (.inl hy) (v:=.ref D') rfl (fun wA Ub ⟨a,sb,ha⟩=>?_) (.inr hy))
 have ne:C ≠ a:=fun z=>by
  rcases ha with e | e
  ·exact hL (z.trans e)
  ·exact h2 y a e z.symm
 exact ⟨m,hm.sameBut sb ne,fun Ow TL=>⟨_,H',Ub.turned (t':=wA.toks) (fun b o hb e=>(TL.2 b hb).trans e) hC hL (.inr h1) h2 h3,q⟩⟩
end
section
variable {K:aaG} {cap:List (Option Nat)} {σ:St} {H:Hp} {g:TG} {tc:TT} {te:TE} {Q:VK} {D:Addr}
theorem jx {lo:Int} {n:Nat} (Pv:Nat->List V->Hp->Prop) (h0:Pv 0 [] (upd H D (.lst []))) (hD:∀ i xs H,i <= n->Pv i xs H->H D = some (.lst xs))
  (hs:∀ i xs H,i < n->Pv i xs H->g (.int (lo + i)) (eu cap σ) H fun σ2 H4=>cm (eu cap σ) σ2 /\
   tc σ2 H4 fun b H5=>if b = true then te σ2 H5 fun y H6=>H6 D = some (.lst xs) /\ xs.length < sizeLine /\ Pv (i + 1) (xs ++ [y]) (upd H6 D (.lst (xs ++ [y]))) else Pv (i + 1) xs H5)
  (hd:∀ xs H,Pv n xs H->Q (.ref D) H):lN (Jl lo n) D cap σ H g tc te Q:=by
 refine ⟨n,Pv,h0,fun i xs H2 hi p=>⟨hD i xs H2 hi p,?_⟩⟩
 by_cases fT:i < n
 ·refine .inr ⟨fT,fT,fun x H' y=>?_⟩
  obtain ⟨e,y⟩:=y
  subst e y
  exact hs i xs _ fT p
 ·have e:i = n:=by omega
  subst e
  exact .inl ⟨rfl,X7 _,hd xs H2 p⟩
theorem cR {a:Addr} {ys:List V} (Pv:Nat->List V->Hp->Prop) (h0:Pv 0 [] (upd H D (.lst []))) (hD:∀ i xs H,i <= ys.length->Pv i xs H->H D = some (.lst xs) /\ aZ K H a ys)
  (hs:∀ i x xs H,ys[i]? = some x->Pv i xs H->g x (eu cap σ) H fun σ2 H4=>cm (eu cap σ) σ2 /\
   tc σ2 H4 fun b H5=>if b = true then te σ2 H5 fun y H6=>H6 D = some (.lst xs) /\ xs.length < sizeLine /\ Pv (i + 1) (xs ++ [y]) (upd H6 D (.lst (xs ++ [y]))) else Pv (i + 1) xs H5)
  (hd:∀ xs H,Pv ys.length xs H->Q (.ref D) H):lN (KL K a) D cap σ H g tc te Q:=by
 refine ⟨ys.length,Pv,h0,fun i xs H2 hi p=>⟨(hD i xs H2 hi p).1,?_⟩⟩
 have q:=(hD i xs H2 hi p).2
 by_cases fT:i < ys.length
 ·refine .inr ⟨fT,⟨ys,ys[i],q,by simp [fT]⟩,fun x H' y=>?_⟩
  obtain ⟨e,y⟩:=y
  subst e
  exact hs i x xs _ (y ys q) p
 ·have e:i = ys.length:=by omega
  subst e
  exact .inl ⟨rfl,⟨ys,q,X7 _⟩,hd xs H2 p⟩
theorem ko {a:Addr} {ys:List V} (Pv:Nat->List V->Hp->Prop) (h0:Pv 0 [] (upd H D (.lst []))) (hD:∀ i xs H,i <= ys.length->Pv i xs H->H D = some (.lst xs) /\ bK K H a ys)
  (hs:∀ i x xs H,ys[i]? = some x->Pv i xs H->g x (eu cap σ) H fun σ2 H4=>cm (eu cap σ) σ2 /\
   tc σ2 H4 fun b H5=>if b = true then te σ2 H5 fun y H6=>H6 D = some (.lst xs) /\ xs.length < sizeLine /\ Pv (i + 1) (xs ++ [y]) (upd H6 D (.lst (xs ++ [y]))) else Pv (i + 1) xs H5)
  (hd:∀ xs H,Pv ys.length xs H->Q (.ref D) H):lN (KI K a) D cap σ H g tc te Q:=by
 refine ⟨ys.length,Pv,h0,fun i xs H2 hi p=>⟨(hD i xs H2 hi p).1,?_⟩⟩
 have q:=(hD i xs H2 hi p).2
 by_cases fT:i < ys.length
 ·refine .inr ⟨fT,⟨ys,ys[i],q,by simp [fT]⟩,fun x H' y=>?_⟩
  obtain ⟨e,y⟩:=y
  subst e
  exact hs i x xs _ (y ys q) p
 ·have e:i = ys.length:=by omega
  subst e
  exact .inl ⟨rfl,⟨ys,q,X7 _⟩,hd xs H2 p⟩
end
mutual
inductive DV (H:Hp):PyData->V->Prop
 | cP:DV H .none .cP
 | bl (b:Bool):DV H (.bool b) (.bl b)
 | int (i:Int):DV H (.int i) (.int i)
 | str (x:Str):DV H (.str x) (.str x)
 | lst {a:Addr} {ds:List PyData} {vs:List V}:H a = some (.lst vs)->bW H ds vs->DV H (.list ds) (.ref a)
 | tup {a:Addr} {ds:List PyData} {vs:List V}:H a = some (.tup vs)->bW H ds vs->DV H (.tuple ds) (.ref a)
inductive bW (H:Hp):List PyData->List V->Prop
 | nil:bW H [] []
 | cons {d:PyData} {v:V} {ds:List PyData} {vs:List V}:DV H d v->bW H ds vs->bW H (d :: ds) (v :: vs)
end
section
variable {H H':Hp}
mutual
theorem DV.mono (e:ao H H'):∀ {d:PyData} {v:V},DV H d v->DV H' d v
 | _,_,.cP=>.cP
 | _,_,.bl b=>.bl b
 | _,_,.int i=>.int i
 | _,_,.str x=>.str x
 | _,_,.lst h t=>.lst (e _ _ h) (bW.mono e t)
 | _,_,.tup h t=>.tup (e _ _ h) (bW.mono e t)
theorem bW.mono (e:ao H H'):∀ {ds:List PyData} {vs:List V},bW H ds vs->bW H' ds vs
 | _,_,.nil=>.nil
 | _,_,.cons h t=>.cons (DV.mono e h) (bW.mono e t)
end
theorem bW.length:∀ {ds:List PyData} {vs:List V},bW H ds vs->ds.length = vs.length
 | _,_,.nil=>rfl
 | _,_,.cons _ t=>Zi (· + 1) (bW.length t)
theorem bW.get:∀ {ds:List PyData} {vs:List V} {i:Nat} {d:PyData},bW H ds vs->ds[i]? = some d->∃ v,vs[i]? = some v /\ DV H d v
 | _,_,_,_,.nil,e=>by simp at e
 | _,_,0,_,.cons h _,e=>by simp at e; subst e; exact ⟨_,rfl,h⟩
 | _,_,i + 1,d,.cons _ t,e=>by
  obtain ⟨v,h1,h2⟩:=bW.get (i:=i) (d:=d) t (by simpa using e)
  exact ⟨v,by simpa using h1,h2⟩
theorem bW.get':∀ {ds:List PyData} {vs:List V} {i:Nat} {v:V},bW H ds vs->vs[i]? = some v->∃ d,ds[i]? = some d /\ DV H d v
 | _,_,_,_,.nil,e=>by simp at e
 | _,_,0,_,.cons h _,e=>by simp at e; subst e; exact ⟨_,rfl,h⟩
 | _,_,i + 1,v,.cons _ t,e=>by
  obtain ⟨d,h1,h2⟩:=bW.get' (i:=i) (v:=v) t (by simpa using e)
  exact ⟨d,by simpa using h1,h2⟩
theorem bW.append:∀ {ds es:List PyData} {vs ws:List V},bW H ds vs->bW H es ws->bW H (ds ++ es) (vs ++ ws)
 | _,_,_,_,.nil,s=>s
 | _,_,_,_,.cons h t,s=>.cons h (bW.append t s)
theorem bW.snoc {ds:List PyData} {vs:List V} {d:PyData} {v:V} (h:bW H ds vs) (hd:DV H d v):bW H (ds ++ [d]) (vs ++ [v]):=h.append (.cons hd .nil)
theorem bW.take:∀ {ds:List PyData} {vs:List V} (n:Nat),bW H ds vs->bW H (ds.take n) (vs.take n)
 | _,_,0,_=>.nil
 | _,_,_ + 1,.nil=>.nil
 | _,_,n + 1,.cons h t=>.cons h (bW.take n t)
theorem bW.drop:∀ {ds:List PyData} {vs:List V} (n:Nat),bW H ds vs->bW H (ds.drop n) (vs.drop n)
 | _,_,0,t=>t
 | _,_,_ + 1,.nil=>.nil
 | _,_,n + 1,.cons _ t=>bW.drop n t
theorem bW.ints (ns:List Int):bW H (ns.map PyData.int) (ns.map V.int):=by
 induction ns with
 | nil=>exact .nil
 | cons n r ih=>exact .cons (.int n) ih
theorem DV.int_inv {i:Int} {v:V} (h:DV H (.int i) v):v = .int i:=by cases h; rfl
theorem DV.JT {b:Bool} {v:V} (h:DV H (.bool b) v):v = .bl b:=by cases h; rfl
theorem DV.il {ds:List PyData} {v:V} (h:DV H (.tuple ds) v):∃ a vs,v = .ref a /\ H a = some (.tup vs) /\ bW H ds vs:=by cases h with | tup h t=>exact ⟨_,_,rfl,h,t⟩
theorem bW.nX:∀ {ns:List Int} {vs:List V},bW H (ns.map PyData.int) vs->vs = ns.map V.int
 | [],_,h=>by cases h; rfl
 | n :: r,_,h=>by
  cases h with
  | cons h t =>
   cases h
   show _ = V.int n :: r.map V.int
   rw [bW.nX t]
theorem bW.vM {a b:PyData} {vs:List V} (h:bW H [a,b] vs):∃ v w,vs = [v,w] /\ DV H a v /\ DV H b w:=by
 cases h with
 | cons h t=>cases t with
  | cons h' t'=>cases t'; exact ⟨_,_,rfl,h,h'⟩
theorem bW.oP {a b c:PyData} {vs:List V} (h:bW H [a,b,c] vs):∃ v w u,vs = [v,w,u] /\ DV H a v /\ DV H b w /\ DV H c u:=by
 cases h with
 | cons h t =>
  obtain ⟨v,w,rfl,h1,h2⟩:=bW.vM t
  exact ⟨_,_,_,rfl,h,h1,h2⟩
variable {P:Program} {w:World} {h:Heap}
mutual
theorem DV.reads (ok:jO P w H h):∀ {d:PyData} {v:V} {u:Value},DV H d v->RelV v u->∃ as,Reads h u d as
 | _,_,_,.cP,r=>by cases r; exact ⟨_,.none⟩
 | _,_,_,.bl b,r=>by cases r; exact ⟨_,.bool b⟩
 | _,_,_,.int i,r=>by obtain ⟨t,rfl⟩:=r; exact ⟨_,.int i t⟩
 | _,_,_,.str x,r=>by obtain ⟨t,rfl⟩:=r; exact ⟨_,.str x t⟩
 | _,_,_,.lst e t,r=>by
  cases r
  obtain ⟨_,az,n,rv,eo⟩:=ok _ _ e
  obtain ⟨as,q⟩:=bW.reads ok t rv
  exact ⟨_,.list eo rfl rfl (by simpa using q)⟩
 | _,_,_,.tup e t,r=>by
  cases r
  obtain ⟨_,az,rv,o,eo,hc,n,hd⟩:=ok _ _ e
  obtain ⟨as,q⟩:=bW.reads ok t rv
  exact ⟨_,.tuple eo hc hd (by simpa using q)⟩
theorem bW.reads (ok:jO P w H h):∀ {ds:List PyData} {vs:List V} {us:List Value},bW H ds vs->Vals vs us->∃ as,ReadsAll h us ds as
 | _,_,_,.nil,r=>by cases r; exact ⟨_,.nil⟩
 | _,_,_,.cons e t,r=>by
  cases r with
  | cons r rr =>
   obtain ⟨as,q⟩:=DV.reads ok e r
   obtain ⟨bs,q'⟩:=bW.reads ok t rr
   exact ⟨_,.cons q q'⟩
end
end
section
variable {X:Cx}
def Ml (neg:Bool):R2:=fun x y H Q=>∃ d e,DV H d x /\ DV H e y /\ d.canLay0 = true /\ e.canLay0 = true /\ min d.depth e.depth <= 60 /\ Q (.bl (if neg then !PyData.eqv d e else PyData.eqv d e)) H
theorem Kg (hu:X.A.units + 64 < cLine):iH X (compareOp .Eq) (Ml false):=by
 intro pins s σ H x y v u Q I rx ry h
 obtain ⟨d,e,hd,he,c1,c2,dp,q⟩:=h
 obtain ⟨as,ra⟩:=hd.reads I.aW rx
 obtain ⟨bs,rb⟩:=he.reads I.aW ry
 exact SeqAt.compareEq_reads ra rb c1 c2 (by omega) ⟨.bl _,H,I,rfl,q⟩
theorem uP (hu:X.A.units + 64 < cLine):iH X (compareOp .NotEq) (Ml true):=by
 intro pins s σ H x y v u Q I rx ry h
 obtain ⟨d,e,hd,he,c1,c2,dp,q⟩:=h
 obtain ⟨as,ra⟩:=hd.reads I.aW rx
 obtain ⟨bs,rb⟩:=he.reads I.aW ry
 exact SeqAt.compareNe_reads ra rb c1 c2 (by omega) ⟨.bl _,H,I,rfl,q⟩
def Mh (neg:Bool):R2:=fun x y H Q=>∃ d es,DV H d x /\ (DV H (.list es) y \/ DV H (.tuple es) y) /\ d.canLay0 = true /\ PyData.canLayAll0 es = true /\ d.depth <= 60 /\
 Q (.bl (if neg then !(es.any fun e=>PyData.eqv e d) else es.any fun e=>PyData.eqv e d)) H
theorem PN (hu:X.A.units + 64 < cLine):iH X (compareOp .In) (Mh false):=by
 intro pins s σ H x y v u Q I rx ry h
 obtain ⟨d,es,hd,he,c1,c2,dp,q⟩:=h
 obtain ⟨as,ra⟩:=hd.reads I.aW rx
 rcases he with he | he
 ·obtain ⟨bs,rb⟩:=he.reads I.aW ry
  exact SeqAt.in_list_reads rb ra c2 c1 (by omega) ⟨.bl _,H,I,rfl,q⟩
 ·obtain ⟨bs,rb⟩:=he.reads I.aW ry
  exact SeqAt.in_tuple_reads rb ra c2 c1 (by omega) ⟨.bl _,H,I,rfl,q⟩
theorem Cg (hu:X.A.units + 64 < cLine):iH X (compareOp .NotIn) (Mh true):=by
 intro pins s σ H x y v u Q I rx ry h
 obtain ⟨d,es,hd,he,c1,c2,dp,q⟩:=h
 obtain ⟨as,ra⟩:=hd.reads I.aW rx
 rcases he with he | he
 ·obtain ⟨bs,rb⟩:=he.reads I.aW ry
  exact SeqAt.notIn_list_reads rb ra c2 c1 (by omega) ⟨.bl _,H,I,rfl,q⟩
 ·obtain ⟨bs,rb⟩:=he.reads I.aW ry
  exact SeqAt.notIn_tuple_reads rb ra c2 c1 (by omega) ⟨.bl _,H,I,rfl,q⟩
theorem wR:cK X (.builtin "isinstance") (fun xs H Q=>∃ x t T b,xs = [x,.ty T] /\ nu X.K H x t /\ PySem.W.kitOne X.K t (.type T) = some b /\ Q (.bl b) H):=by
 intro pins s σ H xs us Q I r h
 obtain ⟨x,t,T,b,rfl,ty,e,q⟩:=h
 obtain ⟨u,w',rfl,r1,r2⟩:=vals2 r
 cases r2
 exact uv I r1 ty e fun tk=>⟨.bl b,H,I.tok tk,rfl,q⟩
theorem DM (K:aaG) (T:String):PySem.W.kitOne K (.type T) (.type T) = some true:=by
 unfold PySem.W.kitOne
 rw [if_pos (by simp)]
end
end L2
namespace PySem
open Sem (wp)
open AutoSeq1 (wpAny_loadPart')
section
variable {prog:Program} {w:World} {A:Around} {E:Value->Shared->Prop} {s:Shared}
theorem tK {Q:List Value->Shared->Prop} {r:Addr} {a b c:Int} {t u v:Tok} {n:Nat} (hh:A.handled = none) (hr:IsRange s.heap r a b c t u v) (sA:Builtin.Range.small a b c = true)
  (hn:Builtin.Range.rangeSize a b c = n) (hlen:n <= 2 ^ 24)
  (hQ:∀ s' acc,(∀ b o,s.heap.get? b = some o->s'.heap.get? b = some o)->s'.gens = s.gens->s'.drawn = s.drawn->s'.os = s.os->ItemsOf (fun i v=>∃ t,v = .int (a + i * c) t) acc n->Q acc.toList s') :
  wpAny (model prog w) A (collect (.ref r)) Q E s:=by
 unfold collect
 refine X3 (wpAny_runValue (codeAny_builtin F.entry_proto_collect ?_))
 rw [Around.under_plainId F.plain_proto_collect _]
 show wpAny _ A.in1 (newList [] >>= fun l=>again (.builtin "list.__iadd__" ⟨[l,.ref r],[]⟩)) _ _ s
 refine X3 (YR ?_)
 refine X4 ⟨plainId_quiet F.plain_list_iadd _,codeAny_builtin F.entry_list_iadd ?_⟩
 rw [Around.under_plainId F.plain_list_iadd _]
 show wpAny _ A.in1 (Builtin.List.listExtendWith (.ref s.heap.objs.size) (.ref r) (.ref s.heap.objs.size)) _ _ _
 have hS:(s.heap.push { cls:=.type "list",data:=.seq ([]:List Value).toArray }).get? s.heap.objs.size = some { cls:=.type "list",data:=.seq #[] 0 }:=Yg _ rfl
 have Lo:∀ (h':Heap) (tk:Nat) (acc:Array Value) (c':Nat),(∀ b o,b ≠ s.heap.objs.size->(s.heap.push { cls:=.type "list",data:=.seq ([]:List Value).toArray }).get? b = some o->h'.get? b = some o) ->
   h'.get? s.heap.objs.size = some { cls:=.type "list",dict:=none,data:=.seq acc c',slots:=#[] }->ItemsOf (fun i v=>∃ t,v = .int (a + i * c) t) acc n ->
   wpAny (model prog w) A (match Value.ref s.heap.objs.size with
   | Value.ref a=>do
    match (<- load a).data with
     | Data.seq xs _=>pure xs.toList
     | _=>unsupported "internal:collect"
   | _=>unsupported "internal:collect") Q E { s with heap:=h',toks:=tk }:=by
  intro h' tk acc c' hk v9 pZ
  show wpAny _ A (load s.heap.objs.size >>= _) _ _ _
  refine X3 (wpAny_load v9 ?_)
  refine X4 ?_
  exact hQ { s with heap:=h',toks:=tk } acc (fun b o' hb=>hk b o' (YB (Ym hb)) (X5 _ hb)) rfl rfl rfl pZ
 refine Zn (wpAny_extend_range (A:=A) (R:=fun r s'=>r = .ok (.ret (.ref s.heap.objs.size)) /\ ∃ (h':Heap) (tk:Nat) (acc:Array Value) (c':Nat),s' = { s with heap:=h',toks:=tk } /\
   (∀ b o,b ≠ s.heap.objs.size->(s.heap.push { cls:=.type "list",data:=.seq ([]:List Value).toArray }).get? b = some o->h'.get? b = some o) /\
   h'.get? s.heap.objs.size = some { cls:=.type "list",dict:=none,data:=.seq acc c',slots:=#[] } /\ ItemsOf (fun i v=>∃ t,v = .int (a + i * c) t) acc n)
  (s:={ s with heap:=s.heap.push { cls:=.type "list",data:=.seq ([]:List Value).toArray } }) hh (X5 _ hr) sA hn hlen s.heap.objs.size (.ref s.heap.objs.size) 0 hS
  fun h' tk Ph c' hk v9 pZ=>⟨rfl,h',tk,Ph,c',rfl,hk,v9,pZ⟩) (fun fin s' h=>?_) (fun e s' h=>?_)
 ·cases fin with
  | done f =>
   obtain ⟨e,h',tk,acc,c',rfl,hk,v9,pZ⟩:=h
   cases e
   exact Lo h' tk acc c' hk v9 pZ
  | again c'=>exact ⟨h.1,codeAny_mono h.2 fun r wA hr=>by obtain ⟨rfl,h',tk,acc,c',rfl,hk,v9,pZ⟩:=hr; exact Lo h' tk acc c' hk v9 pZ⟩
 ·exact absurd h.1 (by simp)
end
theorem jM (r:Addr) (a b c:Int) (t u v:Tok) (n:Nat) (sA:Builtin.Range.small a b c = true) (hn:Builtin.Range.rangeSize a b c = n) (hlen:n <= 2 ^ 20) :
  Meets (Builtin.«tuple.__new__» ⟨[.type "tuple",.ref r],[]⟩)
   (fun A R s=>A.handled = none /\ IsRange s.heap r a b c t u v /\ ∀ (s':Shared) (acc:Array Value),(∀ b o,s.heap.get? b = some o->s'.heap.get? b = some o)->s'.gens = s.gens->s'.drawn = s.drawn->s'.os = s.os->ItemsOf (fun i v=>∃ t,v = .int (a + i * c) t) acc n ->
    R (.ok (.ret (.ref s'.heap.objs.size))) { s' with heap:=s'.heap.push { cls:=.type "tuple",data:=.seq acc } }) :=
 .of_wp fun prog w A R s h=>by
  obtain ⟨hh,hr,h⟩:=h
  have BR:=sub_tuple_self
  have Rf:=init_tuple_lookup
  have XI:=madeHere_tuple
  have hT:s.TypeIs (.ref r) "range":=⟨_,hr,rfl⟩
  have UU:A.in1.handled = none:=hh
  wp_walk using wpAny_loadPart' hr,wpAny_typeOf hT,tK (n:=n) UU hr sA hn (by omega)
  intro s' acc hk hg hd Fo pZ
  show wpAny _ _ (Builtin.Tuple.tupleExact acc.toList.toArray >>= fun v=>ret v) _ _ _
  unfold Builtin.Tuple.tupleExact
  refine X3 (YR ?_ (show acc.toList.toArray.size <= sizeLine by simp only [ZY]; rw [pZ.1,ZQ]; omega))
  refine X4 ⟨_,rfl,?_⟩
  have e:acc.toList.toArray = acc:=by simp
  rw [e]
  exact h s' acc hk hg hd Fo pZ
section
variable {prog:Program} {w:World} {A:Around} {E:Value->Shared->Prop} {s:Shared}
theorem qy {Q:Value->Shared->Prop} {r:Addr} {a b c:Int} {t u v:Tok} {n:Nat} (hh:A.handled = none) (hr:IsRange s.heap r a b c t u v) (sA:Builtin.Range.small a b c = true)
  (hn:Builtin.Range.rangeSize a b c = n) (hlen:n <= 2 ^ 20)
  (h:∀ (h':Heap) (tk:Nat) (acc:Array Value),(∀ b o,s.heap.get? b = some o->h'.get? b = some o)->ItemsOf (fun i v=>∃ t,v = .int (a + i * c) t) acc n->Q (.ref h'.objs.size) { s with heap:=h'.push { cls:=.type "tuple",data:=.seq acc },toks:=tk }) :
  wpAny (model prog w) A (call (.type "tuple") [.ref r]) Q E s:=by
 refine callType_new F.called_tuple (by decide) (F.typeCall_tuple_1 _) (F.newCall_tuple_1 _) (fun obj=>F.args_object_init_2 obj _) F.entry_tuple_new
  (jM r a b c t u v n sA hn hlen) ⟨hh,hr,fun s' acc hk hg hd Fo pZ=>⟨⟨_,Yg _ rfl,rfl⟩,?_⟩⟩
 obtain ⟨h',g',d',R0,Qp⟩:=s'
 have e1:g' = s.gens:=hg
 have e2:d' = s.drawn:=hd
 have e3:Qp = s.os:=Fo
 subst e1 e2 e3
 exact h h' R0 acc hk pZ
end
end PySem
namespace L2
open PySem PySem.Spec PyProof.Rows
theorem AW:∀ {xs:List V} {us:List Value},xs.length = us.length->(∀ (i:Nat) x u,xs[i]? = some x->us[i]? = some u->RelV x u)->Vals xs us
 | [],[],_,_=>.nil
 | [],_ :: _,h,_=>by simp at h
 | _ :: _,[],h,_=>by simp at h
 | x :: xs,u :: us,h,f=>.cons (f 0 x u rfl rfl) (AW (by simpa using h) fun i y z h1 h2=>f (i + 1) y z (by simpa using h1) (by simpa using h2))
def a6 (n:Nat):List Int:=(List.range n).map fun k:Nat=>(k:Int)
theorem bE (n:Nat):(a6 n).length = n:=by simp [a6]
theorem EB {n i:Nat} (h:i < n):(a6 n)[i]? = some (i:Int):=by simp [a6,h]
theorem gK (n:Nat):a6 (n + 1) = a6 n ++ [(n:Int)]:=by simp [a6,List.range_succ]
theorem c8 {n:Nat} {i:Int}:i ∈ a6 n ↔ 0 <= i /\ i < n:=by
 simp only [a6,YI,List.mem_range]
 constructor
 ·rintro ⟨k,hk,rfl⟩; omega
 ·rintro ⟨h0,h1⟩; exact ⟨i.toNat,by omega,by omega⟩
section
variable {X:Cx}
theorem oY:cK X (.type "range") (fun xs H Q=>∃ j,xs = [.int j] /\ ∀ p,H p = none->Q (.ref p) (upd H p (.CJ 0 j))):=by
 intro pins s σ H xs us Q I r h
 obtain ⟨j,rfl,q⟩:=h
 obtain ⟨u,rfl,t,rfl⟩:=vals1 r
 refine call_range_1 ?_
 exact ⟨.ref s.heap.objs.size,_,I.laid (o:=.CJ 0 j) (fun b o e=>X5 _ e) (X7 _) ⟨_,_,_,Yg _ rfl⟩,rfl,q _ (I.aW.fresh (X7 _))⟩
theorem iI (hc:X.calm = true):cK X (.type "tuple") (fun xs H Q=>∃ p n,xs = [.ref p] /\ H p = some (.CJ 0 (n:Nat)) /\ n <= 1000 /\ ∀ l,H l = none->Q (.ref l) (upd H l (.tup ((a6 n).map V.int)))):=by
 intro pins s σ H xs us Q I r h
 obtain ⟨p,n,rfl,hp,hn,q⟩:=h
 obtain ⟨u,rfl,rx⟩:=vals1 r
 cases rx
 obtain ⟨t,u,v,e⟩:=I.aW p _ hp
 have hsz:Builtin.Range.rangeSize 0 (n:Int) 1 = n:=by rw [rangeSize_one]; split <;> omega
 refine qy (n:=n) (I.ok.hd hc) e (small_one (by omega) (by omega) (by omega) (by omega)) hsz (by omega) fun h' tk acc kp items=>?_
 have I1:Inv X pins σ H { s with heap:=h',toks:=tk }:=I.kept (t':=tk) kp
 have hv:Vals ((a6 n).map V.int) acc.toList:=by
  refine AW (by rw [X6,bE,Ye,items.1]) fun i x u h1 h2=>?_
  have hi:i < n:=by
   have:=(Ys.mp h1).1
   rw [X6,bE] at this
   exact this
  rw [Yl,EB hi] at h1
  cases h1
  obtain ⟨t',e'⟩:=items.2 i u (by simpa using h2)
  exact ⟨t',by rw [e']; congr 1; omega⟩
 have hz:((a6 n).map V.int).length <= sizeLine:=by rw [X6,bE,ZQ]; omega
 have I2:Inv X pins σ (upd H h'.objs.size (.tup ((a6 n).map V.int))) { s with heap:=h'.push { cls:=.type "tuple",data:=.seq acc },toks:=tk } :=
  I1.laid (t':=tk) (fun b o e=>X5 _ e) (X7 _) (show cj X.prog X.w _ _ _ (.tup ((a6 n).map V.int)) from ⟨hz,acc.toList,hv,⟨_,Yg _ rfl,rfl,0,by simp⟩⟩)
 exact ⟨.ref h'.objs.size,_,I2,rfl,q _ (I1.aW.fresh (X7 _))⟩
end
theorem cj.there {P:Program} {w:World} {H:Hp} {h:Heap} {a:Addr} {o:HO} (x:cj P w H h a o):∃ ob,h.get? a = some ob:=by
 cases o with
 | lst xs=>obtain ⟨_,_,_,_,e⟩:=x; exact ⟨_,e⟩
 | tup xs=>obtain ⟨_,_,_,o,e,_⟩:=x; exact ⟨o,e⟩
 | dK kvs=>obtain ⟨_,_,_,_,o,_,_,e,_⟩:=x; exact ⟨o,e⟩
 | dT kvs=>obtain ⟨_,_,_,_,o,_,_,e,_⟩:=x; exact ⟨o,e⟩
 | set S n=>obtain ⟨o,_,_,_,e,_⟩:=x; exact ⟨o,e⟩
 | ins C dx fs=>obtain ⟨_,_,_,e,_⟩:=x; exact ⟨_,e⟩
 | own y=>exact x
 | xd fs=>obtain ⟨_,⟨o,_,_,e,_⟩,_⟩:=x; exact ⟨o,e⟩
 | CJ lo hi=>obtain ⟨_,_,_,e⟩:=x; exact ⟨_,e⟩
 | yA ob u=>obtain ⟨e,_⟩:=x; exact ⟨_,e⟩
 | HF ps=>exact ⟨_,x⟩
 | met f y=>exact ⟨_,x⟩
 | ext φ=>obtain ⟨_,e,_⟩:=x; exact e
def yO (P:Program) (w:World):zA:=fun outer H s E e s'=>∃ (a C:Addr) (a0:Value) (B:Heap) (H':Hp),e = .ref a /\ s'.os = s.os /\ AllBare s'.gens /\ Un (mn outer) [] H H' s.heap s'.heap /\ jO P w H' s'.heap /\
 Heap.FlyingW B outer a (.ref C) a0 s'.heap /\ (∀ b o,s.heap.get? b = some o->H b = none->b ∉ mn outer->B.get? b = some o) /\ (∀ b o,s.heap.get? b = some o->b ∉ mn outer->∃ o',B.get? b = some o') /\
 (∀ b u,H' b = some u->∃ ob,s'.heap.get? b = some ob /\ B.get? b = some ob) /\ E (.ref C) none H'
section
variable {X:Cx} {pins:List (Addr × Obj)} {σ:St} {H H':Hp} {s:Shared} {h':Heap}
theorem DQ (I:Inv X pins σ H s) (hex:X.ex = []) (u:Un (mn X.stack) [] H H' s.heap h'):Un X.fs [] X.H₀ H' X.s₀.heap h':=by
 have SY:∀ b o,X.s₀.heap.get? b = some o->b ∉ X.fs->b ∉ mn X.stack:=fun b o e hb hm=>by
  rcases Yb.mp (I.mz b hm) with z | z
  ·exact absurd (YF (Ym e) I.ok.above) (by rw [z]; exact Zf _)
  ·exact hb z
 have nx:∀ b:Addr,b ∉ X.ex:=fun b hb=>by rw [hex] at hb; cases hb
 have ne:∀ b:Addr,b ∉ ([]:List Addr):=fun b hb=>by cases hb
 refine ⟨fun b o e n hb _=>?_,fun b o e n hb _=>?_,fun b o e n _=>?_,fun b o e _=>?_,fun b xs e=>u.iG b xs (I.base.iG b xs e),fun b o v e=>u.jL b o v (I.base.jL b o v e),fun b ps e=>?_⟩
 ·exact u.keep b o (I.base.keep b o e n hb (nx b)) (I.base.free b o e n (nx b)) (SY b o e hb) (ne b)
 ·obtain ⟨sl,e1⟩:=I.base.slot b o e n hb (nx b)
  obtain ⟨GJ,e2⟩:=u.any e1 (I.base.free b o e n (nx b)) (ne b)
  exact ⟨GJ,e2⟩
 ·obtain ⟨o',e1⟩:=I.base.there b o e (nx b)
  exact u.free b o' e1 (I.base.free b o e n (nx b)) (ne b)
 ·obtain ⟨o',e1⟩:=I.base.there b o e (nx b)
  exact u.there b o' e1 (ne b)
 ·obtain ⟨m1,e1⟩:=I.base.jQ b ps e
  obtain ⟨m2,e2⟩:=u.jQ b _ e1
  exact ⟨m1 ++ m2,by rw [e2,Array.append_assoc]⟩
theorem wc (I:Inv X pins σ H s) {b:Addr} {o:Obj} (e:X.s₀.heap.get? b = some o) (hb:b ∉ X.fs):b ∉ mn X.stack:=fun hm=>by
 rcases Yb.mp (I.mz b hm) with z | z
 ·exact absurd (YF (Ym e) I.ok.above) (by rw [z]; exact Zf _)
 ·exact hb z
end
def LV (X:Cx) (E:XK):Prop:=∀ (pins:List (Addr × Obj)) (σ:St) (H:Hp) (s:Shared) (h':Heap) (a C:Addr) (vs:List Value),Inv X pins σ H s->Heap.MadeExcOf s.heap h' a (.ref C) vs->E (.ref C) none H->X.xe (.ref a) { s with heap:=h' }
section
variable {P:Program} {w:World} {K:aaG} {mg:Str->Option Value} {base:Heap} {N:List Str} {qual:Str} {scope:Scope} {f:Addr} {cd:Value} {A:Around} {outer:List Env} {s₀:Shared} {H₀:Hp} {E:XK}
abbrev wu (P:Program) (w:World) (K:aaG) (mg:Str->Option Value) (base:Heap) (N:List Str) (qual:Str) (scope:Scope) (f:Addr) (cd:Value) (A:Around) (outer:List Env) (s₀:Shared) (H₀:Hp) (E:XK):Cx :=
 xo (yO P w) P w K mg base N qual scope f cd A outer s₀ H₀ E
theorem wU:LV (wu P w K mg base N qual scope f cd A outer s₀ H₀ E) E:=by
 intro pins σ H s h' a C vs I hx hE
 have kC:(wu P w K mg base N qual scope f cd A outer s₀ H₀ E).stack = envOfC qual scope s₀.heap.objs.size f cd :: outer:=rfl
 have wL:∀ env ∈ (wu P w K mg base N qual scope f cd A outer s₀ H₀ E).stack,∀ b,env.frame = some b->b ∈ mn (wu P w K mg base N qual scope f cd A outer s₀ H₀ E).stack:=fun env he b hb=>List.mem_filterMap.mpr ⟨env,he,hb⟩
 show wpAny (model P w) (A.deeper (envOfC qual scope s₀.heap.objs.size f cd)) («leaving» (envOfC qual scope s₀.heap.objs.size f cd) (.ref a)) _ _ _
 refine wpAny_leaves_madeW (base:=PySem.W.hideAll s.heap (mn (wu P w K mg base N qual scope f cd A outer s₀ H₀ E).stack)) I.ok.frames rfl (fun b o q=>PySem.W.of_hideAll _ q) (PySem.W.funFrames_hide I.stack wL) hx fun h2 t fl tup ht up=>?_
 have gB:∀ b o,s.heap.get? b = some o->b ∉ mn (wu P w K mg base N qual scope f cd A outer s₀ H₀ E).stack->(PySem.W.hideAll s.heap (mn (wu P w K mg base N qual scope f cd A outer s₀ H₀ E).stack)).get? b = some o:=fun b o e hb=>PySem.W.hideAll_get _ e hb
 have gF:∀ b o,s.heap.get? b = some o->b ∈ mn (wu P w K mg base N qual scope f cd A outer s₀ H₀ E).stack->∃ sl,h2.get? b = some { o with slots:=sl }:=fun b o e hb=>by
  obtain ⟨_,o',e',hd⟩:=I.stack.mem hb
  rw [e] at e'; cases e'
  exact up b o (hx.keeps b o e) hd
 have JX:∀ b u,H b = some u->b ∉ mn (wu P w K mg base N qual scope f cd A outer s₀ H₀ E).stack:=fun b u e hb=>by rw [I.qt b hb] at e; cases e
 have un:Un (mn (wu P w K mg base N qual scope f cd A outer s₀ H₀ E).stack) [] H H s.heap h2:=by
  refine ⟨fun b o e _ hb _=>fl.1 b o (gB b o e hb),fun b o e _ hb _=>gF b o e hb,fun _ _ _ n _=>n,fun b o e _=>?_,fun _ _ q=>q,fun _ _ _ q=>q,fun _ ps q=>⟨#[],by rw [q]; simp⟩⟩
  by_cases hb:b ∈ mn (wu P w K mg base N qual scope f cd A outer s₀ H₀ E).stack
  ·obtain ⟨sl,q⟩:=gF b o e hb
   exact ⟨_,q⟩
  ·exact ⟨o,fl.1 b o (gB b o e hb)⟩
 have nx:∀ b:Addr,b ∉ (wu P w K mg base N qual scope f cd A outer s₀ H₀ E).ex:=fun b hb=>by cases hb
 refine ⟨a,C,.ref t,_,H,rfl,I.os,I.bare,DQ I rfl un,fun b u e=>?_,fl,fun b o e n hb=>?_,fun b o e hb=>?_,fun b u e=>?_,hE⟩
 ·refine (I.aW b u e).lT (fun c v hc q=>?_) (fun _ q=>q) fun _ _ q=>q
  have hH:∃ u',H c = some u':=by
   rcases hc with z | z
   ·exact ⟨u,by rw [z]; exact e⟩
   ·exact ⟨_,z⟩
  obtain ⟨u',wx⟩:=hH
  exact fl.1 c v (gB c v q (JX c u' wx))
 ·exact gB b o (I.base.keep b o e n hb (nx b)) (wc I e hb)
 ·obtain ⟨o',e1⟩:=I.base.there b o e (nx b)
  exact ⟨o',gB b o' e1 (wc I e hb)⟩
 ·obtain ⟨ob,q⟩:=(I.aW b u e).there
  have z:=gB b ob q (JX b u e)
  exact ⟨ob,fl.1 b ob z,z⟩
theorem lP:Passes (yO P w) (wu P w K mg base N qual scope f cd A outer s₀ H₀ E) E:=by
 intro pins σ H s e s' I h
 obtain ⟨a,C,a0,B,H',rfl,os,bare,un,aW,fl,Rh,Ru,tr,hE⟩:=h
 show wpAny (model P w) (A.deeper (envOfC qual scope s₀.heap.objs.size f cd)) («leaving» (envOfC qual scope s₀.heap.objs.size f cd) (.ref a)) _ _ _
 refine wpAny_leaves_onW I.ok.frames rfl fl fun h2 mv up=>?_
 have ne:∀ b:Addr,b ∉ ([]:List Addr):=fun b hb=>by cases hb
 have nx:∀ b:Addr,b ∉ (wu P w K mg base N qual scope f cd A outer s₀ H₀ E).ex:=fun b hb=>by cases hb
 have gF:∀ b o,s.heap.get? b = some o->b ∈ mn (wu P w K mg base N qual scope f cd A outer s₀ H₀ E).stack->∃ sl,h2.get? b = some { o with slots:=sl }:=fun b o e hb=>by
  obtain ⟨_,o',e',hd⟩:=I.stack.mem hb
  rw [e] at e'; cases e'
  obtain ⟨sl,q⟩:=un.slot b o e (I.qt b hb) hb (ne b)
  obtain ⟨GJ,q'⟩:=up b _ q hd
  exact ⟨GJ,q'⟩
 have VI:Un (mn (wu P w K mg base N qual scope f cd A outer s₀ H₀ E).stack) [] H H' s.heap h2:=by
  refine ⟨fun b o e n hb _=>mv.1 b o (Rh b o e n hb),fun b o e _ hb _=>gF b o e hb,un.free,fun b o e _=>?_,un.iG,un.jL,un.jQ⟩
  by_cases hb:b ∈ mn (wu P w K mg base N qual scope f cd A outer s₀ H₀ E).stack
  ·obtain ⟨sl,q⟩:=gF b o e hb
   exact ⟨_,q⟩
  ·obtain ⟨o',q⟩:=Ru b o e hb
   exact ⟨o',mv.1 b o' q⟩
 refine ⟨a,C,a0,B,H',rfl,os.trans I.os,bare,DQ I rfl VI,fun b u e=>?_,mv,fun b o e n hb=>?_,fun b o e hb=>?_,fun b u e=>?_,hE⟩
 ·refine (aW b u e).lT (fun c v hc q=>?_) (fun _ q=>q) fun _ _ q=>q
  have hH:∃ u',H' c = some u':=by
   rcases hc with z | z
   ·exact ⟨u,by rw [z]; exact e⟩
   ·exact ⟨_,z⟩
  obtain ⟨u',wx⟩:=hH
  obtain ⟨ob,q1,q2⟩:=tr c u' wx
  rw [q] at q1; cases q1
  exact mv.1 c v q2
 ·exact Rh b o (I.base.keep b o e n hb (nx b)) (I.base.free b o e n (nx b)) (wc I e hb)
 ·obtain ⟨o',e1⟩:=I.base.there b o e (nx b)
  exact Ru b o' e1 (wc I e hb)
 ·obtain ⟨ob,q1,q2⟩:=tr b u e
  exact ⟨ob,mv.1 b ob q2,q2⟩
end
theorem Hn {K:aaG} {h:Heap} {C:Addr} {Ma:List Value} {newId:String} (X:K.In h) (q:PySem.W.excIn K C Ma newId = true):∃ bm N nm qn bs hdct sn sub ab col dd k0 k1 k2 k3 k5 mN,
  h.get? C = some (excClassObj nm qn C N bs bm hdct sn sub ab col dd k0 k1 k2 k3 k5 newId) /\ h.Ns N mN /\ mN "__init__" = none /\ OwnTail h Ma bm:=by
 unfold PySem.W.excIn at q
 split at q
 ·rename_i dd cd sl ho
  split at q
  ·rename_i C' bm k0 k1 k2 k3 n k5 hm hs
   simp only [YM,ZZ,Bool.not_eq_true'] at q
   obtain ⟨⟨⟨⟨⟨rfl,rfl⟩,Lj⟩,ht⟩,aW⟩,Oa⟩:=q
   obtain ⟨nm,bs,mro,ns,qn,hd,sn,sub,ab,col,del⟩:=cd
   dsimp only at hm Lj aW Oa
   subst hm Lj
   have W5:sl = #[k0,k1,k2,k3,some (.builtin n),k5]:=by
    obtain ⟨l⟩:=sl
    simp only at hs
    rw [hs]
   subst W5
   exact ⟨bm,ns,nm,qn,bs,hd,sn,sub,ab,col,dd,k0,k1,k2,k3,k5,_,X _ _ ho,.of_isNs (PySem.W.isNs_of_in X aW),PySem.W.nsMap_none_of_in X aW Oa,PySem.W.tail_of_in X ht⟩
  ·cases q
 ·cases q
section
variable {X:Cx} {E:XK} {x:Str} {C:Addr} {B newId IZ:String} {Ma:List Value} {np dM pos:Pos} {e₀:Expr} {rest:List Expr} {ta:TA}
def JP (C:Addr) (E:XK) (ta:TA):TS:=fun _ σ H=>ta σ H fun vs H1=>vs.length <= sizeLine /\ E (.ref C) none H1
theorem xP (ho:LV X E) (hc:X.calm = true) (hg:Gl X x) (hm:X.mg x = some (.ref C)) (q:PySem.W.excIn X.K C Ma newId = true) (FB:ExcBaseFacts B newId IZ Ma) (ha:PA X (e₀ :: rest) ta)
  (he:starEach (e₀ :: rest) X.env = (false,eval e₀ X.env) :: starEach rest X.env:=by rfl) (ma:(backTo dM (starEach rest X.env)).any (·.1) = false:=by rfl) (hd:(x == ("__debug__":Str)) = false:=by decide) :
  PS X (.Raise (some (.Call (.Name x np) (e₀ :: rest) [] dM)) none pos) (JP C E ta):=by
 intro pins s σ H D I h
 obtain ⟨bm,N,nm,qn,bs,hdct,sn,sub,ab,col,dd,k0,k1,k2,k3,k5,mN,hC,hN,Oa,T⟩:=Hn I.mod.A6 q
 refine wpAny_Raise_call_subT (C:=C) (nm:=nm) (q:=qn) (N:=N) (bs:=bs) (bm:=bm) (hdct:=hdct) (sn:=sn) (sub:=sub) (ab:=ab) (col:=col) (dd:=dd) (k0:=k0) (k1:=k1) (k2:=k2) (k3:=k3) (k5:=k5)
  FB (mN:=mN) (T.hasType FB.hasBase) (I.ok.hd hc) (by rw [he]; show (false || (backTo dM (starEach rest X.env)).any (·.1)) = false; rw [ma]; rfl) Oa (mE I hg hm ⟨rfl,?_⟩ hd)
 have hA:=ha dM pins s σ H _ I h
 rw [he] at hA ⊢
 refine Calls.evalArgs_plain (bT hA fun us s2 ⟨vs,H2,I2,r2,hl,hE⟩=>⟨rfl,by rw [<- r2.length]; exact hl,I2.bk _ _ hC,hN.keeps I2.bk,T.keeps I2.bk,fun h' e hx=>?_⟩)
 exact ho pins σ H2 s2 h' e C us I2 hx hE
end
theorem Gp.NW {P:Program} {w:World} {K:aaG} {mg:Str->Option Value} {base:Heap} {x qual:Str} {st:Stmt} {f:Addr} {fd:FuncData} {N ps:List Str} {k:Nat} {sp:Sp} (F:Gp K x qual st f fd) (S:av N ps (aj st)) (len:∀ vs H Q E,sp vs H Q E->vs.length = ps.length)
  (yd:∀ (ci:Value) (A:Around) (outer:List Env) (s:Shared) (H:Hp) (vs:List V) (Q:VK) (E:XK),eD k (A.deeper (envOfC qual (aj st) s.heap.objs.size f ci))->sp vs H Q E ->
   ∃ t,v8 (wu P w K mg base N qual (aj st) f ci A outer s H E) (cD st) t /\ t { nx:=fun _ H'=>Q .cP H',rt:=Q } (start N vs) H):au P w K mg base (yO P w) (k + 1) f fd ps sp:=by
 obtain ⟨oc,od,kV,doc,pm,an,ci,ct,GS,rfl,lk,yZ⟩:=F.ex
 exact Ih lk yZ S len fun A outer s H vs Q E hr CM=>yd ci A outer s H vs Q E hr CM
end L2
namespace PyProof.Rows
open PySem PySem.W
section
variable {prog:Program} {w:World} {A:Around} {E:Value->Shared->Prop} {s:Shared}
theorem Dd {T:String} {l:Addr} {o:Obj} {vs:List Value} {n:Nat} {Q:List Value->Shared->Prop} (hT:T = "list" \/ T = "tuple") (ho:s.heap.get? l = some o) (hc:o.cls = .type T) (hd:o.data = .seq vs.toArray n) (hz:vs.length <= sizeLine)
  (hQ:Q vs { s with heap:=(s.heap.push (seqObj "list" #[] 0)).update s.heap.objs.size (Obj.mapSeq (· ++ vs.toArray)) }):wpAny (model prog w) A (collect (.ref l)) Q E s:=by
 have up:(s.heap.push (seqObj "list" #[] 0)).get? l = some o:=X5 _ ho
 have nw:(s.heap.push (seqObj "list" #[] 0)).get? s.heap.objs.size = some (seqObj "list" #[] 0):=Yg _ rfl
 have cond:∀ x y:Value,(Builtin.List.listSameRef x y || Value.type T == Value.type "list" || Value.type T == Value.type "tuple") = true:=fun x y=>by
  rcases hT with rfl | rfl <;> simp
 unfold collect
 refine X3 (wpAny_runValue (codeAny_builtin entry_proto_collect' ?run))
 case run =>
  refine X3 (wpAny_newList (X4 ⟨Code.quiet_builtin _ (by decide +kernel),codeAny_builtin entry_list_iadd' ?ext⟩))
  case ext =>
   show wpAny _ _ (Builtin.List.listExtendWith (.ref s.heap.objs.size) (.ref l) (.ref s.heap.objs.size)) _ _ _
   unfold Builtin.List.listExtendWith
   refine X3 (wpAny_typeOf (T:=T) ⟨o,up,hc⟩ ?_); rw [if_pos (cond _ _)]
   refine X3 (listItems_at up hd (X3 (listItems_at nw rfl ?_))); rw [if_neg (by simp)]
   refine X3 (aav nw rfl (X4 ?_) (YD _) (by show (#[] ++ vs.toArray).size <= sizeLine + 1; simp only [ZB,Yk,List.length_nil]; omega))
   refine X3 (wpAny_load (get?_update_seq nw _) ?_)
   have e:(#[] ++ vs.toArray:Array Value).toList = vs:=by simp
   show wpAny _ _ (pure (#[] ++ vs.toArray:Array Value).toList) Q E _
   rw [e]; exact X4 hQ
theorem Ct {a:Addr} {vs out:List Value} {n:Nat} {P:PySem.Fin->Shared->Prop} (ho:s.heap.get? a = some (seqObj "list" vs.toArray n)) (hz:vs.length <= sizeLine) (hlen:out.length = vs.length) (short:vs.length < 2->out = vs)
  (run:2 <= vs.length->∀ h':Heap,(∀ b o,b ≠ a->s.heap.get? b = some o->h'.get? b = some o)->wpAny (model prog w) A (keyKind' vs.toArray) (fun κ s1=>s1 = { s with heap:=h' } /\
   wpAny (model prog w) A ((sortRuns').run (SortSt.mk' κ (vs.toArray.zip vs.toArray) #[] 7 none)) (fun r s2=>s2 = { s with heap:=h' } /\ failedOf r.2 = none /\ (arrOf r.2).map (·.2) = out.toArray) E s1) E { s with heap:=h' })
  (hP:P (.done (.ret .none)) { s with heap:=sortedHeap s.heap a vs out.toArray }):wpAny (model prog w) A (Builtin.«list.sort» ⟨[.ref a],[]⟩) P E s:=by
 have ha:a < s.heap.objs.size:=Ym ho
 have AM:vs.toArray.size <= sizeLine:=hz
 have M0:out.toArray.size <= sizeLine + 1:=Nat.le_succ_of_le (by show out.length <= sizeLine; rw [hlen]; exact hz)
 obtain ⟨e1,yi⟩:∃ e1,(s.heap.update a (Obj.mapSeq fun _=>#[])).get? a = some (seqObj "list" #[] e1):=⟨_,get?_update_seq ho fun _=>#[]⟩
 have old:∀ b o,b ≠ a->s.heap.get? b = some o->(((s.heap.update a (Obj.mapSeq fun _=>#[])).push (seqObj "tuple" vs.toArray 0)).push (seqObj "list" #[] 0)).get? b = some o:=fun b o hb e =>
  X5 _ (X5 _ ((Heap.get?_update_ne _ _ _ _ hb).trans e))
 have LA:(((s.heap.update a (Obj.mapSeq fun _=>#[])).push (seqObj "tuple" vs.toArray 0)).push (seqObj "list" #[] 0)).get? a = some (seqObj "list" #[] e1):=X5 _ (X5 _ yi)
 rw [list_sort_plain]
 refine X3 (listItems_at ho rfl (X3 (aav ho rfl (X3 (seqEpoch_at yi rfl (X3 (wpAny_newTuple (X3 (wpAny_newList (Zk ?_) (YD _))) hz))) ) AM (YD _))))
 show wpAny _ _ _ _ _ { s with heap:=((s.heap.update a (Obj.mapSeq fun _=>#[])).push (seqObj "tuple" vs.toArray 0)).push (seqObj "list" #[] 0) }
 dsimp only
 have fin:∀ st:SortSt,failedOf st = none->(arrOf st).map (·.2) = out.toArray->wpAny (model prog w) A (do
   let touched <- (do let x <- seqEpoch a; pure (x != e1))
   Builtin.List.listUpdate (.ref a) fun _=>(arrOf st).map (·.2)
   if let some e:=failedOf st then do rule "list.sort.comparison-raised"; throw e
   if touched then do rule "list.sort.modified"; raiseError "ValueError" "list modified during sort"
   ret .none) P E { s with heap:=((s.heap.update a (Obj.mapSeq fun _=>#[])).push (seqObj "tuple" vs.toArray 0)).push (seqObj "list" #[] 0) }:=by
  intro st hf QF
  rw [hf,QF]
  refine X3 (X3 (seqEpoch_at LA rfl (X4 (X3 (aav LA rfl ?_ (YD _) M0)))))
  simp only [bne_self_eq_false,Yu,YZ]
  exact X4 hP
 by_cases h2:vs.toArray.size < 2
 ·have ev:=short h2
  rw [if_pos h2,if_pos h2]
  refine X3 (X4 ?_)
  rw [StateT.run_pure]
  refine X3 (X4 ?_)
  have ez:(arrOf (SortSt.mk' general' (vs.toArray.zip vs.toArray) #[] 7 none)).map (·.2) = out.toArray:=by
   show (vs.toArray.zip vs.toArray).map (·.2) = out.toArray
   rw [ev]; apply Array.toList_inj.mp; simp [List.map_snd_zip]
  have q:=fin (SortSt.mk' general' (vs.toArray.zip vs.toArray) #[] 7 none) rfl ez
  simp only [bind_assoc,pure_bind] at q
  exact q
 ·rw [if_neg h2,if_neg h2]
  refine X3 (Zn (run (Nat.le_of_not_lt h2) _ old) (fun κ s1 hk=>?_) fun _ _ x=>x)
  obtain ⟨rfl,hk⟩:=hk
  refine X3 (Zn hk (fun r s2 hr=>?_) fun _ _ x=>x)
  obtain ⟨rfl,hf,QF⟩:=hr
  obtain ⟨⟨⟩,st⟩:=r
  have q:=fin st hf QF
  simp only [bind_assoc,pure_bind] at q
  exact q
theorem pf {T:String} {l:Addr} {o:Obj} {vs:List Value} {n:Nat} {Q:Value->Shared->Prop} (hT:T = "list" \/ T = "tuple") (ho:s.heap.get? l = some o) (hc:o.cls = .type T) (hd:o.data = .seq vs.toArray n) (hz:vs.length <= sizeLine)
  (hb:∀ h':Heap,h' = (((s.heap.push (seqObj "list" #[] 0)).update s.heap.objs.size (Obj.mapSeq (· ++ vs.toArray))).push (seqObj "list" vs.toArray 0))->h'.get? (s.heap.objs.size + 1) = some (seqObj "list" vs.toArray 0)->(∀ b o,s.heap.get? b = some o->h'.get? b = some o) ->
   wpAny (model prog w) A.in1.in1 (Builtin.«list.sort» ⟨[.ref (s.heap.objs.size + 1)],[]⟩) (fun fin s'=>fin = .done (.ret .none) /\ Q (.ref (s.heap.objs.size + 1)) s') E { s with heap:=h' }):wpAny (model prog w) A (call (.builtin "sorted") [.ref l]) Q E s:=by
 have zs:((s.heap.push (seqObj "list" #[] 0)).update s.heap.objs.size (Obj.mapSeq (· ++ vs.toArray))).objs.size = s.heap.objs.size + 1:=by rw [Heap.size_update,size_push']
 have u6:(((s.heap.push (seqObj "list" #[] 0)).update s.heap.objs.size (Obj.mapSeq (· ++ vs.toArray))).push (seqObj "list" vs.toArray 0)).get? (s.heap.objs.size + 1) = some (seqObj "list" vs.toArray 0):=by
  have q:=Yg ((s.heap.push (seqObj "list" #[] 0)).update s.heap.objs.size (Obj.mapSeq (· ++ vs.toArray))) (o:=seqObj "list" vs.toArray 0) rfl
  rwa [zs] at q
 have old:∀ b o,s.heap.get? b = some o->(((s.heap.push (seqObj "list" #[] 0)).update s.heap.objs.size (Obj.mapSeq (· ++ vs.toArray))).push (seqObj "list" vs.toArray 0)).get? b = some o:=fun b o e =>
  X5 _ ((Heap.get?_update_ne _ _ _ _ (YB (Ym e))).trans (X5 _ e))
 refine Calls.call_function_entry kind_sorted plain_sorted entry_sorted (args_sorted1 _) ?body
 case body =>
  unfold Builtin.«sorted»
  refine X3 (m:=checkCount "sorted" 1 1 _) (X4 (X3 (Dd hT ho hc hd hz (X3 (wpAny_newList ?_ hz)))))
  show wpAny _ _ _ _ _ { s with heap:=((s.heap.push (seqObj "list" #[] 0)).update s.heap.objs.size (Obj.mapSeq (· ++ vs.toArray))).push (seqObj "list" vs.toArray 0) }
  rw [zs]
  refine X3 (Zk (YL slot_list_sort ⟨_,u6,rfl⟩ entry_list_sort (Zn (hb _ rfl u6 old) (fun fin s' q=>?_) fun _ _ z=>z) (args_list_sort _)))
  obtain ⟨rfl,q⟩:=q
  exact ⟨_,rfl,X4 ⟨_,rfl,q⟩⟩
theorem Ca {T:String} {l:Addr} {o:Obj} {vs out:List Value} {n:Nat} {Q:Value->Shared->Prop} (hT:T = "list" \/ T = "tuple") (ho:s.heap.get? l = some o) (hc:o.cls = .type T) (hd:o.data = .seq vs.toArray n) (hz:vs.length <= sizeLine)
  (hlen:out.length = vs.length) (short:vs.length < 2->out = vs)
  (run:2 <= vs.length->∀ h':Heap,(∀ b o,s.heap.get? b = some o->h'.get? b = some o)->wpAny (model prog w) A.in1.in1 (keyKind' vs.toArray) (fun κ s1=>s1 = { s with heap:=h' } /\
   wpAny (model prog w) A.in1.in1 ((sortRuns').run (SortSt.mk' κ (vs.toArray.zip vs.toArray) #[] 7 none)) (fun r s2=>s2 = { s with heap:=h' } /\ failedOf r.2 = none /\ (arrOf r.2).map (·.2) = out.toArray) E s1) E { s with heap:=h' })
  (hQ:Q (.ref (s.heap.objs.size + 1)) { s with heap:=sortedAll s.heap vs out.toArray }):wpAny (model prog w) A (call (.builtin "sorted") [.ref l]) Q E s:=by
 refine pf hT ho hc hd hz fun h1 e1 u6 old=>?_
 subst e1
 exact Ct (s:={ s with heap:=_ }) (out:=out) u6 hz hlen short (fun h2 h' kp=>run h2 h' fun b o e=>kp b o (YB (Nat.lt_succ_of_lt (Ym e))) (old b o e)) ⟨rfl,hQ⟩
end
theorem jq {α:Type} (d:α) (l:List α):(List.range l.length).map (fun i=>l.getD i d) = l:=by
 apply List.ext_getElem?
 intro i
 rw [Yl]
 by_cases h:i < l.length
 ·rw [List.getElem?_range h,Ya h]
  simp [h]
 ·rw [List.getElem?_eq_none (by simpa using h),List.getElem?_eq_none (by simpa using h)]
  rfl
end PyProof.Rows
namespace L2
open PySem PySem.Spec PyProof.Rows
section
variable {prog:Program} {w:World} {A:Around} {E:Value->Shared->Prop} {s:Shared}
theorem wG {fin:Bool} {Q:Bool->Shared->Prop}:∀ (g k:List Int) (xs ys:List Value) (i:Nat),Vals (g.map V.int) xs->Vals (k.map V.int) ys->fin = decide (xs.length < ys.length)->Q (HT.lexLt g k) s->PySem.W.KatLex prog w A true fin Q (xs.zip ys) i s
 | [],[],_,_,_,.nil,.nil,hf,q=>by subst hf; exact q
 | [],_ :: _,_,_,_,.nil,.cons _ _,hf,q=>by subst hf; exact q
 | _ :: _,[],_,_,_,.cons _ _,.nil,hf,q=>by subst hf; exact q
 | a :: g,b :: k,x :: xs,y :: ys,i,.cons ra rg,.cons rb rk,hf,q=>by
  obtain ⟨t,rfl⟩:=ra
  obtain ⟨u,rfl⟩:=rb
  refine PySem.W.kat_cons (aao ?_)
  rw [HT.gN] at q
  refine PySem.W.kat_go (fun h=>?_) (fun h=>?_)
  ·rw [if_pos (eq_of_beq h)] at q
   exact PySem.W.kat_yes (wG g k xs ys (i + 1) rg rk (by rw [hf]; simp) q)
  ·rw [if_neg (fun z=>by rw [z,beq_self_eq_true] at h; cases h)] at q
   refine PySem.W.kat_no ?_
   cases i with
   | zero=>exact oneLt_int q
   | succ j=>exact PySem.W.kat_one _ _ (lt_int q)
theorem um {vs:List V} {us:List Value} (r:Vals vs us):∀ (p:List Nat),(∀ i ∈ p,i < vs.length)->Vals (p.map fun i=>vs.getD i .cP) (p.map fun i=>us.getD i Value.none)
 | [],_=>.nil
 | i :: p,h=>by
  refine .cons ?_ (um r p fun j hj=>h j (X8 _ hj))
  have hi:=h i X9
  obtain ⟨u,hu,ru⟩:=r.get (Ya hi)
  show RelV (vs.getD i .cP) (us.getD i Value.none)
  rw [Yp,Yp,Ya hi,hu]
  exact ru
theorem xA {α:Type} {H:Hp} {f:α->PyData} {d:α} {l:List α} {vs:List V} (h:bW H (l.map f) vs):∀ (p:List Nat),(∀ i ∈ p,i < l.length)->bW H ((p.map fun i=>l.getD i d).map f) (p.map fun i=>vs.getD i .cP)
 | [],_=>.nil
 | i :: p,hp=>by
  refine .cons ?_ (xA h p fun j hj=>hp j (X8 _ hj))
  have hi:=hp i X9
  obtain ⟨v,hv,dv⟩:=h.get (i:=i) (d:=f l[i]) (by rw [Yl,Ya hi]; rfl)
  show DV H (f (l.getD i d)) (vs.getD i .cP)
  rw [Yp,Yp,Ya hi,hv]
  exact dv
end
section
variable {X:Cx}
theorem vz:cK X (.builtin "sorted") (fun xs H Q=>∃ (p:Addr) (ns:List Int),xs = [.ref p] /\ bK X.K H p (ns.map V.int) /\ ns.length < 64 /\ ∀ (l:Addr) (uQ:List Int),H l = none->uQ.Perm ns->uQ.Pairwise (· <= ·)->Q (.ref l) (upd H l (.lst (uQ.map V.int)))):=by
 intro pins s σ H xs us Q I r h
 obtain ⟨p,ns,rfl,hp,VR,q⟩:=h
 obtain ⟨u,rfl,ru⟩:=vals1 r
 cases ru
 obtain ⟨az,rv,⟨o,ho,hc,n,hd⟩,hz⟩:=I.tuple hp
 have ln:az.length = ns.length:=by rw [<- rv.length,X6]
 have hI:=intsAre_of rv
 have Us:64 <= sizeLine:=by rw [ZQ]; omega
 refine pf (T:="tuple") (.inr rfl) ho hc hd (by omega) fun h1 e1 u6 old=>?_
 subst e1
 refine list_sort_tree (s:={ s with heap:=_ }) u6 hI (by omega) fun out uQ i1 i2 i3=>⟨rfl,?_⟩
 obtain ⟨e,he⟩:=sortedAll_at s.heap az out
 have l1:uQ.length = ns.length:=i2.length_eq
 refine ⟨.ref (s.heap.objs.size + 1),_,I.laid (t':=s.toks) (o:=.lst (uQ.map V.int)) (fun b o hb=>sortedAll_old hb) (ZV _) ⟨by rw [X6]; omega,out.toList,e,oC i1,?_⟩,rfl,q _ _ (I.aW.fresh (ZV _)) i2 i3⟩
 rw [ZY]; exact he
end
section
variable {X:Cx}
theorem Lm {bs:List Bool} {az:List Value} (rv:Vals (bs.map V.bl) az) {i:Nat} {v:Value} (h:az.toArray[i]? = some v):v = .bool (bs.getD i false):=by
 have hi:i < az.length:=by
  have:=(Array.getElem?_eq_some_iff.mp h).1
  simpa using this
 have ln:az.length = bs.length:=by rw [<- rv.length,X6]
 have hb:bs[i]? = some (bs.getD i false):=by simp [show i < bs.length by omega]
 obtain ⟨u,hu,ru⟩:=rv.get (i:=i) (x:=.bl (bs.getD i false)) (by rw [Yl,hb]; rfl)
 have e:az[i]? = some v:=by simpa using h
 rw [e] at hu; cases hu
 exact ru
theorem range_all (bs:List Bool):(List.range bs.length).all (fun i=>bs.getD i false) = bs.all id:=by
 have q:=List.all_map (f:=fun i=>bs.getD i false) (p:=id) (l:=List.range bs.length)
 rw [jq] at q
 exact q.symm
theorem range_any (bs:List Bool):(List.range bs.length).any (fun i=>bs.getD i false) = bs.any id:=by
 have q:=List.any_map (f:=fun i=>bs.getD i false) (p:=id) (l:=List.range bs.length)
 rw [jq] at q
 exact q.symm
theorem xz {prog:Program} {w:World} {A:Around} {bs:List Bool} {az:List Value} (rv:Vals (bs.map V.bl) az):TruthOf prog w A (fun i v=>az.toArray[i]? = some v) (fun i=>bs.getD i false):=fun i v s Q E hv q=>by
 rw [Lm rv hv]
 exact Y9 q
theorem n6 {prog:Program} {w:World} {A:Around} {E:Value->Shared->Prop} {s:Shared} {l:Addr} {az:Array Value} {Q:Value->Shared->Prop} (hl:s.heap.IsList l az)
  (h:∀ s₂:Shared,s₂ = { s with heap:=s.heap.push { cls:=.type "list_iterator",data:=.fields #[.ref l,.int 0 0] } }->(s₂.heap.IsListIter s.heap.objs.size l 0 /\ s₂.heap.IsList l az)->l ≠ s.heap.objs.size ->
   (∀ h':Heap,(∀ b o,b ∉ [s.heap.objs.size]->s₂.heap.get? b = some o->h'.get? b = some o)->∀ b o,s.heap.get? b = some o->h'.get? b = some o)->Q (.ref s.heap.objs.size) s₂):wpAny (model prog w) A (pyIter (.ref l)) Q E s:=by
 have lt:l < s.heap.objs.size:=by obtain ⟨_,e,_⟩:=hl; exact Ym e
 refine wpAny_pyIter_list hl (h _ rfl ⟨⟨_,Yg _ rfl,rfl,rfl⟩,hl.push _⟩ (YB lt) fun h' hk b o e=>hk b o (fun hm=>?_) (X5 _ e))
 exact absurd (Ym e) (by rw [YG.mp hm]; exact Zf _)
theorem qF (hc:X.calm = true):cK X (.builtin "all") (fun xs H Q=>∃ (p:Addr) (bs:List Bool),xs = [.ref p] /\ aZ X.K H p (bs.map V.bl) /\ Q (.bl (bs.all id)) H):=by
 intro pins s σ H xs us Q I r h
 obtain ⟨p,bs,rfl,hp,q⟩:=h
 obtain ⟨u,rfl,ru⟩:=vals1 r
 cases ru
 obtain ⟨az,rv,pl,_⟩:=I.list hp
 have ln:az.toArray.size = bs.length:=by rw [Yk,<- rv.length,X6]
 refine call_all_walk (n6 pl.isList fun s₂ e st oE old=>?_)
 subst e
 refine ⟨_,_,_,_,_,_,_,rfl,Walks.list (A:=X.A.in1) (I.ok.hd hc) _ p oE az.toArray,st,xz rv,fun h' tk hk=>?_⟩
 rw [ln,range_all]
 exact ⟨.bl _,H,I.kept (t':=tk) (old h' hk),rfl,q⟩
theorem DB (hc:X.calm = true):cK X (.builtin "any") (fun xs H Q=>∃ (p:Addr) (bs:List Bool),xs = [.ref p] /\ aZ X.K H p (bs.map V.bl) /\ Q (.bl (bs.any id)) H):=by
 intro pins s σ H xs us Q I r h
 obtain ⟨p,bs,rfl,hp,q⟩:=h
 obtain ⟨u,rfl,ru⟩:=vals1 r
 cases ru
 obtain ⟨az,rv,pl,_⟩:=I.list hp
 have ln:az.toArray.size = bs.length:=by rw [Yk,<- rv.length,X6]
 refine call_any_walk (n6 pl.isList fun s₂ e st oE old=>?_)
 subst e
 refine ⟨_,_,_,_,_,_,_,rfl,Walks.list (A:=X.A.in1) (I.ok.hd hc) _ p oE az.toArray,st,xz rv,fun h' tk hk=>?_⟩
 rw [ln,range_any]
 exact ⟨.bl _,H,I.kept (t':=tk) (old h' hk),rfl,q⟩
def yS (ns:List Int):Int:=ns.getD (argBest (fun i j=>decide (ns.getD i 0 > ns.getD j 0)) (ns.length - 1)) 0
theorem mB (bt:Nat->Nat->Bool):∀ k,argBest bt k <= k
 | 0=>X7 _
 | k + 1=>by
  unfold argBest
  split
  ·exact X7 _
  ·exact Nat.le_succ_of_le (mB bt k)
theorem EW {ns:List Int} (h:ns ≠ []):yS ns ∈ ns:=by
 have hl:0 < ns.length:=aat.mpr h
 have hk:argBest (fun i j=>decide (ns.getD i 0 > ns.getD j 0)) (ns.length - 1) < ns.length:=by
  have:=mB (fun i j=>decide (ns.getD i 0 > ns.getD j 0)) (ns.length - 1)
  omega
 unfold yS
 rw [Yp,Ya hk]
 exact ZF hk
theorem qK:∀ {ns:List Int} {az:List Value},Vals (ns.map V.int) az->∃ ps:List (Int × Tok),az = ps.map (fun p=>Value.int p.1 p.2) /\ ps.map (·.1) = ns
 | [],_,.nil=>⟨[],rfl,rfl⟩
 | n :: ns,_,.cons r rr=>by
  obtain ⟨t,rfl⟩:=r
  obtain ⟨ps,e1,e2⟩:=qK rr
  exact ⟨(n,t) :: ps,by rw [e1]; rfl,by rw [<- e2]; rfl⟩
theorem CW (hc:X.calm = true):cK X (.builtin "max") (fun xs H Q=>∃ (p:Addr) (ns:List Int),xs = [.ref p] /\ aZ X.K H p (ns.map V.int) /\ ns ≠ [] /\ Q (.int (yS ns)) H):=by
 intro pins s σ H xs us Q I r h
 obtain ⟨p,ns,rfl,hp,oE,q⟩:=h
 obtain ⟨u,rfl,ru⟩:=vals1 r
 cases ru
 obtain ⟨az,rv,pl,_⟩:=I.list hp
 obtain ⟨ps,rfl,e2⟩:=qK rv
 have ia:(ps.map fun p=>Value.int p.1 p.2).toArray = intItems ps.toArray:=by unfold intItems; simp
 have hl:(intItems ps.toArray).size = ns.length:=by rw [<- e2]; simp [intItems]
 have ox:ps.toArray.size = ns.length:=by rw [<- e2]; simp
 have na:numAt ps.toArray = fun i=>ns.getD i 0:=by
  funext i
  rw [<- e2]
  unfold numAt
  rw [Yp,Yl]
  simp
 refine max_intList (I.ok.hd hc) (xs:=ps.toArray) (by rw [<- ia]; exact pl.isList) (by rw [ox]; exact aat.mpr oE) fun v h' tk hv hk=>?_
 obtain ⟨t,rfl⟩:=intItems_at hv
 rw [na,ox]
 exact ⟨.int (yS ns),H,I.kept (t':=tk) hk,⟨t,rfl⟩,q⟩
def Ir (K:aaG):R2:=fun x y H Q=>∃ a b xs ys,x = .ref a /\ y = .ref b /\ bK K H a xs /\ bK K H b ys /\ xs.length + ys.length <= sizeLine /\
 (xs = []->Q (.ref b) H) /\ (xs ≠ []->ys = []->Q (.ref a) H) /\ (xs ≠ []->ys ≠ []->∀ p,H p = none->Q (.ref p) (upd H p (.tup (xs ++ ys))))
theorem AD:iH X (binaryOp .Add) (Ir X.K):=by
 intro pins s σ H x y v u Q I rx ry h
 obtain ⟨a,b,xs,ys,rfl,rfl,ha,hb,hz,q0,q1,q2⟩:=h
 cases rx; cases ry
 obtain ⟨az,r1,p1,_⟩:=I.tuple ha
 obtain ⟨kX,r2,p2,_⟩:=I.tuple hb
 have n1:∀ z:az ≠ [],xs ≠ []:=fun z w'=>z (r1.p8.mpr w')
 have n2:∀ z:kX ≠ [],ys ≠ []:=fun z w'=>z (r2.p8.mpr w')
 by_cases h0:az = []
 ·obtain ⟨⟨c1,d1,XO,U6⟩,g1,k1,m1,e1⟩:=id p1
  obtain ⟨⟨c2,d2,Ox,Ot⟩,g2,k2,m2,e2⟩:=id p2
  simp only at k1 e1 k2 e2
  subst k1 e1 k2 e2
  exact concat_meets ⟨_,g1,rfl⟩ ⟨_,g2,rfl⟩ noFill_tuple_add seq_tuple_add PySem.F.slot_tuple_add PySem.F.entry_tuple_add (PySem.F.args_tuple_add_2 _ _) (tuple_addW0 a b az.toArray kX.toArray m1 m2 d1 d2 U6 Ot (by simp [h0])) ⟨g1,g2,.ref b,H,I,rfl,q0 (r1.p8.mp h0)⟩
 refine HT.Gw p1 p2 h0 (fun z'=>⟨.ref a,H,I,rfl,q1 (n1 h0) (r2.p8.mp z')⟩) (fun z'=>?_) (by rw [<- r1.length,<- r2.length]; exact hz)
 exact ⟨.ref s.heap.objs.size,_,I.laid (t':=s.toks) (o:=.tup (xs ++ ys)) (fun b ob q=>X5 _ q) (X7 _) ⟨by rw [Yx]; exact hz,_,r1.append r2,IsTup.new _ _⟩,rfl,q2 (n1 h0) (n2 z') _ (I.aW.fresh (X7 _))⟩
end
end L2
namespace PySem
open Sem (wp)
open PyProof.Rows
section
variable {prog:Program} {w:World} {A:Around} {E:Value->Shared->Prop} {s:Shared}
theorem lR {it t:Addr} {i:Nat} {az:Array Value} {x:Value} {Q:Value->Shared->Prop} (hi:s.heap.IsTupleIter it t i) (ht:s.heap.IsTuple t az) (hx:az[i]? = some x) (hQ:∀ h',h'.IsTupleIter it t (i + 1)->Heap.SameBut it s.heap h'->Q x { s with heap:=h' }) :
  wpAny (model prog w) A (Builtin.SmallTypes.nextOf (.ref it)) Q E s:=by
 obtain ⟨o,ho,hc,hd⟩:=id hi
 obtain ⟨ol,Qv,_,nl,Qg⟩:=ht
 unfold Builtin.SmallTypes.nextOf
 refine X3 (Y3 (name:=Str.ofString "__next__") hi.typeIs aal (YL aal hi.typeIs F.entry_tuple_iterator_next ?b (F.args_tuple_iterator_next_1 _)))
 case b =>
  show wpAny _ _ (field (.ref it) 0 >>= _) _ _ _; refine X3 (Zb ho hd (x:=.ref t) rfl ?_)
  show wpAny _ _ (if (Value.ref t == Value.none) = true then _ else _) _ _ _; rw [if_neg (show ¬ ((Value.ref t == Value.none) = true) from Yc)]
  show wpAny _ _ (field (.ref it) 1 >>= _) _ _ _; refine X3 (Zb ho hd (x:=.int i 0) rfl ?_)
  show wpAny _ _ (seqItems? (.ref t) >>= _) _ _ _; refine X3 (ZI Qv Qg ?_)
  simp only [Za,hx]
  exact X3 (wpAny_setField ho hd (by simp) (X4 ⟨x,rfl,X4 (hQ _ ⟨_,Heap.get?_update_self _ ho (Obj.isFreed_of_fields (Obj.data_mapFields hd _)),(Obj.cls_mapFields ..).trans hc,by rw [Obj.data_mapFields hd]; simp [rawInt]⟩ (Y6 ..))⟩))
theorem ue {it t:Addr} {i:Nat} {az:Array Value} {Q:Value->Shared->Prop} (hh:A.handled = none) (hi:s.heap.IsTupleIter it t i) (ht:s.heap.IsTuple t az) (hx:az[i]? = none)
  (hE:∀ h' e,Heap.ExtBut it s.heap h'->(∃ o,h'.get? e = some o /\ o.cls = .type "StopIteration")->E (.ref e) { s with heap:=h' }):wpAny (model prog w) A (Builtin.SmallTypes.nextOf (.ref it)) Q E s:=by
 obtain ⟨o,ho,hc,hd⟩:=id hi
 obtain ⟨ol,Qv,_,nl,Qg⟩:=ht
 unfold Builtin.SmallTypes.nextOf
 refine X3 (Y3 (name:=Str.ofString "__next__") hi.typeIs aal (YL aal hi.typeIs F.entry_tuple_iterator_next ?b (F.args_tuple_iterator_next_1 _)))
 case b =>
  show wpAny _ _ (field (.ref it) 0 >>= _) _ _ _; refine X3 (Zb ho hd (x:=.ref t) rfl ?_)
  show wpAny _ _ (if (Value.ref t == Value.none) = true then _ else _) _ _ _; rw [if_neg (show ¬ ((Value.ref t == Value.none) = true) from Yc)]
  show wpAny _ _ (field (.ref it) 1 >>= _) _ _ _; refine X3 (Zb ho hd (x:=.int i 0) rfl ?_)
  show wpAny _ _ (seqItems? (.ref t) >>= _) _ _ _; refine X3 (ZI Qv Qg ?_)
  simp only [Za,hx]
  refine X3 (ZD (X3 (wpAny_setField ho hd (by simp) ?_)))
  show wpAny _ _ (newExc (.type "StopIteration") [] >>= _) _ _ _; refine X3 ?_; simp only [newExc,newTuple]
  refine X3 (YR (X3 (m:=firstArgMember _ _) (wpAny_of_eq (a:=Value.none) (by first | rfl | (simp only [firstArgMember]; rfl)) (YR ?_ (by size_fits)))) (by size_fits))
  simp only [raiseNew]
  refine X3 (wpAny_handled ?_)
  first | rw [show A.in1.handled = none from hh] | rw [hh]
  exact X3 (X4 (wpAny_throw (hE _ _ (((Y6 ..).extBut.push _).push _) ⟨_,Yg _ rfl,rfl⟩)))
structure D9 (h:Heap) (z TI TO i1 i2 l1 l2:Addr) (f0:Value) (k:Nat) (xs ys:Array Value):Prop where
 z:IsZip h z TI TO f0
 i:IsPair h TI (.ref i1) (.ref i2)
 o:∃ a b,IsPair h TO a b
 a:h.IsTupleIter i1 l1 k
 b:h.IsTupleIter i2 l2 k
 xs:h.IsTuple l1 xs
 ys:h.IsTuple l2 ys
theorem B9 {z TI TO i1 i2 l1 l2:Addr} {k:Nat} {xs ys:Array Value} {x y:Value} {Q:Option Value->Shared->Prop} (D:ZipApart z TI TO i1 i2 l1 l2) (Z:D9 s.heap z TI TO i1 i2 l1 l2 .none k xs ys) (hx:xs[k]? = some x) (hy:ys[k]? = some y)
  (hQ:∀ h',IsZip h' z TI TO (rawInt s.heap.objs.size)->IsPair h' TO x y->h'.IsTupleIter i1 l1 (k + 1)->h'.IsTupleIter i2 l2 (k + 1)->IsPair h' s.heap.objs.size x y->h'.objs.size = s.heap.objs.size + 1 ->
   (∀ c o,c ≠ z->c ≠ TO->c ≠ i1->c ≠ i2->s.heap.get? c = some o->h'.get? c = some o)->Q (some (.ref s.heap.objs.size)) { s with heap:=h' }):wpAny (model prog w) A (pyNext (.ref z)) Q E s:=by
 obtain ⟨hz,Q5,⟨a,b,QT⟩,h1,h2,y7,ox⟩:=Z
 have hT:s.TypeIs (.ref z) "zip":=⟨_,hz,rfl⟩
 unfold pyNext
 refine X3 (Z0 (Y3 (name:=Str.ofString "__next__") hT F.slot_zip_next (YL F.slot_zip_next hT F.entry_zip_next ?b (F.args_zip_next_1 _))))
 case b =>
  show wpAny _ _ (field (.ref z) 2 >>= _) _ _ _; refine X3 (Zb hz rfl (x:=.bool false) rfl ?_)
  show wpAny _ _ (field (.ref z) 3 >>= _) _ _ _; refine X3 (Zb hz rfl (x:=.ref TI) rfl (X3 (ZI Q5 rfl ?_)))
  show wpAny _ _ (Builtin.SmallTypes.ownedTupleIsFree (.ref z) >>= _) _ _ _; refine X3 ?_; unfold Builtin.SmallTypes.ownedTupleIsFree
  refine X3 (Zb hz rfl (x:=.none) rfl (X4 ?_)); simp only [Zw]
  refine X3 (ZD (X3 (Zb hz rfl (x:=.ref TO) rfl (X3 (Zd hz (by simp) fun g1 AM s1=>?_)))))
  replace AM:IsZip g1 z TI TO .ellipsis:=AM
  refine X3 ?_; simp only [List.zipIdx_cons,List.zipIdx_nil,Zq,aaj]
  refine X3 (X3 (wpAny_onRaise (show wpAny _ _ (Builtin.SmallTypes.nextOf (.ref i1) >>= _) _ _ _ from X3 (lR (h1.extBut s1.extBut D.i1z) (y7.extBut s1.extBut D.l1z) hx fun g2 j1 s2=>X4 ?_))))
  have o2:IsPair g2 TO a b:=s2.extBut _ _ D.TOi1 (s1.extBut _ _ D.TOz QT)
  refine X3 (ZI o2 rfl (X3 (wpAny_updateSeq_pair o2 fun g3 o3 s3=>X3 (wpAny_letGo (X4 ?_)))))
  replace o3:IsPair g3 TO x b:=o3
  refine X3 (X3 (wpAny_onRaise (show wpAny _ _ (Builtin.SmallTypes.nextOf (.ref i2) >>= _) _ _ _ from X3 (lR (((h2.extBut s1.extBut D.i2z).extBut s2.extBut D.i12.symm).extBut s3.extBut D.TOi2.symm) (((ox.extBut s1.extBut D.l2z).extBut s2.extBut D.l2i1).extBut s3.extBut D.l2TO) hy fun g4 j2 s4=>X4 ?_))))
  have o4:IsPair g4 TO x b:=s4.extBut _ _ D.TOi2 o3
  refine X3 (ZI o4 rfl (X3 (wpAny_updateSeq_pair o4 fun g5 o5 s5=>X3 (wpAny_letGo (X4 (X4 ?_))))))
  replace o5:IsPair g5 TO x y:=o5
  refine X3 (ZI o5 rfl (X3 (wpAny_newTuple ?_)))
  have sz:g5.objs.size = s.heap.objs.size:=by rw [s5.1,s4.1,s3.1,s2.1,s1.1]
  have z5:IsZip g5 z TI TO .ellipsis:=s5.extBut _ _ D.TOz.symm (s4.extBut _ _ D.i2z.symm (s3.extBut _ _ D.TOz.symm (s2.extBut _ _ D.i1z.symm AM)))
  have k5:∀ c o,c ≠ z->c ≠ TO->c ≠ i1->c ≠ i2->s.heap.get? c = some o->g5.get? c = some o:=fun c o c1 c2 c3 c4 e=>s5.extBut _ _ c2 (s4.extBut _ _ c4 (s3.extBut _ _ c2 (s2.extBut _ _ c3 (s1.extBut _ _ c1 e))))
  have a5:g5.IsTupleIter i1 l1 (k + 1):=((j1.extBut s3.extBut D.TOi1.symm).extBut s4.extBut D.i12).extBut s5.extBut D.TOi1.symm
  have b5:g5.IsTupleIter i2 l2 (k + 1):=j2.extBut s5.extBut D.TOi2.symm
  have RH:z < g5.objs.size:=Ym z5
  show wpAny _ _ (Builtin.SmallTypes.ownedTupleHandOut (.ref z) (.ref g5.objs.size) >>= _) _ _ _; refine X3 ?_; unfold Builtin.SmallTypes.ownedTupleHandOut
  refine X3 (Zd (show IsZip (g5.push { cls:=.type "tuple",data:=.seq #[x,y] }) z TI TO .ellipsis from X5 _ z5) (by simp) fun g7 z7 s7=>?_)
  replace z7:IsZip g7 z TI TO (rawInt g5.objs.size):=z7
  refine Zd z7 (by simp) fun g8 z8 s8=>?_
  replace z8:IsZip g8 z TI TO (rawInt g5.objs.size):=z8
  have up:∀ c o,c ≠ z->g5.get? c = some o->g8.get? c = some o:=fun c o c1 e=>s8.extBut _ _ c1 (s7.extBut _ _ c1 (X5 _ e))
  have t8:IsPair g8 g5.objs.size x y:=s8.extBut _ _ (aam RH) (s7.extBut _ _ (aam RH) (Yg _ rfl))
  have n8:g8.objs.size = g5.objs.size + 1:=by rw [s8.1,s7.1,Z3]
  refine X4 ⟨_,rfl,X4 ?_⟩
  rw [sz] at z8 t8 n8
  have fin:=hQ g8 z8 (up _ _ D.TOz o5) (a5.at fun o e=>up _ o D.i1z e) (b5.at fun o e=>up _ o D.i2z e) t8 n8 fun c o c1 c2 c3 c4 e=>up c o c1 (k5 c o c1 c2 c3 c4 e)
  rw [<- sz] at fin
  exact fin
theorem Di {z TI TO i1 i2 l1 l2:Addr} {k:Nat} {xs ys:Array Value} {Q:Option Value->Shared->Prop} (hh:A.handled = none) (D:ZipApart z TI TO i1 i2 l1 l2) (Z:D9 s.heap z TI TO i1 i2 l1 l2 .none k xs ys) (Jb:xs[k]? = none \/ ys[k]? = none)
  (hQ:∀ h',(∀ c o,c ≠ z->c ≠ TO->c ≠ i1->c ≠ i2->s.heap.get? c = some o->h'.get? c = some o)->Q none { s with heap:=h' }):wpAny (model prog w) A (pyNext (.ref z)) Q E s:=by
 obtain ⟨hz,Q5,⟨a,b,QT⟩,h1,h2,y7,ox⟩:=Z
 have hT:s.TypeIs (.ref z) "zip":=⟨_,hz,rfl⟩
 have last:∀ (h':Heap) (e:Addr),(∀ c o,c ≠ z->c ≠ TO->c ≠ i1->c ≠ i2->s.heap.get? c = some o->h'.get? c = some o)->(∃ o,h'.get? e = some o /\ o.cls = .type "StopIteration") ->
   wpAny (model prog w) A (do if <- isInstance (.ref e) (.type "StopIteration") then pure none else throw (.ref e)) Q E { s with heap:=h' }:=fun h' e hk ⟨o,ho,hc⟩ =>
  X3 (ZE (T:="StopIteration") (b:=true) ⟨o,ho,hc⟩ isSubtype_stop (X4 (hQ _ hk)))
 unfold pyNext
 refine X3 (Z0 (Y3 (name:=Str.ofString "__next__") hT F.slot_zip_next (YL F.slot_zip_next hT F.entry_zip_next ?b (F.args_zip_next_1 _))))
 case b =>
  show wpAny _ _ (field (.ref z) 2 >>= _) _ _ _; refine X3 (Zb hz rfl (x:=.bool false) rfl ?_)
  show wpAny _ _ (field (.ref z) 3 >>= _) _ _ _; refine X3 (Zb hz rfl (x:=.ref TI) rfl (X3 (ZI Q5 rfl ?_)))
  show wpAny _ _ (Builtin.SmallTypes.ownedTupleIsFree (.ref z) >>= _) _ _ _; refine X3 ?_; unfold Builtin.SmallTypes.ownedTupleIsFree
  refine X3 (Zb hz rfl (x:=.none) rfl (X4 ?_)); simp only [Zw]
  refine X3 (ZD (X3 (Zb hz rfl (x:=.ref TO) rfl (X3 (Zd hz (by simp) fun g1 AM s1=>?_)))))
  replace AM:IsZip g1 z TI TO .ellipsis:=AM
  refine X3 ?_; simp only [List.zipIdx_cons,List.zipIdx_nil,Zq,aaj]
  refine X3 (X3 (wpAny_onRaise (show wpAny _ _ (Builtin.SmallTypes.nextOf (.ref i1) >>= _) _ _ _ from X3 ?_)))
  cases ex:xs[k]? with
  | none =>
   refine ue hh (h1.extBut s1.extBut D.i1z) (y7.extBut s1.extBut D.l1z) ex fun g2 e s2 he=>?_
   obtain ⟨oe,IW,Mx⟩:=he
   have z2:IsZip g2 z TI TO .ellipsis:=s2 _ _ D.i1z.symm AM
   have ez:e ≠ z:=fun q=>by subst q; rw [z2] at IW; cases IW; simp at Mx
   exact Zd z2 (by simp) fun g3 _ s3=>last g3 e (fun c o c1 _ c3 _ q=>s3.extBut _ _ c1 (s2 _ _ c3 (s1.extBut _ _ c1 q))) ⟨oe,s3.extBut _ _ ez IW,Mx⟩
  | some x =>
   have ey:ys[k]? = none:=by rcases Jb with h | h; rw [ex] at h; cases h; exact h
   refine lR (h1.extBut s1.extBut D.i1z) (y7.extBut s1.extBut D.l1z) ex fun g2 j1 s2=>X4 ?_
   have o2:IsPair g2 TO a b:=s2.extBut _ _ D.TOi1 (s1.extBut _ _ D.TOz QT)
   refine X3 (ZI o2 rfl (X3 (wpAny_updateSeq_pair o2 fun g3 o3 s3=>X3 (wpAny_letGo (X4 ?_)))))
   refine X3 (X3 (wpAny_onRaise (show wpAny _ _ (Builtin.SmallTypes.nextOf (.ref i2) >>= _) _ _ _ from X3 ?_)))
   refine ue hh (((h2.extBut s1.extBut D.i2z).extBut s2.extBut D.i12.symm).extBut s3.extBut D.TOi2.symm) (((ox.extBut s1.extBut D.l2z).extBut s2.extBut D.l2i1).extBut s3.extBut D.l2TO) ey fun g4 e s4 he=>?_
   obtain ⟨oe,IW,Mx⟩:=he
   have z4:IsZip g4 z TI TO .ellipsis:=s4 _ _ D.i2z.symm (s3.extBut _ _ D.TOz.symm (s2.extBut _ _ D.i1z.symm AM))
   have ez:e ≠ z:=fun q=>by subst q; rw [z4] at IW; cases IW; simp at Mx
   exact Zd z4 (by simp) fun g5 _ s5=>last g5 e (fun c o c1 c2 c3 c4 q=>s5.extBut _ _ c1 (s4 _ _ c4 (s3.extBut _ _ c2 (s2.extBut _ _ c3 (s1.extBut _ _ c1 q))))) ⟨oe,s5.extBut _ _ ez IW,Mx⟩
end
abbrev NK (h:Heap) (l1:Addr):Heap:=h.push { cls:=.type "tuple_iterator",data:=.fields #[.ref l1,.int 0 0] }
abbrev N0 (h:Heap) (l1 l2:Addr):Heap:=(NK h l1).push { cls:=.type "tuple_iterator",data:=.fields #[.ref l2,.int 0 0] }
abbrev Od (h:Heap) (l1 l2:Addr):Heap:=(N0 h l1 l2).push { cls:=.type "tuple",data:=.seq #[.ref h.objs.size,.ref (NK h l1).objs.size] }
abbrev Nx (h:Heap) (l1 l2:Addr):Heap:=(Od h l1 l2).push { cls:=.type "tuple",data:=.seq #[.none,.none] }
abbrev J2 (h:Heap) (l1 l2:Addr):Heap:=(Nx h l1 l2).push { cls:=.type "zip",data:=.fields #[.none,.bool false,.bool false,.ref (N0 h l1 l2).objs.size,.ref (Od h l1 l2).objs.size] }
theorem zE (l1 l2:Addr) (xs ys:Array Value):Meets (Builtin.«zip.__new__» ⟨[.type "zip",.ref l1,.ref l2],[]⟩) (fun _ R s=>s.heap.IsTuple l1 xs /\ s.heap.IsTuple l2 ys /\ R (.ok (.ret (.ref (Nx s.heap l1 l2).objs.size))) { s with heap:=J2 s.heap l1 l2 }) :=
 .of_wp fun prog w A R s hs=>by
  obtain ⟨hp,g,d,tk,os⟩:=s; obtain ⟨t1,t2,hR⟩:=hs
  have BR:=sub_zip
  have T1:Heap.IsTuple (Shared.heap ⟨hp,g,d,tk,os⟩) l1 xs:=t1
  have T2:Heap.IsTuple (Shared.heap ⟨hp.push { cls:=.type "tuple_iterator",data:=.fields #[.ref l1,.int 0 0] },g,d,tk,os⟩) l2 ys:=by
   obtain ⟨o,ho,r⟩:=t2; exact ⟨o,X5 _ ho,r⟩
  wp_walk using wpAny_pyIter_tuple T1,wpAny_pyIter_tuple T2
  exact ⟨_,rfl,hR⟩
section
variable {prog:Program} {w:World} {A:Around} {E:Value->Shared->Prop} {s:Shared}
theorem Cw {l1 l2:Addr} {xs ys:Array Value} {Q:Value->Shared->Prop} (t1:s.heap.IsTuple l1 xs) (t2:s.heap.IsTuple l2 ys)
  (h:∀ h',D9 h' (s.heap.objs.size + 4) (s.heap.objs.size + 2) (s.heap.objs.size + 3) s.heap.objs.size (s.heap.objs.size + 1) l1 l2 .none 0 xs ys->(∀ c o,s.heap.get? c = some o->h'.get? c = some o)->Q (.ref (s.heap.objs.size + 4)) { s with heap:=h' }) :
  wpAny (model prog w) A (call (.type "zip") [.ref l1,.ref l2]) Q E s:=by
 have y1:(NK s.heap l1).objs.size = s.heap.objs.size + 1:=Z3 ..
 have y2:(N0 s.heap l1 l2).objs.size = s.heap.objs.size + 2:=by rw [Z3,y1]
 have y3:(Od s.heap l1 l2).objs.size = s.heap.objs.size + 3:=by rw [Z3,y2]
 have y4:(Nx s.heap l1 l2).objs.size = s.heap.objs.size + 4:=by rw [Z3,y3]
 have up:∀ c o,s.heap.get? c = some o->(J2 s.heap l1 l2).get? c = some o:=fun c o x=>X5 _ (X5 _ (X5 _ (X5 _ (X5 _ x))))
 have p5:(J2 s.heap l1 l2).get? (Nx s.heap l1 l2).objs.size = some _:=Yg _ rfl
 have p4:(J2 s.heap l1 l2).get? (Od s.heap l1 l2).objs.size = some _:=X5 _ (Yg _ rfl)
 have p3:(J2 s.heap l1 l2).get? (N0 s.heap l1 l2).objs.size = some _:=X5 _ (X5 _ (Yg _ rfl))
 have p2:(J2 s.heap l1 l2).get? (NK s.heap l1).objs.size = some _:=X5 _ (X5 _ (X5 _ (Yg _ rfl)))
 have p1:(J2 s.heap l1 l2).get? s.heap.objs.size = some _:=X5 _ (X5 _ (X5 _ (X5 _ (Yg _ rfl))))
 rw [y4,y2,y3] at p5; rw [y3] at p4; rw [y2,y1] at p3; rw [y1] at p2
 refine callType_new F.called_zip (by decide) (F.typeCall_zip_2 _ _) (F.newCall_zip_2 _ _) (fun obj=>F.args_object_init_3 obj _ _) F.entry_zip_new (zE l1 l2 xs ys) ⟨t1,t2,?_⟩
 rw [y4]
 refine ⟨⟨_,p5,rfl⟩,h _ ⟨p5,p3,⟨_,_,p4⟩,⟨_,p1,rfl,rfl⟩,⟨_,p2,rfl,rfl⟩,?_,?_⟩ up⟩
 ·obtain ⟨o,ho,r⟩:=t1; exact ⟨o,up _ _ ho,r⟩
 ·obtain ⟨o,ho,r⟩:=t2; exact ⟨o,up _ _ ho,r⟩
end
end PySem
namespace L2
open PySem PySem.Spec PyProof.Rows
section
variable {X:Cx} {pins:List (Addr × Obj)} {σ:St} {H:Hp} {s:Shared}
theorem Inv.drawn {h':Heap} {ch:List Addr} {p:Addr} {o:HO} {t':Nat} (I:Inv X pins σ H s) (pC:∀ b ∈ ch,wn X pins H b) (k:∀ b u,b ∉ ch->s.heap.get? b = some u->h'.get? b = some u) (hp:s.heap.objs.size <= p)
  (new:cj X.prog X.w (upd H p o) h' p o):Inv X pins σ (upd H p o) { s with heap:=h',toks:=t' }:=by
 have hn:H p = none:=I.aW.fresh hp
 have DX:∀ b u,H b = some u->b ∉ ch:=fun b u e hb=>by rw [(pC b hb).1] at e; cases e
 refine I.step (g':=s.gens) (d':=s.drawn) (ch:=ch) (fun b hb=>⟨(pC b hb).2.2.2.1,(pC b hb).2.1,(pC b hb).2.2.2.2.1,(pC b hb).2.2.2.2.2⟩) (fun b u _ _ hc e _=>k b u hc e) (fun b u _ _ hc e _=>⟨u.slots,k b u hc e⟩) (fun b u hc e n=>?_) (fun b u hc e=>⟨u,k b u hc e⟩)
  (fun b xs e=>by rw [am (ax e hn)]; exact e) (fun b _ _ e=>by rw [am (ax e hn)]; exact e) (fun b ps e=>⟨#[],by rw [am (ax e hn),e]; simp⟩) (fun m hm=>?_) (fun b u e=>?_) I.bare
 ·rw [am (YB (YF (Ym e) hp))]; exact n
 ·obtain ⟨ob,es,ep,pL,r⟩:=hm
  exact ⟨ob,es,ep,k _ ob (fun z=>(pC _ z).2.1 rfl) pL,r⟩
 ·by_cases hb:b = p
  ·subst hb; rw [ae] at e; cases e; exact new
  ·rw [am hb] at e
   refine (I.aW b u e).lT (fun c v hc q=>k c v ?_ q) (fun c q=>by rw [am (ax q hn)]; exact q) fun c xs q=>by rw [am (ax q hn)]; exact q
   rcases hc with z | z
   ·rw [z]; exact DX b u e
   ·exact DX c _ z
end
def P9 (a b:Addr):It :=
 ⟨fun i H=>∃ xs ys x y,H a = some (.tup xs) /\ H b = some (.tup ys) /\ xs[i]? = some x /\ ys[i]? = some y,
  fun i H v H'=>∃ p x y,v = .ref p /\ H p = none /\ H' = upd H p (.tup [x,y]) /\ ∀ xs ys,H a = some (.tup xs)->H b = some (.tup ys)->xs[i]? = some x /\ ys[i]? = some y,
  fun i H=>∃ xs ys,H a = some (.tup xs) /\ H b = some (.tup ys) /\ (xs.length <= i \/ ys.length <= i)⟩
structure Mv (z TI TO i1 i2:Addr):Prop where
 a1:TI ≠ z
 a2:TO ≠ z
 a3:i1 ≠ z
 a4:i2 ≠ z
 b2:TI ≠ TO
 b3:TI ≠ i1
 b4:TI ≠ i2
 c3:TO ≠ i1
 c4:TO ≠ i2
 d4:i1 ≠ i2
def Xa (z TI TO i1 i2 a b:Addr) (f0:Value) (i:Nat) (h:Heap):Prop:=IsZip h z TI TO f0 /\ IsPair h TI (.ref i1) (.ref i2) /\ (∃ x y,IsPair h TO x y) /\ h.IsTupleIter i1 a i /\ h.IsTupleIter i2 b i
theorem Ex {P:Program} {w:World} {K:aaG} {elts:List Expr} {kk:Nat} {Hk:Pos} {a b z TI TO i1 i2:Addr} (N:Mv z TI TO i1 i2):Turn P w K (.Tuple elts kk Hk) (P9 a b) [z,TI,TO,i1,i2] z (Xa z TI TO i1 i2 a b .none) where
 mem:=by simp
 obj:=fun i h st c hc=>by
  obtain ⟨h1,h2,⟨x,y,h3⟩,⟨o4,e4,_,d4⟩,⟨o5,e5,_,d5⟩⟩:=st
  simp only [Yb,aap,or_false] at hc
  rcases hc with rfl | rfl | rfl | rfl | rfl
  ·exact ⟨_,h1,fun v q=>by cases q⟩
  ·exact ⟨_,h2,fun v q=>by cases q⟩
  ·exact ⟨_,h3,fun v q=>by cases q⟩
  ·exact ⟨_,e4,fun v q=>by rw [d4] at q; cases q⟩
  ·exact ⟨_,e5,fun v q=>by rw [d5] at q; cases q⟩
 keep:=fun i h h' st k=>by
  obtain ⟨h1,h2,⟨x,y,h3⟩,⟨o4,e4,r4⟩,⟨o5,e5,r5⟩⟩:=st
  exact ⟨k z (by simp) _ h1,k TI (by simp) _ h2,⟨x,y,k TO (by simp) _ h3⟩,⟨o4,k i1 (by simp) _ e4,r4⟩,⟨o5,k i2 (by simp) _ e5,r5⟩⟩
 item:=by
  intro X hP hw hK hc i pins s σ H E I hf st hg
  subst hP hw hK
  obtain ⟨xs,ys,x,y,ha,hb,hx,hy⟩:=hg
  obtain ⟨_,us,ru,o1,e1,c1,n1,d1⟩:=I.aW a _ ha
  obtain ⟨_,vs,rv,o2,e2,c2,n2,d2⟩:=I.aW b _ hb
  obtain ⟨ux,fx,rx⟩:=ru.get hx
  obtain ⟨uy,fy,ry⟩:=rv.get hy
  have na:∀ c ∈ [z,TI,TO,i1,i2],a ≠ c:=fun c hc q=>by have:=(hf c hc).1; rw [<- q,ha] at this; cases this
  have nb:∀ c ∈ [z,TI,TO,i1,i2],b ≠ c:=fun c hc q=>by have:=(hf c hc).1; rw [<- q,hb] at this; cases this
  have D:ZipApart z TI TO i1 i2 a b:=⟨N.a1,N.a2,N.a3,N.a4,N.b2,N.b3,N.b4,N.c3,N.c4,N.d4,na z (by simp),na TO (by simp),na i1 (by simp),na i2 (by simp),nb z (by simp),nb TO (by simp),nb i1 (by simp),nb i2 (by simp)⟩
  obtain ⟨s1,s2,s3,s4,s5⟩:=st
  have Z:D9 s.heap z TI TO i1 i2 a b .none i us.toArray vs.toArray:=⟨s1,s2,s3,s4,s5,⟨o1,e1,c1,n1,d1⟩,⟨o2,e2,c2,n2,d2⟩⟩
  refine B9 D Z (x:=ux) (y:=uy) (by simpa using fx) (by simpa using fy) fun h' z1 z2 z3 z4 z5 z6 kp=>?_
  refine ⟨_,rfl,wpAny_letOwnedTupleGo_zip (s:={ s with heap:=h' }) z1 fun h2 y1 sb=>?_⟩
  have lt:∀ c ∈ [z,TI,TO,i1,i2],c < s.heap.objs.size:=fun c hc=>by
   simp only [Yb,aap,or_false] at hc
   obtain ⟨x',y',h3⟩:=s3
   obtain ⟨o4,e4,_⟩:=s4
   obtain ⟨o5,e5,_⟩:=s5
   rcases hc with rfl | rfl | rfl | rfl | rfl
   ·exact Ym s1
   ·exact Ym s2
   ·exact Ym h3
   ·exact Ym e4
   ·exact Ym e5
  have pz:s.heap.objs.size ≠ z:=aam (lt z (by simp))
  have Uh:∀ c o,c ∉ [z,TI,TO,i1,i2]->s.heap.get? c = some o->h2.get? c = some o:=fun c o hc e=>by
   simp only [Yb,aap,or_false,not_or] at hc
   exact sb.extBut _ _ hc.1 (kp c o hc.1 hc.2.2.1 hc.2.2.2.1 hc.2.2.2.2 e)
  have tp:h2.get? s.heap.objs.size = some { cls:=.type "tuple",data:=.seq #[ux,uy] }:=sb.extBut _ _ pz z5
  have I2:Inv X pins σ (upd H s.heap.objs.size (.tup [x,y])) { s with heap:=h2,toks:=s.toks }:=I.drawn (t':=s.toks) hf Uh (X7 _) ⟨by show 2 <= sizeLine; decide,[ux,uy],.cons rx (.cons ry .nil),⟨_,tp,rfl,0,by rfl⟩⟩
  refine ⟨.ref s.heap.objs.size,_,I2,rfl,⟨_,x,y,rfl,I.aW.fresh (X7 _),rfl,fun KD wB Ol yB=>?_⟩,⟨y1,?_,⟨ux,uy,sb.extBut _ _ N.a2 z2⟩,?_,?_⟩,fun c hc=>?_⟩
  ·rw [ha] at Ol; rw [hb] at yB
   cases Ol; cases yB
   exact ⟨hx,hy⟩
  ·exact sb.extBut _ _ N.a1 (kp TI _ N.a1 N.b2 N.b3 N.b4 s2)
  ·exact z3.extBut sb.extBut N.a3
  ·exact z4.extBut sb.extBut N.a4
  ·rw [am (YB (lt c hc))]; exact (hf c hc).1
 done:=by
  intro X hP hw hK hc i pins s σ H E I hf st hg
  subst hP hw hK
  obtain ⟨xs,ys,ha,hb,Jb⟩:=hg
  obtain ⟨_,us,ru,o1,e1,c1,n1,d1⟩:=I.aW a _ ha
  obtain ⟨_,vs,rv,o2,e2,c2,n2,d2⟩:=I.aW b _ hb
  have na:∀ c ∈ [z,TI,TO,i1,i2],a ≠ c:=fun c hc q=>by have:=(hf c hc).1; rw [<- q,ha] at this; cases this
  have nb:∀ c ∈ [z,TI,TO,i1,i2],b ≠ c:=fun c hc q=>by have:=(hf c hc).1; rw [<- q,hb] at this; cases this
  have D:ZipApart z TI TO i1 i2 a b:=⟨N.a1,N.a2,N.a3,N.a4,N.b2,N.b3,N.b4,N.c3,N.c4,N.d4,na z (by simp),na TO (by simp),na i1 (by simp),na i2 (by simp),nb z (by simp),nb TO (by simp),nb i1 (by simp),nb i2 (by simp)⟩
  obtain ⟨s1,s2,s3,s4,s5⟩:=st
  have Z:D9 s.heap z TI TO i1 i2 a b .none i us.toArray vs.toArray:=⟨s1,s2,s3,s4,s5,⟨o1,e1,c1,n1,d1⟩,⟨o2,e2,c2,n2,d2⟩⟩
  refine Di (I.ok.hd hc) D Z (Jb.imp (fun z=>?_) (fun z=>?_)) fun h' kp=>⟨rfl,?_⟩
  ·rw [ru.length] at z; simp [z]
  ·rw [rv.length] at z; simp [z]
  ·have pC:∀ c ∈ [z,TO,i1,i2],wn X pins H c:=fun c hc=>hf c (by simp only [Yb,aap,or_false] at hc ⊢; rcases hc with q | q | q | q <;> simp [q])
   have k':∀ c o,c ∉ [z,TO,i1,i2]->s.heap.get? c = some o->h'.get? c = some o:=fun c o hc e=>by
    simp only [Yb,aap,or_false,not_or] at hc
    exact kp c o hc.1 hc.2.1 hc.2.2.1 hc.2.2.2 e
   have DX:∀ c u,H c = some u->c ∉ [z,TO,i1,i2]:=fun c u e hb=>by rw [(pC c hb).1] at e; cases e
   refine I.step (g':=s.gens) (d':=s.drawn) (t':=s.toks) (ch:=[z,TO,i1,i2]) (fun b hb=>⟨(pC b hb).2.2.2.1,(pC b hb).2.1,(pC b hb).2.2.2.2.1,(pC b hb).2.2.2.2.2⟩) (fun b u _ _ hc e _=>k' b u hc e) (fun b u _ _ hc e _=>⟨u.slots,k' b u hc e⟩) (fun _ _ _ _ n=>n) (fun b u hc e=>⟨u,k' b u hc e⟩)
    (fun _ _ e=>e) (fun _ _ _ e=>e) (fun b ps e=>⟨#[],by rw [e]; simp⟩) (fun m hm=>?_) (fun b u e=>?_) I.bare
   ·obtain ⟨ob,es,ep,pL,r⟩:=hm
    exact ⟨ob,es,ep,k' _ ob (fun q=>(pC _ q).2.1 rfl) pL,r⟩
   ·refine (I.aW b u e).lT (fun c v hc q=>k' c v ?_ q) (fun _ q=>q) fun _ _ q=>q
    rcases hc with q' | q'
    ·rw [q']; exact DX b u e
    ·exact DX c _ q'
 self:=fun _ _ _ _ _ st h=>wpAny_pyIter_zip st.1 h
section
variable {X:Cx}
def Pk (ta:TA):TI:=fun σ H R=>ta σ H fun vs H1=>∃ a b xs ys,vs = [.ref a,.ref b] /\ H1 a = some (.tup xs) /\ H1 b = some (.tup ys) /\ R (P9 a b) H1
theorem Jv {elts:List Expr} {kk:Nat} {Hk:Pos} {e1 e2:Expr} {ta:TA} {p pos:Pos} (hg:Gl X "zip") (hm:X.mg "zip" = none) (hv:bootBuiltins "zip" = some (.type "zip")) (ha:PA X [e1,e2] ta)
  (hs:starEach [e1,e2] X.env = [(false,eval e1 X.env),(false,eval e2 X.env)]:=by rfl) (MM:starEach [e2] X.env = [(false,eval e2 X.env)]:=by rfl):PI X (.Tuple elts kk Hk) (.Call (.Name "zip" p) [e1,e2] [] pos) (Pk ta):=by
 intro pins s σ H R I h
 refine Call_ (oB I hg hm hv (PyProof.Rows.callWith_type1 (bT (ha pos pins s σ H _ I h) fun us s1 ⟨vs,H1,I1,r1,q1⟩=>?_) (by rw [hs,MM]) (by rw [MM]; rfl)))
 obtain ⟨a,b,xs,ys,rfl,Ol,yB,q⟩:=q1
 obtain ⟨u1,u2,rfl,ra,rb⟩:=vals2 r1
 cases ra; cases rb
 obtain ⟨_,az,ru,o1,f1,c1,n1,d1⟩:=I1.aW a _ Ol
 obtain ⟨_,kX,rv,o2,f2,c2,n2,d2⟩:=I1.aW b _ yB
 refine Cw (xs:=az.toArray) (ys:=kX.toArray) ⟨o1,f1,c1,n1,d1⟩ ⟨o2,f2,c2,n2,d2⟩ fun h' Z kp=>?_
 refine wpAny_pyIter_zip Z.z ?_
 have lt:∀ i j:Nat,i ≠ j->s1.heap.objs.size + i ≠ s1.heap.objs.size + j:=fun i j CK z=>CK (Nat.add_left_cancel z)
 have F5:Mv (s1.heap.objs.size + 4) (s1.heap.objs.size + 2) (s1.heap.objs.size + 3) s1.heap.objs.size (s1.heap.objs.size + 1):=⟨lt 2 4 (by decide),lt 3 4 (by decide),lt 0 4 (by decide),lt 1 4 (by decide),lt 2 3 (by decide),lt 2 0 (by decide),lt 2 1 (by decide),lt 3 0 (by decide),lt 3 1 (by decide),lt 0 1 (by decide)⟩
 refine ⟨s1.heap.objs.size + 4,[s1.heap.objs.size + 4,s1.heap.objs.size + 2,s1.heap.objs.size + 3,s1.heap.objs.size,s1.heap.objs.size + 1],_,_,H1,rfl,I1.kept (t':=s1.toks) kp,Ex F5,⟨Z.z,Z.i,Z.o,Z.a,Z.b⟩,fun c hc=>?_,q⟩
 have vp:s1.heap.objs.size <= c:=by
  simp only [Yb,aap,or_false] at hc
  rcases hc with rfl | rfl | rfl | rfl | rfl
  ·exact Nat.le_add_right _ 4
  ·exact Nat.le_add_right _ 2
  ·exact Nat.le_add_right _ 3
  ·exact X7 _
  ·exact Nat.le_add_right _ 1
 exact I1.yV vp (I1.aW.fresh vp)
end
theorem yh {cap:List (Option Nat)} {σ:St} {H:Hp} {g:TG} {tc:TT} {te:TE} {Q:VK} {D a b:Addr} {as bs:List V} {n:Nat} (Pv:Nat->List V->Hp->Prop) (h0:Pv 0 [] (upd H D (.lst []))) (hn:n = min as.length bs.length)
  (hD:∀ i xs H,i <= n->Pv i xs H->H D = some (.lst xs) /\ H a = some (.tup as) /\ H b = some (.tup bs))
  (hs:∀ i x y xs H p,as[i]? = some x->bs[i]? = some y->H p = none->Pv i xs H->g (.ref p) (eu cap σ) (upd H p (.tup [x,y])) fun σ2 H4=>cm (eu cap σ) σ2 /\
   tc σ2 H4 fun b H5=>if b = true then te σ2 H5 fun y H6=>H6 D = some (.lst xs) /\ xs.length < sizeLine /\ Pv (i + 1) (xs ++ [y]) (upd H6 D (.lst (xs ++ [y]))) else Pv (i + 1) xs H5)
  (hd:∀ xs H,Pv n xs H->Q (.ref D) H):lN (P9 a b) D cap σ H g tc te Q:=by
 refine ⟨n,Pv,h0,fun i xs H2 hi p=>⟨(hD i xs H2 hi p).1,?_⟩⟩
 obtain ⟨q0,q1,q2⟩:=hD i xs H2 hi p
 by_cases fT:i < n
 ·have l1:i < as.length:=by omega
  have l2:i < bs.length:=by omega
  refine .inr ⟨fT,⟨as,bs,as[i],bs[i],q1,q2,Ya l1,Ya l2⟩,fun v H3 y=>?_⟩
  obtain ⟨pp,x,y,rfl,hp,rfl,UL⟩:=y
  obtain ⟨e1,e2⟩:=UL as bs q1 q2
  exact hs i x y xs H2 pp e1 e2 hp p
 ·have e:i = n:=by omega
  subst e
  refine .inl ⟨rfl,⟨as,bs,q1,q2,?_⟩,hd xs H2 p⟩
  omega
end L2
namespace HT
open PySem PySem.Spec PyProof.Rows
section
variable {prog:Program} {w:World} {A:Around} {E:Value->Shared->Prop} {s:Shared}
theorem nj {t sl:Addr} {items:Array Value} {vl vu:Value} {lo hi:Option Int} {Q:Value->Shared->Prop} (ht:IsTup s.heap t items) (hs:s.heap.IsSliceOf sl vl vu .none) (pl:IsPart vl lo) (pu:IsPart vu hi)
  (hw:dN items.size 0 lo = 0 /\ dN items.size items.size hi = items.size) (h:Q (.ref t) s):wpAny (model prog w) A (getItem (.ref t) (.ref sl)) Q E s:=by
 obtain ⟨os,Fo,J7,K4⟩:=id hs
 have TS:s.TypeIs (.ref sl) "slice":=⟨os,Fo,J7⟩
 have yes:((((dN items.size 0 lo:Nat):Int) == 0 && (1:Int) == 1 && (dN items.size items.size hi - dN items.size 0 lo) == items.size) = true):=by rw [hw.1,hw.2]; simp
 unfold getItem
 try with_reducible refine Zk ?_
 first | refine X3 (X4 ?_) | skip
 refine X3 (wpAny_sequenceKey ht.typeIs (by decide) (X3 (Y3 (name:=Str.ofString "__getitem__") ht.typeIs Zh (YL Zh ht.typeIs entry_tuple_getitem ?b (args_tuple_getitem _ _)))))
 case b =>
  show wpAny _ _ (Builtin.Tuple.tupleItemsOf (.ref t) >>= _) _ _ _; refine X3 (tupleItemsOf_ ht (X3 (wpAny_typeOf TS ?_))); rw [if_pos (by decide)]
  refine X3 (iO hs pl pu ?_)
  show wpAny _ _ (if (((dN items.size 0 lo:Nat):Int) == 0 && (1:Int) == 1 && (dN items.size items.size hi - dN items.size 0 lo) == items.size) = true then _ else _) _ _ s
  rw [if_pos yes]
  obtain ⟨ot,UE,UY,_⟩:=id ht
  have TT:s.TypeIs (.ref t) "tuple":=⟨ot,UE,UY⟩
  unfold Builtin.Tuple.tupleIsExact
  refine X3 (X3 (wpAny_typeOf TT (X4 ?_)))
  rw [if_pos (by decide)]
  exact X3 (ZD (X4 ⟨_,rfl,X4 h⟩))
end
end HT
namespace L2
open PySem PySem.Spec PyProof.Rows
section
variable {X:Cx}
def MU (K:aaG):V->Option Int->Option Int->Hp->VK->Prop:=fun x lo hi H Q=>∃ a xs,x = .ref a /\ bK K H a xs /\ (HT.dN xs.length 0 lo = 0 /\ HT.dN xs.length xs.length hi = xs.length) /\ Q (.ref a) H
theorem FI:Fx X (MU X.K):=by
 intro pins s σ H x v vl vu lo hi sl Q I rx hs pl pu h
 obtain ⟨a,xs,rfl,hx,hw,q⟩:=h
 cases rx
 obtain ⟨az,r,ht,hz⟩:=I.tuple hx
 have ln:az.toArray.size = xs.length:=by rw [Yk]; exact r.length.symm
 exact ⟨"tuple",_,Zh.lookup,ht.typeIs,HT.nj ht hs pl pu (by rw [ln]; exact hw) ⟨.ref a,H,I,rfl,q⟩⟩
theorem GN:Fx X (fun x lo hi H Q=>L6 X.K x lo hi H Q \/ MU X.K x lo hi H Q):=Fx.or Ja FI
end
end L2
namespace PySem.W
open PySem PySem.Spec PySem.Calls PyProof.Rows
open Builtin Builtin.ObjectAttr Builtin.Getset_descriptor
structure Jc (K:Frag) (D:Addr):Prop where
 ga:findIn K (.ref D) "__getattribute__" = some (some (.builtin "BaseException.__getattribute__"))
 hk:findIn K (.ref D) "__getattr__" = some none
 ca:findIn K (.ref D) "__class__" = some (some (.builtin "object.__class__"))
 gt:specialIn K (.builtin "object.__class__") "__get__" = some (some (.builtin "getset_descriptor.__get__"))
 tk:takesIn K (.builtin "object.__class__") = some true
 mo:mroIn K D (.type "object") = some true
 mb:mroIn K D (.type "BaseException") = some true
 cl:(clsIn K D).isSome = true
theorem Jc.cls {K:Frag} {D:Addr} (c:Jc K D):∃ c' d' cd GJ,K.lookup D = some ⟨c',d',.cls cd,GJ⟩:=by
 have z:=c.cl
 unfold clsIn at z
 split at z
 ·rename_i ho; exact ⟨_,_,_,_,ho⟩
 ·cases z
end PySem.W
namespace L2
open PySem PySem.Spec PyProof.Rows
abbrev TX:=St->Hp->VK->XK->Prop
def XP (X:Cx) (pins:List (Addr × Obj)) (σ:St) (E:XK) (e:Value) (s':Shared):Prop:=∃ H1 s1,Inv X pins σ H1 s1 /\ yO X.prog X.w X.stack H1 s1 E e s'
section
variable {X:Cx} {k:Nat} {f C:Addr} {fd:FuncData} {ps:List Str} {sp:Sp} {kU:List V} {ds:List Value} {x y:Str} {p pos:Pos} {e:Expr} {es:List Expr} {t:TA}
abbrev TB:=Ends->XK->St->Hp->Prop
variable {tx:TX} {i:Nat} {rest:List Stmt} {u:TS} {Jr pos':Pos}
end
section
variable {X:Cx} {CC:Addr} {j:Nat} {x n:Str} {tb:TB} {ts:Addr->Addr->TS} {body Rv:List Stmt} {b₀:Stmt} {np LR pos:Pos} {rest:List ExceptHandler}
theorem xR {P:Program} {w:World} {X:Cx}:Passes (yO P w) X E0:=fun _ _ _ _ _ _ _ h=>by
 obtain ⟨_,_,_,_,_,_,_,_,_,_,_,_,_,_,z⟩:=h
 exact z.elim
end
section
variable {X:Cx} {K:aaG} (h:X.K = K)
include h
theorem z0:iH X (compareOp .NotIn) (Qj K true):=by subst h; exact jh
theorem MB:iH X (binaryOp .Add) (Ir K):=by subst h; exact AD
theorem Lf:CQ X (LB K):=by subst h; exact ce
theorem Md:CQ X (Nc K):=by subst h; exact bz
theorem tupK {es:List Expr} {k n:Nat} {pos:Pos} {t:HG} (hc:X.calm = true) (ht:Lr X es t) (hn:(assignEach es X.env).length = n:=by rfl) (kC:(assignEach es X.env).findIdx? (·.1) = none:=by rfl):PG X (.Tuple es k pos) (Lh K n t):=by subst h; exact jk hc ht hn kC
end
def QZ (x:Str):It:=⟨fun i _=>i < x.cps.size,fun i H v H'=>H' = H /\ ∃ c,x.cps[i]? = some c /\ v = .str ⟨#[c]⟩,fun i _=>x.cps.size <= i⟩
theorem EI {P:Program} {w:World} {K:aaG} {tg:Expr} (ty:String) (KR:ty = "str_ascii_iterator" \/ ty = "str_iterator") (it:Addr) (x:Str) (t:Tok):Turn P w K tg (QZ x) [it] it (fun i h=>h.IsStrIter it ty x t i) where
 mem:=by simp
 obj:=fun i h st b hb=>by
  have e:b = it:=by simpa using hb
  subst e
  obtain ⟨o,e,c,d⟩:=st
  exact ⟨o,e,fun v z=>by rw [d] at z; cases z⟩
 keep:=fun i h h' st k=>let ⟨o,ho,r⟩:=st; ⟨o,k it (by simp) o ho,r⟩
 item:=by
  intro X hP hw hK hc i pins s σ H E I hf st hg
  subst hP hw hK
  obtain ⟨f0,f1,f2,f3,f4,f5⟩:=hf it (by simp)
  have hn:["enumerate","zip","dict_itemiterator","dict_reverseitemiterator","odict_iterator","itertools.zip_longest","itertools.pairwise"].contains ty = false:=by
   rcases KR with rfl | rfl <;> decide
  have W:Walks X.prog X.w X.A it [it] [it] x.cps.size (SignAt x) (fun i h=>h.IsStrIter it ty x t i):=by
   rcases KR with rfl | rfl
   ·exact Walks.strAscii (I.ok.hd hc) it x t
   ·exact Walks.strWide (I.ok.hd hc) it x t
  refine W.item i s _ _ hg st fun v h' tk hv aB kk=>?_
  obtain ⟨c,u,Tq,rfl⟩:=hv
  have I1:Inv X pins σ H { s with heap:=h',toks:=tk }:=I.turned (fun b o hb e=>kk b o (by simpa using hb) e) f0 f1 f3 f4 f5
  obtain ⟨o,e,cc,d⟩:=id aB
  exact ⟨_,rfl,xj (s:={ s with heap:=h',toks:=tk }) e cc d hn ⟨.str ⟨#[c]⟩,H,I1,⟨u,rfl⟩,⟨rfl,c,Tq,rfl⟩,aB,fun b hb=>(hf b hb).1⟩⟩
 done:=by
  intro X hP hw hK hc i pins s σ H E I hf st hg
  subst hP hw hK
  obtain ⟨f0,f1,f2,f3,f4,f5⟩:=hf it (by simp)
  have he:x.cps[i]? = none:=by
   have:x.cps.size <= i:=hg
   simp [this]
  rcases KR with rfl | rfl
  ·exact wpAny_pyNext_ascii_end (I.ok.hd hc) st he fun h' eb=>⟨rfl,I.turned (t':=s.toks) (fun b o hb e=>eb b o hb e) f0 f1 f3 f4 f5⟩
  ·exact wpAny_pyNext_wide_end (I.ok.hd hc) st he fun h' eb=>⟨rfl,I.turned (t':=s.toks) (fun b o hb e=>eb b o hb e) f0 f1 f3 f4 f5⟩
 self:=fun _ _ _ _ _ st h=>by
  rcases KR with rfl | rfl
  ·exact wpAny_pyIter_striter_ascii st h
  ·exact wpAny_pyIter_striter_wide st h
def Q7 (tl:TE):TI:=fun σ H R=>tl σ H fun v H1=>∃ x,v = .str x /\ R (QZ x) H1
section
variable {X:Cx} {tg:Expr}
theorem IU {l:Expr} {tl:TE} (hl:PE X l tl):PI X tg l (Q7 tl):=by
 intro pins s σ H R I h
 refine bT (hl pins s σ H _ I h) fun v s1 ⟨x,H1,I1,r1,q1⟩=>?_
 obtain ⟨z,rfl,q⟩:=q1
 obtain ⟨t,rfl⟩:=r1
 refine wpAny_pyIter_strU ?_
 have ht:strIterType z = "str_ascii_iterator" \/ strIterType z = "str_iterator":=by
  unfold strIterType
  split
  ·exact .inl rfl
  ·exact .inr rfl
 refine ⟨s1.heap.objs.size,[s1.heap.objs.size],_,_,H1,rfl,I1.kept (t':=s1.toks) fun b o e=>X5 _ e,EI _ ht _ z t,⟨_,Yg _ rfl,rfl,rfl⟩,fun b hb=>?_,q⟩
 have e:b = s1.heap.objs.size:=by simpa using hb
 subst e
 exact I1.yV (X7 _) (I1.aW.fresh (X7 _))
end
section
variable {cap:List (Option Nat)} {σ:St} {H:Hp} {g:TG} {tc:TT} {te:TE} {Q:VK} {D:Addr}
theorem DO {x:Str} (Pv:Nat->List V->Hp->Prop) (h0:Pv 0 [] (upd H D (.lst []))) (hD:∀ i xs H,i <= x.cps.size->Pv i xs H->H D = some (.lst xs))
  (hs:∀ i c xs H,x.cps[i]? = some c->Pv i xs H->g (.str ⟨#[c]⟩) (eu cap σ) H fun σ2 H4=>cm (eu cap σ) σ2 /\
   tc σ2 H4 fun b H5=>if b = true then te σ2 H5 fun y H6=>H6 D = some (.lst xs) /\ xs.length < sizeLine /\ Pv (i + 1) (xs ++ [y]) (upd H6 D (.lst (xs ++ [y]))) else Pv (i + 1) xs H5)
  (hd:∀ xs H,Pv x.cps.size xs H->Q (.ref D) H):lN (QZ x) D cap σ H g tc te Q:=by
 refine ⟨x.cps.size,Pv,h0,fun i xs H2 hi p=>⟨hD i xs H2 hi p,?_⟩⟩
 by_cases fT:i < x.cps.size
 ·refine .inr ⟨fT,fT,fun y H' z=>?_⟩
  obtain ⟨e,c,hc,rfl⟩:=z
  subst e
  exact hs i c xs _ hc p
 ·have e:i = x.cps.size:=by omega
  subst e
  exact .inl ⟨rfl,X7 _,hd xs H2 p⟩
variable {tb:TS} {Dn:Ends}
end
section
variable {X:Cx}
theorem tL:∀ l:List (Str × Tok),Vals ((l.map (·.1)).map V.str) (strValues l)
 | []=>.nil
 | (x,t) :: l=>.cons ⟨t,rfl⟩ (tL l)
theorem n9 {pins:List (Addr × Obj)} {s:Shared} {σ:St} {H:Hp} {Q:VK} {l:List (Str × Tok)} {texts:List Str} {tk:Nat} (I:Inv X pins σ H s) (hl:l.map (·.1) = texts) (hz:texts.length <= sizeLine)
  (q:∀ p,H p = none->Q (.ref p) (upd H p (.lst (texts.map V.str)))):EP X pins σ Q (.ref s.heap.objs.size) { s with heap:=s.heap.push { cls:=.type "list",data:=.seq (strValues l).toArray },toks:=tk }:=by
 subst hl
 refine ⟨.ref s.heap.objs.size,_,I.laid (t':=tk) (o:=.lst ((l.map (·.1)).map V.str)) (fun b o e=>X5 _ e) (X7 _) ⟨?_,strValues l,0,tL l,Yg _ rfl⟩,rfl,q _ (I.aW.fresh (X7 _))⟩
 rw [X6]; exact hz
theorem yq:KU X "str.split" (fun x xs H Q=>∃ a b,x = .str a /\ xs = [.str b] /\ (b.length == 0) = false /\ a.length <= sizeLine /\ (Txt.split a b).length <= sizeLine /\ ∀ l,H l = none->Q (.ref l) (upd H l (.lst ((Txt.split a b).map V.str)))):=by
 intro pins s σ H x xs v us Q I rx rv h
 obtain ⟨a,b,rfl,rfl,hy,hsz,Gv,q⟩:=h
 obtain ⟨t,rfl⟩:=rx
 obtain ⟨u,rfl,t',rfl⟩:=vals1 rv
 cases h1:(decide (a.length < b.length) || decide (Builtin.Str.strKind a < Builtin.Str.strKind b))
 ·cases hf:(Builtin.Str.occurrences a b 0 a.length (a.length + 1)).isEmpty
  ·have es:Txt.split a b = Builtin.Str.partsBetween a (Builtin.Str.occurrences a b 0 a.length (a.length + 1)) b.length:=(if_neg (ne_true_of_eq_false h1)).trans (if_neg (ne_true_of_eq_false hf))
   refine call_meets F.slot_str_split (typeIs_str _ _ _) F.entry_str_split (F.args_str_split_2 _ _) (meets_str_split_sep a b t t' h1 hy hf hsz (by rw [<- es]; exact Gv)) ?_
   show wants _ _ _ { s with toks:=_,heap:=s.heap.push { cls:=.type "list",data:=.seq (strsFrom s.toks (Builtin.Str.partsBetween a (Builtin.Str.occurrences a b 0 a.length (a.length + 1)) b.length)).toArray } }
   rw [strsFrom_eq]
   exact n9 I ((numbered_texts _ _).trans es.symm) Gv q
  ·have es:Txt.split a b = [a]:=(if_neg (ne_true_of_eq_false h1)).trans (if_pos hf)
   exact call_meets F.slot_str_split (typeIs_str _ _ _) F.entry_str_split (F.args_str_split_2 _ _) (meets_str_split_not_found a b t t' h1 hy hf) (n9 (l:=[(a,t)]) (tk:=s.toks) I es.symm Gv q)
 ·have es:Txt.split a b = [a]:=if_pos h1
  exact call_meets F.slot_str_split (typeIs_str _ _ _) F.entry_str_split (F.args_str_split_2 _ _) (meets_str_split_cannot_occur a b t t' h1) (n9 (l:=[(a,t)]) (tk:=s.toks) I es.symm Gv q)
theorem vm:KU X "str.join" (fun x xs H Q=>∃ a p ts,x = .str a /\ xs = [.ref p] /\ aZ X.K H p (ts.map V.str) /\ JoinOk a ts = true /\ Q (.str (Txt.join a ts)) H):=by
 intro pins s σ H x xs v us Q I rx rv h
 obtain ⟨a,p,ts,rfl,rfl,hp,hj,q⟩:=h
 obtain ⟨t,rfl⟩:=rx
 obtain ⟨u,rfl,ru⟩:=vals1 rv
 cases ru
 obtain ⟨az,KM,pl,hz⟩:=I.list hp
 obtain ⟨l,e1,e2⟩:∃ l:List (Str × Tok),az = strValues l /\ l.map (·.1) = ts:=by
  clear pl hz hp hj q
  induction ts generalizing az with
  | nil=>cases KM; exact ⟨[],rfl,rfl⟩
  | cons y ts ih =>
   cases KM with
   | cons r1 r2 =>
    obtain ⟨t',rfl⟩:=r1
    obtain ⟨l,rfl,rfl⟩:=ih _ r2
    exact ⟨(y,t') :: l,rfl,rfl⟩
 subst e1
 exact SC.join pl.isList e2 hj fun t' k=>⟨.str _,H,I.tok k,⟨t',rfl⟩,q⟩
theorem tF:cK X (.type "int") (fun xs H Q=>∃ x n,xs = [.str x] /\ PySem.intText? x = some n /\ x.length <= 640 /\ Q (.int n) H):=by
 intro pins s σ H xs us Q I r h
 obtain ⟨x,n,rfl,hn,hl,q⟩:=h
 obtain ⟨u,rfl,t,rfl⟩:=vals1 r
 exact PySem.W.KIN.call_text hn hl ⟨.int n,H,I.tok _,⟨_,rfl⟩,q⟩
theorem call_int_bool:cK X (.type "int") (fun xs H Q=>∃ b:Bool,xs = [.bl b] /\ Q (.int (if b then 1 else 0)) H):=by
 intro pins s σ H xs us Q I r h
 obtain ⟨b,rfl,q⟩:=h
 obtain ⟨u,rfl,ru⟩:=vals1 r
 cases ru
 exact PySem.call_int_bool ⟨.int _,H,I.tok _,⟨_,rfl⟩,q⟩
theorem BY:KU X "str.startswith" (fun x xs H Q=>∃ a b,x = .str a /\ xs = [.str b] /\ Q (.bl (Txt.startswith a b)) H):=by
 intro pins s σ H x xs v us Q I rx rv h
 obtain ⟨a,b,rfl,rfl,q⟩:=h
 obtain ⟨t,rfl⟩:=rx
 obtain ⟨u,rfl,t',rfl⟩:=vals1 rv
 exact SC.startswith ⟨.bl _,H,I,rfl,q⟩
theorem GH:KU X "str.endswith" (fun x xs H Q=>∃ a b,x = .str a /\ xs = [.str b] /\ Q (.bl (Txt.endswith a b)) H):=by
 intro pins s σ H x xs v us Q I rx rv h
 obtain ⟨a,b,rfl,rfl,q⟩:=h
 obtain ⟨t,rfl⟩:=rx
 obtain ⟨u,rfl,t',rfl⟩:=vals1 rv
 exact SC.endswith ⟨.bl _,H,I,rfl,q⟩
end
section
variable {X:Cx}
theorem Bq (hc:X.calm = true):cK X (.builtin "min") (fun xs H Q=>∃ (p:Addr) (ns:List Int),xs = [.ref p] /\ aZ X.K H p (ns.map V.int) /\ ns ≠ [] /\ ∀ m,m ∈ ns->(∀ n ∈ ns,m <= n)->Q (.int m) H):=by
 intro pins s σ H xs us Q I r h
 obtain ⟨p,ns,rfl,hp,oE,q⟩:=h
 obtain ⟨u,rfl,ru⟩:=vals1 r
 cases ru
 obtain ⟨az,rv,pl,_⟩:=I.list hp
 obtain ⟨ps,rfl,e2⟩:=qK rv
 have ia:(ps.map fun p=>Value.int p.1 p.2).toArray = intItems ps.toArray:=by unfold intItems; simp
 have ox:ps.toArray.size = ns.length:=by rw [<- e2]; simp
 have LR:0 < ps.toArray.size:=by rw [ox]; exact aat.mpr oE
 refine min_intList (I.ok.hd hc) (xs:=ps.toArray) (by rw [<- ia]; exact pl.isList) LR fun v h' tk hv hk=>?_
 obtain ⟨t,rfl⟩:=intItems_at hv
 obtain ⟨h1,h2⟩:=argBest_lt (numAt ps.toArray) (ps.toArray.size - 1)
 have na:numAt ps.toArray = fun i=>ns.getD i 0:=by
  funext i
  rw [<- e2]
  unfold numAt
  rw [Yp,Yl]
  simp
 refine ⟨.int _,H,I.kept (t':=tk) hk,⟨t,rfl⟩,q _ ?_ fun n hn=>?_⟩
 ·rw [na]
  have hi:argBest (fun i j=>decide (numAt ps.toArray i < numAt ps.toArray j)) (ps.toArray.size - 1) < ns.length:=by omega
  rw [na] at hi
  show ns.getD _ 0 ∈ ns
  rw [Yp,Ya hi]
  exact ZF hi
 ·obtain ⟨j,hj⟩:=aaf.mp hn
  have XA:j < ns.length:=(Ys.mp hj).1
  have:=h2 j (by omega)
  rw [na] at this ⊢
  have e:ns.getD j 0 = n:=by rw [Yp,hj]; rfl
  have Iq:ns.getD (argBest (fun i j=>decide (ns.getD i 0 < ns.getD j 0)) (ps.toArray.size - 1)) 0 <= ns.getD j 0:=this
  rw [e] at Iq
  exact Iq
end
end L2
namespace FN
open PySem L2
theorem wT {α:Type} {x:α} {r:List α}:BZ (x :: r) 0 = some x:=fQ (j:=0) (xs:=x :: r) rfl
theorem u6 {α:Type} {x y:α} {r:List α}:BZ (x :: y :: r) 1 = some y:=fQ (j:=1) (xs:=x :: y :: r) rfl
theorem at2 {α:Type} {x y z:α} {r:List α}:BZ (x :: y :: z :: r) 2 = some z:=fQ (j:=2) (xs:=x :: y :: z :: r) rfl
theorem zw {α:Type} {xs:List α} {i:Int} (h0:0 <= i) (h1:i < xs.length):∃ v,v ∈ xs /\ BZ xs i = some v:=by
 have hj:i.toNat < xs.length:=by omega
 have e:xs[i.toNat]? = some xs[i.toNat]:=Ya hj
 refine ⟨xs[i.toNat],ZF hj,?_⟩
 have q:=fQ e
 rwa [show ((i.toNat:Nat):Int) = i by omega] at q
theorem bv {c:Bool} {A B:Prop} (h1:c = true->A) (h2:c = false->B):if c = true then A else B:=by
 cases c with
 | true=>exact h1 rfl
 | false=>exact h2 rfl
theorem aH {n:Nat} (h:n <= 1000000):n <= sizeLine:=by rw [ZQ]; omega
theorem aU {n:Nat} (h:n <= 1000000):n < sizeLine:=by rw [ZQ]; omega
mutual
def fZ:PyData->Bool
 | .list _=>false
 | .tuple ds=>de ds
 | .dict _=>false
 | _=>true
def de:List PyData->Bool
 | []=>true
 | d :: ds=>fZ d && de ds
end
theorem aE {α:Type} {f:α->PyData} (hf:∀ x,fZ (f x) = true):∀ l:List α,de (l.map f) = true
 | []=>rfl
 | x :: r=>by
  simp only [Yq,de,YM]
  exact ⟨hf x,aE hf r⟩
section
variable {H:Hp} {D:Addr} {o:HO} {ys:List V}
mutual
theorem dJ (hD:H D = some (.lst ys)):∀ {d:PyData} {v:V},DV H d v->fZ d = true->DV (upd H D o) d v
 | _,_,.cP,_=>.cP
 | _,_,.bl b,_=>.bl b
 | _,_,.int i,_=>.int i
 | _,_,.str x,_=>.str x
 | _,_,.lst _ _,n=>by simp [fZ] at n
 | _,_,.tup h t,n=>.tup (by rw [am (fe h hD (by intro z; cases z))]; exact h) (bp hD t (by simpa [fZ] using n))
theorem bp (hD:H D = some (.lst ys)):∀ {ds:List PyData} {vs:List V},bW H ds vs->de ds = true->bW (upd H D o) ds vs
 | _,_,.nil,_=>.nil
 | _,_,.cons h t,n=>by
  simp only [de,YM] at n
  exact .cons (dJ hD h n.1) (bp hD t n.2)
end
end
section
variable {H H':Hp}
mutual
theorem C5 (e:∀ b vs,H b = some (.tup vs)->H' b = some (.tup vs)):∀ {d:PyData} {v:V},DV H d v->fZ d = true->DV H' d v
 | _,_,.cP,_=>.cP
 | _,_,.bl b,_=>.bl b
 | _,_,.int i,_=>.int i
 | _,_,.str x,_=>.str x
 | _,_,.lst _ _,n=>by simp [fZ] at n
 | _,_,.tup h t,n=>.tup (e _ _ h) (ql e t (by simpa [fZ] using n))
theorem ql (e:∀ b vs,H b = some (.tup vs)->H' b = some (.tup vs)):∀ {ds:List PyData} {vs:List V},bW H ds vs->de ds = true->bW H' ds vs
 | _,_,.nil,_=>.nil
 | _,_,.cons h t,n=>by
  simp only [de,YM] at n
  exact .cons (C5 e h n.1) (ql e t n.2)
end
end
theorem aq {H0 H:Hp} {D:Addr} {o:HO} (e:ao H0 H) (h:H0 D = none):ao H0 (upd H D o):=fun b u q=>by
 rw [am (ax q h)]
 exact e b u q
theorem ah {H:Hp} {D:Addr} {o:HO} (h:H D = none):ao H (upd H D o):=aq (ao.refl H) h
theorem i5 {α:Type} {f:α->PyData} (hf:∀ x,(f x).canLay0 = true):∀ l:List α,PyData.canLayAll0 (l.map f) = true
 | []=>by simp [PyData.canLayAll0]
 | x :: r=>by simp only [Yq,PyData.canLayAll0,hf x,i5 hf r,Bool.and_self]
theorem Hj (i:Int):(PyData.int i).canLay0 = true:=by simp [PyData.canLay0]
theorem DD (g:List Int):PyData.canLayAll0 (g.map PyData.int) = true:=i5 Hj g
theorem iY {α:Type} {f:α->PyData} {n:Nat} (hf:∀ x,(f x).depth <= n):∀ l:List α,PyData.depthAll (l.map f) <= n
 | []=>by simp [PyData.depthAll]
 | x :: r=>by
  simp only [Yq,PyData.depthAll]
  exact Nat.max_le.mpr ⟨hf x,iY hf r⟩
abbrev Th:=Int × Bool
abbrev Qu:=Int × Int × Int
def vH (t:Th):PyData:=.tuple [.int t.1,.bool t.2]
def vF (q:Qu):PyData:=.tuple [.int q.1,.int q.2.1,.int q.2.2]
theorem ph (t:Th):fZ (vH t) = true:=rfl
theorem m5 (q:Qu):fZ (vF q) = true:=rfl
theorem Ka (t:Th):(vH t).canLay0 = true:=by simp [vH,PyData.canLay0,PyData.canLayAll0]
theorem Je (q:Qu):(vF q).canLay0 = true:=by simp [vF,PyData.canLay0,PyData.canLayAll0]
theorem K6 (t:Th):(vH t).depth <= 5:=by simp [vH,PyData.depth,PyData.depthAll]
theorem Nm (q:Qu):(vF q).depth <= 5:=by simp [vF,PyData.depth,PyData.depthAll]
section
variable {H:Hp}
theorem HY {t:Th} {b:Addr} (h:H b = some (.tup [.int t.1,.bl t.2])):DV H (vH t) (.ref b):=.tup h (.cons (.int _) (.cons (.bl _) .nil))
theorem E9 {q:Qu} {b:Addr} (h:H b = some (.tup [.int q.1,.int q.2.1,.int q.2.2])):DV H (vF q) (.ref b):=.tup h (.cons (.int _) (.cons (.int _) (.cons (.int _) .nil)))
theorem u3 {t:Th} {v:V} (h:DV H (vH t) v):∃ b,v = .ref b /\ H b = some (.tup [.int t.1,.bl t.2]):=by
 obtain ⟨a,vs,rfl,e,q⟩:=h.il
 obtain ⟨v,w,rfl,h1,h2⟩:=q.vM
 cases h1.int_inv
 cases h2.JT
 exact ⟨a,rfl,e⟩
theorem sx {q:Qu} {v:V} (h:DV H (vF q) v):∃ b,v = .ref b /\ H b = some (.tup [.int q.1,.int q.2.1,.int q.2.2]):=by
 obtain ⟨a,vs,rfl,e,q⟩:=h.il
 obtain ⟨v,w,u,rfl,h1,h2,h3⟩:=q.oP
 cases h1.int_inv
 cases h2.int_inv
 cases h3.int_inv
 exact ⟨a,rfl,e⟩
theorem bH {α:Type} {f:α->PyData} {l:List α} {vs:List V} {i:Nat} {v:V} (h:bW H (l.map f) vs) (e:vs[i]? = some v):∃ x,l[i]? = some x /\ DV H (f x) v:=by
 obtain ⟨d,h1,h2⟩:=h.get' e
 rw [Yl] at h1
 cases q:l[i]? with
 | none=>rw [q] at h1; cases h1
 | some x =>
  rw [q] at h1
  cases h1
  exact ⟨x,rfl,h2⟩
theorem aI {α:Type} {f:α->PyData} {l:List α} {vs:List V} (h:bW H (l.map f) vs):vs.length = l.length:=by
 have:=h.length
 rw [X6] at this
 exact this.symm
end
structure wt (n:Int) (q:Qu):Prop where
 a0:0 <= q.1
 a1:q.1 < n
 b0:0 <= q.2.1
 b1:q.2.1 < n
 ab:q.1 ≠ q.2.1
 k:q.2.2 = -1 \/ (0 <= q.2.2 /\ q.2.2 < n /\ q.2.2 ≠ q.1 /\ q.2.2 ≠ q.2.1)
structure zU (ts:List Th):Prop where
 l1:1 <= ts.length
 l6:ts.length <= 6
 p:∀ t ∈ ts,1 <= t.1 /\ t.1 <= 1000000000
def LstAt {α:Type} (f:α->PyData) (H:Hp) (a:Addr) (l:List α):Prop:=∃ vs,H a = some (.lst vs) /\ bW H (l.map f) vs
def TupAt {α:Type} (f:α->PyData) (H:Hp) (a:Addr) (l:List α):Prop:=∃ vs,H a = some (.tup vs) /\ bW H (l.map f) vs
section
variable {α:Type} {f:α->PyData} {H H':Hp} {a:Addr} {l:List α}
theorem LstAt.mono (h:LstAt f H a l) (e:ao H H'):LstAt f H' a l:=let ⟨vs,h1,h2⟩:=h; ⟨vs,e _ _ h1,h2.mono e⟩
theorem TupAt.mono (h:TupAt f H a l) (e:ao H H'):TupAt f H' a l:=let ⟨vs,h1,h2⟩:=h; ⟨vs,e _ _ h1,h2.mono e⟩
theorem LstAt.dv (h:LstAt f H a l):DV H (.list (l.map f)) (.ref a):=let ⟨_,h1,h2⟩:=h; .lst h1 h2
theorem TupAt.dv (h:TupAt f H a l):DV H (.tuple (l.map f)) (.ref a):=let ⟨_,h1,h2⟩:=h; .tup h1 h2
end
def bad (g:List Int) (q:Qu):Bool:=g.contains q.1 && g.contains q.2.1 && !g.contains q.2.2
def jG (qs:List Qu) (g:List Int):Bool:=!(qs.any (bad g))
theorem c6 (i:Int) (g:List Int):xa (.int i) (g.map V.int) = g.contains i:=by
 unfold xa
 rw [List.any_map,List.contains_eq_any_beq]
 congr 1
 funext y
 show (y == i) = (i == y)
 rw [Bool.beq_comm]
theorem dC (g:List Int):(g.map V.int).all mJ = true:=by
 rw [List.all_map]
 exact Y7.mpr fun _ _=>rfl
def dL:Nat->Int->Int->List Int
 | 0,_,_=>[]
 | k + 1,t,num=>(if num % 2 = 1 then [t] else []) ++ dL k (t + 1) (num / 2)
def bits (n:Nat) (num:Int):List Int:=dL n 0 num
def groups (n:Nat):List (List Int):=(a6 (2 ^ n)).map (bits n)
def kO (g:List Int):PyData:=.tuple (g.map PyData.int)
theorem j6 (g:List Int):fZ (kO g) = true:=by
 show de (g.map PyData.int) = true
 exact aE (fun _=>rfl) g
theorem mj {H:Hp} {g:List Int} {v:V} (h:DV H (kO g) v):∃ b,v = .ref b /\ H b = some (.tup (g.map V.int)):=by
 obtain ⟨a,vs,rfl,e,q⟩:=h.il
 cases q.nX
 exact ⟨a,rfl,e⟩
theorem m4 {H:Hp} {g:List Int} {b:Addr} (h:H b = some (.tup (g.map V.int))):DV H (kO g) (.ref b):=.tup h (bW.ints g)
theorem Eu (cell:Int) (n:Nat) (h2:2 <= n) (h6:n <= 6):0 <= cell % (n:Int) /\ cell % (n:Int) < n /\ 0 <= (cell % (n:Int) + 1 + cell / (n:Int) % ((n:Int) - 1)) % (n:Int) /\
  (cell % (n:Int) + 1 + cell / (n:Int) % ((n:Int) - 1)) % (n:Int) < n /\ cell % (n:Int) ≠ (cell % (n:Int) + 1 + cell / (n:Int) % ((n:Int) - 1)) % (n:Int):=by
 have c:n = 2 \/ n = 3 \/ n = 4 \/ n = 5 \/ n = 6:=by omega
 rcases c with rfl | rfl | rfl | rfl | rfl <;> omega
theorem Hq (n:Nat) (h2:2 <= n) (h6:n <= 6):(0:Int) < (n:Int) * ((n:Int) - 1) /\ (n:Int) * ((n:Int) - 1) < 1073741824:=by
 have c:n = 2 \/ n = 3 \/ n = 4 \/ n = 5 \/ n = 6:=by omega
 rcases c with rfl | rfl | rfl | rfl | rfl <;> decide
abbrev bX (P:Program) (w:World) (K:aaG) (mg:Str->Option Value) (base:Heap) (N:List Str) (qual:Str) (st:Stmt) (f:Addr) (ci:Value) (A:Around) (outer:List Env) (s:Shared) (H:Hp) (E:XK):Cx :=
 (xo be P w K mg base N qual (aj st) f ci A outer s H E).FJ
abbrev bD (Q:VK):Ends:={ nx:=fun _ H'=>Q .cP H',rt:=Q }
structure Fn (K:aaG) (mg:Str->Option Value) (x:Str) (st:Stmt) (f:Addr) (fd:FuncData) (ps:List Str):Prop where
 fn:Gp K x x st f fd
 b:Binds K fd ps []
 g:mg x = some (.ref f)
structure Mt (K:aaG) (x qual:Str) (st:Stmt) (f:Addr) (fd:FuncData) (ps:List Str):Prop where
 fn:Gp K x qual st f fd
 b:Binds K fd ps []
end FN
namespace L2
open PySem PySem.Spec PyProof.Rows
section
variable {X:Cx} {x:Str} {pos:Pos}
theorem gn (i:Nat) (hN:X.N.Nodup) (hi:X.N[i]? = some x:=by rfl) (hx:Loc X.env.scope x:=by first | exact Or.inl rfl | exact Or.inr rfl) (hf:X.fn x = true \/ X.env.scope.names.lookup x = some .local:=by first | exact .inl rfl | exact .inr rfl | assumption):PG X (.Name x pos) (yn i):=G1 hN hi hx hf
theorem sn (i:Nat) {e:Expr} {te:TE} {pos':Pos} (hN:X.N.Nodup) (he:PE X e te) (hi:X.N[i]? = some x:=by rfl) (hx:Loc X.env.scope x:=by first | exact Or.inl rfl | exact Or.inr rfl) (hs:swapsWith e (some (.Name x pos')) pos.line X.env = pure false:=by rfl)
  (hf:X.fn x = true \/ X.env.scope.names.lookup x = some .local:=by first | exact .inl rfl | exact .inr rfl | assumption):PS X (.Assign [.Name x pos'] e pos) (G4 te (yn i)):=JM hN hi hx he hs hf
theorem fk {N P:List Str} {sc:Scope} (h1:sc.kind = .function:=by rfl) (h2:sc.isCoroutine = false:=by rfl) (h3:sc.isGenerator = false:=by rfl) (h4:N.Nodup:=by decide +kernel) (h5:N.take P.length = P:=by rfl)
  (h6:∀ x ∈ P,sc.names.lookup x = some .local \/ sc.names.lookup x = some .cell:=by decide +kernel) (h7:∀ y ∈ sc.names,y.2 ≠ .free:=by decide +kernel):av N P sc:=⟨h1,h2,h3,h4,h5,h6,h7⟩
theorem cl {CX:zA} {k j:Nat} {f:Addr} {fd:FuncData} {ps:List Str} {sp:Sp} {E:XK} {st:Stmt} {e:Expr} {es:List Expr} {t:TA} {p:Pos} (F:au X.prog X.w X.K X.mg X.base CX k f fd ps sp) (N:FN.Fn X.K X.mg x st f fd ps) (hr:eD j X.A) (hx:Passes CX X E) (ha:PA X (e :: es) t)
  (hk:k <= j:=by decide) (hg:Gl X x:=by rfl) (su:(x == ("__debug__":Str)) = false:=by decide) (he:starEach (e :: es) X.env = (false,eval e X.env) :: starEach es X.env:=by rfl) (AR:(backTo pos (starEach es X.env)).any (·.1) = false:=by rfl) :
  PE X (.Call (.Name x p) (e :: es) [] pos) (Iu sp [] E t):=FQ F (hr.mono hk) hg N.g N.fn.kp N.b .nil hx ha su he AR
end
section
variable {prog:Program} {w:World} {A:Around} {E:Value->Shared->Prop} {s:Shared}
def h9 (h:Heap) (a:Addr) (g:List Int):Prop:=∃ az:List Value,Vals (g.map V.int) az /\ IsTup h a az.toArray
theorem h9.typeIs {a:Addr} {g:List Int} (h:h9 s.heap a g):s.TypeIs (.ref a) "tuple":=let ⟨_,_,o,ho,hc,_⟩:=h; ⟨o,ho,hc⟩
theorem lG {g k:List Int} {a b:Addr} {P:PySem.Fin->Shared->Prop} (hx:h9 s.heap a g) (hy:h9 s.heap b k) (h:P (.done (.ret (.bool (HT.lexLt g k)))) s) :
  wpAny (model prog w) A (Builtin.«tuple.__lt__» ⟨[.ref a,.ref b],[]⟩) P E s:=by
 have Mo:=hy.typeIs
 obtain ⟨xs,rx,oa,CS,_,na,CN⟩:=hx
 obtain ⟨ys,ry,ob,pL,_,nb,su⟩:=hy
 show wpAny _ _ (isInstance (.ref b) (.type "tuple") >>= _) _ _ s
 refine X3 (ZE Mo isSubtype_tuple_tuple ?_)
 simp only [Y8,Yu,YZ]
 refine X3 (aaC CS CN ?_)
 refine X3 (aaC pL su ?_)
 refine X3 ?_
 refine wpAny_forIn_list _
  (fun rest r s'=>s' = s /\ ((r.1 = none /\ ∃ g' k' KD wB,rest = List.zip KD wB /\ Vals (g'.map V.int) KD /\ Vals (k'.map V.int) wB /\ HT.lexLt g' k' = HT.lexLt g k /\ (decide (KD.length < wB.length)) = (decide (xs.toArray.size < ys.toArray.size))) ))
  _ ?_ ?_ _ _ ⟨rfl,rfl,g,k,xs,ys,by simp,rx,ry,rfl,by simp⟩
 ·rintro ⟨u,v⟩ rest r s' ⟨rfl,hr,g',k',KD,wB,hz,hg,hk,ze,hlen⟩
  cases g' with
  | nil=>cases hg; simp at hz
  | cons m g' =>
   cases k' with
   | nil=>cases hk; rw [List.zip_nil_right] at hz; cases hz
   | cons n k' =>
    cases hg with
    | cons r1 Pz =>
    cases hk with
    | cons r2 QS =>
    obtain ⟨t1,rfl⟩:=r1
    obtain ⟨t2,rfl⟩:=r2
    rw [Z8] at hz
    injection hz with AM M0
    injection AM with e1 e2
    subst e1 e2 M0
    rw [HT.gN] at ze
    refine X3 (aao ?_)
    by_cases Oj:m = n
    ·rw [if_pos Oj] at ze
     rw [show (m == n) = true from ZZ.mpr Oj]
     simp only [Y8,Yu,YZ]
     exact X4 ⟨rfl,rfl,g',k',_,_,rfl,Pz,QS,ze,by simpa using hlen⟩
    ·rw [if_neg Oj] at ze
     rw [show (m == n) = false from Zg.mpr Oj]
     simp only [Bool.not_false,Zw]
     refine X3 (ZD (X3 (show wpAny (model prog w) A (compareOp .Lt (.int m t1) (.int n t2)) _ E s' from lt_int ?_)))
     rw [ze]
     exact X3 (X4 (X4 (X4 h)))
 ·rintro ⟨r1,r2⟩ s' ⟨rfl,hr,g',k',KD,wB,hz,hg,hk,ze,hlen⟩
  simp only at hr
  subst hr
  refine X4 ?_
  have QX:decide (xs.toArray.size < ys.toArray.size) = HT.lexLt g k:=by
   rw [<- ze,<- hlen]
   cases g' with
   | nil =>
    cases hg
    cases k' with
    | nil=>cases hk; rfl
    | cons n k'=>cases hk; simp [HT.lexLt]
   | cons m g' =>
    cases hg
    cases k' with
    | nil=>cases hk; simp [HT.lexLt]
    | cons n k'=>cases hk; simp at hz
  show P (.done (.ret (.bool (decide (xs.toArray.size < ys.toArray.size))))) s'
  rw [QX]; exact h
theorem xt {g k:List Int} {a b:Addr} {Q:Value->Shared->Prop} (hu:A.units < cLine) (hx:h9 s.heap a g) (hy:h9 s.heap b k) (h:Q (.bool (HT.lexLt g k)) s) :
  wpAny (model prog w) A (compareOp .Lt (.ref a) (.ref b)) Q E s :=
 show wpAny (model prog w) A (richCompare .Lt (.ref a) (.ref b)) Q E s from
 wpAny_richCompare_same_room (op:=.Lt) hx.typeIs hy.typeIs F.slot_tuple_lt
   (YL F.slot_tuple_lt hx.typeIs F.entry_tuple_lt (lG hx hy ⟨_,rfl,(fun e=>nomatch e),h⟩) (F.args_tuple_lt_2 _ _)) hu
theorem km {g k:List Int} {a b:Addr} {o:Bool} {Q:Bool->Shared->Prop} (hu:A.units < cLine) (hx:h9 s.heap a g) (hy:h9 s.heap b k) (h:Q (HT.lexLt g k) s) :
  wpAny (model prog w) A (oneLt' o (.ref a) (.ref b)) Q E s:=by
 cases o with
 | false=>exact PySem.W.kat_one _ _ (xt hu hx hy h)
 | true =>
  rw [oneLt'_eq]
  simp only [Zw]
  refine X3 (wpAny_cRoomFor_or (.inr hu) ?_)
  refine X3 (wpAny_callSpecialIfBound?_slot hx.typeIs F.slot_tuple_lt (YL F.slot_tuple_lt hx.typeIs F.entry_tuple_lt (lG hx hy ⟨_,rfl,?_⟩) (F.args_tuple_lt_2 _ _)))
  exact Y9 h
theorem qQ:∀ {g:List Int} {az:List Value},Vals (g.map V.int) az->ItemsAre (intKind prog w) g az
 | [],_,.nil=>.nil
 | _ :: _,_,.cons ⟨_,e⟩ r=>by subst e; exact .cons (by first | rfl | simp [intKind,Value.isInt]) (qQ r)
theorem h9.key {h:Heap} {a:Addr} {g:List Int}:h9 h a g->IsTupleKey (intKind prog w) h g a
 | ⟨az,rv,o,ho,hc,n,hd⟩=>⟨o,az.toArray,n,ho,hc,hd,by rw [List.toList_toArray]; exact qQ rv⟩
theorem kq {g k:List Int} {a b:Addr} {Q:Bool->Shared->Prop} (hu:A.units < cLine) (hx:h9 s.heap a g) (hy:h9 s.heap b k) (h:Q (decide (g = k)) s) :
  wpAny (model prog w) A (eqBool (.ref a) (.ref b)) Q E s:=by
 exact wpAny_eqBool_tuple hu hx.key hy.key h
def jK (h:Heap) (k:Value) (p:Int × List Int):Prop:=∃ a b t,k = .ref a /\ IsTup h a #[.int p.1 t,.ref b] /\ h9 h b p.2
def aC (p q:Int × List Int):Bool:=if p.1 = q.1 then HT.lexLt p.2 q.2 else decide (p.1 < q.1)
theorem iK:∀ g:List Int,HT.lexLt g g = false
 | []=>rfl
 | m :: g=>by rw [HT.gN,if_pos rfl,iK g]
theorem zL {x y:Value} {p q:Int × List Int} {Q:Bool->Shared->Prop} (hu:A.units < cLine) (hx:jK s.heap x p) (hy:jK s.heap y q) (h:Q (aC p q) s):wpAny (model prog w) A (keyLt' (tuples' true) x y) Q E s:=by
 obtain ⟨a,b,t,rfl,⟨o,ho,hc,n,hd⟩,hb⟩:=hx
 obtain ⟨a',b',t',rfl,⟨o',mZ,yC,n',wz⟩,yB⟩:=hy
 refine PySem.W.kat_lt ho hd mZ wz ?_
 show PySem.W.KatLex prog w A true (decide (2 < 2)) Q [(.int p.1 t,.int q.1 t'),(.ref b,.ref b')] 0 s
 refine PySem.W.kat_cons (aao ?_)
 unfold aC at h
 refine PySem.W.kat_go (fun e=>?_) fun e=>?_
 ·rw [if_pos (eq_of_beq e)] at h
  refine PySem.W.kat_yes (PySem.W.kat_cons (kq hu hb yB ?_))
  refine PySem.W.kat_go (fun e=>?_) fun e=>?_
  ·have e:=YA e
   rw [e,iK] at h
   exact PySem.W.kat_yes (PySem.W.kat_nil h)
  ·exact PySem.W.kat_no (km hu hb yB h)
 ·rw [if_neg (fun z=>by rw [z,beq_self_eq_true] at e; cases e)] at h
  exact PySem.W.kat_no (oneLt_int h)
end
section
theorem lex_trans:∀ {a b c:List Int},HT.lexLt a b = true->HT.lexLt b c = true->HT.lexLt a c = true
 | [],_,[],h1,h2=>by rename_i b; cases b <;> simp [HT.lexLt] at h1 h2
 | [],_,_ :: _,_,_=>by simp [HT.lexLt]
 | _ :: _,[],_,h1,_=>by simp [HT.lexLt] at h1
 | _ :: _,_ :: _,[],_,h2=>by simp [HT.lexLt] at h2
 | x :: a,y :: b,z :: c,h1,h2=>by
  rw [HT.gN] at h1 h2 ⊢
  by_cases e1:x = y
  ·rw [if_pos e1] at h1
   by_cases e2:y = z
   ·rw [if_pos e2] at h2
    rw [if_pos (e1.trans e2)]
    exact lex_trans h1 h2
   ·rw [if_neg e2] at h2
    rw [if_neg (fun e=>e2 (e1.symm.trans e)),e1]
    exact h2
  ·rw [if_neg e1] at h1
   by_cases e2:y = z
   ·rw [<- e2,if_neg e1]
    exact h1
   ·rw [if_neg e2] at h2
    have h1:=YA h1
    have h2:=YA h2
    rw [if_neg (by omega)]
    exact Yi (by omega)
theorem kT:∀ {a b:List Int},a ≠ b->HT.lexLt a b = false->HT.lexLt b a = true
 | [],[],h,_=>absurd rfl h
 | [],_ :: _,_,h=>by simp [HT.lexLt] at h
 | _ :: _,[],_,_=>by simp [HT.lexLt]
 | x :: a,y :: b,h,h1=>by
  rw [HT.gN] at h1 ⊢
  by_cases e:x = y
  ·rw [if_pos e] at h1
   rw [if_pos e.symm]
   exact kT (fun z=>h (by rw [e,z])) h1
  ·rw [if_neg e] at h1
   rw [if_neg (fun z=>e z.symm)]
   have:=of_decide_eq_false h1
   exact Yi (by omega)
theorem oS (p:Int × List Int):aC p p = false:=by unfold aC; rw [if_pos rfl,iK]
theorem rL {p q r:Int × List Int} (h1:aC p q = true) (h2:aC q r = true):aC p r = true:=by
 unfold aC at *
 by_cases e1:p.1 = q.1
 ·rw [if_pos e1] at h1
  by_cases e2:q.1 = r.1
  ·rw [if_pos e2] at h2
   rw [if_pos (e1.trans e2)]
   exact lex_trans h1 h2
  ·rw [if_neg e2] at h2
   rw [if_neg (fun e=>e2 (e1.symm.trans e)),e1]
   exact h2
 ·rw [if_neg e1] at h1
  by_cases e2:q.1 = r.1
  ·rw [<- e2,if_neg e1]
   exact h1
  ·rw [if_neg e2] at h2
   have h1:=YA h1
   have h2:=YA h2
   rw [if_neg (by omega)]
   exact Yi (by omega)
theorem Ef {p q:Int × List Int} (h:p ≠ q) (h1:aC p q = false):aC q p = true:=by
 unfold aC at *
 by_cases e:p.1 = q.1
 ·rw [if_pos e] at h1
  rw [if_pos e.symm]
  exact kT (fun z=>h (Prod.ext e z)) h1
 ·rw [if_neg e] at h1
  rw [if_neg (fun z=>e z.symm)]
  have:=of_decide_eq_false h1
  exact Yi (by omega)
def dZ (ps:List (Int × List Int)) (p:Int × List Int):Nat:=ps.countP fun x=>aC x p
theorem countP_le {α:Type} {f g:α->Bool} (h:∀ x,f x = true->g x = true):∀ l:List α,l.countP f <= l.countP g
 | []=>X7 _
 | x :: l=>by
  rw [Zs,Zs]
  have:=countP_le h l
  by_cases e:f x = true
  ·rw [if_pos e,if_pos (h x e)]; omega
  ·rw [if_neg e]; omega
theorem oh {α:Type} {f g:α->Bool} (h:∀ x,f x = true->g x = true) {y:α} (h1:f y = false) (h2:g y = true):∀ {l:List α},y ∈ l->l.countP f < l.countP g
 | x :: l,hy=>by
  rw [Zs,Zs]
  rcases Yb.mp hy with rfl | hy
  ·rw [if_neg (by rw [h1]; simp),if_pos h2]
   have:=countP_le h l
   omega
  ·have:=oh h h1 h2 hy
   by_cases e:f x = true
   ·rw [if_pos e,if_pos (h x e)]; omega
   ·rw [if_neg e]; omega
theorem mQ {ps:List (Int × List Int)} {p q:Int × List Int} (hp:p ∈ ps):decide (dZ ps p < dZ ps q) = aC p q:=by
 cases e:aC p q with
 | true=>exact Yi (oh (f:=fun x=>aC x p) (g:=fun x=>aC x q) (fun x hx=>rL hx e) (oS p) e hp)
 | false =>
  refine Yw (Nat.not_lt.mpr ?_)
  by_cases Oo:p = q
  ·rw [Oo]; exact X7 _
  ·exact countP_le (f:=fun x=>aC x q) (g:=fun x=>aC x p) (fun x hx=>rL hx (Ef Oo e)) ps
theorem jK.inj {h:Heap} {k:Value} {p q:Int × List Int} (h1:jK h k p) (h2:jK h k q):p = q:=by
 obtain ⟨a,b,t,rfl,⟨o,ho,_,n,hd⟩,az,rv,o1,yi,_,n1,Kx⟩:=h1
 obtain ⟨a',b',t',e,⟨o',mZ,_,n',wz⟩,its',KM,XS,L5,_,Rw,Nn⟩:=h2
 cases e
 rw [ho] at mZ; cases mZ
 rw [hd] at wz
 injection wz with e1 e2
 have e1:[Value.int p.1 t,.ref b] = [Value.int q.1 t',.ref b']:=Zi Array.toList e1
 injection e1 with e3 e4
 injection e4 with e5 e6
 injection e3 with e7 e8
 injection e5 with e5
 subst e5
 rw [yi] at L5; cases L5
 rw [Kx] at Nn
 injection Nn with e1 e2
 have e1:az = its':=Zi Array.toList e1
 subst e1
 refine Prod.ext e7 ?_
 clear Kx yi hd ho
 have aux:∀ (g k:List Int) (az:List Value),Vals (g.map V.int) az->Vals (k.map V.int) az->g = k:=by
  intro g
  induction g with
  | nil=>intro k az r1 r2; cases r1; cases k with
   | nil=>rfl
   | cons x k=>cases r2
  | cons m g ih =>
   intro k az r1 r2
   cases r1 with
   | cons a1 b1 =>
    cases k with
    | nil=>cases r2
    | cons x k =>
     cases r2 with
     | cons a2 b2 =>
      obtain ⟨t1,e1⟩:=a1
      obtain ⟨t2,e2⟩:=a2
      rw [e1] at e2
      injection e2 with e3
      rw [e3,ih k _ b1 b2]
 exact aux _ _ _ rv KM
end
section
variable {X:Cx} {H H' HI:Hp} {s s':Shared} {h':Heap}
structure n0 (X:Cx) (H:Hp) (s:Shared) (H':Hp) (s':Shared):Prop where
 os:s'.os = s.os
 bare:AllBare s'.gens
 un:Un (mn X.stack) [] H H' s.heap s'.heap
 aW:jO X.prog X.w H' s'.heap
 same:ao H H'
theorem n0.inv {pins:List (Addr × Obj)} {σ:St} (I:Inv X pins σ H s) (M:n0 X H s H' s'):Inv X pins σ H' s':=I.Iz M.os M.un M.aW M.bare fun b z=>absurd z (by simp)
theorem n0.start {pins:List (Addr × Obj)} {σ:St} (I:Inv X pins σ H s):n0 X H s H s:=⟨rfl,I.bare,Un.refl,I.aW,ao.refl _⟩
theorem n0.keep {t:Nat} (M:n0 X H s H' s') (k:∀ b u,s'.heap.get? b = some u->h'.get? b = some u):n0 X H s H' { s' with heap:=h',toks:=t } :=
 ⟨M.os,M.bare,M.un.trans (Un.kept k),M.aW.kept k,M.same⟩
theorem n0.Hf {a:Addr} {t:Nat} (M:n0 X H s H' s') (ha:s.heap.get? a = none) (hn:H' a = none) (k:∀ b u,b ≠ a->s'.heap.get? b = some u->h'.get? b = some u):n0 X H s H' { s' with heap:=h',toks:=t }:=by
 have na:∀ b o,s.heap.get? b = some o->b ≠ a:=fun b o e z=>by rw [z,ha] at e; cases e
 have nt:∀ b o,H' b = some o->b ≠ a:=fun b o e z=>by rw [z,hn] at e; cases e
 refine ⟨M.os,M.bare,⟨fun b o e n f x=>k b o (na b o e) (M.un.keep b o e n f x),fun b o e n f x=>?_,M.un.free,fun b o e x=>?_,M.un.iG,M.un.jL,M.un.jQ⟩,fun b o e=>?_,M.same⟩
 ·obtain ⟨sl,q⟩:=M.un.slot b o e n f x
  exact ⟨sl,k b _ (na b o e) q⟩
 ·obtain ⟨o',q⟩:=M.un.there b o e x
  exact ⟨o',k b _ (na b o e) q⟩
 ·refine (M.aW b o e).lT (fun c v hc q=>k c v ?_ q) (fun _ q=>q) fun _ _ q=>q
  rcases hc with z | z
  ·rw [z]; exact nt b o e
  ·exact nt c _ z
theorem n0.LK {a:Addr} {o:HO} (M:n0 X H s H' s') (ha:s.heap.get? a = none) (hn:H' a = none) (new:cj X.prog X.w (upd H' a o) s'.heap a o):n0 X H s (upd H' a o) s':=by
 have na:∀ b o,s.heap.get? b = some o->b ≠ a:=fun b o e z=>by rw [z,ha] at e; cases e
 have nt:∀ b o,H' b = some o->b ≠ a:=fun b o e z=>by rw [z,hn] at e; cases e
 refine ⟨M.os,M.bare,⟨M.un.keep,M.un.slot,fun b u e n x=>by rw [am (na b u e)]; exact M.un.free b u e n x,M.un.there,fun b xs e=>?_,fun b u xs e=>?_,fun b ps e=>?_⟩,fun b u e=>?_,fun b u e=>?_⟩
 ·have q:=M.un.iG b xs e
  rw [am (nt b _ q)]; exact q
 ·have q:=M.un.jL b u xs e
  rw [am (nt b _ q)]; exact q
 ·obtain ⟨m,q⟩:=M.un.jQ b ps e
  exact ⟨m,by rw [am (nt b _ q)]; exact q⟩
 ·by_cases hb:b = a
  ·subst hb; rw [ae] at e; cases e; exact new
  ·rw [am hb] at e
   exact (M.aW b u e).lT (fun c v _ q=>q) (fun c q=>by rw [am (nt c _ q)]; exact q) fun c xs q=>by rw [am (nt c _ q)]; exact q
 ·have q:=M.same b u e
  rw [am (nt b _ q)]; exact q
theorem n0.trans (M:n0 X H s H' s') {wA:Shared} (N:n0 X H' s' HI wA):n0 X H s HI wA:=⟨N.os.trans M.os,N.bare,M.un.trans N.un,N.aW,M.same.trans N.same⟩
def rO (X:Cx) (f:Addr) (ys:List V) (H:Hp) (kf:V->Int × List Int):Prop :=
 ∀ (H':Hp) (s':Shared) (y:V) (u:Value),y ∈ ys->RelV y u->rz X.prog X.w X.K X.mg X.base X.A X.stack s' H'->ao H H' ->
  wpAny (model X.prog X.w) X.A.in1.in1 (call (.ref f) [u]) (fun v wA=>∃ q b:Addr,v = .ref q /\ n0 X H' s' (upd H' q (.tup [.int (kf y).1,.ref b])) wA /\ H' q = none /\ H b = some (.tup ((kf y).2.map V.int))) (fun _ _=>False) s'
theorem BJ {a:Addr} {o:HO} (hn:H a = none):ao H (upd H a o):=fun b u e=>by rw [am (ax e hn)]; exact e
theorem rO.of {CX:zA} {k:Nat} {f:Addr} {fd:FuncData} {x:Str} {sp:Sp} {ys:List V} {kf:V->Int × List Int} (F:au X.prog X.w X.K X.mg X.base CX k f fd [x] sp) (hr:eD (k + 2) X.A) (hb:Binds X.K fd [x] [])
  (Q4:∀ outer H s e s',¬ CX outer H s (fun _ _ _=>False) e s')
  (CM:∀ y ∈ ys,∃ b,H b = some (.tup ((kf y).2.map V.int)) /\ ∀ H',ao H H'->∀ Q:VK,(∀ q,H' q = none->Q (.ref q) (upd H' q (.tup [.int (kf y).1,.ref b])))->sp [y] H' Q (fun _ _ _=>False)):rO X f ys H kf:=by
 intro H' s' y u hy ru e0 sm
 obtain ⟨b,C8,h⟩:=CM y hy
 have A6:X.K.In s'.heap:=e0.mod.A6.keeps fun b o e=>(e0.bs b o e).1
 refine wpAny_call (codeAny_mono (F.run X.A.in1.in1 X.stack s' H' ⟨[u],[]⟩ [u] [y] (fun v HI=>∃ q,v = .ref q /\ H' q = none /\ HI = upd H' q (.tup [.int (kf y).1,.ref b])) (fun _ _ _=>False) hr.in1.in1 e0.in1.in1 ?_ (.cons ru .nil) (h H' sm _ fun q hq=>⟨q,rfl,hq,rfl⟩)) fun r wA hq=>?_)
 ·exact hb s' [u] A6 rfl
 cases r with
 | error e=>exact (Q4 _ _ _ _ _ hq).elim
 | ok fl =>
  cases fl with
  | ret v =>
   obtain ⟨v',HI,os,bare,un,aW,r,q,rfl,hn,rfl⟩:=hq
   cases r
   exact ⟨q,b,rfl,⟨os,bare,un,aW,BJ hn⟩,hn,C8⟩
  | next=>exact False.elim hq
  | brk=>exact False.elim hq
  | cont=>exact False.elim hq
end
open Classical in
noncomputable def keyOf (h:Heap) (k:Value):Int × List Int:=if e:∃ p,jK h k p then Classical.choose e else (0,[])
theorem nh {h:Heap} {k:Value} {p:Int × List Int} (e:jK h k p):keyOf h k = p:=by
 unfold keyOf
 rw [dif_pos ⟨p,e⟩]
 exact (Classical.choose_spec (⟨p,e⟩:∃ p,jK h k p)).inj e
theorem jK.mono {h h':Heap} {k:Value} {p:Int × List Int} (e:jK h k p) (kp:∀ b o,h.get? b = some o->h'.get? b = some o):jK h' k p:=by
 obtain ⟨a,b,t,rfl,⟨o,ho,c,n,hd⟩,az,rv,o1,yi,c1,n1,Kx⟩:=e
 exact ⟨a,b,t,rfl,⟨o,kp _ _ ho,c,n,hd⟩,az,rv,o1,kp _ _ yi,c1,n1,Kx⟩
def ji (ps:List (Int × List Int)) (vs out:List Value):Prop:=∃ qs:List ((Int × List Int) × Value),qs.Perm (ps.zip vs) /\ out = qs.map Prod.snd /\ qs.Pairwise fun x y=>aC x.1 y.1 = true
theorem CU {h:Heap}:∀ {ks:List Value} {ps:List (Int × List Int)},Paired (jK h) ks ps->∃ fs,fs.length = ps.length /\ (∀ f ∈ fs,∃ i t,f = Value.int i t) /\ PySem.W.KatTups h ks fs
 | [],_,.nil=>⟨[],rfl,(fun _ z=>by cases z),trivial⟩
 | _ :: _,p :: ps,.cons e r=>by
  obtain ⟨fs,hl,hi,hk⟩:=CU r
  obtain ⟨a,b,t,rfl,⟨o,ho,c,n,hd⟩,_⟩:=e
  refine ⟨.int p.1 t :: fs,by simp [hl],fun f hf=>?_,PySem.W.KatTups.cons ho c hd (by simp) hk⟩
  rcases Yb.mp hf with rfl | z
  ·exact ⟨_,t,rfl⟩
  ·exact hi f z
theorem vP {h:Heap}:∀ {ks:List Value} {ps:List (Int × List Int)} {vs:List Value},Paired (jK h) ks ps->(ks.zip vs).map (fun x=>(keyOf h x.1,x.2)) = ps.zip vs
 | [],_,_,.nil=>by simp
 | _ :: _,_ :: _,[],.cons _ _=>by simp
 | _ :: _,_ :: _,v :: vs,.cons e r=>by
  rw [Z8,Z8,Yq,nh e,vP r]
theorem sI {h:Heap}:∀ {ks:List Value} {ps:List (Int × List Int)} {k:Value},Paired (jK h) ks ps->k ∈ ks->∃ p ∈ ps,jK h k p
 | _,_,_,.nil,hk=>by cases hk
 | _ :: _,_ :: _,k,.cons e r,hk=>by
  rcases Yb.mp hk with rfl | hk
  ·exact ⟨_,X9,e⟩
  ·obtain ⟨p,hp,q⟩:=sI r hk
   exact ⟨p,X8 _ hp,q⟩
section
variable {prog:Program} {w:World} {A:Around} {E:Value->Shared->Prop} {s:Shared}
theorem EC {ks vs:List Value} {ps:List (Int × List Int)} (hu:A.units < cLine) (hk:Paired (jK s.heap) ks ps) (hl:ks.length = vs.length) (nd:ps.Nodup) :
  wpAny (model prog w) A ((sortRuns').run (SortSt.mk' (tuples' true) (ks.toArray.zip vs.toArray) #[] 7 none)) (fun r s2=>s2 = s /\ failedOf r.2 = none /\ ji ps vs ((arrOf r.2).map (·.2)).toList) E s:=by
 have lp:ks.length = ps.length:=hk.length
 have zl:(ks.toArray.zip vs.toArray).toList = ks.zip vs:=by simp
 have Dz:(ks.zip vs).map (fun x=>dZ ps (keyOf s.heap x.1)) = ps.map (dZ ps):=by
  have e:=Zi (List.map fun y:(Int × List Int) × Value=>dZ ps y.1) (vP (vs:=vs) hk)
  rw [YQ] at e
  rw [show (ps.zip vs).map (fun y=>dZ ps y.1) = (((ps.zip vs).map Prod.fst).map (dZ ps)) by rw [YQ]; rfl,List.map_fst_zip (by omega)] at e
  exact e
 have MV:(ps.map (dZ ps)).Nodup:=by
  refine List.Pairwise.map _ (R:=fun p q=>p ∈ ps /\ q ∈ ps /\ p ≠ q) (fun p q h e=>?_) ?_
  ·have e1:=mQ (q:=q) h.1
   have e2:=mQ (q:=p) h.2.1
   rw [e] at e1 e2
   rw [Yw (Zf _)] at e1
   rw [Yw (Zf _)] at e2
   have:=Ef h.2.2 e1.symm
   rw [<- e2] at this
   cases this
  ·exact ZH (fun {p q} hp hq oE=>⟨hp,hq,oE⟩) nd
 refine SO.xQ (prog:=prog) (w:=w) (A:=A) (E:=E) (s:=s) (rk:=fun x=>dZ ps (keyOf s.heap x.1)) (S:=fun x=>∃ p ∈ ps,jK s.heap x.1 p) (kd:=tuples' true) (a₀:=ks.toArray.zip vs.toArray) (st:=SortSt.mk' (tuples' true) (ks.toArray.zip vs.toArray) #[] 7 none)
  (Q:=fun _ st=>failedOf st = none /\ ji ps vs ((arrOf st).map (·.2)).toList) ?cmp ?mem ?nd rfl rfl rfl rfl ?fin
 case cmp =>
  intro x y st Q hx hy kk q
  obtain ⟨p,hp,e1⟩:=hx
  obtain ⟨p',S9,e2⟩:=hy
  have ee:decide (dZ ps (keyOf s.heap x.1) < dZ ps (keyOf s.heap y.1)) = aC p p':=by rw [nh e1,nh e2,mQ hp]
  have q:Q (some (decide (dZ ps (keyOf s.heap x.1) < dZ ps (keyOf s.heap y.1)))) st:=q
  rw [ee] at q
  rw [lt'_eq]
  refine Yf (wpS_get ?_)
  refine Yf (wpS_lift ?_)
  rw [kk]
  refine Z0 (zL hu e1 e2 ?_)
  exact ⟨rfl,Yn q⟩
 case mem =>
  intro x hx
  rw [zl] at hx
  obtain ⟨k,v⟩:=x
  exact sI hk (List.of_mem_zip hx).1
 case nd=>rw [zl,Dz]; exact MV
 case fin =>
  intro st hp hf hs
  rw [zl] at hp
  refine ⟨hf,(arrOf st).toList.map (fun x=>(keyOf s.heap x.1,x.2)),?_,?_,?_⟩
  ·rw [<- vP hk]; exact hp.map _
  ·rw [Array.toList_map,YQ]; rfl
  ·have Dp:((arrOf st).toList.map fun x=>dZ ps (keyOf s.heap x.1)).Nodup:=by
    have:=(hp.map fun x=>dZ ps (keyOf s.heap x.1)).nodup_iff.mpr (by rw [Dz]; exact MV)
    exact this
   rw [Y2]
   have T7:=Y2.mp Dp
   refine ZH (fun {x y} hx hy h=>?_) (hs.and T7)
   obtain ⟨h1,h2⟩:=h
   have sS:=hp.mem_iff.mp hx
   obtain ⟨x1,x2⟩:=x
   obtain ⟨p,Uo,e⟩:=sI hk (List.of_mem_zip sS).1
   have:=mQ (ps:=ps) (p:=keyOf s.heap x1) (q:=keyOf s.heap y.1) (by rw [nh e]; exact Uo)
   rw [<- this]
   exact Yi (Nat.lt_of_le_of_ne h1 h2)
end
section
variable {X:Cx} {pins:List (Addr × Obj)} {σ:St} {H H':Hp} {s s0:Shared} {A:Around} {E:Value->Shared->Prop} {a kS:Addr} {keys:Array Value} {vs:List Value} {ps:List (Int × List Int)} {e e1:Nat} {P:PySem.Fin->Shared->Prop}
structure Own (X:Cx) (H:Hp) (s0:Shared) (H':Hp) (s:Shared) (a kS:Addr) (keys:Array Value) (e e1:Nat):Prop where
 M:n0 X H s0 H' s
 nk:s.heap.get? kS = some (seqObj "list" keys e)
 na:s.heap.get? a = some (seqObj "list" #[] e1)
 ne:kS ≠ a
 k0:s0.heap.objs.size <= kS
 a0:s0.heap.objs.size <= a
 kn:H' kS = none
 an:H' a = none
theorem Aq {st:SortSt} (O:Own X H s0 H' s a kS keys e e1) (hz:keys.size <= sizeLine) (M0:(arrOf st).size <= sizeLine) (Vj:failedOf st = none)
  (h:∀ s' c,n0 X H s0 H' s'->s'.heap.get? a = some (seqObj "list" ((arrOf st).map (·.2)) c)->P (.done (.ret .none)) s'):wpAny (model X.prog X.w) A (ksk_tail a false e1 (.ref kS) st) P E s:=by
 have s1:=Y6 s.heap kS (Obj.mapSeq fun _=>(#[]:Array Value))
 have O2:(s.heap.update kS (Obj.mapSeq fun _=>(#[]:Array Value))).get? a = some (seqObj "list" #[] e1):=(s1.2 a O.ne.symm).trans O.na
 have s2:=Y6 (s.heap.update kS (Obj.mapSeq fun _=>(#[]:Array Value))) a (Obj.mapSeq fun _=>(arrOf st).map (·.2))
 obtain ⟨c2,Eb⟩:∃ c2,((s.heap.update kS (Obj.mapSeq fun _=>(#[]:Array Value))).update a (Obj.mapSeq fun _=>(arrOf st).map (·.2))).get? a = some (seqObj "list" ((arrOf st).map (·.2)) c2) :=
  ⟨_,get?_update_seq O2 fun _=>(arrOf st).map (·.2)⟩
 unfold ksk_tail
 dsimp only
 refine X3 (aav O.nk rfl ?_ hz (YD _))
 refine X3 (wpAny_letGo ?_)
 refine X3 (seqEpoch_at O2 rfl ?_)
 refine X3 (aav O2 rfl ?_ (YD _) (by simp only [Yu,YZ,Array.size_map]; exact Nat.le_succ_of_le M0))
 rw [Vj]
 simp only [bne_self_eq_false,Yu,YZ]
 have M1:n0 X H s0 H' { s with heap:=s.heap.update kS (Obj.mapSeq fun _=>(#[]:Array Value)) }:=O.M.Hf (t:=s.toks) (ZX O.k0) O.kn fun b u hb e=>(s1.2 b hb).trans e
 have M2:n0 X H s0 H' { s with heap:=(s.heap.update kS (Obj.mapSeq fun _=>(#[]:Array Value))).update a (Obj.mapSeq fun _=>(arrOf st).map (·.2)) }:=M1.Hf (t:=s.toks) (ZX O.a0) O.an fun b u hb e=>(s2.2 b hb).trans e
 exact X4 (h _ c2 M2 Eb)
theorem Bo {ps:List (Int × List Int)} {vs:List Value} (hl:ps.length = vs.length) (h:vs.length < 2):ji ps vs vs:=by
 refine ⟨ps.zip vs,List.Perm.refl _,(List.map_snd_zip (by omega)).symm,?_⟩
 have:(ps.zip vs).length < 2:=by rw [List.length_zip]; omega
 cases hq:ps.zip vs with
 | nil=>exact .nil
 | cons x r =>
  rw [hq] at this
  have:r = []:=List.eq_nil_of_length_eq_zero (by simp only [YW] at this; omega)
  rw [this]
  exact aaF _ _
theorem ji.len {ps:List (Int × List Int)} {vs out:List Value} (h:ji ps vs out) (hl:ps.length = vs.length):out.length = vs.length:=by
 obtain ⟨qs,h1,rfl,_⟩:=h
 rw [X6,h1.length_eq,List.length_zip]
 omega
theorem Ku (hu:A.units < cLine) (O:Own X H s0 H' s a kS keys e e1) (hk:Paired (jK s.heap) keys.toList ps) (hl:ps.length = vs.length) (hz:vs.length <= sizeLine) (nd:ps.Nodup)
  (h:∀ s' out c,n0 X H s0 H' s'->s'.heap.get? a = some (seqObj "list" out c)->ji ps vs out.toList->P (.done (.ret .none)) s'):wpAny (model X.prog X.w) A (ksk_end a false vs.toArray e1 (.ref kS) keys) P E s:=by
 have lk:keys.size = vs.length:=by have:=hk.length; rw [Ye] at this; omega
 have zs:(keys.zip vs.toArray).size = vs.length:=by rw [Array.size_zip,lk,Yk,Nat.min_self]
 unfold ksk_end
 simp only [Yu,YZ]
 by_cases h2:vs.toArray.size < 2
 ·rw [if_pos h2,if_pos h2]
  refine X3 (X4 ?_)
  rw [StateT.run_pure]
  refine X3 (X4 ?_)
  dsimp only
  refine Aq (st:=SortSt.mk' general' (keys.zip vs.toArray) #[] 7 none) O (by omega) (by show (keys.zip vs.toArray).size <= _; omega) rfl fun s' c M' q=>h s' _ c M' q ?_
  have e:((keys.zip vs.toArray).map (·.2)).toList = vs:=by
   rw [Array.toList_map]
   have:(keys.zip vs.toArray).toList = keys.toList.zip vs:=ksk_zip keys vs
   rw [this]
   exact List.map_snd_zip (by have:=Ye (xs:=keys); omega)
  show ji ps vs ((keys.zip vs.toArray).map (·.2)).toList
  rw [e]
  exact Bo hl (by simpa using h2)
 ·rw [if_neg h2,if_neg h2]
  rw [Yk] at h2
  obtain ⟨fs,f1,f2,f3⟩:=CU hk
  have ek:keys = keys.toList.toArray:=by rw [ZY]
  refine X3 ?_
  rw [show keyKind' keys = keyKind' keys.toList.toArray by rw [ZY]]
  refine PySem.W.kat_kind (T:=.type "int") f3 (by omega) (fun v hv=>?_) rfl ?_
  ·obtain ⟨i,t,rfl⟩:=f2 v hv
   exact PySem.W.Looks.of_pure rfl
  have run:=EC (prog:=X.prog) (w:=X.w) (A:=A) (E:=E) (s:=s) (ks:=keys.toList) (vs:=vs) hu hk (by rw [Ye]; exact lk) nd
  rw [ZY] at run
  refine X3 (Zn run ?_ fun _ _ e=>e)
  rintro ⟨⟨⟩,st⟩ s' ⟨rfl,hf,hs⟩
  dsimp only at hf hs ⊢
  have hlen:=hs.len hl
  refine Aq O (by omega) ?_ hf fun s' c M' q=>h s' _ c M' q hs
  rw [Ye,Array.size_map] at hlen
  omega
theorem Gk {f:Addr} {ys:List V} {kf:V->Int × List Int} (hu:X.A.in1.in1.units < cLine) (K:rO X f ys H kf) (I:Inv X pins σ H s0) (O:Own X H s0 H' s a kS #[] e e1) (rv:Vals ys vs) (hz:vs.length <= sizeLine) (nd:(ys.map kf).Nodup)
  (h:∀ H' s' out c,n0 X H s0 H' s'->H' a = none->s'.heap.get? a = some (seqObj "list" out c)->ji (ys.map kf) vs out.toList->P (.done (.ret .none)) s'):wpAny (model X.prog X.w) X.A.in1.in1 (ksk_rest a (.ref f) false vs.toArray e1 (.ref kS)) P E s:=by
 have lv:ys.length = vs.length:=rv.length
 unfold ksk_rest
 refine X3 (ZD ?_)
 rw [List.forIn_toArray]
 have Um:∀ b,s0.heap.objs.size <= b->b ∉ mn X.stack:=fun b hb z=>by
  rcases Yb.mp (I.mz b z) with z | z
  ·rw [z] at hb
   exact absurd I.lt (Nat.not_lt.mpr hb)
  ·exact I.K9 hb z
 refine X3 (ksk_fold (fun i s'=>∃ H' kA e,Own X H s0 H' s' a kS kA e e1 /\ Paired (fun k p=>∃ q b,k = Value.ref q /\ H' q = some (.tup [.int p.1,.ref b]) /\ H b = some (.tup (p.2.map V.int))) kA.toList ((ys.map kf).take i)) vs 0 s
  ⟨H',#[],e,O,by simpa using Paired.nil⟩ ?step ?done)
 case step =>
  rintro j x s' hx ⟨H',kA,e,O,hk⟩
  simp only [Nat.zero_add] at hk ⊢
  have hj:j < vs.length:=(Ys.mp hx).1
  obtain ⟨y,hy⟩:∃ y,ys[j]? = some y:=⟨_,Ya (by omega)⟩
  obtain ⟨u,wx,ru⟩:=rv.get hy
  rw [hx] at wx; cases wx
  have lk:kA.size = j:=by
   have:=hk.length
   rw [Ye,Yt,X6] at this
   omega
  have I':=O.M.inv I
  refine X3 (Z0 (Zn (K H' s' y x (YE hy) ru I'.IV O.M.same) (fun v wA he=>?_) fun _ _ hF=>hF.elim))
  obtain ⟨q,b,rfl,M2,hq,hb⟩:=he
  dsimp only
  have A6:∀ c o,s'.heap.get? c = some o->H' c = none->s0.heap.objs.size <= c->wA.heap.get? c = some o:=fun c o e n z=>M2.un.keep c o e n (Um c z) (by simp)
  have nk:=A6 kS _ O.nk O.kn O.k0
  have na:=A6 a _ O.na O.an O.a0
  have qk:kS ≠ q:=fun z=>by
   have:=M2.un.free kS _ O.nk O.kn (by simp)
   rw [z,ae] at this; cases this
  have qa:a ≠ q:=fun z=>by
   have:=M2.un.free a _ O.na O.an (by simp)
   rw [z,ae] at this; cases this
  have s1:=Y6 wA.heap kS (Obj.mapSeq (·.push (.ref q)))
  obtain ⟨c2,Eb⟩:∃ c2,(wA.heap.update kS (Obj.mapSeq (·.push (.ref q)))).get? kS = some (seqObj "list" (kA.push (.ref q)) c2):=⟨_,get?_update_seq nk (·.push (.ref q))⟩
  have ek:(ys.map kf).take (j + 1) = (ys.map kf).take j ++ [kf y]:=by rw [Yv,Yl,hy]; rfl
  refine X3 (aav nk rfl ?_ (by omega) (Yh (Nat.le_of_eq (ZO ..)) (by omega)))
  have M3:=(O.M.trans M2).Hf (t:=wA.toks) (h':=wA.heap.update kS (Obj.mapSeq (·.push (.ref q)))) (ZX O.k0) (by rw [am qk]; exact O.kn) fun b u hb e=>(s1.2 b hb).trans e
  refine X4 ⟨rfl,upd H' q (.tup [.int (kf y).1,.ref b]),kA.push (.ref q),c2,⟨M3,Eb,(s1.2 a O.ne.symm).trans na,O.ne,O.k0,O.a0,by rw [am qk]; exact O.kn,by rw [am qa]; exact O.an⟩,?_⟩
  rw [Array.toList_push,ek]
  have ap:∀ {l1:List Value} {l2:List (Int × List Int)},Paired (fun k p=>∃ q b,k = Value.ref q /\ H' q = some (.tup [.int p.1,.ref b]) /\ H b = some (.tup (p.2.map V.int))) l1 l2 ->
    Paired (fun k p=>∃ q' b',k = Value.ref q' /\ upd H' q (.tup [.int (kf y).1,.ref b]) q' = some (.tup [.int p.1,.ref b']) /\ H b' = some (.tup (p.2.map V.int))) (l1 ++ [.ref q]) (l2 ++ [kf y]):=by
   intro l1 l2 r
   induction r with
   | nil=>exact .cons ⟨q,b,rfl,ae,hb⟩ .nil
   | cons e _ ih =>
    obtain ⟨q',b',e1,e2,e3⟩:=e
    exact .cons ⟨q',b',e1,by rw [am (ax e2 hq)]; exact e2,e3⟩ ih
  exact ap hk
 case done =>
  rintro s' ⟨H',kA,e,O,hk⟩
  have e3:(ys.map kf).take (0 + vs.length) = ys.map kf:=Yj (by rw [X6]; omega)
  rw [e3] at hk
  refine X3 (listItems_at O.nk rfl ?_)
  refine Ku hu O (Paired.imp' (fun k p he=>?_) hk) (by rw [X6]; exact lv) hz nd fun s' out c M' q o=>h H' s' out c M' O.an q o
  obtain ⟨q,b,rfl,h1,h2⟩:=he
  obtain ⟨_,az,Qn,o1,g1,c1,n1,d1⟩:=O.M.aW q _ h1
  obtain ⟨_,kX,LC,t2⟩:=O.M.aW b _ (O.M.same _ _ h2)
  cases Qn with
  | cons ra rb =>
   obtain ⟨t,rfl⟩:=ra
   cases rb with
   | cons rc rd =>
    cases rc
    cases rd
    exact ⟨q,b,t,rfl,⟨o1,g1,c1,n1,d1⟩,kX,LC,t2⟩
theorem GA {f:Addr} {ys:List V} {kf:V->Int × List Int} {n:Nat} (hu:X.A.in1.in1.units < cLine) (K:rO X f ys H kf) (I:Inv X pins σ H s0) (M:n0 X H s0 H s) (ho:s.heap.get? a = some (seqObj "list" vs.toArray n)) (ha:s0.heap.objs.size <= a) (an:H a = none) (rv:Vals ys vs) (hz:vs.length <= sizeLine) (nd:(ys.map kf).Nodup)
  (hl:s0.heap.objs.size <= s.heap.objs.size)
  (h:∀ H' s' out c,n0 X H s0 H' s'->H' a = none->s'.heap.get? a = some (seqObj "list" out c)->ji (ys.map kf) vs out.toList->P (.done (.ret .none)) s'):wpAny (model X.prog X.w) X.A.in1.in1 (ksk_tree a (.ref f) false) P E s:=by
 have lt:a < s.heap.objs.size:=Ym ho
 have s1:=Y6 s.heap a (Obj.mapSeq fun _=>(#[]:Array Value))
 obtain ⟨e1,yi⟩:∃ e1,(s.heap.update a (Obj.mapSeq fun _=>(#[]:Array Value))).get? a = some (seqObj "list" #[] e1):=⟨_,get?_update_seq ho fun _=>#[]⟩
 have O9:((s.heap.update a (Obj.mapSeq fun _=>(#[]:Array Value))).push (seqObj "tuple" vs.toArray 0)).objs.size = s.heap.objs.size + 1:=by rw [size_push',Heap.size_update]
 unfold ksk_tree
 refine X3 (listItems_at ho rfl ?_)
 refine X3 (aav ho rfl ?_ (by rw [Yk]; exact hz) (YD _))
 refine X3 (seqEpoch_at yi rfl ?_)
 refine X3 (wpAny_newTuple ?_ (by show vs.length <= _; exact hz))
 refine X3 (wpAny_newList ?_ (YD _))
 refine Zk ?_
 have M1:n0 X H s0 H { s with heap:=s.heap.update a (Obj.mapSeq fun _=>(#[]:Array Value)) }:=M.Hf (t:=s.toks) (ZX ha) an fun b u hb e=>(s1.2 b hb).trans e
 have M2:=M1.keep (t:=s.toks) (h':=((s.heap.update a (Obj.mapSeq fun _=>(#[]:Array Value))).push (seqObj "tuple" vs.toArray 0)).push (seqObj "list" #[] 0)) fun b u e=>X5 _ (X5 _ e)
 refine Gk hu K I (H':=H) (e:=0) (kS:=((s.heap.update a (Obj.mapSeq fun _=>(#[]:Array Value))).push (seqObj "tuple" vs.toArray 0)).objs.size) ⟨M2,Yg _ rfl,X5 _ (X5 _ yi),by rw [O9]; exact aam (Nat.lt_succ_of_lt lt),by rw [O9]; omega,ha,?_,an⟩ rv hz nd h
 rw [O9]
 exact M.aW.fresh (ZV _)
end
section
variable {X:Cx} {pins:List (Addr × Obj)} {σ:St} {H:Hp} {s:Shared}
def AQ (X:Cx) (f:Addr):List V->Hp->VK->Prop:=fun xs H Q=>∃ (p:Addr) (ys:List V) (kf:V->Int × List Int),xs = [.ref p] /\ aZ X.K H p ys /\ rO X f ys H kf /\ (ys.map kf).Nodup /\
 ∀ (H':Hp) (l:Addr) (wB:List V),ao H H'->H' l = none->wB.Perm ys->wB.Pairwise (fun x y=>aC (kf x) (kf y) = true)->Q (.ref l) (upd H' l (.lst wB))
theorem BW {ys:List V} {vs:List Value} (rv:Vals ys vs) (kf:V->Int × List Int):∀ {qs:List ((Int × List Int) × Value)},qs.Perm ((ys.map kf).zip vs)->∃ wB:List V,wB.Perm ys /\ Vals wB (qs.map Prod.snd) /\ wB.map kf = qs.map Prod.fst:=by
 intro qs hq
 let f:V × Value->(Int × List Int) × Value:=fun z=>(kf z.1,z.2)
 have e0:(ys.map kf).zip vs = (ys.zip vs).map f:=by
  rw [List.zip_map_left]
  exact aas fun ⟨x,y⟩ _=>rfl
 rw [e0] at hq
 have key:∀ {l:List (V × Value)} {qs:List ((Int × List Int) × Value)},qs.Perm (l.map f)->∃ l':List (V × Value),l'.Perm l /\ l'.map f = qs:=by
  intro l qs h
  generalize hm:l.map f = m at h
  induction h generalizing l with
  | nil =>
   cases l with
   | nil=>exact ⟨[],.refl _,rfl⟩
   | cons _ _=>cases hm
  | cons x _ ih =>
   cases l with
   | nil=>cases hm
   | cons z l =>
    rw [Yq] at hm
    injection hm with h1 h2
    obtain ⟨l',p1,p2⟩:=ih h2
    exact ⟨z :: l',p1.cons z,by rw [Yq,h1,p2]⟩
  | swap x y r =>
   cases l with
   | nil=>cases hm
   | cons z l =>
    cases l with
    | nil=>cases hm
    | cons z2 l =>
     rw [Yq,Yq] at hm
     injection hm with h1 h2
     injection h2 with h3 h4
     exact ⟨z2 :: z :: l,List.Perm.swap _ _ _,by rw [Yq,Yq,h1,h3,h4]⟩
  | trans _ _ N6 MS =>
   obtain ⟨l2,p2,e2⟩:=MS hm
   obtain ⟨l1,p1,e1⟩:=N6 e2
   exact ⟨l1,p1.trans p2,e1⟩
 obtain ⟨l',p1,p2⟩:=key hq
 have lv:=rv.length
 refine ⟨l'.map Prod.fst,?_,?_,?_⟩
 ·have:=p1.map Prod.fst
  rw [List.map_fst_zip (by omega)] at this
  exact this
 ·rw [<- p2,YQ]
  have hm:∀ z ∈ l',RelV z.1 z.2:=fun z hz=>by
   have hz:=p1.mem_iff.mp hz
   obtain ⟨i,hi⟩:=aaf.mp hz
   rw [List.getElem?_zip_eq_some] at hi
   obtain ⟨u,h1,h2⟩:=rv.get hi.1
   rw [hi.2] at h1; cases h1
   exact h2
  clear p1 p2 hq
  induction l' with
  | nil=>exact .nil
  | cons z r ih=>exact .cons (hm z X9) (ih fun y hy=>hm y (X8 _ hy))
 ·rw [<- p2,YQ,YQ]; rfl
theorem BO {f:Addr} {xs:List V} {us:List Value} {Q:VK} (hu:X.A.in1.in1.units < cLine) (I:Inv X pins σ H s) (r:Vals xs us) (h:AQ X f xs H Q) :
  wpAny (model X.prog X.w) X.A (call (.builtin "sorted") us [(Str.ofString "key",.ref f)]) (EP X pins σ Q) X.xe s:=by
 obtain ⟨p,ys,kf,rfl,hp,K,nd,q⟩:=h
 obtain ⟨u,rfl,ru⟩:=vals1 r
 cases ru
 obtain ⟨az,rv,pl,hz⟩:=I.list hp
 have ln:az.length = ys.length:=rv.length.symm
 refine call_function_entry_kw kind_sorted plain_sorted entry_sorted (ksk_s1 _ _) ?_
 unfold Builtin.«sorted»
 refine X3 (m:=checkCount "sorted" 1 1 _) (X4 ?_)
 refine X3 (collect_list pl.isList ?_ (by omega))
 refine X3 (wpAny_newList ?_ (by show az.length <= _; omega))
 have hsz:((s.heap.push (seqObj "list" #[] 0)).update s.heap.objs.size (Obj.mapSeq (· ++ az.toArray))).objs.size = s.heap.objs.size + 1:=by
  rw [Heap.size_update,size_push']
 have Ny:(((s.heap.push (seqObj "list" #[] 0)).update s.heap.objs.size (Obj.mapSeq (· ++ az.toArray))).push (seqObj "list" az.toArray 0)).get? (s.heap.objs.size + 1) = some (seqObj "list" az.toArray 0):=by
  rw [<- hsz]; exact Yg _ rfl
 have keep:∀ b o,s.heap.get? b = some o->(((s.heap.push (seqObj "list" #[] 0)).update s.heap.objs.size (Obj.mapSeq (· ++ az.toArray))).push (seqObj "list" az.toArray 0)).get? b = some o:=fun b o q=>by
  have fT:b < s.heap.objs.size:=Ym q
  rw [Heap.get?_push_ne _ _ _ (by rw [hsz]; exact YB (Nat.lt_succ_of_lt fT)),Heap.get?_update_ne _ _ _ _ (YB fT),Heap.get?_push_ne _ _ _ (YB fT)]
  exact q
 show wpAny _ _ _ _ _ { s with heap:=((s.heap.push (seqObj "list" #[] 0)).update s.heap.objs.size (Obj.mapSeq (· ++ az.toArray))).push (seqObj "list" az.toArray 0) }
 rw [hsz]
 refine X3 (Zk (wpAny_call_entry_kw slot_list_sort ⟨_,Ny,rfl⟩ entry_list_sort ?body (ksk_l1 _ _)))
 case body =>
  show wpAny (model X.prog X.w) X.A.in1.in1 (Builtin.«list.sort» ⟨[.ref (s.heap.objs.size + 1)],[(Str.ofString "key",.ref f)]⟩) _ _ _
  rw [ksk_t1]
  refine GA hu K I (M:=(n0.start I).keep (t:=s.toks) keep) Ny (ZV _) (I.aW.fresh (ZV _)) rv (by omega) nd ?_ fun H' s' out c M' an ho o=>⟨_,rfl,?_⟩
  ·show _ <= Array.size _
   rw [size_push',hsz]
   omega
  obtain ⟨qs,h1,h2,h3⟩:=o
  obtain ⟨wB,y1,y2,y3⟩:=BW rv kf h1
  rw [<- h2] at y2
  have M2:=M'.LK (o:=.lst wB) (ZX (ZV _)) an ⟨by rw [y1.length_eq]; omega,out.toList,c,y2,by rw [ZY]; exact ho⟩
  refine X4 ⟨.ref (s.heap.objs.size + 1),rfl,.ref (s.heap.objs.size + 1),_,M2.inv I,rfl,q H' _ wB M'.same an y1 ?_⟩
  have h4:(qs.map Prod.fst).Pairwise fun x y=>aC x y = true:=Y2.mpr h3
  rw [<- y3] at h4
  exact Y2.mp h4
end
abbrev bM:=List Int × Int
section
variable {prog:Program} {w:World} {A:Around} {E:Value->Shared->Prop} {s:Shared}
def dR (h:Heap) (k:bM) (a:Addr):Prop:=∃ b t,IsTup h a #[.ref b,.int k.2 t] /\ h9 h b k.1
theorem dR.typeIs {k:bM} {a:Addr} (h:dR s.heap k a):s.TypeIs (.ref a) "tuple":=let ⟨_,_,⟨o,ho,hc,_⟩,_⟩:=h; ⟨o,ho,hc⟩
theorem Eh:∀ {g k:List Int} {az:List Value},Vals (g.map V.int) az->Vals (k.map V.int) az->g = k:=by
 intro g
 induction g with
 | nil =>
  intro k az r1 r2
  cases r1
  cases k with
  | nil=>rfl
  | cons x k=>cases r2
 | cons m g ih =>
  intro k az r1 r2
  cases r1 with
  | cons a1 b1 =>
   cases k with
   | nil=>cases r2
   | cons x k =>
    cases r2 with
    | cons a2 b2 =>
     obtain ⟨t1,e1⟩:=a1
     obtain ⟨t2,e2⟩:=a2
     rw [e1] at e2
     injection e2 with e3
     rw [e3,ih b1 b2]
theorem h9.inj {h:Heap} {a:Addr} {g k:List Int} (x:h9 h a g) (y:h9 h a k):g = k:=by
 obtain ⟨az,rv,o,ho,_,n,hd⟩:=x
 obtain ⟨its',KM,o',mZ,_,n',wz⟩:=y
 rw [ho] at mZ; cases mZ
 rw [hd] at wz
 injection wz with e1 e2
 have e1:az = its':=Zi Array.toList e1
 subst e1
 exact Eh rv KM
theorem dR.inj {h:Heap} {a:Addr} {p q:bM} (h1:dR h p a) (h2:dR h q a):p = q:=by
 obtain ⟨b,t,⟨o,ho,_,n,hd⟩,x⟩:=h1
 obtain ⟨b',t',⟨o',mZ,_,n',wz⟩,y⟩:=h2
 rw [ho] at mZ; cases mZ
 rw [hd] at wz
 injection wz with e1 e2
 have e1:[Value.ref b,.int p.2 t] = [Value.ref b',.int q.2 t']:=Zi Array.toList e1
 injection e1 with e3 e4
 injection e4 with e5 e6
 injection e3 with e7
 injection e5 with e5
 subst e7
 refine Prod.ext ?_ e5
 exact x.inj y
theorem dR.keeps {h h':Heap} {k:bM} {a d:Addr} {o:Obj} {es ep} (x:dR h k a) (ho:h.get? d = some o) (hd:o.data = .dict es ep) (hs:Heap.SameBut d h h'):dR h' k a:=by
 obtain ⟨b,t,⟨o1,yi,c1,n1,Kx⟩,az,rv,o2,qv,c2,n2,hd2⟩:=x
 have ne:∀ {c:Addr} {o':Obj} {xs:Array Value} {n:Nat},h.get? c = some o'->o'.data = .seq xs n->c ≠ d:=fun {c o' xs n} e1 e2 z=>by
  rw [z,ho] at e1; cases e1
  rw [hd] at e2; cases e2
 exact ⟨b,t,⟨o1,(hs.2 a (ne yi Kx)).trans yi,c1,n1,Kx⟩,az,rv,o2,(hs.2 b (ne qv hd2)).trans qv,c2,n2,hd2⟩
def jt (prog:Program) (w:World) (k:bM):Int:=reduceHash (Builtin.Tuple.tupleHashOf [tupleKeyHash (intKind prog w) k.1,hashInt k.2])
theorem ET {k:bM} {a:Addr} {Q:Int->Shared->Prop} (hu:A.units + 8 < cLine) (hk:dR s.heap k a) (h:Q (jt prog w k) { s with toks:=s.toks + (k.1.length + 3) }) :
  wpAny (model prog w) A (pyHash (.ref a)) Q E s:=by
 have hT:=hk.typeIs
 obtain ⟨b,t,⟨o,ho,_,n,hd⟩,hb⟩:=hk
 unfold pyHash
 first | unfold pyHashByItsType | skip
 first | refine X3 (wpAny_cRoomFor_or (.inr (by omega)) ?_) | skip
 refine X3 (aay hT F.slot_tuple_hash.lookup ?_)
 show wpAny _ _ (if (some (Value.builtin "tuple.__hash__") == some Value.none) = true then _ else _) Q E s
 rw [if_neg (by rw [beq_builtin_none]; exact Yc)]
 refine X3 (aay hT F.slot_tuple_hash.lookup ?_)
 show wpAny _ _ (callSpecialIfBoundUnlessNone? (.ref a) "__hash__" _ >>= _) Q E s
 refine X3 (wpAny_callSpecialIfBoundUnlessNone?_slot hT F.slot_tuple_hash (YL F.slot_tuple_hash hT F.entry_tuple_hash ?_ (F.args_tuple_hash_1 _)))
 show wpAny _ _ (Builtin.Tuple.tupleItemsOf (.ref a) >>= _) _ _ s
 refine X3 (aaC ho hd ?_)
 refine X3 ?_
 rw [<- Array.forIn_toList]
 show wpAny _ _ (forIn [Value.ref b,.int k.2 t] _ _) _ _ s
 rw [Zq]
 refine X3 (X3 (wpAny_pyHash_tuple (knd:=intKind prog w) (by show A.units + 1 < cLine; omega) hb.key (X4 ?_)))
 dsimp only
 rw [Zq]
 refine X3 (X3 (wpAny_pyHash_int (X4 ?_)))
 dsimp only
 rw [aaj]
 refine X4 ?_
 show wpAny _ _ (retInt (Builtin.Tuple.tupleHashOf [tupleKeyHash (intKind prog w) k.1,hashInt k.2])) _ _ _
 refine wpAny_ret_mkInt ?_
 show wpAny _ _ (if (decide (-(2:Int) ^ 63 <= Builtin.Tuple.tupleHashOf [tupleKeyHash (intKind prog w) k.1,hashInt k.2]) && decide (Builtin.Tuple.tupleHashOf [tupleKeyHash (intKind prog w) k.1,hashInt k.2] < 2 ^ 63)) = true then _ else _) Q E _
 unfold jt reduceHash at h
 by_cases hr:(decide (-(2:Int) ^ 63 <= Builtin.Tuple.tupleHashOf [tupleKeyHash (intKind prog w) k.1,hashInt k.2]) && decide (Builtin.Tuple.tupleHashOf [tupleKeyHash (intKind prog w) k.1,hashInt k.2] < 2 ^ 63)) = true
 ·rw [if_pos hr]
  rw [if_pos hr] at h
  exact X4 (by simpa [Nat.add_assoc] using h)
 ·rw [if_neg hr]
  rw [if_neg hr] at h
  exact X3 (ZD (X4 (by simpa [Nat.add_assoc] using h)))
theorem xf {x y:bM} {a b:Addr} {P:PySem.Fin->Shared->Prop} (hu:A.units < cLine) (hx:dR s.heap x a) (hy:dR s.heap y b) (h:P (.done (.ret (.bool (decide (x = y))))) s) :
  wpAny (model prog w) A (Builtin.«tuple.__eq__» ⟨[.ref a,.ref b],[]⟩) P E s:=by
 have Mo:=hy.typeIs
 obtain ⟨b1,t1,⟨oa,CS,_,na,CN⟩,Tb⟩:=hx
 obtain ⟨b2,t2,⟨ob,pL,_,nb,su⟩,V7⟩:=hy
 show wpAny _ _ (isInstance (.ref b) (.type "tuple") >>= _) _ _ s
 refine X3 (ZE Mo isSubtype_tuple_tuple ?_)
 simp only [Y8,Yu,YZ]
 refine X3 (aaC CS CN ?_)
 refine X3 (aaC pL su ?_)
 refine X3 ?_
 show wpAny _ _ (forIn [(Value.ref b1,Value.ref b2),(.int x.2 t1,.int y.2 t2)] _ _) _ _ s
 rw [Zq]
 refine X3 (X3 (kq hu Tb V7 ?_))
 by_cases h1:x.1 = y.1
 ·rw [Yi h1]
  simp only [Y8,Yu,YZ]
  refine X4 ?_
  dsimp only
  rw [Zq]
  refine X3 (X3 (aao ?_))
  by_cases h2:x.2 = y.2
  ·rw [show (x.2 == y.2) = true from ZZ.mpr h2]
   simp only [Y8,Yu,YZ]
   refine X4 ?_
   dsimp only
   rw [aaj]
   refine X4 ?_
   rw [Yi (Prod.ext h1 h2)] at h
   exact X4 h
  ·rw [show (x.2 == y.2) = false from Zg.mpr h2]
   simp only [Bool.not_false,Zw]
   rw [Yw (fun e=>h2 (Zi Prod.snd e))] at h
   exact X3 (X4 (X4 (X4 (X4 h))))
 ·rw [Yw h1]
  simp only [Bool.not_false,Zw]
  rw [Yw (fun e=>h1 (Zi Prod.fst e))] at h
  exact X3 (X4 (X4 (X4 (X4 h))))
theorem Jm {x y:bM} {a b:Addr} {Q:Bool->Shared->Prop} (hu:A.units + 8 < cLine) (hx:dR s.heap x a) (hy:dR s.heap y b) (h:Q (decide (x = y)) s):wpAny (model prog w) A (eqBool (.ref a) (.ref b)) Q E s:=by
 unfold eqBool
 try with_reducible refine Zk ?_
 show wpAny _ _ (if (Value.ref a == Value.ref b) = true then _ else _) Q E s
 by_cases BC:(Value.ref a == Value.ref b) = true
 ·rw [if_pos BC]
  have e:a = b:=by have:=eq_of_beq BC; injection this
  subst e
  have e:x = y:=dR.inj hx hy
  subst e
  exact X3 (ZD (X4 (by simpa using h)))
 ·rw [if_neg BC]
  exact X3 (wpAny_richCompare_same_room (op:=.Eq) hx.typeIs hy.typeIs F.slot_tuple_eq
   (YL F.slot_tuple_eq hx.typeIs F.entry_tuple_eq (xf (by show A.units + 1 < cLine; omega) hx hy ⟨_,rfl,(fun e=>nomatch e),Y9 h⟩) (F.args_tuple_eq_2 _ _)) (by omega))
theorem Cz {m:Nat} {g:List Int} {a:Addr} {Q:Bool->Shared->Prop} (hk:h9 s.heap a g) (h:Q true s):wpAny (model prog w) A (eqIsQuiet (m + 1) (.ref a)) Q E s:=by
 have hT:=hk.typeIs
 have hi:=(hk.key (prog:=prog) (w:=w))
 obtain ⟨o,items,n,ho,_,hd,hi⟩:=hi
 unfold eqIsQuiet
 refine X3 (aay hT F.slot_tuple_eq.lookup ?_)
 show wpAny _ _ (isInstance (.ref a) (.type "tuple") >>= _) _ _ s
 refine X3 (ZE hT isSubtype_tuple_tuple ?_)
 simp only [Y8,Yu,YZ]
 refine X3 (ZI ho hd ?_)
 refine X3 ?_
 show wpAny _ _ (forIn items _ _) _ _ s
 rw [<- Array.forIn_toList]
 refine wpAny_forIn_list _ (fun rest r s'=>r.1 = none /\ s' = s /\ ∀ v ∈ rest,carriedByValue v = true) _ ?_ ?_ _ _ ⟨rfl,rfl,hi.byValue⟩
 ·rintro v rest r s' ⟨hr,rfl,BE⟩
  rw [eqIsQuiet_byValue _ (BE v X9)]
  refine X3 (X4 ?_)
  simp only [Y8,Yu,YZ]
  exact X4 ⟨rfl,rfl,fun u wx=>BE u (X8 _ wx)⟩
 ·rintro ⟨r1,r2⟩ s' ⟨hr,rfl,_⟩
  simp only at hr
  subst hr
  exact X4 h
theorem CD {k:bM} {a:Addr} {Q:Bool->Shared->Prop} (hk:dR s.heap k a) (h:Q true s):wpAny (model prog w) A (eqIsQuiet 8 (.ref a)) Q E s:=by
 have hT:=hk.typeIs
 obtain ⟨b,t,⟨o,ho,_,n,hd⟩,hb⟩:=hk
 unfold eqIsQuiet
 refine X3 (aay hT F.slot_tuple_eq.lookup ?_)
 show wpAny _ _ (isInstance (.ref a) (.type "tuple") >>= _) _ _ s
 refine X3 (ZE hT isSubtype_tuple_tuple ?_)
 simp only [Y8,Yu,YZ]
 refine X3 (ZI ho hd ?_)
 refine X3 ?_
 show wpAny _ _ (forIn (#[Value.ref b,.int k.2 t]) _ _) _ _ s
 rw [<- Array.forIn_toList]
 show wpAny _ _ (forIn [Value.ref b,.int k.2 t] _ _) _ _ s
 rw [Zq]
 refine X3 (X3 (Cz hb ?_))
 simp only [Y8,Yu,YZ]
 refine X4 ?_
 dsimp only
 rw [Zq,eqIsQuiet_byValue _ rfl]
 refine X3 (X3 (X4 ?_))
 simp only [Y8,Yu,YZ]
 refine X4 ?_
 dsimp only
 rw [aaj]
 exact X4 (X4 h)
def a7 (prog:Program) (w:World):HeapKind prog w bM where
 is:=dR
 hash:=jt prog w
 draws:=fun k=>k.1.length + 3
 room:=fun A=>A.units + 8 < cLine
 inj:=fun hx hy=>hx.inj hy
 keeps:=fun x ho hd hs=>x.keeps ho hd hs
 pyHash:=fun hu hk h=>ET hu hk h
 eqBool:=fun hu hx hy h=>Jm hu hx hy h
 quiet:=fun hk h=>CD hk h
end
def kZ (P:Program) (w:World) (a:Addr) (xs:List (bM × Addr × Value)):HO :=
 .ext fun h=>∃ o es ep,h.get? a = some o /\ o.ExactDict /\ o.data = .dict es ep /\ es.toList = xs.map (entryOfKey (a7 P w)) /\ (xs.map (·.1)).Nodup
def lj (H:Hp) (k:bM) (a:Addr):Prop:=∃ b,H a = some (.tup [.ref b,.int k.2]) /\ H b = some (.tup (k.1.map V.int))
abbrev KS (H:Hp):List (bM × V)->List (bM × Addr × Value)->Prop:=Paired fun p q=>p.1 = q.1 /\ lj H p.1 q.2.1 /\ RelV p.2 q.2.2
def DS (P:Program) (w:World) (H:Hp) (a:Addr) (kvs:List (bM × V)):Prop:=kvs.length <= sizeLine /\ (a == sysModules) = false /\ ∃ xs,Rd H a (kZ P w a xs) /\ KS H kvs xs
def DW (P:Program) (w:World) (H:Hp) (a:Addr) (kvs:List (bM × V)):Prop:=kvs.length <= sizeLine /\ (a == sysModules) = false /\ ∃ xs,H a = some (kZ P w a xs) /\ KS H kvs xs
def cX (kvs:List (bM × V)) (k:bM):Option V:=(kvs.find? fun x=>decide (x.1 = k)).map (·.2)
def tj (kvs:List (bM × V)) (k:bM) (v:V):List (bM × V):=if (cX kvs k).isSome then kvs.map (fun x=>if x.1 = k then (x.1,v) else x) else kvs ++ [(k,v)]
section
variable {P:Program} {w:World} {H H':Hp} {h:Heap} {a:Addr} {kvs:List (bM × V)} {xs:List (bM × Addr × Value)} {k:bM}
theorem DW.ds (d:DW P w H a kvs):DS P w H a kvs:=let ⟨h1,h2,xs,h3,h4⟩:=d; ⟨h1,h2,xs,.inl h3,h4⟩
theorem lj.mono (e:∀ b ys,H b = some (.tup ys)->H' b = some (.tup ys)) (x:lj H k a):lj H' k a:=let ⟨b,h1,h2⟩:=x; ⟨b,e _ _ h1,e _ _ h2⟩
theorem KS.mono (e:∀ b ys,H b = some (.tup ys)->H' b = some (.tup ys)) (x:KS H kvs xs):KS H' kvs xs:=Paired.yJ x fun _ _ z=>⟨z.1,z.2.1.mono e,z.2.2⟩
theorem DS.mono (e:ao H H') (x:DS P w H a kvs):DS P w H' a kvs:=let ⟨h1,h2,xs,h3,h4⟩:=x
 ⟨h1,h2,xs,h3.elim (fun z=>.inl (e _ _ z)) (fun ⟨o,z⟩=>.inr ⟨o,e _ _ z⟩),h4.mono fun _ _=>e _ _⟩
theorem DW.mono (e:ao H H') (x:DW P w H a kvs):DW P w H' a kvs:=let ⟨h1,h2,xs,h3,h4⟩:=x
 ⟨h1,h2,xs,e _ _ h3,h4.mono fun _ _=>e _ _⟩
theorem lj.is (ok:jO P w H h) (x:lj H k a):dR h k a:=by
 obtain ⟨b,h1,h2⟩:=x
 obtain ⟨_,az,Qn,o1,g1,c1,n1,d1⟩:=ok a _ h1
 obtain ⟨_,kX,LC,t2⟩:=ok b _ h2
 cases Qn with
 | cons ra rb =>
  cases ra
  cases rb with
  | cons rc rd =>
   obtain ⟨t,rfl⟩:=rc
   cases rd
   exact ⟨b,t,⟨o1,g1,c1,n1,d1⟩,kX,LC,t2⟩
def hV (k:bM):PyData:=.tuple [.tuple (k.1.map PyData.int),.int k.2]
theorem lj.dv (x:lj H k a):DV H (hV k) (.ref a):=by
 obtain ⟨b,h1,h2⟩:=x
 exact .tup h1 (.cons (.tup h2 (bW.ints _)) (.cons (.int _) .nil))
theorem lj.of {v:V} (x:DV H (hV k) v):∃ a,v = .ref a /\ lj H k a:=by
 obtain ⟨a,vs,rfl,ha,hv⟩:=x.il
 obtain ⟨v1,v2,rfl,d1,d2⟩:=hv.vM
 obtain ⟨b,us,rfl,hb,hu⟩:=d1.il
 cases d2.int_inv
 cases hu.nX
 exact ⟨a,rfl,b,ha,hb⟩
theorem KS.val (r:KS H kvs xs) (k:bM):ny (cX kvs k) ((atKey xs k).map (·.2)):=by
 induction r with
 | nil=>exact Z7
 | @cons p q ps qs h t ih =>
  obtain ⟨h1,_,h2⟩:=h
  by_cases e:p.1 = k
  ·have e':q.1 = k:=h1.symm.trans e
   have b:atKey (q :: qs) k = some q.2:=by simp [atKey,ZN,e']
   have c:cX (p :: ps) k = some p.2:=by simp [cX,ZN,e]
   rw [c,b]; exact h2
  ·have e':¬ q.1 = k:=fun z=>e (h1.trans z)
   have b:atKey (q :: qs) k = atKey qs k:=by simp [atKey,ZN,e']
   have c:cX (p :: ps) k = cX ps k:=by simp [cX,ZN,e]
   rw [c,b]; exact ih
theorem o9 {o:Option V} {u:Option Value} (r:ny o u):o.isSome = u.isSome:=by
 cases o <;> cases u <;> first | rfl | exact r.elim
theorem Cp {o:Option V} {u:Option Value} {d:V} {d':Value} (r:ny o u) (rd:RelV d d'):RelV (o.getD d) (u.getD d'):=by
 cases o <;> cases u <;> first | exact r.elim | exact rd | exact r
theorem KS.Qe (r:KS H kvs xs) (k:bM) {y:V} {u:Value} (ry:RelV y u):KS H (kvs.map fun kv=>if kv.1 = k then (kv.1,y) else kv) (xs.map (putAt k u)):=by
 induction r with
 | nil=>exact .nil
 | @cons p q ps qs h t ih =>
  rw [Yq,Yq]
  refine .cons ?_ ih
  obtain ⟨h1,h2,h3⟩:=h
  unfold putAt
  by_cases e:p.1 = k
  ·rw [if_pos e,if_pos (h1.symm.trans e)]; exact ⟨h1,h2,ry⟩
  ·rw [if_neg e,if_neg (fun z=>e (h1.trans z))]; exact ⟨h1,h2,h3⟩
theorem KS.put (r:KS H kvs xs) (k:bM) {b:Addr} {y:V} {u:Value} (hb:lj H k b) (ry:RelV y u):KS H (tj kvs k y) (storedH xs k b u):=by
 have e:(cX kvs k).isSome = (atKey xs k).isSome:=by rw [o9 (r.val k),Zo]
 unfold tj storedH
 rw [e]
 by_cases q:(atKey xs k).isSome = true
 ·rw [if_pos q,if_pos q]; exact r.Qe k ry
 ·rw [if_neg q,if_neg q]; exact Paired.snoc r ⟨rfl,hb,ry⟩
theorem DI (kvs:List (bM × V)) (k:bM) (v:V):(tj kvs k v).length <= kvs.length + 1:=by
 unfold tj
 split <;> simp
theorem KS.is (ok:jO P w H h) (r:KS H kvs xs):∀ x ∈ xs,dR h x.1 x.2.1:=by
 induction r with
 | nil=>intro x hx; cases hx
 | cons e _ ih =>
  intro x hx
  rcases Yb.mp hx with rfl | hx
  ·rw [<- e.1]; exact e.2.1.is ok
  ·exact ih x hx
theorem nD (ok:jO P w H h) (d:Rd H a (kZ P w a xs)) (r:KS H kvs xs):h.DictOfH (a7 P w) a xs:=by
 obtain ⟨⟨o,es,ep,h1,h2,h3,h4,h5⟩,_⟩:=(show cj P w H h a (kZ P w a xs) from d.ok ok)
 exact ⟨o,es,ep,h1,h2,h3,h4,r.is ok,h5⟩
theorem nH {h':Heap} (d:h'.DictOfH (a7 P w) a xs):cj P w H h' a (kZ P w a xs):=by
 obtain ⟨o,es,ep,h1,h2,h3,h4,_,h5⟩:=d
 refine ⟨⟨o,es,ep,h1,h2,h3,h4,h5⟩,⟨o,h1⟩,fun g1 g2 φ kp=>?_⟩
 obtain ⟨o,es,ep,h1,h2,h3,h4,h5⟩:=φ
 exact ⟨o,es,ep,kp _ h1,h2,h3,h4,h5⟩
end
section
variable {X:Cx}
theorem Inv.Kn {pins:List (Addr × Obj)} {σ:St} {H:Hp} {s:Shared} (I:Inv X pins σ H s):sysModules < s.heap.objs.size:=by
 have h:mainGlobals < s.heap.objs.size:=(I.mod.glob.keeps I.bk).lt
 exact Nat.lt_trans (by decide) h
def QO (X:Cx) (neg:Bool):R2:=fun y x H Q=>∃ a b k kvs,x = .ref a /\ y = .ref b /\ lj H k b /\ DS X.prog X.w H a kvs /\ Q (.bl (if neg then !(cX kvs k).isSome else (cX kvs k).isSome)) H
theorem Ko (hu:X.A.units + 64 < cLine):iH X (compareOp .In) (QO X false):=by
 intro pins s σ H y x u v Q I ry rx h
 obtain ⟨a,b,k,kvs,rfl,rfl,hk,⟨_,hd,xs,rd,r⟩,q⟩:=h
 cases ry; cases rx
 refine wpAny_in_heap (knd:=a7 X.prog X.w) (show X.A.in1.units + 8 < cLine by show X.A.units + 1 + 8 < cLine; omega) (hk.is I.aW) hd (nD I.aW rd r) ?_
 have e:=o9 (r.val k)
 rw [Zo] at e
 rw [<- e]
 exact ⟨.bl (cX kvs k).isSome,H,I.tok _,rfl,q⟩
def Mm (X:Cx):R2:=fun x y H Q=>∃ a b k kvs v,x = .ref a /\ y = .ref b /\ lj H k b /\ DS X.prog X.w H a kvs /\ cX kvs k = some v /\ Q v H
theorem CZ (hu:X.A.units + 64 < cLine):CQ X (Mm X):=by
 intro value slice pins s σ H x y u iv Q I rx ry h hs
 obtain ⟨a,b,k,kvs,v,rfl,rfl,hk,⟨_,hd,xs,rd,r⟩,hv,q⟩:=h
 cases ry; cases rx
 have dd:=nD I.aW rd r
 obtain ⟨w',hw,LS⟩:=ny.some_of (v:=v) (o:=(atKey xs k).map (·.2)) (by rw [<- hv]; exact r.val k)
 obtain ⟨p,hp,Jz⟩:=YU.mp hw
 refine subscriptTail_builtinR (x:=w') dd.typeIs PySem.F.slot_dict_getitem.lookup (wpAny_getItem_heap (knd:=a7 X.prog X.w) (show X.A.in1.units + 8 < cLine by show X.A.units + 1 + 8 < cLine; omega) (hk.is I.aW) dd hp ?_) hs
 rw [Jz]
 exact ⟨rfl,v,H,I.tok _,LS,q⟩
def MJ (X:Cx):V->V->V->Hp->(Hp->Prop)->Prop:=fun o i v H Q=>∃ a b k kvs,o = .ref a /\ i = .ref b /\ lj H k b /\ DW X.prog X.w H a kvs /\ kvs.length < sizeLine /\ ∀ o',DW X.prog X.w (upd H a o') a (tj kvs k v)->Q (upd H a o')
theorem Cu (hu:X.A.units + 64 < cLine):Ha X (MJ X):=by
 intro pins s σ H o i v ov iv u Q I ro ri rv h
 obtain ⟨a,b,k,kvs,rfl,rfl,hk,⟨hz,hd,xs,e,r⟩,hl,q⟩:=h
 cases ro; cases ri
 have pY:xs.length <= sizeLine:=by rw [<- Zl r]; exact hz
 refine wpAny_setItem_heap (knd:=a7 X.prog X.w) (hsz:=pY) (show X.A.in1.units + 8 < cLine by show X.A.units + 1 + 8 < cLine; omega) (hk.is I.aW) (nD I.aW (.inl e) r) fun h' Mu hs=>?_
 have tp:∀ c ys,H c = some (.tup ys)->upd H a (kZ X.prog X.w a (storedH xs k b u)) c = some (.tup ys):=fun c ys ec=>by
  rw [am (fe ec e (fun z=>nomatch z))]; exact ec
 have he:∃ q,h'.get? a = some q:=let ⟨q,_,_,hq,_⟩:=Mu; ⟨q,hq⟩
 refine ⟨_,I.write (x:=a) (e:=a) (o:=kZ X.prog X.w a (storedH xs k b u)) (by rw [e]; exact Z7) (.inl rfl) (fun b q hb z=>(hs.2 b hb).trans z) he (nH Mu),q _ ⟨?_,hd,_,ae,(r.put k hk rv).mono tp⟩⟩
 have:=DI kvs k v
 omega
def Jy (X:Cx):TE:=fun _ H Q=>∀ p o,H p = none->DW X.prog X.w (upd H p o) p []->Q (.ref p) (upd H p o)
theorem Em {pos:Pos}:PE X (.Dict [] [] pos) (Jy X):=fun pins s σ H Q I h =>
 wpAny_Dict_empty ⟨.ref s.heap.objs.size,_,I.laid (a:=s.heap.objs.size) (o:=kZ X.prog X.w s.heap.objs.size []) (t':=s.toks) (fun _ _ q=>X5 _ q) (X7 _) (nH (Heap.DictOfH.new s.heap)),rfl,
  h _ _ (I.aW.fresh (X7 _)) ⟨YD _,Zg.mpr (aag (YB I.Kn)),[],ae,.nil⟩⟩
def HE (X:Cx):V->List V->Hp->VK->Prop:=fun x ys H Q=>∃ a b k kvs,x = .ref a /\ ys = [.ref b] /\ lj H k b /\ DS X.prog X.w H a kvs /\ Q ((cX kvs k).getD .cP) H
theorem FE (hu:X.A.units + 64 < cLine):IK X "dict.get" (HE X):=by
 intro pins s σ H x ys v us Q I rx rs h
 obtain ⟨a,b,k,kvs,rfl,rfl,hk,⟨_,hd,xs,rd,r⟩,q⟩:=h
 cases rx
 obtain ⟨u,rfl,ru⟩:=rs.one
 cases ru
 have dd:=nD I.aW rd r
 refine call_meetsIn PySem.F.slot_dict_get dd.typeIs PySem.F.entry_dict_get (PySem.F.args_dict_get_2 _ _) (meetsH_dict_get (a7 X.prog X.w) a b hd) ⟨show X.A.in1.units + 8 < cLine from by show X.A.units + 1 + 8 < cLine; omega,k,xs,hk.is I.aW,dd,?_⟩
 exact ⟨(cX kvs k).getD .cP,H,I.tok _,Cp (d:=.cP) (r.val k) rfl,q⟩
end
def BL (g:List (bM × Int)) (k:bM):Option Int:=(g.find? fun x=>decide (x.1 = k)).map (·.2)
def HB (f g:List (bM × Int)):Bool:=f.length == g.length && f.all fun p=>decide (BL g p.1 = some p.2)
abbrev iv (f:List (bM × Int)):List (bM × V):=f.map fun p=>(p.1,V.int p.2)
theorem vD (f:List (bM × Int)) (k:bM):cX (iv f) k = (BL f k).map V.int:=by
 induction f with
 | nil=>rfl
 | cons p f ih =>
  by_cases e:p.1 = k
  ·have h1:cX (iv (p :: f)) k = some (V.int p.2):=by simp [cX,ZN,e]
   have h2:BL (p :: f) k = some p.2:=by simp [BL,ZN,e]
   rw [h1,h2]; rfl
  ·have h1:cX (iv (p :: f)) k = cX (iv f) k:=by simp [cX,ZN,e]
   have h2:BL (p :: f) k = BL f k:=by simp [BL,ZN,e]
   rw [h1,h2]; exact ih
section
variable {prog:Program} {w:World} {A:Around} {E:Value->Shared->Prop} {s:Shared}
theorem KS.at {H:Hp}:∀ {f:List (bM × Int)} {xs:List (bM × Addr × Value)} {i:Nat} {p:bM × Int},KS H (iv f) xs->f[i]? = some p->∃ b t,xs[i]? = some (p.1,b,.int p.2 t) /\ lj H p.1 b
 | [],_,_,_,.nil,e=>by simp at e
 | q :: f,_,0,p,.cons (b:=y) h _,e=>by
  simp at e; subst e
  obtain ⟨h1,h2,t,h3⟩:=h
  obtain ⟨y1,y2,y3⟩:=y
  cases h1
  have h3:y3 = Value.int q.2 t:=h3
  subst h3
  exact ⟨y2,t,rfl,h2⟩
 | q :: f,_,i + 1,p,.cons _ r,e=>by
  obtain ⟨b,t,h1,h2⟩:=KS.at (i:=i) (p:=p) r (by simpa using e)
  exact ⟨b,t,by simpa using h1,h2⟩
theorem KS.lk {H:Hp} {f:List (bM × Int)} {xs:List (bM × Addr × Value)} (r:KS H (iv f) xs) (hn:(xs.map (·.1)).Nodup) {j:Nat} {k:bM} {p:Addr × Value} (h:xs[j]? = some (k,p)):∃ i t,p.2 = .int i t /\ BL f k = some i:=by
 have e1:=atKey_of_get hn h
 have e2:=r.val k
 rw [e1,vD] at e2
 cases h3:BL f k with
 | none=>rw [h3] at e2; exact e2.elim
 | some i =>
  rw [h3] at e2
  obtain ⟨t,e2⟩:=e2
  exact ⟨i,t,e2,rfl⟩
theorem KS.WO {H:Hp} {f:List (bM × Int)} {xs:List (bM × Addr × Value)} (r:KS H (iv f) xs) {k:bM} (h:∀ (j:Nat) (p:Addr × Value),xs[j]? ≠ some (k,p)):BL f k = none:=by
 have e1:=atKey_none_of_get h
 have e2:=r.val k
 rw [e1,vD] at e2
 cases h3:BL f k with
 | none=>rfl
 | some i=>rw [h3] at e2; exact e2.elim
theorem zB {H:Hp} {nm:String} {a b:Addr} {f g:List (bM × Int)} {xs ys:List (bM × Addr × Value)} {Q:Bool->Shared->Prop} (hu:A.units + 8 < cLine) (ok:jO prog w H s.heap) (ha:(a == sysModules) = false) (hb:(b == sysModules) = false)
  (da:s.heap.DictOfH (a7 prog w) a xs) (db:s.heap.DictOfH (a7 prog w) b ys) (ra:KS H (iv f) xs) (rb:KS H (iv g) ys) (h:Q (HB f g) s) :
  wpAny (model prog w) A (Builtin.Dict.samePairs nm a b) Q E s:=by
 obtain ⟨oa,es,ep,CS,_,CN,RB,XQ,XB⟩:=da
 obtain ⟨ob,Cy,CL,pL,_,su,QE,VE,Ra⟩:=db
 have O3:f.length = es.size:=by rw [aaz RB,<- Zl ra,X6]
 have FY:g.length = Cy.size:=by rw [aaz QE,<- Zl rb,X6]
 unfold HB at h
 rw [O3,FY] at h
 unfold Builtin.Dict.samePairs Builtin.Dict.showsAll
 rw [if_neg (show ¬ (a == sysModules) = true by rw [ha]; exact Yc),if_neg (show ¬ (b == sysModules) = true by rw [hb]; exact Yc)]
 refine X3 (X4 (X3 (X4 ?_)))
 refine X3 (Y1 CS CN ?_)
 dsimp only
 refine X3 (Y1 pL su ?_)
 by_cases hsz:es.size = Cy.size
 case neg =>
  rw [if_pos (by simpa using hsz)]
  have Vz:(es.size == Cy.size) = false:=by simpa using hsz
  rw [Vz,YO] at h
  exact X3 (ZD (X4 h))
 case pos =>
  rw [show (es.size == Cy.size) = true from ZZ.mpr hsz,aax] at h
  rw [if_neg (by rw [hsz]; simp)]
  refine X3 (ZM CS CN ?_)
  refine X3 ?_
  rw [Std.Legacy.Range.forIn_eq_forIn_range']
  simp only [Std.Legacy.Range.size,Nat.sub_zero,Nat.add_sub_cancel,Nat.div_one]
  refine wpAny_forIn_list _
   (fun rest q s'=>s' = s /\ q = (none,()) /\ ∃ i,rest = List.range' i (es.size - i) /\ i <= es.size /\ ((f.drop i).all fun p=>decide (BL g p.1 = some p.2)) = (f.all fun p=>decide (BL g p.1 = some p.2)))
   _ ?_ ?_ _ _ ⟨rfl,rfl,0,by simp,YD _,rfl⟩
  ·rintro x rest q s' ⟨rfl,rfl,i,hr,hi,k8⟩
   have fT:i < es.size:=by
    rcases Nat.lt_or_ge i es.size with h | h
    ·exact h
    ·rw [Nat.sub_eq_zero_of_le h] at hr; simp at hr
   obtain ⟨rfl,LO⟩:x = i /\ rest = List.range' (i + 1) (es.size - (i + 1)):=by
    have e:es.size - i = (es.size - (i + 1)) + 1:=by omega
    rw [e,List.range'_succ] at hr
    injection hr with h1 h2
    exact ⟨h1,h2⟩
   refine X3 (Y1 CS CN ?_)
   have L9:x < f.length:=by rw [O3]; exact fT
   obtain ⟨c,t,hx,kc⟩:=ra.at (Ya L9)
   have hex:es[x]? = some (entryOfKey (a7 prog w) (f[x].1,c,.int f[x].2 t)):=by rw [entry_at RB,hx]; rfl
   have wK:f.drop x = f[x] :: f.drop (x + 1):=aar L9
   rw [hex]
   rw [wK,List.all_cons] at k8
   show wpAny _ _ (holding [Value.ref c,Value.int f[x].2 t] _ >>= _) _ _ _
   refine X3 (Zk (X3 (wpAny_dictFind_heap (knd:=a7 prog w) hu (kc.is ok) pL su QE VE Ra (fun Ao=>?_) fun j p hj=>?_)))
   ·rw [rb.WO Ao] at k8
    rw [<- k8] at h
    refine X4 ?_
    show wpAny _ _ (if (!false) = true then _ else _) _ _ _
    rw [if_pos (by decide)]
    exact X4 (X4 h)
   ·obtain ⟨n,u,hp,hl⟩:=rb.lk Ra hj
    have Xk:Cy[j]? = some (entryOfKey (a7 prog w) (f[x].1,p)):=by rw [entry_at QE,hj]; rfl
    refine X3 (Y1 pL su ?_)
    rw [Xk]
    obtain ⟨p1,p2⟩:=p
    have hp:p2 = Value.int n u:=hp
    subst hp
    refine Zk (aao ?_)
    rw [hl] at k8
    by_cases en:f[x].2 = n
    ·rw [show (f[x].2 == n) = true from ZZ.mpr en]
     rw [Yi (by rw [en]),aax] at k8
     show wpAny _ _ (if (!true) = true then _ else _) _ _ _
     rw [if_neg (by decide)]
     refine X3 (ZM CS CN ?_)
     rw [if_neg (by simp)]
     exact X4 ⟨rfl,rfl,x + 1,LO,fT,k8⟩
    ·rw [show (f[x].2 == n) = false from Zg.mpr en]
     rw [Yw (fun z=>en (Y4 z).symm),YO] at k8
     rw [<- k8] at h
     show wpAny _ _ (if (!false) = true then _ else _) _ _ _
     rw [if_pos (by decide)]
     exact X4 (X4 h)
  ·rintro q s' ⟨rfl,rfl,i,hr,hi,k8⟩
   have wL:i = es.size:=by
    rcases Nat.lt_or_ge i es.size with h | h
    ·have e:es.size - i = (es.size - (i + 1)) + 1:=by omega
     rw [e,List.range'_succ] at hr; exact nomatch hr
    ·exact Nat.le_antisymm hi h
   refine X4 ?_
   rw [wL,<- O3,List.drop_length] at k8
   rw [<- k8] at h
   exact h
end
section
variable {X:Cx}
def QV (X:Cx):R2:=fun x y H Q=>∃ a b f g,x = .ref a /\ y = .ref b /\ DS X.prog X.w H a (iv f) /\ DS X.prog X.w H b (iv g) /\ Q (.bl (!HB f g)) H
theorem Ki (hu:X.A.units + 64 < cLine):iH X (compareOp .NotEq) (QV X):=by
 intro pins s σ H x y u v Q I rx ry h
 obtain ⟨a,b,f,g,rfl,rfl,⟨_,ha,xs,d1,r1⟩,⟨_,hb,ys,d2,r2⟩,q⟩:=h
 cases rx; cases ry
 have da:=nD I.aW d1 r1
 have db:=nD I.aW d2 r2
 refine wpAny_richCompare_same_room (op:=.NotEq) da.typeIs db.typeIs PySem.F.slot_dict_ne (YL PySem.F.slot_dict_ne da.typeIs PySem.F.entry_dict_ne ?_ (PySem.F.args_dict_ne_2 _ _)) (by omega)
 show wpAny _ _ (Builtin.Dict.dictSlotArgs "__ne__" ⟨[.ref a,.ref b],[]⟩ >>= _) _ _ s
 refine X3 ?_
 unfold Builtin.Dict.dictSlotArgs
 refine X3 (wpAny_notOrdered_dict da.typeIs ?_)
 show wpAny _ _ (pure (Value.ref a,Value.ref b)) _ _ s
 refine X4 ?_
 refine X3 (ZE (T:="dict") db.typeIs PySem.F.sub_dict_dict ?_)
 simp only [Y8,Yu,YZ]
 refine X3 (X4 (X3 (X4 ?_)))
 refine X3 (zB (by show X.A.units + 1 + 8 < cLine; omega) I.aW ha hb da db r1 r2 ?_)
 refine X4 ⟨_,rfl,?_,?_⟩
 ·exact fun x=>nomatch x
 ·refine ⟨.bl (!HB f g),H,I,?_,q⟩
  show Value.bool (HB f g == false) = Value.bool (!HB f g)
  cases HB f g <;> rfl
end
theorem rF {α:Type} (h:α->Int):∀ {l:List α},(l.map h).Nodup->∀ x ∈ l,(l.filter fun e=>h e == h x).length <= 1
 | [],_,_,hx=>by cases hx
 | y :: l,nd,x,hx=>by
  rw [Yq,Ze] at nd
  rw [YJ]
  by_cases e:h y = h x
  ·rw [if_pos (ZZ.mpr e)]
   have:l.filter (fun e=>h e == h x) = []:=by
    rw [List.filter_eq_nil_iff]
    intro z hz q
    exact nd.1 (by rw [e,<- eq_of_beq q]; exact Y0 hz)
   rw [this]; exact X7 _
  ·rw [if_neg (by simpa using e)]
   rcases Yb.mp hx with rfl | hx
   ·exact absurd rfl e
   ·exact rF h nd.2 x hx
section
variable {prog:Program} {w:World} {A:Around} {E:Value->Shared->Prop} {s:Shared}
theorem BS {nm:String} {d o:Addr} {xs:List (bM × Addr × Value)} {Q:Unit->Shared->Prop} (PB:d ≠ o) (Qb:(o == sysModules) = false) (hd:s.heap.DictOfH (a7 prog w) d []) (ho:s.heap.DictOfH (a7 prog w) o xs)
  (hh:(xs.map fun x=>jt prog w x.1).Nodup) (hsz:xs.length <= sizeLine) (hQ:∀ h',h'.DictOfH (a7 prog w) d xs->Heap.SameBut d s.heap h'->Q () { s with heap:=h' }) :
  wpAny (model prog w) A (Builtin.Dict.mergeDict nm d o) Q E s:=by
 obtain ⟨od,SB,UF,yx,yZ,xK,Uv,Xr,XU⟩:=id hd
 obtain ⟨oo,Cc,XG,Oq,XZ,Fz,B5,Si,QB⟩:=id ho
 have h0:SB = #[]:=by
  have:=aaz Uv
  exact Array.size_eq_zero_iff.mp this
 have hlen:Cc.size = xs.length:=aaz B5
 unfold Builtin.Dict.mergeDict
 rw [if_neg (by simpa using PB)]
 unfold Builtin.Dict.showsAll
 rw [if_neg (by rw [Qb]; exact Yc)]
 refine X3 (X4 ?_)
 refine X3 (Y1 Oq Fz ?_)
 dsimp only
 cases xs with
 | nil =>
  have e0:Cc = #[]:=Array.size_eq_zero_iff.mp hlen
  subst e0
  rw [if_neg (by simp)]
  refine X3 (ZM Oq Fz ?_)
  refine X3 (Y1 Oq Fz ?_)
  refine X3 ?_
  rw [Std.Legacy.Range.forIn_eq_forIn_range']
  show wpAny _ _ (forIn (List.range' 0 0 1) _ _) _ _ _
  rw [List.range'_zero,aaj]
  exact X4 (X4 (hQ _ hd (Heap.SameBut.refl _ _)))
 | cons x xs =>
  have SQ:(!(decide (Cc.size <= 8) && Cc.all fun e=>(keyPart e.key).isSome)) = true:=by
   have:(Cc.all fun e=>(keyPart e.key).isSome) = false:=by
    rw [<- Array.all_toList,B5,Yq,List.all_cons]
    rfl
   rw [this,Zz]; rfl
  rw [if_pos SQ]
  refine X3 (Y1 yx xK ?_)
  rw [h0,if_pos (by rfl)]
  refine X3 ?_
  unfold Builtin.Dict.entriesForEmpty
  refine X3 (Y1 Oq Fz ?_)
  refine X3 ?_
  rw [<- Array.forIn_toList]
  refine wpAny_forIn_list _ (fun rest _ s'=>s' = s /\ ∀ e ∈ rest,e ∈ Cc.toList) _ ?_ ?_ _ _ ⟨rfl,fun e he=>he⟩
  ·rintro e rest r s' ⟨rfl,hr⟩
   have he:=hr e X9
   rw [B5] at he
   obtain ⟨y,hy,rfl⟩:=YI.mp he
   have hT:=(show dR s'.heap y.1 y.2.1 from Si y hy).typeIs
   refine X3 ?_
   show wpAny _ _ (Builtin.Dict.quietEq (.ref y.2.1)) _ _ _
   unfold Builtin.Dict.quietEq
   refine X3 (aay hT PySem.F.slot_tuple_eq.lookup (X4 ?_))
   rw [show ((some (Value.builtin "tuple.__eq__"):Option Value) == some (Value.builtin "object.__eq__")) = false from by decide]
   simp only [Bool.not_false,Zw]
   have one:¬ (Cc.filter fun e=>e.hash == (entryOfKey (a7 prog w) y).hash).size > 1:=by
    have h1:=rF (fun e:DictEntry=>e.hash) (l:=Cc.toList) (by rw [B5,YQ]; exact hh) (entryOfKey (a7 prog w) y) (by rw [B5]; exact Y0 hy)
    have h2:(Cc.filter fun e=>e.hash == (entryOfKey (a7 prog w) y).hash).size = (Cc.toList.filter fun e=>e.hash == (entryOfKey (a7 prog w) y).hash).length:=by
     rw [<- Array.toList_filter,Ye]
    omega
   rw [if_neg one]
   exact X4 ⟨rfl,fun e he=>hr e (X8 _ he)⟩
  ·rintro r s' ⟨rfl,_⟩
   refine X4 ?_
   have ne:(!Cc.isEmpty) = true:=by
    cases hq:Cc.isEmpty with
    | false=>rfl
    | true =>
     have:=Array.isEmpty_iff.mp hq
     rw [this] at hlen
     simp at hlen
   rw [if_pos ne]
   subst h0
   refine X3 (wpAny_updateDictKeysTo yx xK (X4 (hQ _ ⟨_,Cc,UF + 1,Heap.get?_update_self _ yx (Obj.isFreed_of_dict (Obj.data_mapDictKeys xK _)),yZ.mapDictKeys _,Obj.data_mapDictKeys xK _,B5,fun z hz=>?_,QB⟩ (Y6 ..))) (by omega))
   exact (show dR s'.heap z.1 z.2.1 from Si z hz).keeps yx xK (Y6 ..)
theorem DictOfH.Kc {h:Heap} {a:Addr} {xs:List (bM × Addr × Value)} (o':Obj) (d:h.DictOfH (a7 prog w) a xs):(h.push o').DictOfH (a7 prog w) a xs:=by
 obtain ⟨o,es,ep,h1,h2,h3,h4,h5,h6⟩:=d
 refine ⟨o,es,ep,X5 _ h1,h2,h3,h4,fun x hx=>?_,h6⟩
 obtain ⟨b,t,⟨o1,g1,c1⟩,az,rv,o2,g2,c2⟩:=(show dR h x.1 x.2.1 from h5 x hx)
 exact ⟨b,t,⟨o1,X5 _ g1,c1⟩,az,rv,o2,X5 _ g2,c2⟩
theorem sR {o:Addr} {xs:List (bM × Addr × Value)} {Q:Value->Shared->Prop} (Qb:(o == sysModules) = false) (ho:s.heap.DictOfH (a7 prog w) o xs) (hh:(xs.map fun x=>jt prog w x.1).Nodup) (hsz:xs.length <= sizeLine)
  (h:∀ h',h'.DictOfH (a7 prog w) s.heap.objs.size xs->Heap.SameBut s.heap.objs.size (s.heap.push { cls:=.type "dict",data:=.dict #[] }) h'->Q (.ref s.heap.objs.size) { s with heap:=h' }) :
  wpAny (model prog w) A (call (.type "dict") [.ref o]) Q E s:=by
 refine callType_codes (Q₁:=fun obj s₁=>obj = .ref s.heap.objs.size /\ s₁ = { s with heap:=s.heap.push { cls:=.type "dict",data:=.dict #[] } }) F.kt_called_dict (F.kt_typeCall_dict_1 _) F.entry_dict_init (kt_code_dict_new _ ⟨rfl,rfl⟩) ?_
 rintro obj s₁ ⟨rfl,rfl⟩
 have IF:(s.heap.push { cls:=.type "dict",data:=.dict #[] }).DictOfH (a7 prog w) s.heap.objs.size []:=Heap.DictOfH.new s.heap
 have mZ:=DictOfH.Kc { cls:=.type "dict",data:=.dict #[] } ho
 have PB:s.heap.objs.size ≠ o:=by
  obtain ⟨_,_,_,hg,_⟩:=ho
  exact fun e=>absurd (Ym hg) (by rw [e]; exact Zf _)
 refine ⟨IF.typeIs,F.args_dict_init_2 _ _,?_⟩
 unfold Builtin.«dict.__init__»
 refine X3 ?_
 unfold Builtin.Dict.selfAndRest
 refine X3 (wpAny_notOrdered_dict IF.typeIs ?_)
 show wpAny _ _ (pure (s.heap.objs.size,[Value.ref o])) _ _ _
 refine X4 ?_
 show wpAny _ _ (Builtin.Dict.updateFrom "dict.__init__" s.heap.objs.size (.ref o) [] .none) _ _ _
 unfold Builtin.Dict.updateFrom
 refine X3 (wpAny_typeOf (s:={ s with heap:=s.heap.push { cls:=.type "dict",data:=.dict #[] } }) mZ.typeIs ?_)
 rw [if_neg (by decide)]
 refine X3 ?_
 unfold Builtin.Dict.merge
 refine X3 ?_
 unfold Builtin.Dict.readDirectly
 refine X3 (ZE (s:={ s with heap:=s.heap.push { cls:=.type "dict",data:=.dict #[] } }) mZ.typeIs isSubtype_dict_dict ?_)
 simp only [Y8,Yu,YZ]
 refine X3 (aay (s:={ s with heap:=s.heap.push { cls:=.type "dict",data:=.dict #[] } }) mZ.typeIs F.slot_dict_iter.lookup (X4 ?_))
 simp only [beq_self_eq_true,Zw]
 refine X3 (X4 ?_)
 refine BS PB Qb IF mZ hh hsz fun h' wz Sq=>?_
 show wpAny _ _ (Builtin.Dict.addKeywords s.heap.objs.size [] >>= _) _ _ _
 exact X3 (X4 (X4 ⟨rfl,h h' wz Sq⟩))
end
def rX (P:Program) (w:World) (kvs:List (bM × V)):Prop:=(kvs.map fun p=>jt P w p.1).Nodup
theorem KS.keys {H:Hp} {kvs:List (bM × V)} {xs:List (bM × Addr × Value)} (r:KS H kvs xs) {β:Type} (f:bM->β):(xs.map fun x=>f x.1) = kvs.map fun p=>f p.1:=by
 induction r with
 | nil=>rfl
 | cons h _ ih=>rw [Yq,Yq,ih,h.1]
section
variable {X:Cx}
def Kv (X:Cx):List V->Hp->VK->Prop:=fun xs H Q=>∃ a kvs,xs = [.ref a] /\ DS X.prog X.w H a kvs /\ rX X.prog X.w kvs /\ ∀ p o,H p = none->DW X.prog X.w (upd H p o) p kvs->Q (.ref p) (upd H p o)
theorem yE:cK X (.type "dict") (Kv X):=by
 intro pins s σ H ys us Q I rs h
 obtain ⟨a,kvs,rfl,⟨hz,hd,xs,rd,r⟩,hh,q⟩:=h
 obtain ⟨u,rfl,ru⟩:=vals1 rs
 cases ru
 have pY:xs.length <= sizeLine:=by rw [<- Zl r]; exact hz
 refine sR hd (nD I.aW rd r) (by rw [r.keys]; exact hh) pY fun h' dd hs=>?_
 have kp:∀ b u,s.heap.get? b = some u->h'.get? b = some u:=fun b u e=>(hs.2 b (YB (Ym e))).trans (X5 _ e)
 have hn:H s.heap.objs.size = none:=I.aW.fresh (X7 _)
 have tp:∀ c ys,H c = some (.tup ys)->upd H s.heap.objs.size (kZ X.prog X.w s.heap.objs.size xs) c = some (.tup ys):=fun c ys ec=>by
  rw [am (ax ec hn)]; exact ec
 exact ⟨.ref s.heap.objs.size,_,I.laid (t':=s.toks) (o:=kZ X.prog X.w s.heap.objs.size xs) kp (X7 _) (nH dd),rfl,q _ _ hn ⟨hz,Zg.mpr (aag (YB I.Kn)),xs,ae,r.mono tp⟩⟩
end
def hI (g:List Int):Int:=reduceHash (Builtin.Tuple.tupleHashOf (g.map hashInt))
def hS (k:bM):Int:=reduceHash (Builtin.Tuple.tupleHashOf [hI k.1,hashInt k.2])
def subs:Nat->Nat->List (List Int)
 | 0,_=>[[]]
 | n + 1,m=>let r:=subs n (m + 1); r ++ r.map fun g=>(m:Int) :: g
def gc:List bM:=(subs 6 0).flatMap fun g=>[(g,0),(g,1)]
def zD:List Int->Bool
 | []=>true
 | x :: l=>!(l.contains x) && zD l
theorem uh:∀ {l:List Int},zD l = true->l.Nodup
 | [],_=>.nil
 | x :: l,h=>by
  unfold zD at h
  rw [YM] at h
  refine Ze.mpr ⟨fun hm=>?_,uh h.2⟩
  have:=h.1
  rw [List.contains_iff_mem.mpr hm] at this
  cases this
theorem En:(gc.map hS).Nodup:=uh (by decide +kernel)
theorem uf {α β:Type} {f:α->β}:∀ {l:List α},(l.map f).Nodup->∀ {x y:α},x ∈ l->y ∈ l->f x = f y->x = y
 | a :: l,nd,x,y,hx,hy,e=>by
  rw [Yq,Ze] at nd
  rcases Yb.mp hx with h1 | sS <;> rcases Yb.mp hy with h2 | gL
  ·rw [h1,h2]
  ·rw [h1] at e
   exact absurd (e ▸ Y0 gL) nd.1
  ·rw [h2] at e
   exact absurd (e ▸ Y0 sS) nd.1
  ·exact uf nd.2 sS gL e
theorem B7 {P:Program} {w:World} {kvs:List (bM × V)} (nd:(kvs.map (·.1)).Nodup) (h:∀ p ∈ kvs,p.1 ∈ gc):rX P w kvs:=by
 unfold rX
 have e:(kvs.map fun p=>jt P w p.1) = (kvs.map (·.1)).map hS:=by rw [YQ]; rfl
 rw [e]
 refine List.Pairwise.map _ (R:=fun x y=>x ∈ gc /\ y ∈ gc /\ x ≠ y) (fun x y q z=>q.2.2 (uf En q.1 q.2.1 z)) ?_
 refine ZH (fun {x y} hx hy oE=>?_) nd
 obtain ⟨p,hp,rfl⟩:=YI.mp hx
 obtain ⟨q,hq,rfl⟩:=YI.mp hy
 exact ⟨h p hp,h q hq,oE⟩
section
variable {X:Cx} {k v:Expr} {tk tv:TE} {pos:Pos}
def Kl (X:Cx) (tk tv:TE):TE:=fun σ H Q=>∀ p o,H p = none->DW X.prog X.w (upd H p o) p []->tk σ (upd H p o) fun x H1=>tv σ H1 fun y H2 =>
 ∃ b k,x = .ref b /\ lj H2 k b /\ DW X.prog X.w H2 p [] /\ ∀ o',DW X.prog X.w (upd H2 p o') p [(k,y)]->Q (.ref p) (upd H2 p o')
theorem Ek (hu:X.A.units + 64 < cLine) (hk:PE X k tk) (hv:PE X v tv):PE X (.Dict [some k] [v] pos) (Kl X tk tv):=by
 intro pins s σ H Q I q
 have hn:=I.aW.fresh (X7 s.heap.objs.size)
 have I1:=I.laid (a:=s.heap.objs.size) (o:=kZ X.prog X.w s.heap.objs.size []) (h':=s.heap.push { cls:=.type "dict",data:=.dict #[] }) (t':=s.toks) (fun _ _ q=>X5 _ q) (X7 _) (nH (Heap.DictOfH.new s.heap))
 have hb:(s.heap.objs.size == sysModules) = false:=Zg.mpr (aag (YB I.Kn))
 refine wpAny_Dict_any rfl rfl (by simp) (by simp) ?_
 refine pairTrees_cons_walk (bT (hk pins _ σ _ _ I1 (q _ _ hn ⟨YD _,hb,[],ae,.nil⟩)) fun u s1 ⟨x,H1,I2,rx,q1⟩=>bT (hv pins s1 σ H1 _ I2 q1) fun w2 s2 ⟨y,H2,I3,ry,b,kk,ex,ka,⟨_,_,xs,e,r⟩,q2⟩=>pairTrees_nil_walk ?_)
 subst ex
 cases rx
 cases r
 unfold storeAll
 rw [Zq]
 refine X3 (X3 (wpAny_dictSet_heap (knd:=a7 X.prog X.w) (hsz:=YD _) (show X.A.units + 8 < cLine by omega) (ka.is I3.aW) (nD I3.aW (.inl e) .nil) fun h' Mu hs=>X4 ?_))
 dsimp only
 rw [aaj]
 have tp:∀ c ys,H2 c = some (.tup ys)->upd H2 s.heap.objs.size (kZ X.prog X.w s.heap.objs.size (storedH [] kk b w2)) c = some (.tup ys):=fun c ys ec=>by
  rw [am (fe ec e (fun z=>nomatch z))]; exact ec
 have he:∃ q,h'.get? s.heap.objs.size = some q:=let ⟨q,_,_,hq,_⟩:=Mu; ⟨q,hq⟩
 refine X4 ⟨.ref s.heap.objs.size,_,I3.write (x:=s.heap.objs.size) (e:=s.heap.objs.size) (o:=kZ X.prog X.w s.heap.objs.size (storedH [] kk b w2)) (by rw [e]; exact Z7) (.inl rfl) (fun b q hb z=>(hs.2 b hb).trans z) he (nH Mu),rfl,
  q2 _ ⟨by rw [ZQ]; simp,hb,_,ae,?_⟩⟩
 exact KS.mono tp ((show KS H2 [] [] from .nil).put kk ka ry)
def M5 (X:Cx) (td:TE) (t:TA):TE:=fun σ H Q=>td σ H fun x H1=>(∃ a kvs,x = .ref a /\ DS X.prog X.w H1 a kvs) /\ t σ H1 fun xs H2=>HE X x xs H2 Q
variable {o e:Expr} {to:TE} {t:TA} {apos dM:Pos}
theorem Gi (hu:X.A.units + 64 < cLine) (ho:PE X o to) (ha:PA X [e] t)
  (mK:attributeBase o "get" X.env (eval o X.env) = eval o X.env:=by rfl)
  (Db:((backTo dM (starEach [e] X.env)).all (fun x=>!x.1) && (backToKw dM (keywordEach [] X.env)).all (fun x=>x.1.isSome)
   && decide (([e]:List Expr).length + ([]:List Keyword).length + (if ([]:List Keyword).isEmpty then 0 else 1) < 30)) = true:=by rfl)
  (nY:(apos.endLine == dM.line) = true:=by rfl) (hs:starEach [e] X.env = (false,eval e X.env) :: starEach [] X.env:=by rfl) (ma:(backTo dM (starEach [] X.env)).any (·.1) = false:=by rfl) :
  PE X (.Call (.Attribute o "get" apos) [e] [] dM) (M5 X to t):=by
 intro pins s σ H Q I h
 refine wpAny_Call_method_late mK Db nY rfl (bT (ho pins s σ H _ I h) fun v s1 ⟨x,H1,I1,r1,⟨a,kvs,ex,d⟩,q1⟩=>?_)
 subst ex
 cases r1
 obtain ⟨_,_,xs,rd,r⟩:=d
 have dd:=nD I1.aW rd r
 refine ⟨"dict","dict.get",PySem.F.plainAttrs_dict,PySem.F.slot_dict_get,PySem.F.type_dict_get,dd.typeIs,fun b eb=>?_,?_⟩
 ·cases eb
  obtain ⟨ob,_,_,h1,h2,_⟩:=dd
  exact ⟨ob,h1,h2.2.1⟩
 have hA:=ha dM pins s1 σ H1 _ I1 q1
 rw [hs] at hA ⊢
 refine Calls.callWith_builtin (by show (false || (backTo dM (starEach [] X.env)).any (·.1)) = false; rw [ma] <;> rfl) (Calls.evalArgs_plain ?_)
 exact bT hA fun us s2 ⟨vs,H2,I2,r2,q2⟩=>FE hu pins s2 σ H2 (.ref a) vs _ us Q I2 rfl r2 q2
theorem uD {p p2 QP:Pos} {x:Str} {f:Addr} {t:TA} (hu:X.A.units + 64 < cLine) (hg:Gl X "sorted") (hm:X.mg "sorted" = none) (WZ:Gl X x) (Vg:X.mg x = some (.ref f)) (ha:PA X [e] t) (su:(x == ("__debug__":Str)) = false:=by decide) (he:starEach [e] X.env = [(false,eval e X.env)]:=by rfl) :
  PE X (.Call (.Name "sorted" p) [e] [⟨some "key",.Name x p2,QP⟩] pos) (PM (AQ X f) t):=by
 intro pins s σ H Q I h
 refine aaD (oB I hg hm boot_sorted ?_)
 refine callWith_kw (bT (ha pos pins s σ H _ I h) fun us s1 ⟨vs,H1,I1,r1,q1⟩=>?_) (by rw [he]; rfl) (by rw [he]; rfl)
 show wpAny _ _ (evalAll [do let v <- eval (.Name x p2) X.env; standAt pos; pure v]) _ _ _
 refine wpAny_evalAll_cons (X3 (mE I1 WZ Vg (X3 (wpAny_standAt (X4 ?_))) su))
 exact wpAny_evalAll_nil (BO (by show X.A.units + 1 + 1 < cLine; omega) I1 r1 q1)
end
def oj (h:Heap) (d:Addr) (es:Array DictEntry) (ep:Nat):Prop:=∃ o,h.get? d = some o /\ o.ExactDict /\ o.data = .dict es ep
theorem oj.typeIs {s:Shared} {d:Addr} {es:Array DictEntry} {ep:Nat} (x:oj s.heap d es ep):s.TypeIs (.ref d) "dict":=let ⟨o,ho,hc,_⟩:=x; ⟨o,ho,hc.1⟩
theorem oj.keep {h h':Heap} {d:Addr} {es:Array DictEntry} {ep:Nat} (x:oj h d es ep) (k:∀ b o,h.get? b = some o->h'.get? b = some o):oj h' d es ep:=let ⟨o,ho,r⟩:=x; ⟨o,k _ _ ho,r⟩
section
variable {prog:Program} {w:World} {A:Around} {E:Value->Shared->Prop} {s:Shared} {es:Array DictEntry} {e:DictEntry} {d it v:Addr} {i ep:Nat} {ok ov:Value}
theorem Ip:Builtin.Dict_items.ownsTuple "dict_keyiterator" = false:=by decide
theorem EA:Builtin.Dict_items.ownsTuple "dict_itemiterator" = true:=by decide
theorem Ea {Q:Value->Shared->Prop} (hd:(d == sysModules) = false) (x:oj s.heap d es ep)
  (q:Q (.ref s.heap.objs.size) { s with heap:=s.heap.push { cls:=.type "dict_keyiterator",data:=.fields #[.ref d,.int 0 0,.int es.size 0,.int ep 0] } }):wpAny (model prog w) A (pyIter (.ref d)) Q E s:=by
 have ty:=x.typeIs
 obtain ⟨o,ho,_,Fe⟩:=x
 refine wpAny_pyIter_slot ty F.slot_dict_iter (YL F.slot_dict_iter ty F.entry_dict_iter ?_ (F.args_dict_iter_1 _))
 unfold Builtin.«dict.__iter__» Builtin.Dict.dictSlotNone
 refine X3 ?_; refine X3 (wpAny_notOrdered_dict ty ?_)
 show wpAny _ _ (pure (Value.ref d)) _ _ s
 refine X4 ?_
 show wpAny _ _ (Builtin.Dict.showsAll d >>= _) _ _ s
 unfold Builtin.Dict.showsAll
 rw [hd,if_neg Yc]
 refine X3 (X4 (X3 (Y1 ho Fe (X3 (ZM ho Fe ?_)))))
 refine X3 (YR (X4 ⟨_,rfl,"dict_keyiterator",_,⟨_,Yg _ rfl,rfl⟩,ZP.lookup,?_⟩))
 exact q
theorem Dg {Q:Option Value->Shared->Prop} (st:s.heap.IsKeyIter it d i es.size ep) (x:oj s.heap d es ep) (hx:es[i]? = some e)
  (q:∀ h',h'.IsKeyIter it d (i + 1) es.size ep->Heap.SameBut it s.heap h'->Q (some e.key) { s with heap:=h' }):wpAny (model prog w) A (pyNext (.ref it)) Q E s:=by
 obtain ⟨o,ho,hc,hf⟩:=id st
 obtain ⟨od,yx,_,xK⟩:=x
 obtain ⟨fT,rfl⟩:=Array.getElem?_eq_some_iff.mp hx
 have aB:(s.heap.update it (Obj.mapFields (·.setIfInBounds 1 (rawInt ((i:Int) + 1))))).IsKeyIter it d (i + 1) es.size ep :=
  ⟨_,Heap.get?_update_self _ ho (Obj.isFreed_of_fields (Obj.data_mapFields hf _)),(Obj.cls_mapFields ..).trans hc,by rw [Obj.data_mapFields hf]; simp [rawInt]⟩
 unfold pyNext
 refine X3 (Z0 (Y3 (name:=Str.ofString "__next__") st.typeIs ZP (YL ZP st.typeIs F.entry_dict_keyiterator_next ?_ (F.args_dict_keyiterator_next_1 _))))
 refine X3 (X4 (X3 (X3 ?_)))
 refine X3 (Z6 st.typeIs (X4 ?_)); refine X3 (wpAny_fieldsOf ho hf ?_)
 simp only [Ip,Zw,Yu,YZ]; show wpAny _ _ (if (Value.ref d == Value.none) = true then _ else _) _ _ _
 rw [if_neg (show ¬ (Value.ref d == Value.none) = true from Yc)]
 refine X3 (X4 (X3 (Y1 yx xK ?_)))
 rw [if_neg (by simp)]
 refine X3 (X4 (X3 (ZM yx xK ?_)))
 rw [if_neg (by simp)]
 refine X4 ?_
 simp only [show ¬ ((i:Int) < 0) by omega,YZ,Za,Array.getElem?_eq_getElem fT]
 refine X3 ?_; refine X3 (Z6 st.typeIs (X4 ?_))
 refine X3 (wpAny_isOneOf_keyiter st.typeIs ?_)
 show wpAny _ _ (setField (.ref it) 1 (rawInt ((i:Int) + 1)) >>= _) _ _ s
 refine X3 (wpAny_setField ho hf (by simp) (X3 (Zk (X3 (wpAny_isOneOf_keyiter (s:={ s with heap:=s.heap.update it (Obj.mapFields (·.setIfInBounds 1 (rawInt ((i:Int) + 1)))) }) aB.typeIs ?_)))))
 show wpAny _ _ (pure es[i].key) _ _ _
 exact X4 (X4 ⟨_,rfl,X4 (q _ aB (Y6 ..))⟩)
theorem uZ {Q:Option Value->Shared->Prop} (hh:A.handled = none) (st:s.heap.IsKeyIter it d i es.size ep) (x:oj s.heap d es ep) (hx:es.size <= i)
  (q:∀ h',Heap.ExtBut it s.heap h'->Q none { s with heap:=h' }):wpAny (model prog w) A (pyNext (.ref it)) Q E s:=by
 obtain ⟨o,ho,hc,hf⟩:=id st
 obtain ⟨od,yx,_,xK⟩:=x
 unfold pyNext
 refine X3 (Z0 (Y3 (name:=Str.ofString "__next__") st.typeIs ZP (YL ZP st.typeIs F.entry_dict_keyiterator_next ?_ (F.args_dict_keyiterator_next_1 _))))
 refine X3 (X4 (X3 (X3 ?_)))
 refine X3 (Z6 st.typeIs (X4 ?_)); refine X3 (wpAny_fieldsOf ho hf ?_)
 simp only [Ip,Zw,Yu,YZ]; show wpAny _ _ (if (Value.ref d == Value.none) = true then _ else _) _ _ _
 rw [if_neg (show ¬ (Value.ref d == Value.none) = true from Yc)]
 refine X3 (X4 (X3 (Y1 yx xK ?_)))
 rw [if_neg (by simp)]
 refine X3 (X4 (X3 (ZM yx xK ?_)))
 rw [if_neg (by simp)]
 refine X4 ?_
 simp only [show ¬ ((i:Int) < 0) by omega,YZ,Za,Array.getElem?_eq_none hx]
 refine X3 ?_; refine X3 (Z6 st.typeIs (X4 ?_))
 show wpAny _ _ (setField (.ref it) 0 .none >>= _) _ _ s
 refine X3 (wpAny_setField ho hf (by simp) ?_)
 show wpAny _ _ (newExc (.type "StopIteration") [] >>= _) _ _ _; refine X3 ?_
 simp only [newExc,newTuple]; refine X3 (YR ?_ (by size_fits))
 refine X3 (m:=firstArgMember _ _) (wpAny_of_eq (a:=Value.none) (by first | rfl | (simp only [firstArgMember]; rfl)) (YR ?_ (by size_fits)))
 simp only [raiseNew]; refine X3 (wpAny_handled ?_); rw [(show A.in1.handled = none from hh)]
 refine X3 (X4 (wpAny_throw ?_))
 refine X3 (ZE (T:="StopIteration") (b:=true) ⟨_,Yg _ rfl,rfl⟩ isSubtype_stop ?_)
 exact X4 (q _ (((Y6 ..).extBut.push _).push _))
theorem BA (hd:(d == sysModules) = false) {Q:Value->Shared->Prop} (x:oj s.heap d es ep) (q:Q (.ref s.heap.objs.size) { s with heap:=s.heap.push { cls:=.type "dict_items",data:=.fields #[.ref d] } }) :
  wpAny (model prog w) A (call (.builtin "dict.items") [.ref d]) Q E s:=by
 have ty:=x.typeIs
 refine YL F.slot_dict_items ty F.entry_dict_items ?_ (F.args_dict_items_1 _)
 unfold Builtin.«dict.items» Builtin.Dict.noArgs
 refine X3 ?_; refine X3 (wpAny_notOrdered_dict ty ?_)
 show wpAny _ _ (pure d) _ _ s
 refine X4 ?_
 show wpAny _ _ (Builtin.Dict.showsAll d >>= _) _ _ s
 unfold Builtin.Dict.showsAll
 rw [hd,if_neg Yc]
 exact X3 (X4 (X3 (YR (X4 ⟨_,rfl,q⟩))))
theorem qZ {Q:Value->Shared->Prop} (hv:s.heap.IsItemsView v d) (x:oj s.heap d es ep)
  (q:Q (.ref s.heap.objs.size) { s with heap:=s.heap.push { cls:=.type "dict_itemiterator",data:=.fields #[.none,.bool false,.ref d,.int 0 0,.int es.size 0,.int ep 0,.none,.none] } }):wpAny (model prog w) A (pyIter (.ref v)) Q E s:=by
 have ty:=hv.typeIs
 obtain ⟨o1,h1,_,h2⟩:=hv
 obtain ⟨o,ho,_,Fe⟩:=x
 refine wpAny_pyIter_slot ty F.slot_dict_items_iter (YL F.slot_dict_items_iter ty F.entry_dict_items_iter ?_ (F.args_dict_items_iter_1 _))
 unfold Builtin.«dict_items.__iter__» Builtin.Dict_items.dictOf Builtin.Dict_items.newIterator
 refine X3 (X4 ?_); refine X3 ?_
 refine X3 (Zb h1 h2 (x:=.ref d) rfl (X4 ?_))
 refine X3 ?_; refine X3 (Y1 ho Fe (X3 (ZM ho Fe ?_)))
 simp only [EA,Zw]
 refine YR (X4 ⟨_,rfl,"dict_itemiterator",_,⟨_,Yg _ rfl,rfl⟩,ZK.lookup,?_⟩)
  (by simp only [sizeOk,Builtin.Dict_items.ownedTupleFields,Yk,Yx,YW,List.length_nil,ZQ]; omega)
 exact q
theorem DC {k v:Value} {n:Nat} {Q:Value->Shared->Prop} (st:IsItemIter s.heap it d i n ep ok ov)
  (q:∀ h',IsItemIterOut h' it d i n ep k v s.heap.objs.size->h'.get? s.heap.objs.size = some { cls:=.type "tuple",data:=.seq #[k,v] }->(∀ b o,b ≠ it->s.heap.get? b = some o->h'.get? b = some o)->Q (.ref s.heap.objs.size) { s with heap:=h' }) :
  wpAny (model prog w) A (Builtin.Dict_items.pairFromOwner (.ref it) 6 k v) Q E s:=by
 obtain ⟨hp,g,dr,tk,os⟩:=s
 have lt:it < hp.objs.size:=Ym st
 unfold Builtin.Dict_items.pairFromOwner
 refine X3 (wpAny_newTuple ?_)
 have e2:IsItemIter (hp.push { cls:=.type "tuple",data:=.seq #[k,v] }) it d i n ep ok ov:=X5 _ st
 have t2:(hp.push { cls:=.type "tuple",data:=.seq #[k,v] }).get? hp.objs.size = some { cls:=.type "tuple",data:=.seq #[k,v] }:=Yg _ rfl
 have k2:∀ b o,b ≠ it->hp.get? b = some o->(hp.push { cls:=.type "tuple",data:=.seq #[k,v] }).get? b = some o:=fun b o _ z=>X5 _ z
 generalize hp.push { cls:=.type "tuple",data:=.seq #[k,v] } = h2 at e2 t2 k2
 show wpAny _ _ (Builtin.Dict_items.ownedTupleIsFree (.ref it) >>= _) _ _ ⟨h2,g,dr,tk,os⟩
 refine X3 ?_
 unfold Builtin.Dict_items.ownedTupleIsFree
 refine X3 (Zb e2 rfl (x:=.none) rfl (X4 ?_))
 simp only [Zw]
 refine X3 (Zb e2 rfl (x:=ok) rfl (X3 (Zb e2 rfl (x:=ov) rfl ?_)))
 refine X3 (Zd e2 (by simp) fun h3 e3 s3=>?_)
 have s3:Heap.SameBut it h2 h3:=s3
 have e3:IsItemIter h3 it d i n ep k ov:=e3
 refine X3 (Zd e3 (by simp) fun h4 e4 s4=>?_)
 have s4:Heap.SameBut it h3 h4:=s4
 have e4:IsItemIter h4 it d i n ep k v:=e4
 refine X3 (Zd e4 (by simp) fun h5 e5 s5=>?_)
 have s5:Heap.SameBut it h4 h5:=s5
 have e5:IsItemIterOut h5 it d i n ep k v hp.objs.size:=e5
 refine X3 (Zd e5 (by simp) fun h6 e6 s6=>?_)
 have s6:Heap.SameBut it h5 h6:=s6
 have e6:IsItemIterOut h6 it d i n ep k v hp.objs.size:=e6
 have k6:∀ b o,b ≠ it->h2.get? b = some o->h6.get? b = some o:=fun b o hb z=>s6.extBut b o hb (s5.extBut b o hb (s4.extBut b o hb (s3.extBut b o hb z)))
 exact X3 (wpAny_letGo (X4 (q h6 e6 (k6 _ _ (aam lt) t2) fun b o hb z=>k6 b o hb (k2 b o hb z))))
theorem qI {Q:Option Value->Shared->Prop} (st:IsItemIter s.heap it d i es.size ep ok ov) (x:oj s.heap d es ep) (hx:es[i]? = some e)
  (q:∀ h',IsItemIterOut h' it d (i + 1) es.size ep e.key e.val s.heap.objs.size->h'.get? s.heap.objs.size = some { cls:=.type "tuple",data:=.seq #[e.key,e.val] } ->
   (∀ b o,b ≠ it->s.heap.get? b = some o->h'.get? b = some o)->Q (some (.ref s.heap.objs.size)) { s with heap:=h' }):wpAny (model prog w) A (pyNext (.ref it)) Q E s:=by
 obtain ⟨hp,g,dr,tk,os⟩:=s
 obtain ⟨od,yx,_,xK⟩:=x
 obtain ⟨fT,rfl⟩:=Array.getElem?_eq_some_iff.mp hx
 have ty:Shared.TypeIs ⟨hp,g,dr,tk,os⟩ (.ref it) "dict_itemiterator":=⟨_,st,rfl⟩
 unfold pyNext
 refine X3 (Z0 (Y3 (name:=Str.ofString "__next__") ty ZK (YL ZK ty F.entry_dict_itemiterator_next ?_ (F.args_dict_itemiterator_next_1 _))))
 refine X3 (X4 (X3 (X3 ?_)))
 refine X3 (Z5 ty (X4 ?_)); refine X3 (wpAny_fieldsOf st rfl ?_)
 simp only [EA,Zw,Yu,YZ]; show wpAny _ _ (if (Value.ref d == Value.none) = true then _ else _) _ _ _
 rw [if_neg (show ¬ (Value.ref d == Value.none) = true from Yc)]
 refine X3 (X4 (X3 (Y1 yx xK ?_)))
 rw [if_neg (by simp)]
 refine X3 (X4 (X3 (ZM yx xK ?_)))
 rw [if_neg (by simp)]
 refine X4 ?_
 simp only [show ¬ ((i:Int) < 0) by omega,YZ,Za,Array.getElem?_eq_getElem fT]
 refine X3 ?_; refine X3 (Z5 ty (X4 ?_))
 refine X3 (wpAny_isOneOf_itemiter ty ?_)
 show wpAny _ _ (setField (.ref it) 3 (rawInt ((i:Int) + 1)) >>= _) _ _ ⟨hp,g,dr,tk,os⟩
 refine X3 (Zd st (by simp) fun h1 e1 s1=>?_)
 have s1:Heap.SameBut it hp h1:=s1
 have e1:IsItemIter h1 it d (i + 1) es.size ep ok ov:=by
  have z:((i + 1:Nat):Int) = (i:Int) + 1:=by omega
  unfold IsItemIter; rw [z]; simpa [rawInt] using e1
 have Rg:Shared.TypeIs ⟨h1,g,dr,tk,os⟩ (.ref it) "dict_itemiterator":=⟨_,e1,rfl⟩
 refine X3 (Zk (X3 (wpAny_isOneOf_itemiter Rg (X3 (wpAny_isOneOf_itemiter Rg ?_)))))
 show wpAny _ _ (Builtin.Dict_items.pairFromOwner (.ref it) 6 es[i].key es[i].val) _ _ ⟨h1,g,dr,tk,os⟩
 refine DC (s:=⟨h1,g,dr,tk,os⟩) e1 fun h6 e6 t6 k6=>X4 ⟨_,rfl,X4 ?_⟩
 have z1:h1.objs.size = hp.objs.size:=s1.1
 have e6:IsItemIterOut h6 it d (i + 1) es.size ep es[i].key es[i].val h1.objs.size:=e6
 have t6:h6.get? h1.objs.size = some { cls:=.type "tuple",data:=.seq #[es[i].key,es[i].val] }:=t6
 rw [z1] at e6 t6
 show Q (some (.ref h1.objs.size)) ⟨h6,g,dr,tk,os⟩
 rw [z1]
 exact q h6 e6 t6 fun b o hb z=>k6 b o hb (s1.extBut b o hb z)
theorem l5 {Q:Option Value->Shared->Prop} (hh:A.handled = none) (st:IsItemIter s.heap it d i es.size ep ok ov) (x:oj s.heap d es ep) (hx:es.size <= i)
  (q:∀ h',Heap.ExtBut it s.heap h'->Q none { s with heap:=h' }):wpAny (model prog w) A (pyNext (.ref it)) Q E s:=by
 obtain ⟨od,yx,_,xK⟩:=x
 have ty:s.TypeIs (.ref it) "dict_itemiterator":=⟨_,st,rfl⟩
 unfold pyNext
 refine X3 (Z0 (Y3 (name:=Str.ofString "__next__") ty ZK (YL ZK ty F.entry_dict_itemiterator_next ?_ (F.args_dict_itemiterator_next_1 _))))
 refine X3 (X4 (X3 (X3 ?_)))
 refine X3 (Z5 ty (X4 ?_)); refine X3 (wpAny_fieldsOf st rfl ?_)
 simp only [EA,Zw,Yu,YZ]; show wpAny _ _ (if (Value.ref d == Value.none) = true then _ else _) _ _ _
 rw [if_neg (show ¬ (Value.ref d == Value.none) = true from Yc)]
 refine X3 (X4 (X3 (Y1 yx xK ?_)))
 rw [if_neg (by simp)]
 refine X3 (X4 (X3 (ZM yx xK ?_)))
 rw [if_neg (by simp)]
 refine X4 ?_
 simp only [show ¬ ((i:Int) < 0) by omega,YZ,Za,Array.getElem?_eq_none hx]
 refine X3 ?_; refine X3 (Z5 ty (X4 ?_))
 show wpAny _ _ (setField (.ref it) 2 .none >>= _) _ _ s
 refine X3 (wpAny_setField st rfl (by simp) ?_)
 show wpAny _ _ (newExc (.type "StopIteration") [] >>= _) _ _ _; refine X3 ?_
 simp only [newExc,newTuple]; refine X3 (YR ?_ (by size_fits))
 refine X3 (m:=firstArgMember _ _) (wpAny_of_eq (a:=Value.none) (by first | rfl | (simp only [firstArgMember]; rfl)) (YR ?_ (by size_fits)))
 simp only [raiseNew]; refine X3 (wpAny_handled ?_); rw [(show A.in1.handled = none from hh)]
 refine X3 (X4 (wpAny_throw ?_))
 refine X3 (ZE (T:="StopIteration") (b:=true) ⟨_,Yg _ rfl,rfl⟩ isSubtype_stop ?_)
 exact X4 (q _ (((Y6 ..).extBut.push _).push _))
end
section
variable {X:Cx} {pins:List (Addr × Obj)} {σ:St} {H:Hp} {s:Shared} {h':Heap}
theorem Inv.Gb {t':Nat} {it p:Addr} {o:HO} (I:Inv X pins σ H s) (k:∀ b o,b ≠ it->s.heap.get? b = some o->h'.get? b = some o) (hn:H it = none) (hL:it ≠ X.env.locals)
  (h1:it ∈ X.ex \/ X.s₀.heap.objs.size <= it) (h2:∀ x c,X.env.cells.lookup x = some c->c ≠ it) (h3:∀ p ∈ X.pn ++ pins,p.1 ≠ it) (hp:s.heap.objs.size <= p) (new:cj X.prog X.w (upd H p o) h' p o) :
  Inv X pins σ (upd H p o) { s with heap:=h',toks:=t' }:=by
 have np:H p = none:=I.aW.fresh hp
 have Nt:∀ b u,H b = some u->b ≠ it:=fun b u e z=>by rw [z,hn] at e; cases e
 have na:∀ b u,s.heap.get? b = some u->b ≠ p:=fun b u e=>YB (YF (Ym e) hp)
 refine I.step (g':=s.gens) (d':=s.drawn) (ch:=[it]) (fun b hb=>?_) (fun b o _ _ hc e _=>k b o (fun z=>hc (by simp [z])) e) (fun b o _ _ hc e _=>⟨o.slots,k b o (fun z=>hc (by simp [z])) e⟩)
  (fun b u _ e n=>by rw [am (na b u e)]; exact n) (fun b o hc e=>⟨o,k b o (fun z=>hc (by simp [z])) e⟩) (fun b xs e=>by rw [am (ax e np)]; exact e) (fun b o' u e=>by rw [am (ax e np)]; exact e)
  (fun b ps e=>⟨#[],by rw [am (ax e np),e]; simp⟩) (fun m hm=>?_) (fun b u e=>?_) I.bare
 ·have e:b = it:=by simpa using hb
  subst e
  exact ⟨h1,hL,h2,h3⟩
 ·obtain ⟨o,es,ep,ho,r⟩:=hm
  exact ⟨o,es,ep,k _ o (aag hL) ho,r⟩
 ·by_cases hb:b = p
  ·subst hb; rw [ae] at e; cases e; exact new
  ·rw [am hb] at e
   refine (I.aW b u e).lT (fun c v hc q=>k c v ?_ q) (fun c q=>by rw [am (ax q np)]; exact q) fun c xs q=>by rw [am (ax q np)]; exact q
   rcases hc with z | z
   ·rw [z]; exact Nt b u e
   ·exact Nt c _ z
end
abbrev j4 (P:Program) (w:World) (o:Obj) (d:Addr) (xs:List (bM × Addr × Value)):HO:=.yA o (kZ P w d xs)
theorem kE {P:Program} {w:World} {H:Hp} {h:Heap} {o:Obj} {d:Addr} {xs:List (bM × Addr × Value)} (ok:jO P w H h) (e:H d = some (j4 P w o d xs)):∃ es ep,o.data = .dict es ep /\ oj h d es ep /\ es.toList = xs.map (entryOfKey (a7 P w)):=by
 obtain ⟨h1,⟨o',es,ep,h2,h3,h4,h5,_⟩,_⟩:=(show cj P w H h d (j4 P w o d xs) from ok d _ e)
 rw [h1] at h2; cases h2
 exact ⟨es,ep,h4,⟨o,h1,h3,h4⟩,h5⟩
def Jd (P:Program) (w:World) (o:Obj) (d:Addr) (xs:List (bM × Addr × Value)):It :=
 ⟨fun i H=>H d = some (j4 P w o d xs) /\ i < xs.length,fun i H x H'=>H' = H /\ ∃ k b v,xs[i]? = some (k,b,v) /\ x = .ref b,fun i H=>H d = some (j4 P w o d xs) /\ xs.length <= i⟩
def KP (P:Program) (w:World) (o:Obj) (d:Addr) (xs:List (bM × Addr × Value)) (vs:List V):It :=
 ⟨fun i H=>H d = some (j4 P w o d xs) /\ i < xs.length,fun i H x H'=>∃ k b v y p,xs[i]? = some (k,b,v) /\ vs[i]? = some y /\ x = .ref p /\ H p = none /\ H' = upd H p (.tup [.ref b,y]),fun i H=>H d = some (j4 P w o d xs) /\ xs.length <= i⟩
theorem Bk {P:Program} {w:World} {K:aaG} {tg:Expr} (o:Obj) (d it:Addr) (xs:List (bM × Addr × Value)):Turn P w K tg (Jd P w o d xs) [it] it (fun i h=>∃ es ep,o.data = .dict es ep /\ h.IsKeyIter it d i es.size ep) where
 mem:=by simp
 obj:=fun i h st b hb=>by
  have e:b = it:=by simpa using hb
  subst e
  obtain ⟨es,ep,_,o',e,c,dd⟩:=st
  exact ⟨o',e,fun v z=>by rw [dd] at z; cases z⟩
 keep:=fun i h h' ⟨es,ep,e,st⟩ k=>⟨es,ep,e,st.at fun o e=>k it (by simp) o e⟩
 item:=by
  intro X hP hw hK hc i pins s σ H E I hf st hg
  subst hP hw hK
  obtain ⟨hd,hi⟩:=hg
  obtain ⟨es,ep,e1,raw,el⟩:=kE I.aW hd
  obtain ⟨Cy,CL,e2,st⟩:=st
  rw [e1] at e2
  injection e2 with e3 e4
  subst e3 e4
  obtain ⟨⟨k,b,v⟩,hx⟩:∃ x,xs[i]? = some x:=⟨_,Ya hi⟩
  have he:es[i]? = some (entryOfKey (a7 X.prog X.w) (k,b,v)):=by rw [entry_at el,hx]; rfl
  obtain ⟨f0,f1,f2,f3,f4,f5⟩:=hf it (by simp)
  refine Dg st raw he fun h' aB sb=>⟨_,rfl,?_⟩
  have I1:Inv X pins σ H { s with heap:=h' }:=I.turned (t':=s.toks) (fun b o hb e=>(sb.2 b hb).trans e) f0 f1 f3 f4 f5
  obtain ⟨o',e,c,dd⟩:=id aB
  exact xj (s:={ s with heap:=h' }) e c dd (by decide) ⟨.ref b,H,I1,rfl,⟨rfl,k,b,v,hx,rfl⟩,⟨es,ep,e1,aB⟩,fun b hb=>(hf b hb).1⟩
 done:=by
  intro X hP hw hK hc i pins s σ H E I hf st hg
  subst hP hw hK
  obtain ⟨hd,hi⟩:=hg
  obtain ⟨es,ep,e1,raw,el⟩:=kE I.aW hd
  obtain ⟨Cy,CL,e2,st⟩:=st
  rw [e1] at e2
  injection e2 with e3 e4
  subst e3 e4
  obtain ⟨f0,f1,f2,f3,f4,f5⟩:=hf it (by simp)
  exact uZ (I.ok.hd hc) st raw (by rw [aaz el]; exact hi) fun h' eb=>⟨rfl,I.turned (t':=s.toks) (fun b o hb e=>eb b o hb e) f0 f1 f3 f4 f5⟩
 self:=fun _ _ _ _ _ ⟨_,_,_,st⟩ h=>wpAny_pyIter_keyiter st h
theorem zy {P:Program} {w:World} {K:aaG} {elts:List Expr} {x1} {pos:Pos} (o:Obj) (d it:Addr) (xs:List (bM × Addr × Value)) (vs:List V) (rv:Paired (fun (x:bM × Addr × Value) (y:V)=>RelV y x.2.2) xs vs) :
  Turn P w K (.Tuple elts x1 pos) (KP P w o d xs vs) [it] it (fun i h=>∃ es ep ok ov,o.data = .dict es ep /\ IsItemIter h it d i es.size ep ok ov) where
 mem:=by simp
 obj:=fun i h st b hb=>by
  have e:b = it:=by simpa using hb
  subst e
  obtain ⟨es,ep,ok,ov,_,st⟩:=st
  exact ⟨_,st,fun v z=>by cases z⟩
 keep:=fun i h h' ⟨es,ep,ok,ov,e,st⟩ k=>⟨es,ep,ok,ov,e,k it (by simp) _ st⟩
 item:=by
  intro X hP hw hK hc i pins s σ H E I hf st hg
  subst hP hw hK
  obtain ⟨hd,hi⟩:=hg
  obtain ⟨es,ep,e1,raw,el⟩:=kE I.aW hd
  obtain ⟨Cy,CL,ok,ov,e2,st⟩:=st
  rw [e1] at e2
  injection e2 with e3 e4
  subst e3 e4
  obtain ⟨⟨k,b,v⟩,hx⟩:∃ x,xs[i]? = some x:=⟨_,Ya hi⟩
  obtain ⟨y,hy,ry⟩:∃ y,vs[i]? = some y /\ RelV y v:=by
   have hl:=Zl rv
   have:∀ {xs:List (bM × Addr × Value)} {vs:List V} {i:Nat} {x:bM × Addr × Value},Paired (fun (x:bM × Addr × Value) (y:V)=>RelV y x.2.2) xs vs->xs[i]? = some x->∃ y,vs[i]? = some y /\ RelV y x.2.2:=by
    intro xs vs i x r
    induction r generalizing i with
    | nil=>intro e; simp at e
    | cons h _ ih =>
     intro e
     cases i with
     | zero=>simp at e; subst e; exact ⟨_,rfl,h⟩
     | succ i=>obtain ⟨y,h1,h2⟩:=ih (i:=i) (by simpa using e); exact ⟨y,by simpa using h1,h2⟩
   exact this rv hx
  have he:es[i]? = some (entryOfKey (a7 X.prog X.w) (k,b,v)):=by rw [entry_at el,hx]; rfl
  obtain ⟨f0,f1,f2,f3,f4,f5⟩:=hf it (by simp)
  refine qI st raw he fun h' aB tu kp=>⟨_,rfl,?_⟩
  refine wpAny_letOwnedTupleGo_items (s:={ s with heap:=h' }) aB fun Ow bI sb=>?_
  have R4:it ≠ s.heap.objs.size:=YB (Ym st)
  have Tw:Ow.get? s.heap.objs.size = some { cls:=.type "tuple",data:=.seq #[Value.ref b,v] }:=(sb.2 _ (aag R4)).trans tu
  have np:H s.heap.objs.size = none:=I.aW.fresh (X7 _)
  have I1:Inv X pins σ (upd H s.heap.objs.size (.tup [.ref b,y])) { s with heap:=Ow }:=I.Gb (t':=s.toks) (fun b o hb e=>(sb.2 b hb).trans (kp b o hb e)) f0 f1 f3 f4 f5 (X7 _)
   ⟨by rw [ZQ]; simp,[Value.ref b,v],.cons rfl (.cons ry .nil),_,Tw,rfl,_,rfl⟩
  exact ⟨.ref s.heap.objs.size,_,I1,rfl,⟨k,b,v,y,_,hx,hy,rfl,np,rfl⟩,⟨es,ep,_,_,e1,bI⟩,fun c hc=>by
   have e:c = it:=by simpa using hc
   rw [e,am R4]; exact f0⟩
 done:=by
  intro X hP hw hK hc i pins s σ H E I hf st hg
  subst hP hw hK
  obtain ⟨hd,hi⟩:=hg
  obtain ⟨es,ep,e1,raw,el⟩:=kE I.aW hd
  obtain ⟨Cy,CL,ok,ov,e2,st⟩:=st
  rw [e1] at e2
  injection e2 with e3 e4
  subst e3 e4
  obtain ⟨f0,f1,f2,f3,f4,f5⟩:=hf it (by simp)
  exact l5 (I.ok.hd hc) st raw (by rw [aaz el]; exact hi) fun h' eb=>⟨rfl,I.turned (t':=s.toks) (fun b o hb e=>eb b o hb e) f0 f1 f3 f4 f5⟩
 self:=fun _ _ _ _ _ ⟨_,_,_,_,_,st⟩ h=>PySem.W.kcp_self st h
def DF (P:Program) (w:World) (H:Hp) (a:Addr) (kvs:List (bM × V)):Prop:=kvs.length <= sizeLine /\ (a == sysModules) = false /\ ∃ o xs,H a = some (j4 P w o a xs) /\ KS H kvs xs
section
variable {P:Program} {w:World} {H H':Hp} {a:Addr} {kvs:List (bM × V)}
theorem DF.ds (d:DF P w H a kvs):DS P w H a kvs:=let ⟨h1,h2,o,xs,h3,h4⟩:=d; ⟨h1,h2,xs,.inr ⟨o,h3⟩,h4⟩
theorem DF.mono (e:ao H H') (x:DF P w H a kvs):DF P w H' a kvs:=let ⟨h1,h2,o,xs,h3,h4⟩:=x; ⟨h1,h2,o,xs,e _ _ h3,h4.mono fun _ _=>e _ _⟩
theorem KS.get {xs:List (bM × Addr × Value)}:∀ {kvs:List (bM × V)} {i:Nat} {k:bM} {b:Addr} {v:Value},KS H kvs xs->xs[i]? = some (k,b,v)->∃ y,kvs[i]? = some (k,y) /\ lj H k b /\ RelV y v:=by
 intro kvs i k b v r
 induction r generalizing i with
 | nil=>intro e; simp at e
 | @cons p q _ _ h _ ih =>
  intro e
  cases i with
  | zero =>
   simp at e; subst e
   obtain ⟨h1,h2,h3⟩:=h
   obtain ⟨p1,p2⟩:=p
   have h1:p1 = k:=h1
   subst h1
   exact ⟨p2,rfl,h2,h3⟩
  | succ i =>
   obtain ⟨y,h1,h2⟩:=ih (i:=i) (by simpa using e)
   exact ⟨y,by simpa using h1,h2⟩
theorem KS.vals {xs:List (bM × Addr × Value)} (r:KS H kvs xs):Paired (fun (x:bM × Addr × Value) (y:V)=>RelV y x.2.2) xs (kvs.map (·.2)):=by
 induction r with
 | nil=>exact .nil
 | cons h _ ih=>exact .cons h.2.2 ih
end
section
variable {X:Cx} {tg l o:Expr} {tl to:TE} {apos dM pos:Pos}
def Mw (X:Cx) (tl:TE):TI:=fun σ H R=>tl σ H fun x H1=>∃ a o xs,x = .ref a /\ (a == sysModules) = false /\ H1 a = some (j4 X.prog X.w o a xs) /\ R (Jd X.prog X.w o a xs) H1
theorem GZ (hl:PE X l tl):PI X tg l (Mw X tl):=by
 intro pins s σ H R I h
 refine bT (hl pins s σ H _ I h) fun v s1 ⟨x,H1,I1,r1,q1⟩=>?_
 obtain ⟨a,o,xs,e,hd,hq,q⟩:=q1
 subst e
 cases r1
 obtain ⟨es,ep,e1,raw,el⟩:=kE I1.aW hq
 refine Ea hd raw ?_
 refine ⟨s1.heap.objs.size,[s1.heap.objs.size],_,_,H1,rfl,I1.kept (t':=s1.toks) fun b o e=>X5 _ e,Bk o a _ xs,⟨es,ep,e1,_,Yg _ rfl,rfl,rfl⟩,fun b hb=>?_,q⟩
 have e:b = s1.heap.objs.size:=by simpa using hb
 subst e
 exact I1.yV (X7 _) (I1.aW.fresh (X7 _))
def JG (X:Cx) (to:TE):TI:=fun σ H R=>to σ H fun x H1=>∃ a o xs vs,x = .ref a /\ (a == sysModules) = false /\ H1 a = some (j4 X.prog X.w o a xs) /\ Paired (fun (x:bM × Addr × Value) (y:V)=>RelV y x.2.2) xs vs /\ R (KP X.prog X.w o a xs vs) H1
theorem Ep {elts:List Expr} {x1} (ho:PE X o to) (mK:attributeBase o "items" X.env (eval o X.env) = eval o X.env:=by rfl) (nY:(apos.endLine == dM.line) = true:=by rfl) :
  PI X (.Tuple elts x1 pos) (.Call (.Attribute o "items" apos) [] [] dM) (JG X to):=by
 intro pins s σ H R I h
 refine wpAny_Call_method0_late mK nY (bT (ho pins s σ H _ I h) fun v s1 ⟨x,H1,I1,r1,q1⟩=>?_)
 obtain ⟨a,ob,xs,vs,e,hd,hq,rv,q⟩:=q1
 subst e
 cases r1
 obtain ⟨es,ep,e1,raw,el⟩:=kE I1.aW hq
 obtain ⟨o',mZ,ex,_⟩:=id raw
 refine ⟨"dict","dict.items",PySem.F.plainAttrs_dict,PySem.F.slot_dict_items,PySem.F.type_dict_items,raw.typeIs,fun b eb=>?_,?_⟩
 ·cases eb
  exact ⟨o',mZ,ex.2.1⟩
 refine Calls.callWith_builtin rfl (PySem.evalArgs_none (BA hd raw ?_))
 have I2:Inv X pins σ H1 { s1 with heap:=s1.heap.push { cls:=.type "dict_items",data:=.fields #[.ref a] } }:=I1.kept (t':=s1.toks) fun b o e=>X5 _ e
 refine qZ (s:={ s1 with heap:=s1.heap.push { cls:=.type "dict_items",data:=.fields #[.ref a] } }) ⟨_,Yg _ rfl,rfl,rfl⟩ (raw.keep fun b o e=>X5 _ e) ?_
 refine ⟨(s1.heap.push { cls:=.type "dict_items",data:=.fields #[.ref a] }).objs.size,[(s1.heap.push { cls:=.type "dict_items",data:=.fields #[.ref a] }).objs.size],_,_,H1,rfl,I2.kept (t':=s1.toks) fun b o e=>X5 _ e,zy ob a _ xs vs rv,⟨es,ep,.none,.none,e1,Yg _ rfl⟩,fun b hb=>?_,q⟩
 have e:b = (s1.heap.push { cls:=.type "dict_items",data:=.fields #[.ref a] }).objs.size:=by simpa using hb
 subst e
 exact I2.yV (X7 _) (I2.aW.fresh (X7 _))
def Pj (X:Cx) (te:TE):TE:=fun σ H Q=>te σ H fun x H1=>∃ a kvs,x = .ref a /\ DW X.prog X.w H1 a kvs /\ ∀ o,DF X.prog X.w (upd H1 a o) a kvs->Q x (upd H1 a o)
theorem Jn {e:Expr} {te:TE} (h:PE X e te):PE X e (Pj X te):=by
 intro pins s σ H Q I q
 refine bT (h pins s σ H _ I q) fun v s1 ⟨x,H1,I1,r1,a,kvs,ex,⟨z,hd,xs,e,r⟩,q1⟩=>?_
 subst ex
 have Sd:cj X.prog X.w H1 s1.heap a (kZ X.prog X.w a xs):=I1.aW a _ e
 obtain ⟨ob,pL⟩:=Sd.2.1
 have tp:∀ c ys,H1 c = some (.tup ys)->upd H1 a (j4 X.prog X.w ob a xs) c = some (.tup ys):=fun c ys ec=>by
  rw [am (fe ec e (fun z=>nomatch z))]; exact ec
 have I2:Inv X pins σ (upd H1 a (j4 X.prog X.w ob a xs)) s1:=I1.write (x:=a) (e:=a) (h':=s1.heap) (t':=s1.toks) (o:=j4 X.prog X.w ob a xs) (by rw [e]; exact Z7) (.inl rfl) (fun b u _ q=>q) ⟨ob,pL⟩ ⟨pL,Sd⟩
 exact ⟨.ref a,_,I2,r1,q1 _ ⟨z,hd,ob,xs,ae,r.mono tp⟩⟩
end
theorem M7 {P:Program} {w:World} {o:Obj} {d:Addr} {xs:List (bM × Addr × Value)} {kvs:List (bM × V)} {g:TG} {tb:TS} {D:Ends} {σ:St} {H:Hp} (Pv:Nat->St->Hp->Prop) (h0:Pv 0 σ H)
  (hl:∀ i σ H,i <= kvs.length->Pv i σ H->H d = some (j4 P w o d xs) /\ KS H kvs xs)
  (hs:∀ i k y b σ H,kvs[i]? = some (k,y)->lj H k b->Pv i σ H->g (.ref b) σ H fun σ2 H2=>tb { D with nx:=Pv (i + 1),ct:=Pv (i + 1),bk:=D.nx } σ2 H2) (hd:∀ σ H,Pv kvs.length σ H->D.nx σ H) :
  ∃ W:Nat->Nat->St->Hp->Prop,(∃ m,W 0 m σ H) /\ ∀ i m σ H,W i m σ H ->
   ((Jd P w o d xs).stop i H /\ D.nx σ H) \/ ((Jd P w o d xs).go i H /\ ∃ N:St->Hp->Prop,(∀ σ' H',N σ' H'->∃ m',m' < m /\ W (i + 1) m' σ' H') /\ ∀ x H',(Jd P w o d xs).Io i H x H'->g x σ H' fun σ2 H2=>tb { D with nx:=N,ct:=N,bk:=D.nx } σ2 H2):=by
 refine ⟨fun i m σ H=>m = kvs.length - i /\ i <= kvs.length /\ Pv i σ H,⟨kvs.length,by simp,YD _,h0⟩,?_⟩
 rintro i m σ H ⟨rfl,hi,p⟩
 obtain ⟨q,r⟩:=hl i σ H hi p
 have ln:kvs.length = xs.length:=Zl r
 by_cases fT:i < kvs.length
 ·refine .inr ⟨⟨q,by omega⟩,Pv (i + 1),fun σ' H' p'=>⟨kvs.length - (i + 1),by omega,rfl,fT,p'⟩,fun x H' y=>?_⟩
  obtain ⟨e,k,b,v,hx,e2⟩:=y
  subst e e2
  obtain ⟨y,hy,ka,_⟩:=r.get hx
  exact hs i k y b σ _ hy ka p
 ·have e:i = kvs.length:=by omega
  subst e
  exact .inl ⟨⟨q,by omega⟩,hd σ H p⟩
theorem Cm {P:Program} {w:World} {o:Obj} {d:Addr} {xs:List (bM × Addr × Value)} {kvs:List (bM × V)} {g:TG} {tb:TS} {D:Ends} {σ:St} {H:Hp} (Pv:Nat->St->Hp->Prop) (h0:Pv 0 σ H)
  (hl:∀ i σ H,i <= kvs.length->Pv i σ H->H d = some (j4 P w o d xs) /\ KS H kvs xs)
  (hs:∀ i k y b p σ H,kvs[i]? = some (k,y)->lj H k b->H p = none->Pv i σ H->g (.ref p) σ (upd H p (.tup [.ref b,y])) fun σ2 H2=>tb { D with nx:=Pv (i + 1),ct:=Pv (i + 1),bk:=D.nx } σ2 H2) (hd:∀ σ H,Pv kvs.length σ H->D.nx σ H) :
  ∃ W:Nat->Nat->St->Hp->Prop,(∃ m,W 0 m σ H) /\ ∀ i m σ H,W i m σ H ->
   ((KP P w o d xs (kvs.map (·.2))).stop i H /\ D.nx σ H) \/ ((KP P w o d xs (kvs.map (·.2))).go i H /\ ∃ N:St->Hp->Prop,(∀ σ' H',N σ' H'->∃ m',m' < m /\ W (i + 1) m' σ' H') /\ ∀ x H',(KP P w o d xs (kvs.map (·.2))).Io i H x H'->g x σ H' fun σ2 H2=>tb { D with nx:=N,ct:=N,bk:=D.nx } σ2 H2):=by
 refine ⟨fun i m σ H=>m = kvs.length - i /\ i <= kvs.length /\ Pv i σ H,⟨kvs.length,by simp,YD _,h0⟩,?_⟩
 rintro i m σ H ⟨rfl,hi,p⟩
 obtain ⟨q,r⟩:=hl i σ H hi p
 have ln:kvs.length = xs.length:=Zl r
 by_cases fT:i < kvs.length
 ·refine .inr ⟨⟨q,by omega⟩,Pv (i + 1),fun σ' H' p'=>⟨kvs.length - (i + 1),by omega,rfl,fT,p'⟩,fun x H' y=>?_⟩
  obtain ⟨k,b,v,y,pp,hx,hy,e1,hn,e2⟩:=y
  subst e1 e2
  obtain ⟨y',gL,ka,_⟩:=r.get hx
  rw [Yl,gL] at hy
  cases hy
  exact hs i k _ b pp σ H gL ka hn p
 ·have e:i = kvs.length:=by omega
  subst e
  exact .inl ⟨⟨q,by omega⟩,hd σ H p⟩
section
variable (P:Program) (w:World)
def PR (neg:Bool):R2:=fun y x H Q=>∃ a b k kvs,x = .ref a /\ y = .ref b /\ lj H k b /\ DS P w H a kvs /\ Q (.bl (if neg then !(cX kvs k).isSome else (cX kvs k).isSome)) H
def OZ:R2:=fun x y H Q=>∃ a b k kvs v,x = .ref a /\ y = .ref b /\ lj H k b /\ DS P w H a kvs /\ cX kvs k = some v /\ Q v H
def Lb:V->V->V->Hp->(Hp->Prop)->Prop:=fun o i v H Q=>∃ a b k kvs,o = .ref a /\ i = .ref b /\ lj H k b /\ DW P w H a kvs /\ kvs.length < sizeLine /\ ∀ o',DW P w (upd H a o') a (tj kvs k v)->Q (upd H a o')
def J0:TE:=fun _ H Q=>∀ p o,H p = none->DW P w (upd H p o) p []->Q (.ref p) (upd H p o)
def Gc (tk tv:TE):TE:=fun σ H Q=>∀ p o,H p = none->DW P w (upd H p o) p []->tk σ (upd H p o) fun x H1=>tv σ H1 fun y H2 =>
 ∃ b k,x = .ref b /\ lj H2 k b /\ DW P w H2 p [] /\ ∀ o',DW P w (upd H2 p o') p [(k,y)]->Q (.ref p) (upd H2 p o')
def Qd:R2:=fun x y H Q=>∃ a b f g,x = .ref a /\ y = .ref b /\ DS P w H a (iv f) /\ DS P w H b (iv g) /\ Q (.bl (!HB f g)) H
def Km:List V->Hp->VK->Prop:=fun xs H Q=>∃ a kvs,xs = [.ref a] /\ DS P w H a kvs /\ rX P w kvs /\ ∀ p o,H p = none->DW P w (upd H p o) p kvs->Q (.ref p) (upd H p o)
def MO:V->List V->Hp->VK->Prop:=fun x ys H Q=>∃ a b k kvs,x = .ref a /\ ys = [.ref b] /\ lj H k b /\ DS P w H a kvs /\ Q ((cX kvs k).getD .cP) H
def LL (td:TE) (t:TA):TE:=fun σ H Q=>td σ H fun x H1=>(∃ a kvs,x = .ref a /\ DS P w H1 a kvs) /\ t σ H1 fun xs H2=>MO P w x xs H2 Q
def KB (tl:TE):TI:=fun σ H R=>tl σ H fun x H1=>∃ a o xs,x = .ref a /\ (a == sysModules) = false /\ H1 a = some (j4 P w o a xs) /\ R (Jd P w o a xs) H1
def G7 (to:TE):TI:=fun σ H R=>to σ H fun x H1=>∃ a o xs vs,x = .ref a /\ (a == sysModules) = false /\ H1 a = some (j4 P w o a xs) /\ Paired (fun (x:bM × Addr × Value) (y:V)=>RelV y x.2.2) xs vs /\ R (KP P w o a xs vs) H1
def Nv (te:TE):TE:=fun σ H Q=>te σ H fun x H1=>∃ a kvs,x = .ref a /\ DW P w H1 a kvs /\ ∀ o,DF P w (upd H1 a o) a kvs->Q x (upd H1 a o)
end
section
variable {X:Cx} {P:Program} {w:World} (hP:X.prog = P) (hw:X.w = w)
include hP hw
theorem NR (hu:X.A.units + 64 < cLine):iH X (compareOp .In) (PR P w false):=by subst hP hw; exact Ko hu
theorem NF (hu:X.A.units + 64 < cLine):CQ X (OZ P w):=by subst hP hw; exact CZ hu
theorem Nh (hu:X.A.units + 64 < cLine):Ha X (Lb P w):=by subst hP hw; exact Cu hu
theorem sC {pos:Pos}:PE X (.Dict [] [] pos) (J0 P w):=by subst hP hw; exact Em
theorem Bm {k v:Expr} {tk tv:TE} {pos:Pos} (hu:X.A.units + 64 < cLine) (hk:PE X k tk) (hv:PE X v tv):PE X (.Dict [some k] [v] pos) (Gc P w tk tv):=by subst hP hw; exact Ek hu hk hv
theorem TV (hu:X.A.units + 64 < cLine):iH X (compareOp .NotEq) (Qd P w):=by subst hP hw; exact Ki hu
theorem yW:cK X (.type "dict") (Km P w):=by subst hP hw; exact yE
theorem Eg {tg l:Expr} {tl:TE} (hl:PE X l tl):PI X tg l (KB P w tl):=by subst hP hw; exact GZ hl
theorem G2 {e:Expr} {te:TE} (h:PE X e te):PE X e (Nv P w te):=by subst hP hw; exact Jn h
theorem Bw {elts:List Expr} {x1:Nat} {o:Expr} {to:TE} {apos dM pos:Pos} (ho:PE X o to) (mK:attributeBase o "items" X.env (eval o X.env) = eval o X.env:=by rfl) (nY:(apos.endLine == dM.line) = true:=by rfl) :
  PI X (.Tuple elts x1 pos) (.Call (.Attribute o "items" apos) [] [] dM) (G7 P w to):=by subst hP hw; exact Ep ho mK nY
theorem GF {o e:Expr} {to:TE} {t:TA} {apos dM:Pos} (hu:X.A.units + 64 < cLine) (ho:PE X o to) (ha:PA X [e] t)
  (mK:attributeBase o "get" X.env (eval o X.env) = eval o X.env:=by rfl)
  (Db:((backTo dM (starEach [e] X.env)).all (fun x=>!x.1) && (backToKw dM (keywordEach [] X.env)).all (fun x=>x.1.isSome)
   && decide (([e]:List Expr).length + ([]:List Keyword).length + (if ([]:List Keyword).isEmpty then 0 else 1) < 30)) = true:=by rfl)
  (nY:(apos.endLine == dM.line) = true:=by rfl) (hs:starEach [e] X.env = (false,eval e X.env) :: starEach [] X.env:=by rfl) (ma:(backTo dM (starEach [] X.env)).any (·.1) = false:=by rfl) :
  PE X (.Call (.Attribute o "get" apos) [e] [] dM) (LL P w to t):=by subst hP hw; exact Gi hu ho ha mK Db nY hs ma
end
theorem DW.at {P:Program} {w:World} {H:Hp} {a:Addr} {kvs:List (bM × V)} (d:DW P w H a kvs):∃ xs,H a = some (kZ P w a xs):=let ⟨_,_,xs,h,_⟩:=d; ⟨xs,h⟩
theorem DW.nl {P:Program} {w:World} {H:Hp} {a:Addr} {kvs:List (bM × V)} (d:DW P w H a kvs) {o:HO}:(∀ b vs,H b = some (.lst vs)->upd H a o b = some (.lst vs)) /\ ∀ b vs,H b = some (.tup vs)->upd H a o b = some (.tup vs):=by
 obtain ⟨xs,h⟩:=d.at
 exact ⟨fun b vs e=>by rw [am (fe e h (by intro z; cases z))]; exact e,fun b vs e=>by rw [am (fe e h (by intro z; cases z))]; exact e⟩
theorem DW.IS {P:Program} {w:World} {H:Hp} {a D:Addr} {o:HO} {ys:List V} {kvs:List (bM × V)} (d:DW P w H a kvs) (hD:H D = some (.lst ys)):DW P w (upd H D o) a kvs :=
 let ⟨h1,h2,xs,h3,h4⟩:=d
 ⟨h1,h2,xs,by rw [am (fe h3 hD (by intro z; cases z))]; exact h3,h4.mono fun b vs e=>by rw [am (fe e hD (by intro z; cases z))]; exact e⟩
theorem CA {P:Program} {w:World} {o:Obj} {d:Addr} {kxs:List (bM × Addr × Value)} {kvs:List (bM × V)} {cap:List (Option Nat)} {σ:St} {H:Hp} {g:TG} {tc:TT} {te:TE} {Q:VK} {D:Addr} (Pv:Nat->List V->Hp->Prop) (h0:Pv 0 [] (upd H D (.lst [])))
  (hD:∀ i xs H,i <= kvs.length->Pv i xs H->H D = some (.lst xs) /\ H d = some (j4 P w o d kxs) /\ KS H kvs kxs)
  (hs:∀ i k y b xs H,kvs[i]? = some (k,y)->lj H k b->Pv i xs H->g (.ref b) (eu cap σ) H fun σ2 H4=>cm (eu cap σ) σ2 /\
   tc σ2 H4 fun c H5=>if c = true then te σ2 H5 fun y H6=>H6 D = some (.lst xs) /\ xs.length < sizeLine /\ Pv (i + 1) (xs ++ [y]) (upd H6 D (.lst (xs ++ [y]))) else Pv (i + 1) xs H5)
  (hd:∀ xs H,Pv kvs.length xs H->Q (.ref D) H):lN (Jd P w o d kxs) D cap σ H g tc te Q:=by
 refine ⟨kvs.length,Pv,h0,fun i xs H2 hi p=>⟨(hD i xs H2 hi p).1,?_⟩⟩
 obtain ⟨_,q,r⟩:=hD i xs H2 hi p
 have ln:kvs.length = kxs.length:=Zl r
 by_cases fT:i < kvs.length
 ·refine .inr ⟨fT,⟨q,by omega⟩,fun x H' y=>?_⟩
  obtain ⟨e,k,b,v,hx,e2⟩:=y
  subst e e2
  obtain ⟨y,hy,ka,_⟩:=r.get hx
  exact hs i k y b xs _ hy ka p
 ·have e:i = kvs.length:=by omega
  subst e
  exact .inl ⟨rfl,⟨q,by omega⟩,hd xs H2 p⟩
section
variable {M:Model} {A:Around} {E:Value->Shared->Prop} {s:Shared}
def xN (h:Heap):List Value->List (Option Value)->Prop:=Paired fun v f=>∃ a o xs n,v = .ref a /\ h.get? a = some o /\ o.cls = .type "tuple" /\ o.data = .seq xs n /\ xs[0]? = f
theorem Ax:∀ (vs:List Value) (fs:List (Option Value)) {Q:List (Option Value)->Shared->Prop},xN s.heap vs fs->Q fs s->wpAny M A (vs.mapM firstOfTuple') Q E s
 | [],_,_,.nil,h=>by rw [List.mapM_nil]; exact X4 h
 | v :: vs,f :: fs,Q,.cons t r,h=>by
  obtain ⟨a,o,xs,n,rfl,ho,hc,hd,hf⟩:=t
  rw [List.mapM_cons]
  refine X3 ?_
  rw [PySem.W.kas_first_eq]
  refine X3 (PySem.W.Looks.here (show PySem.W.Looks M s.heap (typeOf (.ref a)) o.cls from (PySem.W.Looks.ld ho).andThen .now) ?_)
  rw [hc,if_neg (by first | decide | simp)]
  refine X3 (listItems_at ho hd (X4 ?_))
  rw [hf]
  exact X3 (Ax vs fs (Q:=fun bs s'=>wpAny M A (pure (f :: bs)) Q E s') r (X4 h))
theorem uA {h:Heap}:∀ {vs:List Value} {fs:List (Option Value)},xN h vs fs->(∀ f ∈ fs,f.isSome = true)->PySem.W.KatTups h vs (fs.filterMap id)
 | [],_,.nil,_=>trivial
 | _ :: _,f :: fs,.cons t r,hf=>by
  obtain ⟨a,o,xs,n,rfl,ho,hc,hd,hx⟩:=t
  have:=hf f X9
  cases f with
  | none=>cases this
  | some u=>exact PySem.W.KatTups.cons ho hc hd hx (uA r fun f OS=>hf f (X8 _ OS))
theorem ui {h:Heap} {v:Value}:∀ {vs:List Value} {fs:List (Option Value)},xN h vs fs->v ∈ vs->∃ a o,v = .ref a /\ h.get? a = some o /\ o.cls = .type "tuple"
 | _,_,.nil,hv=>by cases hv
 | _ :: _,_ :: _,.cons t r,hv=>by
  rcases Yb.mp hv with rfl | hv
  ·obtain ⟨a,o,xs,n,rfl,ho,hc,_⟩:=t
   exact ⟨a,o,rfl,ho,hc⟩
  ·exact ui r hv
theorem IX {vs:List Value} {fs:List (Option Value)} {Q:SortKind->Shared->Prop} (t:xN s.heap vs fs) (h2:0 < vs.length) (hi:∀ f ∈ fs,∀ u,f = some u->∃ i t,u = Value.int i t)
  (h:∀ κ,(κ = tuples' true \/ κ = oneType' \/ κ = general')->Q κ s):wpAny M A (keyKind' vs.toArray) Q E s:=by
 have hl:vs.length = fs.length:=Zl t
 by_cases all:∀ f ∈ fs,f.isSome = true
 ·refine PySem.W.kat_kind (T:=.type "int") (uA t all) ?_ (fun v hv=>?_) rfl (h _ (.inl rfl))
  ·cases fs with
   | nil=>exact absurd hl (fun z=>by rw [z] at h2; exact absurd h2 (by simp))
   | cons f fs =>
    have:=all f X9
    cases f with
    | none=>cases this
    | some u=>simp
  ·obtain ⟨f,hf,e⟩:=List.mem_filterMap.mp hv
   obtain ⟨i,t,rfl⟩:=hi f hf v e
   exact PySem.W.Looks.of_pure rfl
 ·rw [kat_kind_eq,List.mapM_toArray,map_eq_pure_bind]
  refine X3 (X3 (Ax vs _ t (X4 ?_)))
  have BE:¬ (fs.toArray.all fun x=>x.isSome) = true:=by
   intro z
   refine all fun f hf=>?_
   rw [List.all_toArray,Y7] at z
   exact z f hf
  rw [if_neg BE]
  by_cases c:(fs.toArray[0]?.bind id).isSome = true
  ·rw [if_pos c]; exact X4 (h _ (.inr (.inr rfl)))
  ·rw [if_neg c,oneTypeOnly'_eq,List.mapM_toArray,map_eq_pure_bind]
   refine X3 (X3 (X3 (PySem.W.kas_mapM (r:=.type "tuple") _ (fun v hv Q' hq=>?_) (X4 ?_))))
   ·obtain ⟨a,o,rfl,ho,hc⟩:=ui t hv
    have lk:PySem.W.Looks M s.heap (typeOf (.ref a)) o.cls:=(PySem.W.Looks.ld ho).andThen .now
    rw [hc] at lk
    exact lk.here hq
   ·obtain ⟨v,vr,rfl⟩:∃ v vr,vs = v :: vr:=by
     cases vs with
     | nil=>simp at h2
     | cons v vr=>exact ⟨v,vr,rfl⟩
    have Mz:((List.map (fun _=>Value.type "tuple") (v :: vr)).toArray.all fun x=>x == Value.type "tuple") = true:=by
     simp only [List.all_toArray,List.all_map,Y7]
     intro _ _
     rfl
    have h0:(List.map (fun _=>Value.type "tuple") (v :: vr)).toArray[0]? = some (Value.type "tuple"):=by simp
    rw [h0]
    simp only [Mz,Zw]
    exact X4 (X4 (h _ (.inr (.inl rfl))))
end
theorem ES {a b:List Int} (h:HT.lexLt a b = true):HT.lexLt b a = false:=by
 cases q:HT.lexLt b a with
 | false=>rfl
 | true=>have:=lex_trans h q; rw [iK] at this; cases this
def lJ (gs:List (List Int)):List Nat:=(List.range gs.length).mergeSort fun i j=>!HT.lexLt (gs.getD j []) (gs.getD i [])
def Bu (gs:List (List Int)):List (List Int):=(lJ gs).map fun i=>gs.getD i []
theorem iM (gs:List (List Int)):(lJ gs).Perm (List.range gs.length):=List.mergeSort_perm _ _
theorem ij {gs:List (List Int)} {i:Nat} (h:i ∈ lJ gs):i < gs.length:=List.mem_range.mp ((iM gs).mem_iff.mp h)
theorem iN (gs:List (List Int)):(Bu gs).Perm gs:=by
 have:=(iM gs).map fun i=>gs.getD i []
 rw [jq] at this
 exact this
theorem xp (gs:List (List Int)):(lJ gs).Pairwise fun i j=>(!HT.lexLt (gs.getD j []) (gs.getD i [])) = true:=by
 refine List.pairwise_mergeSort (fun a b c h1 h2=>?_) (fun a b=>?_) _
 ·have h1:HT.lexLt (gs.getD b []) (gs.getD a []) = false:=by simpa using h1
  have h2:HT.lexLt (gs.getD c []) (gs.getD b []) = false:=by simpa using h2
  cases q:HT.lexLt (gs.getD c []) (gs.getD a []) with
  | false=>rfl
  | true =>
   by_cases e:gs.getD b [] = gs.getD c []
   ·rw [e,q] at h1; cases h1
   ·have:=kT (aag e) h2
    rw [lex_trans this q] at h1; cases h1
 ·cases q:HT.lexLt (gs.getD b []) (gs.getD a []) with
  | false=>rfl
  | true=>rw [ES q]; rfl
theorem nO {α:Type}:∀ {l:List α},l.Nodup->∀ {i j:Nat} (hi:i < l.length) (hj:j < l.length),l[i] = l[j]->i = j
 | [],_,_,_,hi,_,_=>absurd hi (by simp)
 | a :: l,nd,0,0,_,_,_=>rfl
 | a :: l,nd,0,j + 1,_,hj,e=>by
  have e:a = l[j]'(by simpa using hj):=e
  exact absurd (e ▸ ZF _) (Ze.mp nd).1
 | a :: l,nd,i + 1,0,hi,_,e=>by
  have e:l[i]'(by simpa using hi) = a:=e
  exact absurd (e ▸ ZF _) (Ze.mp nd).1
 | a :: l,nd,i + 1,j + 1,hi,hj,e=>by rw [nO (Ze.mp nd).2 (i:=i) (j:=j) (by simpa using hi) (by simpa using hj) e]
theorem yY {gs:List (List Int)} (nd:gs.Nodup) {i j:Nat} (hi:i < gs.length) (hj:j < gs.length) (h:i ≠ j):gs.getD i [] ≠ gs.getD j []:=by
 intro e
 rw [Yp,Yp,Ya hi,Ya hj] at e
 exact h (nO nd hi hj e)
theorem pF {gs:List (List Int)} (nd:gs.Nodup):(lJ gs).Pairwise fun i j=>HT.lexLt (gs.getD i []) (gs.getD j []) = true:=by
 have n1:(lJ gs).Nodup:=(iM gs).nodup_iff.mpr List.nodup_range
 refine ZH (fun {i j} hi hj h=>?_) ((xp gs).and n1)
 have h1:HT.lexLt (gs.getD j []) (gs.getD i []) = false:=by simpa using h.1
 exact kT (aag (yY nd (ij hi) (ij hj) h.2)) h1
theorem x8 {gs:List (List Int)} (nd:gs.Nodup):(Bu gs).Pairwise fun g k=>HT.lexLt g k = true:=by
 unfold Bu
 rw [Y2]
 exact pF nd
def ww (gs:List (List Int)) (g:List Int):Nat:=gs.countP fun x=>HT.lexLt x g
theorem qd {gs:List (List Int)} {g k:List Int} (hg:g ∈ gs):decide (ww gs g < ww gs k) = HT.lexLt g k:=by
 cases e:HT.lexLt g k with
 | true=>exact Yi (oh (f:=fun x=>HT.lexLt x g) (g:=fun x=>HT.lexLt x k) (fun x hx=>lex_trans hx e) (iK g) e hg)
 | false =>
  refine Yw (Nat.not_lt.mpr ?_)
  by_cases q:g = k
  ·rw [q]; exact X7 _
  ·exact countP_le (f:=fun x=>HT.lexLt x k) (g:=fun x=>HT.lexLt x g) (fun x hx=>lex_trans hx (kT q e)) gs
def vd (h:Heap) (v:Value) (g:List Int):Prop:=∃ a,v = .ref a /\ h9 h a g
open Classical in
noncomputable def fg (h:Heap) (v:Value):List Int:=if e:∃ g,vd h v g then Classical.choose e else []
theorem rP {h:Heap} {v:Value} {g:List Int} (e:vd h v g):fg h v = g:=by
 unfold fg
 rw [dif_pos ⟨g,e⟩]
 obtain ⟨a,e1,t1⟩:=e
 obtain ⟨b,e2,t2⟩:=Classical.choose_spec (⟨g,a,e1,t1⟩:∃ g,vd h v g)
 rw [e1] at e2; cases e2
 exact t2.inj t1
theorem Dt {α:Type} {rk:α->Nat}:∀ {l m:List α},l.Pairwise (fun x y=>rk x < rk y)->m.Pairwise (fun x y=>rk x < rk y)->(∀ x,x ∈ l ↔ x ∈ m)->l = m
 | [],[],_,_,_=>rfl
 | [],b :: r,_,_,h=>absurd ((h b).mpr X9) (by simp)
 | a :: l,[],_,_,h=>absurd ((h a).mp X9) (by simp)
 | a :: l,b :: r,h1,h2,h=>by
  obtain ⟨ha,hl⟩:=YY.mp h1
  obtain ⟨hb,hr⟩:=YY.mp h2
  have e:a = b:=by
   rcases Yb.mp ((h a).mp X9) with e | e
   ·exact e
   ·rcases Yb.mp ((h b).mpr X9) with e' | e'
    ·exact e'.symm
    ·have:=hb a e; have:=ha b e'; omega
  subst e
  have t:l = r:=by
   refine Dt hl hr fun x=>⟨fun hx=>?_,fun hx=>?_⟩
   ·rcases Yb.mp ((h x).mp (X8 _ hx)) with e | e
    ·have:=ha x hx; rw [e] at this; omega
    ·exact e
   ·rcases Yb.mp ((h x).mpr (X8 _ hx)) with e | e
    ·have:=hb x hx; rw [e] at this; omega
    ·exact e
  rw [t]
section
variable {prog:Program} {w:World} {A:Around} {E:Value->Shared->Prop} {s:Shared}
theorem DK {κ:SortKind} (hκ:κ = tuples' true \/ κ = oneType' \/ κ = general') {g k:List Int} {a b:Addr} {Q:Bool->Shared->Prop} (hu:A.units < cLine) (hx:h9 s.heap a g) (hy:h9 s.heap b k) (h:Q (HT.lexLt g k) s) :
  wpAny (model prog w) A (keyLt' κ (.ref a) (.ref b)) Q E s:=by
 rcases hκ with rfl | rfl | rfl
 ·obtain ⟨xs,rx,oa,CS,_,na,CN⟩:=hx
  obtain ⟨ys,ry,ob,pL,_,nb,su⟩:=hy
  refine PySem.W.kat_lt CS CN pL su ?_
  rw [List.toList_toArray,List.toList_toArray]
  exact wG _ _ _ _ 0 rx ry (by simp) h
 ·rw [keyLt'_oneType]; exact km hu hx hy h
 ·show wpAny _ _ (oneLt' false _ _) _ _ _
  exact km hu hx hy h
theorem xF {P:Program} {H:Hp} {h:Heap} (ok:jO P w H h):∀ {gs:List (List Int)} {vs:List V} {us:List Value},bW H (gs.map fun g=>.tuple (g.map PyData.int)) vs->Vals vs us->∃ fs,xN h us fs /\ (∀ f ∈ fs,∀ u,f = some u->∃ i t,u = Value.int i t) /\ Paired (vd h) us gs
 | [],_,_,.nil,.nil=>⟨[],.nil,(fun _ z=>by cases z),.nil⟩
 | g :: gs,_,_,.cons hd ht,.cons r rr=>by
  obtain ⟨fs,h1,h2,h3⟩:=xF ok ht rr
  obtain ⟨a,vs,rfl,ha,hv⟩:=hd.il
  cases hv.nX
  cases r
  obtain ⟨_,az,rv,o,ho,hc,n,R3⟩:=ok a _ ha
  refine ⟨az.toArray[0]? :: fs,.cons ⟨a,o,_,n,rfl,ho,hc,R3,rfl⟩ h1,fun f hf u e=>?_,.cons ⟨a,rfl,az,rv,o,ho,hc,n,R3⟩ h3⟩
  rcases Yb.mp hf with rfl | z
  ·cases g with
   | nil=>cases rv; simp at e
   | cons x g =>
    cases rv with
    | @cons _ u' _ us ru _ =>
     obtain ⟨t,rfl⟩:=ru
     simp at e
     exact ⟨x,t,e.symm⟩
  ·exact h2 f z u e
theorem AG {h:Heap}:∀ {us:List Value} {gs:List (List Int)},Paired (vd h) us gs->us.map (fg h) = gs
 | [],_,.nil=>rfl
 | _ :: _,_ :: _,.cons e r=>by rw [Yq,rP e,AG r]
theorem wW {h:Heap} {v:Value}:∀ {us:List Value} {gs:List (List Int)},Paired (vd h) us gs->v ∈ us->∃ g ∈ gs,vd h v g
 | _,_,.nil,hv=>by cases hv
 | _ :: _,_ :: _,.cons e r,hv=>by
  rcases Yb.mp hv with rfl | hv
  ·exact ⟨_,X9,e⟩
  ·obtain ⟨g,h1,h2⟩:=wW r hv
   exact ⟨g,X8 _ h1,h2⟩
theorem mW {α β:Type} (f:α->β):∀ l:List α,(l.zip l).map (fun x=>f x.1) = l.map f
 | []=>rfl
 | a :: l=>by rw [Z8,Yq,Yq,mW f l]
theorem jl {α:Type} {x:α × α}:∀ {l:List α},x ∈ l.zip l->x.1 ∈ l /\ x.1 = x.2
 | [],h=>by cases h
 | a :: l,h=>by
  rw [Z8] at h
  rcases Yb.mp h with rfl | h
  ·exact ⟨X9,rfl⟩
  ·obtain ⟨h1,h2⟩:=jl h
   exact ⟨X8 _ h1,h2⟩
theorem mem_zip_self {α:Type} {x:α}:∀ {l:List α},x ∈ l->(x,x) ∈ l.zip l
 | a :: l,h=>by
  rw [Z8]
  rcases Yb.mp h with rfl | h
  ·exact X9
  ·exact X8 _ (mem_zip_self h)
theorem Du {κ:SortKind} (hκ:κ = tuples' true \/ κ = oneType' \/ κ = general') {us:List Value} {gs:List (List Int)} (hu:A.units < cLine) (hk:Paired (vd s.heap) us gs) (nd:gs.Nodup) :
  wpAny (model prog w) A ((sortRuns').run (SortSt.mk' κ (us.toArray.zip us.toArray) #[] 7 none)) (fun r s2=>s2 = s /\ failedOf r.2 = none /\ (arrOf r.2).map (·.2) = ((lJ gs).map fun i=>us.getD i Value.none).toArray) E s:=by
 have lp:us.length = gs.length:=hk.length
 have zl:(us.toArray.zip us.toArray).toList = us.zip us:=by simp
 have gm:=AG hk
 have Dz:(us.zip us).map (fun x=>ww gs (fg s.heap x.1)) = gs.map (ww gs):=by
  rw [mW (fun v=>ww gs (fg s.heap v)) us]
  have e:=Zi (List.map (ww gs)) gm
  rw [YQ] at e
  exact e
 have Rt:∀ i,i < gs.length->fg s.heap (us.getD i Value.none) = gs.getD i []:=fun i hi=>by
  have e:(us.map (fg s.heap))[i]? = gs[i]?:=by rw [gm]
  rw [Yl,Ya (by omega),Ya hi] at e
  rw [Yp,Yp,Ya (show i < us.length by omega),Ya hi]
  exact Y4 e
 have MV:(gs.map (ww gs)).Nodup:=by
  refine List.Pairwise.map _ (R:=fun p q=>p ∈ gs /\ q ∈ gs /\ p ≠ q) (fun p q h e=>?_) ?_
  ·have e1:=qd (k:=q) h.1
   have e2:=qd (k:=p) h.2.1
   rw [e] at e1 e2
   rw [Yw (Zf _)] at e1
   rw [Yw (Zf _)] at e2
   have:=kT h.2.2 e1.symm
   rw [<- e2] at this
   cases this
  ·exact ZH (fun {p q} hp hq oE=>⟨hp,hq,oE⟩) nd
 refine SO.xQ (prog:=prog) (w:=w) (A:=A) (E:=E) (s:=s) (rk:=fun x=>ww gs (fg s.heap x.1)) (S:=fun x=>∃ g ∈ gs,vd s.heap x.1 g) (kd:=κ) (a₀:=us.toArray.zip us.toArray) (st:=SortSt.mk' κ (us.toArray.zip us.toArray) #[] 7 none)
  (Q:=fun _ st=>failedOf st = none /\ (arrOf st).map (·.2) = ((lJ gs).map fun i=>us.getD i Value.none).toArray) ?cmp ?mem ?nd rfl rfl rfl rfl ?fin
 case cmp =>
  intro x y st Q hx hy kk q
  obtain ⟨p,hp,e1⟩:=hx
  obtain ⟨p',S9,e2⟩:=hy
  have ee:decide (ww gs (fg s.heap x.1) < ww gs (fg s.heap y.1)) = HT.lexLt p p':=by rw [rP e1,rP e2,qd hp]
  have q:Q (some (decide (ww gs (fg s.heap x.1) < ww gs (fg s.heap y.1)))) st:=q
  rw [ee] at q
  rw [lt'_eq]
  refine Yf (wpS_get ?_)
  refine Yf (wpS_lift ?_)
  rw [kk]
  obtain ⟨a,ea,ta⟩:=e1
  obtain ⟨b,eb,tb⟩:=e2
  rw [ea,eb]
  refine Z0 (DK hκ hu ta tb ?_)
  exact ⟨rfl,Yn q⟩
 case mem =>
  intro x hx
  rw [zl] at hx
  exact wW hk (jl hx).1
 case nd=>rw [zl,Dz]; exact MV
 case fin =>
  intro st hp hf hs
  rw [zl] at hp
  refine ⟨hf,?_⟩
  have Dp:((arrOf st).toList.map fun x=>ww gs (fg s.heap x.1)).Nodup:=(hp.map fun x=>ww gs (fg s.heap x.1)).nodup_iff.mpr (by rw [Dz]; exact MV)
  have U0:(arrOf st).toList.Pairwise fun x y=>ww gs (fg s.heap x.1) < ww gs (fg s.heap y.1):=by
   refine List.Pairwise.imp (fun {x y} h=>?_) (hs.and (Y2.mp Dp))
   exact Nat.lt_of_le_of_ne h.1 h.2
  have K2:((lJ gs).map fun i=>(us.getD i Value.none,us.getD i Value.none)).Pairwise fun x y=>ww gs (fg s.heap x.1) < ww gs (fg s.heap y.1):=by
   rw [Y2]
   refine ZH (fun {i j} hi hj h=>?_) (pF nd)
   rw [Rt i (ij hi),Rt j (ij hj)]
   have m:gs.getD i [] ∈ gs:=by
    rw [Yp,Ya (ij hi)]
    exact ZF _
   exact YA ((qd m).trans h)
  have e:=Dt U0 K2 fun x=>by
   rw [hp.mem_iff]
   constructor
   ·intro hx
    obtain ⟨h1,h2⟩:=jl hx
    obtain ⟨i,hi,e⟩:=Zj.mp h1
    refine YI.mpr ⟨i,(iM gs).mem_iff.mpr (List.mem_range.mpr (by omega)),?_⟩
    rw [Yp,Ya hi]
    show (us[i],us[i]) = x
    rw [e]
    exact Prod.ext rfl h2
   ·intro hx
    obtain ⟨i,hi,e⟩:=YI.mp hx
    have p7:i < us.length:=by rw [lp]; exact ij hi
    rw [<- e,Yp,Ya p7]
    exact mem_zip_self (ZF p7)
  apply Array.ext'
  rw [Array.toList_map,e,YQ]
  simp
end
section
variable {X:Cx}
theorem vc (hu:X.A.units + 64 < cLine):cK X (.builtin "sorted") (fun xs H Q=>∃ (p:Addr) (gs:List (List Int)) (vs:List V),xs = [.ref p] /\ H p = some (.lst vs) /\ bW H (gs.map fun g=>.tuple (g.map PyData.int)) vs /\ gs.Nodup /\
  ∀ (l:Addr) (Dc:List V),H l = none->bW H ((Bu gs).map fun g=>.tuple (g.map PyData.int)) Dc->Q (.ref l) (upd H l (.lst Dc))):=by
 intro pins s σ H xs us Q I r h
 obtain ⟨p,gs,vs,rfl,hp,dv,nd,q⟩:=h
 obtain ⟨u,rfl,ru⟩:=vals1 r
 cases ru
 obtain ⟨hz,az,n,rv,eo⟩:=I.aW p _ hp
 have ln:az.length = gs.length:=by rw [<- rv.length,<- dv.length,X6]
 have lv:vs.length = gs.length:=by rw [<- dv.length,X6]
 have lo:(lJ gs).length = gs.length:=by rw [(iM gs).length_eq,List.length_range]
 refine Ca (T:="list") (out:=(lJ gs).map fun i=>az.getD i Value.none) (.inl rfl) eo rfl rfl (by omega) (by rw [X6,lo,ln]) (fun h=>?_) (fun h2 h' kp=>?_) ?_
 ·have e:lJ gs = List.range gs.length:=by
   unfold lJ
   have:gs.length = 0 \/ gs.length = 1:=by omega
   rcases this with z | z <;> rw [z] <;> simp [List.range_succ]
  rw [e,<- ln,jq]
 ·have Xb:jO X.prog X.w H h':=I.aW.kept kp
  obtain ⟨fs,h1,h3,h4⟩:=xF Xb dv rv
  refine IX h1 (by omega) h3 fun κ hκ=>⟨rfl,?_⟩
  exact Du hκ (by show X.A.units + 1 + 1 < cLine; omega) h4 nd
 ·obtain ⟨e,he⟩:=sortedAll_at s.heap az ((lJ gs).map fun i=>az.getD i Value.none).toArray
  refine ⟨.ref (s.heap.objs.size + 1),_,I.laid (t':=s.toks) (o:=.lst ((lJ gs).map fun i=>vs.getD i .cP)) (fun b o hb=>sortedAll_old hb) (ZV _) ⟨by rw [X6,lo]; omega,_,e,um rv _ (fun i hi=>by rw [lv]; exact ij hi),he⟩,rfl,q _ _ (I.aW.fresh (ZV _)) (xA dv _ fun i hi=>ij hi)⟩
end
abbrev Old (h:Heap) (s:Shared):Prop:=∀ a u,h.get? a = some u->s.heap.get? a = some u
def IC (P:Program) (w:World) (A:Around) (h:Heap) (az:Array Value) (less:Nat->Nat->Bool):Prop :=
 ∀ (i j:Nat) (x y:Value) (s:Shared) (Q E:Value->Shared->Prop),az[i]? = some x->az[j]? = some y->i ≠ j->Old h s->Q (.bool (less i j)) s->wpAny (model P w) A (richCompare .Lt x y) Q E s
section
variable {P:Program} {w:World} {A:Around} {h:Heap} {l I S:Addr} {az:Array Value} {less:Nat->Nat->Bool} {R:Result->Shared->Prop}
abbrev GO (x:Value) (c:Nat):Obj:={ cls:=.type "list",dict:=none,data:=.seq #[x,x] c,slots:=#[] }
theorem Cb (hh:A.in1.handled = none) (hl:l ≠ I) (hS:S ≠ I) (MD:S ≠ l) (hI:h.get? I = none) (KQ:h.get? S = none) (ask:IC P w A.in1 h az less):∀ (k j:Nat) (s:Shared) (x:Value) (c:Nat),az.size - (j + 1) = k->j + 1 <= az.size ->
  (s.heap.IsListIter I l (j + 1) /\ s.heap.IsList l az)->az[argBest less j]? = some x->s.heap.get? S = some (GO x c)->Old h s ->
  (∀ x' h' t',az[argBest less (az.size - 1)]? = some x'->(∀ a u,h.get? a = some u->h'.get? a = some u)->R (.ok (.ret x')) { s with heap:=h',toks:=t' }) ->
  codeAny (model P w) A (.builtin "min.loop" ⟨[.ref I,.none,.ref S],[]⟩) R s:=by
 have W:=Walks.list (prog:=P) (w:=w) hh I l hl az
 have nm:("min" ++ ".loop":String) = "min.loop":=by decide
 have LF:S ∉ [I]:=fun z=>hS (YG.mp z)
 have outF:∀ b ∈ [I,l],S ≠ b:=fun b hb z=>by
  rcases Yb.mp hb with e | e
  ·exact hS (z.trans e)
  ·exact MD (z.trans (YG.mp e))
 intro k
 induction k with
 | zero =>
  intro j s x c ek ej st hx hs old fin
  have en:j + 1 = az.size:=by omega
  refine codeAny_builtin F.entry_min_loop ?_
  rw [Around.under_plainId F.plain_min_loop]
  show wpAny _ _ (seqItems? (Value.ref S) >>= _) _ _ _
  refine X3 (ZI hs rfl ?_)
  show wpAny _ _ (tryCatch (pyNext (Value.ref I)) _ >>= _) _ _ _
  rw [en] at st
  refine X3 (wpAny_tryCatch (W.done s _ _ st fun h1 t1 kp=>?_))
  refine X3 (wpAny_updateSeq (kp S _ LF hs) rfl (X3 (wpAny_letGo (X4 ?_))))
  refine fin x _ t1 (by rw [<- en]; exact hx) fun a u e=>?_
  have na:a ≠ S:=fun z=>by rw [z,KQ] at e; cases e
  have ni:a ∉ [I]:=fun z=>by rw [YG.mp z,hI] at e; cases e
  exact (Heap.get?_update_other _ _ na.symm).trans (kp a u ni (old a u e))
 | succ k ih =>
  intro j s x c ek ej st hx hs old fin
  have lt:j + 1 < az.size:=by omega
  have le:=mB less j
  refine codeAny_builtin F.entry_min_loop ?_
  rw [Around.under_plainId F.plain_min_loop]
  show wpAny _ _ (seqItems? (Value.ref S) >>= _) _ _ _
  refine X3 (ZI hs rfl ?_)
  show wpAny _ _ (tryCatch (pyNext (Value.ref I)) _ >>= _) _ _ _
  refine X3 (wpAny_tryCatch (W.item (j + 1) s _ _ lt st fun y h1 t1 hy OF kp=>?_))
  have QN:=kp S _ LF hs
  have Ei:∀ a u,h.get? a = some u->h1.get? a = some u:=fun a u e=>kp a u (fun z=>by rw [YG.mp z,hI] at e; cases e) (old a u e)
  show wpAny _ _ (tryCatch (holding [y,y] (richCompare .Lt y x >>= _)) _ >>= _) _ _ _
  refine X3 (wpAny_tryCatch (Zk (X3 (ask (j + 1) (argBest less j) y x _ _ _ hy hx (by omega) Ei ?_))))
  refine X3 (Zk (Y9 (X3 (wpAny_letGo (X4 ?_)))))
  cases q:less (j + 1) (argBest less j) with
  | true =>
   have eb:argBest less (j + 1) = j + 1:=by unfold argBest; rw [if_pos q]
   simp only [Zw]
   refine X3 (wpAny_updateSeq QN rfl (X3 (wpAny_letGo ?_)))
   refine X4 ⟨plainId_quiet F.plain_min_loop _,?_⟩
   refine ih (j + 1) _ y _ (by omega) lt (W.frame _ _ _ OF fun b hb u e=>(Heap.get?_update_other _ _ (outF b hb)).trans e) (by rw [eb]; exact hy) (Heap.get?_update_self _ QN rfl) (fun a u e=>?_) fun x' h' t' a1 a2=>fin x' h' t' a1 a2
   exact (Heap.get?_update_other _ _ (fun z=>by rw [<- z,KQ] at e; cases e)).trans (Ei a u e)
  | false =>
   have eb:argBest less (j + 1) = argBest less j:=by
    show (if less (j + 1) (argBest less j) = true then _ else _) = _
    rw [if_neg (by rw [q]; simp)]
   simp only [Yu,YZ]
   refine X3 (wpAny_letGo ?_)
   exact X4 ⟨plainId_quiet F.plain_min_loop _,ih (j + 1) _ x c (by omega) lt OF (by rw [eb]; exact hx) QN Ei fun x' h' t' a1 a2=>fin x' h' t' a1 a2⟩
end
section
variable {prog:Program} {w:World} {A:Around} {E:Value->Shared->Prop} {s:Shared}
def jo (h:Heap) (v:Value) (k:Int × List Int):Prop:=∃ a c t az,v = .ref a /\ IsTup h a (Value.int k.1 t :: .ref c :: az).toArray /\ h9 h c k.2
theorem jo.old {h:Heap} {s:Shared} {v:Value} {k:Int × List Int} (x:jo h v k) (e:Old h s):jo s.heap v k:=by
 obtain ⟨a,c,t,az,rfl,⟨o,ho,hc,n,hd⟩,Qi,rv,o2,qv,Eb,n2,hd2⟩:=x
 exact ⟨a,c,t,az,rfl,⟨o,e _ _ ho,hc,n,hd⟩,Qi,rv,o2,e _ _ qv,Eb,n2,hd2⟩
theorem sG {x y:Value} {p q:Int × List Int} {R:PySem.Fin->Shared->Prop} (hu:A.units < cLine) (hx:jo s.heap x p) (hy:jo s.heap y q) (ne:p.2 ≠ q.2) (h:R (.done (.ret (.bool (aC p q)))) s) :
  wpAny (model prog w) A (Builtin.«tuple.__lt__» ⟨[x,y],[]⟩) R E s:=by
 obtain ⟨a,c,t,xs,rfl,⟨oa,CS,Kp,na,CN⟩,tc⟩:=hx
 obtain ⟨b,d,t',ys,rfl,⟨ob,pL,U1,nb,su⟩,td⟩:=hy
 have Mo:s.TypeIs (.ref b) "tuple":=⟨ob,pL,U1⟩
 show wpAny _ _ (isInstance (.ref b) (.type "tuple") >>= _) _ _ _
 refine X3 (ZE Mo isSubtype_tuple_tuple ?_)
 simp only [Y8,Yu,YZ]
 refine X3 (aaC CS CN (X3 (aaC pL su ?_)))
 refine X3 ?_
 simp only [Z8]
 rw [Zq]
 refine X3 (X3 (aao ?_))
 unfold aC at h
 by_cases e:p.1 = q.1
 ·rw [if_pos e] at h
  rw [show (p.1 == q.1) = true from ZZ.mpr e]
  simp only [Y8,Yu,YZ]
  refine X4 ?_
  dsimp only
  rw [Zq]
  refine X3 (X3 (kq hu tc td ?_))
  rw [Yw ne]
  simp only [Bool.not_false,Zw]
  refine X3 (ZD (X3 (xt hu tc td ?_)))
  exact X3 (X4 (X4 (X4 (X4 h))))
 ·rw [if_neg e] at h
  rw [show (p.1 == q.1) = false from Zg.mpr e]
  simp only [Bool.not_false,Zw]
  refine X3 (ZD (X3 (show wpAny (model prog w) A (compareOp .Lt (.int p.1 t) (.int q.1 t')) _ E s from lt_int ?_)))
  exact X3 (X4 (X4 (X4 (X4 h))))
theorem Cd {x y:Value} {p q:Int × List Int} {Q:Value->Shared->Prop} (hu:A.units + 8 < cLine) (hx:jo s.heap x p) (hy:jo s.heap y q) (ne:p.2 ≠ q.2) (h:Q (.bool (aC p q)) s) :
  wpAny (model prog w) A (richCompare .Lt x y) Q E s:=by
 have tx:s.TypeIs x "tuple":=by
  obtain ⟨a,_,_,_,rfl,⟨o,ho,hc,_⟩,_⟩:=hx
  exact ⟨o,ho,hc⟩
 have ty:s.TypeIs y "tuple":=by
  obtain ⟨a,_,_,_,rfl,⟨o,ho,hc,_⟩,_⟩:=hy
  exact ⟨o,ho,hc⟩
 exact wpAny_richCompare_same_room (op:=.Lt) tx ty F.slot_tuple_lt
  (YL F.slot_tuple_lt tx F.entry_tuple_lt (sG (by show A.units + 1 < cLine; omega) hx hy ne ⟨_,rfl,(fun e=>nomatch e),h⟩) (F.args_tuple_lt_2 _ _)) (by omega)
theorem DN {l:Addr} {az:Array Value} {less:Nat->Nat->Bool} {Q:Value->Shared->Prop} (hh:A.handled = none) (hl:s.heap.IsList l az) (h0:0 < az.size) (ask:IC prog w A.in1 s.heap az less)
  (h:∀ x h' t',az[argBest less (az.size - 1)]? = some x->(∀ a u,s.heap.get? a = some u->h'.get? a = some u)->Q x { s with heap:=h',toks:=t' }):wpAny (model prog w) A (call (.builtin "min") [.ref l]) Q E s:=by
 have lt:l < s.heap.objs.size:=let ⟨_,e,_⟩:=hl; Ym e
 refine call_function_tree F.kind_min F.plain_min F.entry_min (F.args_min1 _) ?_
 refine X3 (m:=Builtin.Builtins.bindParams "min" ["key","default"] 0 ⟨[],[]⟩) (wpAny_of_eq (a:=[none,none]) rfl (X3 (X4 ?_)))
 refine X3 (n6 hl fun s2 e2 st oE old=>?_)
 subst e2
 refine X3 (YR ?_)
 have W:=Walks.list (prog:=prog) (w:=w) (A:=A.in1) hh s.heap.objs.size l oE az
 have sz:(s.heap.push { cls:=.type "list_iterator",data:=.fields #[.ref l,.int 0 0] }).objs.size = s.heap.objs.size + 1:=Z3 ..
 have nm:(toString "min" ++ toString ".loop":String) = "min.loop":=by decide
 rw [nm]
 refine X4 ⟨plainId_quiet F.plain_min_loop _,codeAny_builtin F.entry_min_loop ?_⟩
 rw [Around.under_plainId F.plain_min_loop]
 have hS:((s.heap.push { cls:=.type "list_iterator",data:=.fields #[.ref l,.int 0 0] }).push { cls:=.type "list",data:=.seq #[] }).get? (s.heap.push { cls:=.type "list_iterator",data:=.fields #[.ref l,.int 0 0] }).objs.size = some { cls:=.type "list",data:=.seq #[] }:=Yg _ rfl
 have NZ:(s.heap.push { cls:=.type "list_iterator",data:=.fields #[.ref l,.int 0 0] }).objs.size ≠ s.heap.objs.size:=by rw [sz]; exact Nat.succ_ne_self _
 have MD:(s.heap.push { cls:=.type "list_iterator",data:=.fields #[.ref l,.int 0 0] }).objs.size ≠ l:=by rw [sz]; exact aam (Nat.lt_succ_of_lt lt)
 have KQ:s.heap.get? (s.heap.push { cls:=.type "list_iterator",data:=.fields #[.ref l,.int 0 0] }).objs.size = none:=ZX (by rw [sz]; exact ZV _)
 generalize (s.heap.push { cls:=.type "list_iterator",data:=.fields #[.ref l,.int 0 0] }).objs.size = S at hS NZ MD KQ ⊢
 show wpAny _ _ (seqItems? (Value.ref S) >>= _) _ _ _
 refine X3 (ZI hS rfl ?_)
 show wpAny _ _ (tryCatch (pyNext (Value.ref s.heap.objs.size)) _ >>= _) _ _ _
 refine X3 (wpAny_tryCatch (W.item 0 _ _ _ h0 (W.frame _ _ _ st fun b _ u e=>X5 _ e) fun y h1 t1 hy OF kp=>?_))
 have RW:=kp S _ (fun z=>NZ (YG.mp z)) hS
 have Ei:∀ a u,s.heap.get? a = some u->h1.get? a = some u:=fun a u e=>kp a u (fun z=>by
  rw [YG.mp z] at e
  exact absurd (Ym e) (Zf _)) (X5 _ (X5 _ e))
 show wpAny _ _ (updateSeq S (fun _=>#[y,y]) >>= _) _ _ _
 refine X3 ?_
 refine wpAny_updateSeq RW rfl ?_
 rw [nm]
 refine X4 ⟨plainId_quiet F.plain_min_loop _,Cb (h:=s.heap) (l:=l) (I:=s.heap.objs.size) (S:=S) hh oE NZ MD (ZX (X7 _)) KQ ask _ 0 _ y _ rfl h0 (W.frame _ _ _ OF fun b hb u e=>?_) hy (Heap.get?_update_self _ RW rfl) (fun a u e=>?_) fun x' h' t' a1 a2=>h x' h' t' a1 a2⟩
 ·refine (Heap.get?_update_other _ _ fun z=>?_).trans e
  rcases Yb.mp hb with q | q
  ·exact NZ (z.trans q)
  ·exact MD (z.trans (YG.mp q))
 ·exact (Heap.get?_update_other _ _ (fun z=>by rw [<- z,KQ] at e; cases e)).trans (Ei a u e)
theorem ug {α β:Type} {R:α->β->Prop}:∀ {l:List α} {m:List β} {i:Nat} {x:α},Paired R l m->l[i]? = some x->∃ y,m[i]? = some y /\ R x y
 | [],_,_,_,.nil,e=>by simp at e
 | _ :: _,_ :: _,0,x,.cons h _,e=>by simp at e; subst e; exact ⟨_,rfl,h⟩
 | _ :: _,_ :: _,i + 1,x,.cons _ r,e=>by
  obtain ⟨y,h1,h2⟩:=ug (i:=i) (x:=x) r (by simpa using e)
  exact ⟨y,by simpa using h1,h2⟩
end
theorem pc {ks:List (Int × List Int)}:∀ (n:Nat),n < ks.length->∀ j,j <= n->(ks.getD (argBest (fun i j=>aC (ks.getD i (0,[])) (ks.getD j (0,[]))) n) (0,[])).1 <= (ks.getD j (0,[])).1
 | 0,_,j,hj=>by
  have:j = 0:=by omega
  subst this; exact Int.le_refl _
 | n + 1,hn,j,hj=>by
  have ih:=pc (ks:=ks) n (by omega)
  unfold argBest
  generalize argBest (fun i j=>aC (ks.getD i (0,[])) (ks.getD j (0,[]))) n = b at ih ⊢
  have less:∀ {p q:Int × List Int},aC p q = true->p.1 <= q.1:=fun {p q} h=>by
   unfold aC at h
   by_cases e:p.1 = q.1
   ·omega
   ·rw [if_neg e] at h; have:=YA h; omega
  have Ni:∀ {p q:Int × List Int},aC p q = false->q.1 <= p.1:=fun {p q} h=>by
   unfold aC at h
   by_cases e:p.1 = q.1
   ·omega
   ·rw [if_neg e] at h; have:=of_decide_eq_false h; omega
  split
  ·rename_i h
   by_cases e:j = n + 1
   ·subst e; exact Int.le_refl _
   ·have:=ih j (by omega)
    have:=less h
    omega
  ·rename_i h
   by_cases e:j = n + 1
   ·subst e; exact Ni (by simpa using h)
   ·exact ih j (by omega)
section
variable {X:Cx}
def JW (H:Hp) (v:V) (k:Int × List Int):Prop:=∃ a b rest,v = .ref a /\ H a = some (.tup (.int k.1 :: .ref b :: rest)) /\ H b = some (.tup (k.2.map V.int))
theorem Br {P:Program} {w:World} {H:Hp} {h:Heap} (ok:jO P w H h) {v:V} {u:Value} {k:Int × List Int} (x:JW H v k) (r:RelV v u):jo h u k:=by
 obtain ⟨a,b,rest,rfl,h1,h2⟩:=x
 cases r
 obtain ⟨_,az,rv,o,ho,hc,n,hd⟩:=ok a _ h1
 obtain ⟨_,Qi,LC,t2⟩:=ok b _ h2
 cases rv with
 | cons ra rb =>
  obtain ⟨t,rfl⟩:=ra
  cases rb with
  | cons rc rd =>
   cases rc
   exact ⟨a,b,t,_,rfl,⟨o,ho,hc,n,hd⟩,Qi,LC,t2⟩
theorem Bj (hc:X.calm = true) (hu:X.A.units + 64 < cLine):cK X (.builtin "min") (fun xs H Q=>∃ (p:Addr) (vs:List V) (ks:List (Int × List Int)),xs = [.ref p] /\ aZ X.K H p vs /\ Paired (JW H) vs ks /\ (ks.map (·.2)).Nodup /\ vs ≠ [] /\
  ∀ (i:Nat) (v:V) (k:Int × List Int),vs[i]? = some v->ks[i]? = some k->(∀ k' ∈ ks,k.1 <= k'.1)->Q v H):=by
 intro pins s σ H xs us Q I r h
 obtain ⟨p,vs,ks,rfl,hp,pr,nd,ne,q⟩:=h
 obtain ⟨u,rfl,ru⟩:=vals1 r
 cases ru
 obtain ⟨az,rv,pl,_⟩:=I.list hp
 have l1:vs.length = az.length:=rv.length
 have l2:vs.length = ks.length:=pr.length
 have lp:0 < vs.length:=aat.mpr ne
 have bg:∀ (i:Nat) (x:Value),az[i]? = some x->jo s.heap x (ks.getD i (0,[])) /\ i < ks.length:=fun i x hx=>by
  have hi:i < az.length:=(Ys.mp hx).1
  have hv:vs[i]? = some (vs[i]'(by omega)):=Ya (by omega)
  obtain ⟨u',wx,OY⟩:=rv.get hv
  rw [hx] at wx
  cases wx
  obtain ⟨k,hk,kp⟩:=ug pr hv
  refine ⟨?_,by omega⟩
  rw [Yp,hk]
  exact Br I.aW kp OY
 have gd:∀ {i:Nat},i < ks.length->ks[i]? = some (ks.getD i (0,[])):=fun {i} hi=>by rw [Yp,Ya hi]; rfl
 refine DN (less:=fun i j=>aC (ks.getD i (0,[])) (ks.getD j (0,[]))) (I.ok.hd hc) pl.isList (by rw [Yk]; omega) (fun i j x y s' Q' E' hx hy CK old hq=>?_) fun x h' t' hx kp=>?_
 ·obtain ⟨b1,i1⟩:=bg i x (by simpa using hx)
  obtain ⟨b2,i2⟩:=bg j y (by simpa using hy)
  refine Cd (by show X.A.units + 1 + 8 < cLine; omega) (b1.old old) (b2.old old) (fun e=>CK ?_) hq
  refine nO nd (by rw [X6]; exact i1) (by rw [X6]; exact i2) ?_
  rw [List.getElem_map,List.getElem_map]
  have e1:=gd i1
  have e2:=gd i2
  rw [Ya i1] at e1
  rw [Ya i2] at e2
  rw [Y4 e1,Y4 e2]
  exact e
 ·rw [Yk] at hx
  have sS:az[argBest (fun i j=>aC (ks.getD i (0,[])) (ks.getD j (0,[]))) (az.length - 1)]? = some x:=by simpa using hx
  have ab:=pc (ks:=ks) (az.length - 1) (by omega)
  generalize argBest (fun i j=>aC (ks.getD i (0,[])) (ks.getD j (0,[]))) (az.length - 1) = b at sS ab
  have hb:b < az.length:=(Ys.mp sS).1
  have hv:vs[b]? = some (vs[b]'(by omega)):=Ya (by omega)
  obtain ⟨u',wx,OY⟩:=rv.get hv
  rw [sS] at wx
  cases wx
  refine ⟨_,H,I.kept (t':=t') kp,OY,q b _ _ hv (gd (by omega)) fun k' QS=>?_⟩
  obtain ⟨j,hj,e⟩:=Zj.mp QS
  have:=ab j (by omega)
  rw [Yp (i:=j),Ya hj,e] at this
  exact this
end
abbrev TF:=St->Hp->Str->(Str->Hp->Prop)->Prop
def PF (X:Cx) (es:List Expr) (t:TF):Prop:=∀ (pins:List (Addr × Obj)) (s:Shared) (σ:St) (H:Hp) (out:Str) (Q:Str->Hp->Prop),Inv X pins σ H s->t σ H out Q ->
 wpAny (model X.prog X.w) X.A (joinParts out (evalEach es X.env)) (EP X pins σ fun v H'=>∃ y,v = .str y /\ Q y H') X.xe s
section
variable {X:Cx} {pos:Pos} {e e2:Expr} {es:List Expr} {te:TE} {t:TF}
theorem zF:PF X [] (fun _ H out Q=>out.length <= sizeLine /\ Q out H):=fun pins s σ H out Q I h=>joinParts_nil ⟨.str out,H,I.tok _,⟨_,rfl⟩,out,rfl,h.2⟩ h.1
theorem jf (he:PE X e te) (ht:PF X es t) (Kw:evalEach (e :: es) X.env = eval e X.env :: evalEach es X.env:=by rfl):PF X (e :: es) (fun σ H out Q=>te σ H fun v H1=>∃ y,v = .str y /\ (out ++ y).length <= sizeLine /\ t σ H1 (out ++ y) Q):=by
 intro pins s σ H out Q I h
 rw [Kw]
 refine joinParts_cons (bT (he pins s σ H _ I h) fun v s1 ⟨x,H1,I1,r1,y,ex,hz,q⟩=>?_)
 subst ex
 obtain ⟨tk,rfl⟩:=r1
 exact ⟨hz,ht pins s1 σ H1 (out ++ y) Q I1 q⟩
theorem DP {p:Pos} (he:PE X e te) (ht:PF X es t) (Kw:evalEach (.FormattedValue e (-1) none p :: es) X.env = eval (.FormattedValue e (-1) none p) X.env :: evalEach es X.env:=by rfl) :
  PF X (.FormattedValue e (-1) none p :: es) (fun σ H out Q=>te σ H fun v H1=>∃ y,v = .str y /\ y.length <= sizeLine /\ (out ++ y).length <= sizeLine /\ t σ H1 (out ++ y) Q):=by
 intro pins s σ H out Q I h
 rw [Kw]
 refine joinParts_cons (FormattedValue_plain (bT (he pins s σ H _ I h) fun v s1 ⟨x,H1,I1,r1,y,ex,AM,hz,q⟩=>?_))
 subst ex
 obtain ⟨tk,rfl⟩:=r1
 exact formatField_str (fun t' R0=>⟨hz,ht pins _ σ H1 (out ++ y) Q (I1.tok _) q⟩) AM
theorem wa {p:Pos} (he:PE X e te) (ht:PF X es t) (Kw:evalEach (.FormattedValue e (-1) none p :: es) X.env = eval (.FormattedValue e (-1) none p) X.env :: evalEach es X.env:=by rfl) :
  PF X (.FormattedValue e (-1) none p :: es) (fun σ H out Q=>te σ H fun v H1=>∃ i:Int,v = .int i /\ i.natAbs.log2 < 1920 /\ (out ++ (toString i:Str)).length <= sizeLine /\ t σ H1 (out ++ (toString i:Str)) Q):=by
 intro pins s σ H out Q I h
 rw [Kw]
 refine joinParts_cons (FormattedValue_plain (bT (he pins s σ H _ I h) fun v s1 ⟨x,H1,I1,r1,i,ex,hd,hz,q⟩=>?_))
 subst ex
 obtain ⟨tk,rfl⟩:=r1
 exact formatField_int_small hd ⟨hz,ht pins _ σ H1 _ Q (I1.tok _) q⟩
theorem wm (ht:PF X (e :: e2 :: es) t) (Kw:evalEach (e :: e2 :: es) X.env = eval e X.env :: eval e2 X.env :: evalEach es X.env:=by rfl):PE X (.JoinedStr (e :: e2 :: es) pos) (fun σ H Q=>t σ H Str.empty fun y H'=>Q (.str y) H'):=by
 intro pins s σ H Q I h
 refine JoinedStr_many ?_
 rw [<- Kw]
 refine bT (ht pins s σ H Str.empty _ I h) fun v s1 ⟨x,H1,I1,r1,y,ex,q⟩=>?_
 subst ex
 exact ⟨.str y,H1,I1,r1,q⟩
end
def Cx.Ij (X:Cx):Cx:={ X with xe:=fun _ _=>False }
section
variable {X:Cx} {pos:Pos} {body:List Stmt} {h0:ExceptHandler} {hs:List ExceptHandler} {tb:TS} {pins:List (Addr × Obj)} {σ:List (Option V)} {H:Hp} {s:Shared}
theorem Cx.Ok.Ij (ok:X.Ok):X.Ij.Ok:=⟨ok.mod,ok.kind,ok.glob,ok.blt,ok.above,ok.inj,ok.has,ok.Jk,ok.hd,ok.frames,ok.K3,ok.KW,ok.bs,ok.BV,ok.zN,ok.yP,ok.lK,ok.Fw⟩
theorem Inv.Ij (I:Inv X pins σ H s):Inv X.Ij pins σ H s:=⟨I.ok.Ij,I.os,I.bare,I.base,I.loc,I.cell,I.free,I.ii,I.pin,I.aW,I.len⟩
theorem Inv.GB (ok:X.Ok) (I:Inv X.Ij pins σ H s):Inv X pins σ H s:=⟨ok,I.os,I.bare,I.base,I.loc,I.cell,I.free,I.ii,I.pin,I.aW,I.len⟩
theorem He (hb:v8 X.Ij body tb):PS X (.Try body (h0 :: hs) [] [] pos) tb:=by
 intro pins s σ H D I h
 refine wpAny_Try_except (Zn (hb pins s σ H D I.Ij h) (fun f s1 q=>?_) fun e s1 q=>q.elim)
 cases f with
 | next=>obtain ⟨a,b,i,r⟩:=q; exact wpAny_execs_nil ⟨a,b,i.GB I.ok,r⟩
 | ret v=>obtain ⟨a,b,c,i,r⟩:=q; exact ⟨a,b,c,i.GB I.ok,r⟩
 | brk=>obtain ⟨a,b,i,r⟩:=q; exact ⟨a,b,i.GB I.ok,r⟩
 | cont=>obtain ⟨a,b,i,r⟩:=q; exact ⟨a,b,i.GB I.ok,r⟩
theorem vK:cK X (.builtin "isinstance") (fun xs H Q=>∃ x D t b,xs = [x,.ref D] /\ nu X.K H x t /\ PySem.W.kitOne X.K t (.ref D) = some b /\ Q (.bl b) H):=by
 intro pins s σ H xs us Q I r h
 obtain ⟨x,D,t,b,rfl,ty,e,q⟩:=h
 obtain ⟨u,w',rfl,r1,r2⟩:=vals2 r
 cases r2
 exact uv I r1 ty e fun tk=>⟨.bl b,H,I.tok tk,rfl,q⟩
theorem Go (K:aaG) (C:Addr):PySem.W.kitOne K (.ref C) (.ref C) = some true:=by
 unfold PySem.W.kitOne
 rw [if_pos (by simp)]
structure SJ (K:aaG) (C:Addr):Prop where
 ha:PySem.W.findIn K (.ref C) "__class__" = some (some (.builtin "object.__class__"))
 hn:PySem.W.specialIn K (.builtin "object.__class__") "__get__" = some (some (.builtin "getset_descriptor.__get__"))
 Om:PySem.W.takesIn K (.builtin "object.__class__") = some true
 hm:PySem.W.mroIn K C (.type "object") = some true
end
end L2
namespace Sh
section
variable {α:Type} [DecidableEq α]
abbrev Mp (α:Type):=List (α × Int)
def lk (f:Mp α) (k:α):Option Int:=(f.find? fun x=>decide (x.1 = k)).map (·.2)
def put (f:Mp α) (k:α) (v:Int):Mp α:=if (lk f k).isSome then f.map (fun x=>if x.1 = k then (x.1,v) else x) else f ++ [(k,v)]
def eqB (f g:Mp α):Bool:=f.length == g.length && f.all fun p=>decide (lk g p.1 = some p.2)
theorem vR (k:α):lk [] k = none:=rfl
theorem fS (p:α × Int) (f:Mp α) (k:α):lk (p :: f) k = if p.1 = k then some p.2 else lk f k:=by
 unfold lk
 rw [ZN]
 by_cases e:p.1 = k
 ·rw [if_pos e,Yi e]; rfl
 ·rw [if_neg e,Yw e]
theorem AL {f:Mp α} {k:α} {v:Int} (h:lk f k = some v):(k,v) ∈ f:=by
 induction f with
 | nil=>rw [vR] at h; cases h
 | cons p f ih =>
  rw [fS] at h
  by_cases e:p.1 = k
  ·rw [if_pos e] at h
   cases h
   rw [<- e]; exact X9
  ·rw [if_neg e] at h
   exact X8 _ (ih h)
theorem u7 {f:Mp α} {k:α} {v:Int} (h:lk f k = some v):k ∈ f.map (·.1):=Y0 (f:=fun x:α × Int=>x.1) (AL h)
theorem Ab {f:Mp α} {k:α}:lk f k = none ↔ k ∉ f.map (·.1):=by
 induction f with
 | nil=>simp [vR]
 | cons p f ih =>
  rw [fS,Yq,Yb]
  by_cases e:p.1 = k
  ·rw [if_pos e]; simp [e]
  ·rw [if_neg e,ih]
   exact ⟨fun h z=>z.elim (fun z=>e z.symm) h,fun h z=>h (.inr z)⟩
theorem Ig {f:Mp α} (nd:(f.map (·.1)).Nodup) {p:α × Int} (h:p ∈ f):lk f p.1 = some p.2:=by
 induction f with
 | nil=>cases h
 | cons q f ih =>
  rw [Yq,Ze] at nd
  rw [fS]
  rcases Yb.mp h with e | h
  ·rw [if_pos (by rw [e]),e]
  ·rw [if_neg (fun e=>nd.1 (by rw [e]; exact Y0 (f:=fun x:α × Int=>x.1) h))]
   exact ih nd.2 h
theorem JA (f g:Mp α) (k:α):lk (f ++ g) k = (lk f k).or (lk g k):=by
 induction f with
 | nil=>rfl
 | cons p f ih =>
  rw [List.cons_append,fS,fS,ih]
  by_cases e:p.1 = k
  ·rw [if_pos e,if_pos e]; rfl
  ·rw [if_neg e,if_neg e]
theorem FL (f:Mp α) (k j:α) (v:Int):lk (f.map fun x=>if x.1 = k then (x.1,v) else x) j = if j = k then (lk f j).map (fun _=>v) else lk f j:=by
 induction f with
 | nil=>by_cases e:j = k <;> simp [e,vR]
 | cons p f ih =>
  rw [Yq,fS,fS,ih]
  by_cases e1:p.1 = k
  ·rw [if_pos e1]
   by_cases e2:j = k
   ·simp [e2,e1]
   ·have:¬ p.1 = j:=fun z=>e2 (z.symm.trans e1)
    simp [this,e2]
  ·rw [if_neg e1]
   by_cases e2:j = k
   ·have:¬ p.1 = j:=fun z=>e1 (z.trans e2)
    rw [if_pos e2,if_neg this,if_pos e2,if_neg this]
   ·simp [e2]
theorem zW (f:Mp α) (k j:α) (v:Int):lk (put f k v) j = if j = k then some v else lk f j:=by
 unfold put
 by_cases h:(lk f k).isSome = true
 ·rw [if_pos h,FL]
  by_cases e:j = k
  ·rw [if_pos e,if_pos e,e]
   cases q:lk f k with
   | none=>rw [q] at h; cases h
   | some u=>rfl
  ·rw [if_neg e,if_neg e]
 ·rw [if_neg h,JA,fS]
  have h':lk f k = none:=by cases q:lk f k with
   | none=>rfl
   | some u=>rw [q] at h; exact absurd rfl h
  by_cases e:j = k
  ·rw [if_pos e,if_pos e.symm,e,h']; rfl
  ·rw [if_neg e,if_neg (fun z=>e z.symm),vR]
   cases lk f j <;> rfl
theorem uk (f:Mp α) (k:α) (v:Int):(f.map fun x=>if x.1 = k then (x.1,v) else x).map (·.1) = f.map (·.1):=by
 rw [YQ]
 refine aas fun x _=>?_
 show (if x.1 = k then (x.1,v) else x).1 = x.1
 by_cases e:x.1 = k
 ·rw [if_pos e]
 ·rw [if_neg e]
theorem BM {f:Mp α} {k:α} {v:Int} (nd:(f.map (·.1)).Nodup):((put f k v).map (·.1)).Nodup:=by
 unfold put
 by_cases h:(lk f k).isSome = true
 ·rw [if_pos h,uk]; exact nd
 ·rw [if_neg h,Yd,List.nodup_append]
  refine ⟨nd,by simp,fun a ha b hb e=>?_⟩
  have e2:b = k:=by simpa using hb
  have h':lk f k = none:=by cases q:lk f k with
   | none=>rfl
   | some u=>rw [q] at h; exact absurd rfl h
  exact Ab.mp h' (by rw [<- e2,<- e]; exact ha)
theorem CY {f:Mp α} {k j:α} {v:Int} (h:j ∈ (put f k v).map (·.1)):j ∈ f.map (·.1) \/ j = k:=by
 unfold put at h
 by_cases h':(lk f k).isSome = true
 ·rw [if_pos h',uk] at h; exact .inl h
 ·rw [if_neg h',Yd,Yz] at h
  exact h.imp id fun z=>by simpa using z
theorem sub_len:∀ {l m:List α},l.Nodup->(∀ x ∈ l,x ∈ m)->l.length <= m.length
 | [],_,_,_=>YD _
 | a :: l,m,nd,h=>by
  rw [Ze] at nd
  have ha:=h a X9
  have:=sub_len (m:=m.erase a) nd.2 fun x hx=>(List.mem_erase_of_ne (fun e=>nd.1 (by rw [<- e]; exact hx))).mpr (h x (X8 _ hx))
  rw [List.length_erase_of_mem ha] at this
  have:=List.length_pos_of_mem ha
  simp only [YW]
  omega
theorem Gz {l m:List α} (nd:l.Nodup) (h:∀ x ∈ l,x ∈ m) (hl:m.length <= l.length):∀ x ∈ m,x ∈ l:=by
 intro x hx
 by_cases q:x ∈ l
 ·exact q
 ·have:=sub_len (l:=l) (m:=m.erase x) nd fun y hy=>(List.mem_erase_of_ne (fun e=>q (by rw [<- e]; exact hy))).mpr (h y hy)
  rw [List.length_erase_of_mem hx] at this
  have:=List.length_pos_of_mem hx
  omega
theorem DU {f g:Mp α} (nf:(f.map (·.1)).Nodup) (h:eqB f g = true) (k:α):lk f k = lk g k:=by
 unfold eqB at h
 rw [YM] at h
 have hl:f.length = g.length:=eq_of_beq h.1
 have ha:∀ p ∈ f,lk g p.1 = some p.2:=fun p hp=>YA (Y7.mp h.2 p hp)
 cases q:lk f k with
 | some v=>exact (ha _ (AL q)).symm
 | none =>
  cases q2:lk g k with
  | none=>rfl
  | some v =>
   have:=Gz (l:=f.map (·.1)) (m:=g.map (·.1)) nf (fun x hx=>by
    obtain ⟨p,hp,rfl⟩:=YI.mp hx
    exact u7 (ha p hp)) (by rw [X6,X6]; omega) k (u7 q2)
   exact absurd this (Ab.mp q)
theorem EE {f g:Mp α} (nf:(f.map (·.1)).Nodup) (ng:(g.map (·.1)).Nodup) (h:∀ k,lk f k = lk g k):eqB f g = true:=by
 unfold eqB
 have sub:∀ {f g:Mp α},(f.map (·.1)).Nodup->(∀ k,lk f k = lk g k)->f.length <= g.length:=fun {f g} nf h=>by
  have:=sub_len (l:=f.map (·.1)) (m:=g.map (·.1)) nf fun x hx=>by
   obtain ⟨p,hp,rfl⟩:=YI.mp hx
   have e:=Ig nf hp
   rw [h] at e
   exact u7 e
  rwa [X6,X6] at this
 rw [YM]
 refine ⟨ZZ.mpr (Nat.le_antisymm (sub nf h) (sub ng fun k=>(h k).symm)),Y7.mpr fun p hp=>Yi ?_⟩
 rw [<- h]; exact Ig nf hp
inductive Walk (E:α->Int->α->Prop) (e:α):α->Int->Prop
 | nil:Walk E e e 0
 | cons {s b:α} {m v:Int}:E s m b->Walk E e b v->Walk E e s (m + v)
variable {E:α->Int->α->Prop} {e:α}
def Sound (E:α->Int->α->Prop) (e:α) (f:Mp α):Prop:=∀ s v,lk f s = some v->Walk E e s v
def oM (E:α->Int->α->Prop) (f:Mp α):Prop:=∀ s m b v,E s m b->lk f b = some v->∃ u,lk f s = some u /\ u <= m + v
def Based (e:α) (f:Mp α):Prop:=∃ u,lk f e = some u /\ u <= 0
def Later (E:α->Int->α->Prop):Prop:=∀ s m b,E s m b->1 <= m
theorem Walk.nonneg (hE:Later E) {s:α} {v:Int} (w:Walk E e s v):0 <= v:=by
 induction w with
 | nil=>exact Int.le_refl _
 | cons h _ ih=>have:=hE _ _ _ h; omega
theorem best {f:Mp α} (hc:oM E f) (hb:Based e f) {s:α} {m:Int} (w:Walk E e s m):∃ u,lk f s = some u /\ u <= m:=by
 induction w with
 | nil=>exact hb
 | cons h _ ih =>
  obtain ⟨u,h1,h2⟩:=ih
  obtain ⟨u',h3,h4⟩:=hc _ _ _ _ h h1
  exact ⟨u',h3,by omega⟩
theorem agree {f g:Mp α} (sf:Sound E e f) (cf:oM E f) (bf:Based e f) (sg:Sound E e g) (cg:oM E g) (bg:Based e g) (s:α):lk f s = lk g s:=by
 cases h1:lk f s with
 | some v =>
  obtain ⟨u,h2,h3⟩:=best cg bg (sf s v h1)
  obtain ⟨v',h4,h5⟩:=best cf bf (sg s u h2)
  rw [h1] at h4
  cases h4
  rw [h2,show u = v by omega]
 | none =>
  cases h2:lk g s with
  | none=>rfl
  | some u =>
   obtain ⟨v',h4,_⟩:=best cf bf (sg s u h2)
   rw [h1] at h4
   cases h4
def it {β:Type} (step:β->β):Nat->β->β
 | 0,x=>x
 | n + 1,x=>step (it step n x)
theorem HL {β:Type} (step:β->β):∀ n x,it step n (step x) = step (it step n x)
 | 0,_=>rfl
 | n + 1,x=>by show step (it step n (step x)) = _; rw [HL step n x]; rfl
theorem L8 {β:Type} (m1 m2:β->Nat) (step:β->β) (P:β->Prop) (stop:β->Bool) (inv:∀ x,P x->P (step x))
  (dec:∀ x,P x->stop x = false->m1 (step x) < m1 x \/ (m1 (step x) <= m1 x /\ m2 (step x) < m2 x)):∀ x,P x->∃ n,stop (it step n x) = true:=by
 have go:∀ a b x,P x->m1 x <= a->m2 x <= b->∃ n,stop (it step n x) = true:=by
  intro a
  induction a using Nat.strongRecOn with
  | ind a R9 =>
   intro b
   induction b using Nat.strongRecOn with
   | ind b UV =>
    intro x hx h1 h2
    cases q:stop x with
    | true=>exact ⟨0,q⟩
    | false =>
     have:∃ n,stop (it step n (step x)) = true:=by
      rcases dec x hx q with d | ⟨d1,d2⟩
      ·exact R9 (m1 (step x)) (by omega) (m2 (step x)) (step x) (inv x hx) (X7 _) (X7 _)
      ·by_cases hb:m1 (step x) < a
       ·exact R9 (m1 (step x)) hb (m2 (step x)) (step x) (inv x hx) (X7 _) (X7 _)
       ·exact UV (m2 (step x)) (by omega) (step x) (inv x hx) (by omega) (X7 _)
     obtain ⟨n,hn⟩:=this
     exact ⟨n + 1,by show stop (step (it step n x)) = true; rw [<- HL step n x]; exact hn⟩
 exact fun x hx=>go _ _ x hx (X7 _) (X7 _)
theorem E7 {β:Type} {step:β->β} {P:β->Prop} (inv:∀ x,P x->P (step x)):∀ n x,P x->P (it step n x)
 | 0,_,h=>h
 | n + 1,x,h=>inv _ (E7 inv n x h)
def pI (f g:Mp α):Prop:=∀ k v,lk f k = some v->∃ u,lk g k = some u /\ u <= v
theorem pI.refl (f:Mp α):pI f f:=fun k v h=>⟨v,h,Int.le_refl _⟩
theorem pI.trans {f g h:Mp α} (a:pI f g) (b:pI g h):pI f h:=fun k v q=>by
 obtain ⟨u,h1,h2⟩:=a k v q
 obtain ⟨u',h3,h4⟩:=b k u h1
 exact ⟨u',h3,by omega⟩
def miss (ns:List α) (f:Mp α):Nat:=ns.countP fun n=>(lk f n).isNone
def xi (ns:List α) (f:Mp α):Nat:=(ns.map fun n=>((lk f n).getD 0).toNat).sum
theorem qh {f g:Mp α} (h:pI f g):∀ ns:List α,miss ns g <= miss ns f
 | []=>X7 _
 | n :: ns=>by
  have ih:=qh h ns
  unfold miss at *
  rw [Zs,Zs]
  cases q:lk f n with
  | none=>simp only [Option.isNone_none]; split <;> simp <;> omega
  | some v =>
   obtain ⟨u,h1,_⟩:=h n v q
   rw [h1]
   exact ih
theorem zn {f g:Mp α} (h:pI f g):∀ {ns:List α},miss ns g = miss ns f->xi ns g <= xi ns f
 | [],_=>X7 _
 | n :: ns,e=>by
  have ml:=qh h ns
  unfold miss xi at *
  rw [Zs,Zs] at e
  rw [Yq,List.sum_cons,Yq,List.sum_cons]
  cases q:lk f n with
  | none =>
   rw [q] at e
   cases q2:lk g n with
   | none =>
    rw [q2] at e
    have:=zn h (ns:=ns) (by unfold miss; omega)
    unfold xi at this
    simp; omega
   | some u=>rw [q2] at e; simp at e; omega
  | some v =>
   obtain ⟨u,h1,h2⟩:=h n v q
   rw [q,h1] at e
   have:=zn h (ns:=ns) (by unfold miss; simp at e; omega)
   unfold xi at this
   rw [h1]
   simp; omega
theorem HU {f g:Mp α} (h:pI f g) (pos:∀ k v,lk g k = some v->0 <= v):∀ {ns:List α} {n:α},n ∈ ns->lk f n ≠ lk g n->miss ns g < miss ns f \/ (miss ns g <= miss ns f /\ xi ns g < xi ns f)
 | [],_,hn,_=>by cases hn
 | a :: ns,n,hn,ne=>by
  have ml:=qh h (a :: ns)
  by_cases el:miss (a :: ns) g = miss (a :: ns) f
  ·refine .inr ⟨ml,?_⟩
   have Sy:=qh h ns
   have FO:=el
   unfold miss at FO Sy
   rw [Zs,Zs] at FO
   have hd:(lk g a).isNone = (lk f a).isNone /\ miss ns g = miss ns f:=by
    unfold miss
    cases q:lk f a with
    | none =>
     rw [q] at FO
     cases q2:lk g a with
     | none=>rw [q2] at FO; simp at FO; exact ⟨rfl,by omega⟩
     | some u=>rw [q2] at FO; simp at FO; omega
    | some v =>
     obtain ⟨u,h1,_⟩:=h a v q
     rw [q,h1] at FO
     rw [h1]
     simp at FO
     exact ⟨rfl,by omega⟩
   have hs:=zn h hd.2
   have first:((lk g a).getD 0).toNat <= ((lk f a).getD 0).toNat:=by
    cases q:lk f a with
    | none =>
     have:=hd.1
     rw [q] at this
     cases q2:lk g a with
     | none=>exact X7 _
     | some u=>rw [q2] at this; cases this
    | some v =>
     obtain ⟨u,h1,h2⟩:=h a v q
     rw [h1]; simp; omega
   show (((a :: ns).map fun n=>((lk g n).getD 0).toNat).sum) < (((a :: ns).map fun n=>((lk f n).getD 0).toNat).sum)
   rw [Yq,List.sum_cons,Yq,List.sum_cons]
   have Sq:(ns.map fun n=>((lk g n).getD 0).toNat).sum <= (ns.map fun n=>((lk f n).getD 0).toNat).sum:=hs
   rcases Yb.mp hn with rfl | hn
   ·cases q:lk f n with
    | none =>
     have:=hd.1
     rw [q] at this ne
     cases q2:lk g n with
     | none=>rw [q2] at ne; exact absurd rfl ne
     | some u=>rw [q2] at this; cases this
    | some v =>
     obtain ⟨u,h1,h2⟩:=h n v q
     have p:=pos _ _ h1
     rw [q,h1] at ne
     have:u ≠ v:=fun z=>ne (by rw [z])
     rw [h1]; simp; omega
   ·rcases HU h pos hn ne with z | ⟨_,z⟩
    ·rw [hd.2] at z; exact absurd z (Zf _)
    ·have z':(ns.map fun n=>((lk g n).getD 0).toNat).sum < (ns.map fun n=>((lk f n).getD 0).toNat).sum:=z
     omega
  ·exact .inl (by omega)
def se (f g:Mp α) (n:α):Prop:=∃ v,lk g n = some v /\ ∀ u,lk f n = some u->v < u
theorem se.ne {f g:Mp α} {n:α} (h:se f g n):lk f n ≠ lk g n:=fun z=>by
 obtain ⟨v,h1,h2⟩:=h
 rw [h1] at z
 exact absurd (h2 v z) (by omega)
theorem se.less {f g h:Mp α} {n:α} (a:se f g n) (b:pI g h):se f h n:=by
 obtain ⟨v,h1,h2⟩:=a
 obtain ⟨u,h3,h4⟩:=b n v h1
 exact ⟨u,h3,fun x hx=>by have:=h2 x hx; omega⟩
structure tH (E:α->Int->α->Prop) (e:α) (ks:List α) (f:Mp α):Prop where
 sound:Sound E e f
 nd:(f.map (·.1)).Nodup
 base:Based e f
 keys:∀ k ∈ f.map (·.1),k = e \/ k ∈ ks
theorem Based.less {f g:Mp α} (h:pI f g) (b:Based e f):Based e g:=by
 obtain ⟨u,h1,h2⟩:=b
 obtain ⟨v,h3,h4⟩:=h _ _ h1
 exact ⟨v,h3,by omega⟩
theorem qS (ks:List α):tH E e ks [(e,0)] where
 sound:=fun s v h=>by
  rw [fS] at h
  by_cases q:e = s
  ·rw [if_pos q] at h; cases h; rw [<- q]; exact .nil
  ·rw [if_neg q] at h; cases h
 nd:=by simp
 base:=⟨0,by rw [fS,if_pos rfl],Int.le_refl _⟩
 keys:=fun k hk=>.inl (by simpa using hk)
section
variable {γ:Type}
abbrev Way (γ α:Type):=γ × Int × α
abbrev G8 (γ α:Type):=List (α × List (Way γ α))
def zC:List Int->Int
 | []=>0
 | x :: r=>r.foldl min x
theorem Jg:∀ (r:List Int) (x:Int),(r.foldl min x ∈ x :: r) /\ ∀ y ∈ x :: r,r.foldl min x <= y
 | [],x=>⟨X9,fun y hy=>by
   have:y = x:=by simpa using hy
   rw [this]; exact Int.le_refl _⟩
 | a :: r,x=>by
  rw [ZU]
  obtain ⟨h1,h2⟩:=Jg r (min x a)
  constructor
  ·rcases Yb.mp h1 with z | z
   ·rw [z]
    by_cases q:x <= a
    ·rw [Int.min_eq_left q]; exact X9
    ·rw [Int.min_eq_right (by omega)]; exact X8 _ X9
   ·exact X8 _ (X8 _ z)
  ·intro y hy
   have h0:=h2 (min x a) X9
   rcases Yb.mp hy with rfl | hy
   ·have:=Int.min_le_left y a; omega
   ·rcases Yb.mp hy with rfl | hy
    ·have:=Int.min_le_right x y; omega
    ·exact h2 y (X8 _ hy)
theorem w8 {l:List Int} (h:l ≠ []):zC l ∈ l:=by
 cases l with
 | nil=>exact absurd rfl h
 | cons x r=>exact (Jg r x).1
theorem vW {l:List Int} {y:Int} (h:y ∈ l):zC l <= y:=by
 cases l with
 | nil=>cases h
 | cons x r=>exact (Jg r x).2 y h
theorem G3 {l:List Int} {m:Int} (h1:m ∈ l) (h2:∀ y ∈ l,m <= y):m = zC l:=by
 have:=vW h1
 have:=h2 _ (w8 (List.ne_nil_of_mem h1))
 omega
def B8 (f:Mp α) (gj:List (Way γ α)):List Int:=(gj.filter fun x=>(lk f x.2.2).isSome).map fun x=>x.2.1 + (lk f x.2.2).getD 0
def hX (f:Mp α) (c:α × List (Way γ α)):List Int:=B8 f c.2 ++ (lk f c.1).toList
def dH (f:Mp α) (l:Mp α) (c:α × List (Way γ α)):Mp α:=if hX f c = [] then l else put l c.1 (zC (hX f c))
def oneMore (cs:G8 γ α) (f:Mp α):Mp α:=cs.foldl (dH f) f
theorem E5 {f:Mp α} {gj:List (Way γ α)} {t:Int}:t ∈ B8 f gj ↔ ∃ x ∈ gj,∃ v,lk f x.2.2 = some v /\ t = x.2.1 + v:=by
 unfold B8
 rw [YI]
 constructor
 ·rintro ⟨x,hx,rfl⟩
  obtain ⟨h1,h2⟩:=YK.mp hx
  cases q:lk f x.2.2 with
  | none=>rw [q] at h2; cases h2
  | some v=>exact ⟨x,h1,v,q,rfl⟩
 ·rintro ⟨x,hx,v,q,rfl⟩
  exact ⟨x,YK.mpr ⟨hx,by rw [q]; rfl⟩,by rw [q]; rfl⟩
theorem qG {f:Mp α} {c:α × List (Way γ α)} {t:Int}:t ∈ hX f c ↔ (∃ x ∈ c.2,∃ v,lk f x.2.2 = some v /\ t = x.2.1 + v) \/ lk f c.1 = some t:=by
 unfold hX
 rw [Yz,E5]
 refine or_congr Iff.rfl ?_
 cases lk f c.1 with
 | none=>simp
 | some u=>simp; exact eq_comm
theorem kJ {f:Mp α} {s:α}:∀ (cs:G8 γ α) (l:Mp α),(∀ c ∈ cs,c.1 ≠ s)->lk (cs.foldl (dH f) l) s = lk l s
 | [],_,_=>rfl
 | c :: cs,l,h=>by
  rw [ZU,kJ cs _ fun c hc=>h c (X8 _ hc)]
  unfold dH
  by_cases q:hX f c = []
  ·rw [if_pos q]
  ·rw [if_neg q,zW,if_neg (fun z=>h c X9 z.symm)]
theorem nA {f:Mp α}:∀ (cs:G8 γ α) (l:Mp α),(cs.map (·.1)).Nodup->∀ c ∈ cs,lk (cs.foldl (dH f) l) c.1 = if hX f c = [] then lk l c.1 else some (zC (hX f c))
 | [],_,_,c,hc=>by cases hc
 | d :: cs,l,nd,c,hc=>by
  rw [Yq,Ze] at nd
  rw [ZU]
  rcases Yb.mp hc with rfl | yC
  ·rw [kJ cs _ fun c' yC z=>nd.1 (by rw [<- z]; exact Y0 (f:=fun x:α × List (Way γ α)=>x.1) yC)]
   unfold dH
   by_cases q:hX f c = []
   ·rw [if_pos q,if_pos q]
   ·rw [if_neg q,if_neg q,zW,if_pos rfl]
  ·rw [nA cs _ nd.2 c yC]
   have ne:¬ c.1 = d.1:=fun z=>nd.1 (by rw [<- z]; exact Y0 (f:=fun x:α × List (Way γ α)=>x.1) yC)
   congr 1
   unfold dH
   by_cases q:hX f d = []
   ·rw [if_pos q]
   ·rw [if_neg q,zW,if_neg ne]
theorem gW {f:Mp α}:∀ (cs:G8 γ α) (l:Mp α),(l.map (·.1)).Nodup->((cs.foldl (dH f) l).map (·.1)).Nodup /\ ∀ k ∈ (cs.foldl (dH f) l).map (·.1),k ∈ l.map (·.1) \/ k ∈ cs.map (·.1)
 | [],l,h=>⟨h,fun k hk=>.inl hk⟩
 | c :: cs,l,h=>by
  rw [ZU]
  by_cases q:hX f c = []
  ·obtain ⟨a,b⟩:=gW cs l h
   have e:dH f l c = l:=by unfold dH; rw [if_pos q]
   rw [e]
   exact ⟨a,fun k hk=>(b k hk).imp id fun z=>X8 _ z⟩
  ·have e:dH f l c = put l c.1 (zC (hX f c)):=by unfold dH; rw [if_neg q]
   rw [e]
   obtain ⟨a,b⟩:=gW cs _ (BM (k:=c.1) (v:=zC (hX f c)) h)
   refine ⟨a,fun k hk=>?_⟩
   rcases b k hk with z | z
   ·rcases CY z with z | z
    ·exact .inl z
    ·rw [z]; exact .inr X9
   ·exact .inr (X8 _ z)
def Tells (E:α->Int->α->Prop) (cs:G8 γ α):Prop:=∀ s m b,E s m b ↔ ∃ c ∈ cs,c.1 = s /\ ∃ g,(g,m,b) ∈ c.2
theorem sM {cs:G8 γ α} (nd:(cs.map (·.1)).Nodup) (f:Mp α):pI f (oneMore cs f):=fun k v h=>by
 unfold oneMore
 by_cases q:∃ c ∈ cs,c.1 = k
 ·obtain ⟨c,hc,rfl⟩:=q
  rw [nA cs f nd c hc]
  have m:v ∈ hX f c:=qG.mpr (.inr h)
  rw [if_neg (List.ne_nil_of_mem m)]
  exact ⟨_,rfl,vW m⟩
 ·rw [kJ cs f fun c hc z=>q ⟨c,hc,z⟩]
  exact ⟨v,h,Int.le_refl _⟩
theorem nE {cs:G8 γ α} (nd:(cs.map (·.1)).Nodup) (hE:Tells E cs) {f:Mp α} (h:tH E e (cs.map (·.1)) f):tH E e (cs.map (·.1)) (oneMore cs f) where
 sound:=fun s v hv=>by
  unfold oneMore at hv
  by_cases q:∃ c ∈ cs,c.1 = s
  ·obtain ⟨c,hc,rfl⟩:=q
   rw [nA cs f nd c hc] at hv
   by_cases q2:hX f c = []
   ·rw [if_pos q2] at hv; exact h.sound _ _ hv
   ·rw [if_neg q2] at hv
    cases hv
    rcases qG.mp (w8 q2) with ⟨x,hx,u,hu,e⟩ | e
    ·rw [e]
     exact .cons ((hE _ _ _).mpr ⟨c,hc,rfl,x.1,hx⟩) (h.sound _ _ hu)
    ·exact h.sound _ _ e
  ·rw [kJ cs f fun c hc z=>q ⟨c,hc,z⟩] at hv
   exact h.sound _ _ hv
 nd:=(gW cs f h.nd).1
 base:=h.base.less (sM nd f)
 keys:=fun k hk=>by
  rcases (gW cs f h.nd).2 k hk with z | z
  ·exact h.keys k z
  ·exact .inr z
theorem Dm {cs:G8 γ α} (nd:(cs.map (·.1)).Nodup) (hE:Tells E cs) (hL:Later E) (he:e ∈ cs.map (·.1)):∃ n,eqB (oneMore cs (it (oneMore cs) n [(e,0)])) (it (oneMore cs) n [(e,0)]) = true:=by
 refine L8 (miss (cs.map (·.1))) (xi (cs.map (·.1))) (oneMore cs) (tH E e (cs.map (·.1))) (fun f=>eqB (oneMore cs f) f) (fun x h=>nE nd hE h) (fun f h q=>?_) [(e,0)] (qS _)
 have fp:=nE nd hE h
 have:∃ k,lk f k ≠ lk (oneMore cs f) k:=by
  refine Classical.byContradiction fun z=>?_
  have z':∀ k,lk (oneMore cs f) k = lk f k:=fun k=>Classical.byContradiction fun y=>z ⟨k,fun x=>y x.symm⟩
  rw [EE fp.nd h.nd z'] at q
  cases q
 obtain ⟨k,hk⟩:=this
 have A6:k ∈ cs.map (·.1):=by
  have:k ∈ (oneMore cs f).map (·.1):=by
   cases q1:lk (oneMore cs f) k with
   | some v=>exact u7 q1
   | none =>
    cases q2:lk f k with
    | none=>rw [q1,q2] at hk; exact absurd rfl hk
    | some v =>
     obtain ⟨u,hu,_⟩:=sM nd f k v q2
     rw [q1] at hu; cases hu
  rcases fp.keys k this with z | z
  ·rw [z]; exact he
  ·exact z
 exact HU (sM nd f) (fun k v hk=>(fp.sound k v hk).nonneg hL) A6 hk
theorem yU {cs:G8 γ α} (nd:(cs.map (·.1)).Nodup) (hE:Tells E cs) {f:Mp α} (h:tH E e (cs.map (·.1)) f) (hq:eqB (oneMore cs f) f = true):oM E f:=by
 intro s m b v hs hb
 obtain ⟨c,hc,rfl,g,hg⟩:=(hE s m b).mp hs
 have same:=DU (nE nd hE h).nd hq c.1
 have mm:m + v ∈ hX f c:=qG.mpr (.inl ⟨_,hg,v,hb,rfl⟩)
 unfold oneMore at same
 rw [nA cs f nd c hc,if_neg (List.ne_nil_of_mem mm)] at same
 exact ⟨_,same.symm,vW mm⟩
end
end
end Sh
namespace FN
open PySem L2 PyProof.Rows
theorem mr:∀ {l1 l2:List Int},l1.Pairwise (· < ·)->l2.Pairwise (· < ·)->(∀ x,x ∈ l1 ↔ x ∈ l2)->l1 = l2
 | [],[],_,_,_=>rfl
 | [],b :: r,_,_,h=>absurd ((h b).mpr X9) (by simp)
 | a :: l,[],_,_,h=>absurd ((h a).mp X9) (by simp)
 | a :: l,b :: r,h1,h2,h=>by
  obtain ⟨ha,hl⟩:=YY.mp h1
  obtain ⟨hb,hr⟩:=YY.mp h2
  have e:a = b:=by
   rcases Yb.mp ((h a).mp X9) with e | e
   ·exact e
   ·rcases Yb.mp ((h b).mpr X9) with e' | e'
    ·exact e'.symm
    ·have z1:=hb a e
     have z2:=ha b e'
     omega
  subst e
  have t:l = r:=by
   refine mr hl hr fun x=>⟨fun hx=>?_,fun hx=>?_⟩
   ·rcases Yb.mp ((h x).mp (X8 _ hx)) with e | e
    ·have:=ha x hx; omega
    ·exact e
   ·rcases Yb.mp ((h x).mpr (X8 _ hx)) with e | e
    ·have:=hb x hx; omega
    ·exact e
  rw [t]
def pd (g:List Int):Bool:=((g.zip (g.drop 1)).map fun p=>decide (p.1 < p.2)).all id
theorem qM (a b:Int) (r:List Int):pd (a :: b :: r) = (decide (a < b) && pd (b :: r)):=rfl
theorem wF:∀ {g:List Int},pd g = true->g.Pairwise (· < ·)
 | [],_=>.nil
 | [a],_=>by simp
 | a :: b :: r,h=>by
  rw [qM,YM] at h
  have BC:a < b:=YA h.1
  have ih:=wF h.2
  refine YY.mpr ⟨fun x hx=>?_,ih⟩
  rcases Yb.mp hx with e | e
  ·rw [e]; exact BC
  ·exact Int.lt_trans BC ((YY.mp ih).1 x e)
theorem pw_rises:∀ {g:List Int},g.Pairwise (· < ·)->pd g = true
 | [],_=>rfl
 | [a],_=>rfl
 | a :: b :: r,h=>by
  obtain ⟨ha,hr⟩:=YY.mp h
  rw [qM,pw_rises hr,Yi (ha b X9)]
  rfl
theorem fO:∀ n,(a6 n).Pairwise (· < ·)
 | 0=>.nil
 | n + 1=>by
  rw [gK]
  refine Yr.mpr ⟨fO n,by simp,fun a ha b hb=>?_⟩
  rw [YG.mp hb]
  exact (c8.mp ha).2
theorem fq {l:List Int} (p:Int->Bool) (h:l.Pairwise (· < ·)):(l.filter p).Pairwise (· < ·):=List.Pairwise.sublist aau h
theorem contains_iff {g:List Int} {t:Int}:g.contains t = true ↔ t ∈ g:=List.contains_iff_mem
theorem snoc_ind {M:List Int->Prop} (nil:M []) (snoc:∀ l t,M l->M (l ++ [t])) (l:List Int):M l:=by
 have go:∀ r:List Int,M r.reverse:=fun r=>by
  induction r with
  | nil=>exact nil
  | cons a r ih=>rw [List.reverse_cons]; exact snoc _ _ ih
 have:=go l.reverse
 rwa [List.reverse_reverse] at this
def jJ (kY:List Int):List (List Int):=kY.foldl (fun gs t=>gs ++ gs.map (· ++ [t])) [[]]
theorem gV (l:List Int) (t:Int):jJ (l ++ [t]) = jJ l ++ (jJ l).map (· ++ [t]):=by
 unfold jJ
 rw [List.foldl_append]
 rfl
theorem A5 (l:List Int):[] ∈ jJ l:=by
 induction l using snoc_ind with
 | nil=>exact YG.mpr rfl
 | snoc l t ih=>rw [gV]; exact Zu _ ih
theorem kD (l:List Int):(jJ l).length = 2 ^ l.length:=by
 induction l using snoc_ind with
 | nil=>rfl
 | snoc l t ih=>rw [gV,Yx,X6,ih,Yx,List.length_singleton,Nat.pow_succ]; omega
theorem iX {l c:List Int} (h:c ∈ jJ l):c.Sublist l:=by
 induction l using snoc_ind generalizing c with
 | nil=>rw [YG.mp h]; exact .slnil
 | snoc l t ih =>
  rw [gV] at h
  rcases Yz.mp h with z | z
  ·exact (ih z).trans (List.sublist_append_left _ _)
  ·obtain ⟨c',h1,rfl⟩:=YI.mp z
   exact (ih h1).append (List.Sublist.refl _)
theorem iy:∀ (k:Nat) (t num:Int),dL (k + 1) t num = dL k t num ++ (if num / 2 ^ k % 2 = 1 then [t + k] else [])
 | 0,t,num=>by
  show (if num % 2 = 1 then [t] else []) ++ [] = [] ++ (if num / 2 ^ 0 % 2 = 1 then [t + ((0:Nat):Int)] else [])
  simp
 | k + 1,t,num=>by
  show (if num % 2 = 1 then [t] else []) ++ dL (k + 1) (t + 1) (num / 2) = ((if num % 2 = 1 then [t] else []) ++ dL k (t + 1) (num / 2)) ++ _
  rw [iy k (t + 1) (num / 2),Yo]
  have e1:num / 2 / 2 ^ k = num / 2 ^ (k + 1):=by
   rw [Int.ediv_ediv_of_nonneg (by decide:(0:Int) <= 2),Int.pow_succ,Int.mul_comm]
  have e2:t + 1 + (k:Int) = t + ((k + 1:Nat):Int):=by omega
  rw [e1,e2]
theorem mU:∀ (k:Nat) (t num j:Int),dL k t (num + 2 ^ k * j) = dL k t num
 | 0,_,_,_=>rfl
 | k + 1,t,num,j=>by
  have e:num + 2 ^ (k + 1) * j = num + 2 * (2 ^ k * j):=by rw [Int.pow_succ,Int.mul_comm (2 ^ k) 2,Int.mul_assoc]
  have e1:(num + 2 ^ (k + 1) * j) % 2 = num % 2:=by rw [e]; omega
  have e2:(num + 2 ^ (k + 1) * j) / 2 = num / 2 + 2 ^ k * j:=by rw [e]; omega
  show (if (num + 2 ^ (k + 1) * j) % 2 = 1 then [t] else []) ++ dL k (t + 1) ((num + 2 ^ (k + 1) * j) / 2) = (if num % 2 = 1 then [t] else []) ++ dL k (t + 1) (num / 2)
  rw [e1,e2,mU k]
theorem ym (n:Nat):a6 (n + n) = a6 n ++ (a6 n).map (fun t=>(n:Int) + t):=by
 unfold a6
 apply List.ext_getElem?
 intro i
 by_cases h:i < n
 ·rw [Zm (by simpa using h)]
  simp [h,show i < n + n by omega]
 ·rw [YV (by simpa using Nat.le_of_not_lt h)]
  by_cases h2:i < n + n
  ·simp [h2,show i - n < n by omega]
   omega
  ·simp [h2,show ¬ i - n < n by omega]
theorem xq (n:Nat):groups (n + 1) = groups n ++ (groups n).map (· ++ [(n:Int)]):=by
 unfold groups
 have e:2 ^ (n + 1) = 2 ^ n + 2 ^ n:=by rw [Nat.pow_succ]; omega
 rw [e,ym,Yd,YQ]
 have pos:(0:Int) < 2 ^ n:=by
  have:=Nat.two_pow_pos n
  have e:((2 ^ n:Nat):Int) = (2:Int) ^ n:=by simp
  omega
 have ec:((2 ^ n:Nat):Int) = (2:Int) ^ n:=by simp
 congr 1
 ·refine aas fun t ht=>?_
  obtain ⟨h0,h1⟩:=c8.mp ht
  rw [ec] at h1
  unfold bits
  rw [iy,Int.ediv_eq_zero_of_lt h0 h1]
  simp
 ·rw [YQ]
  refine aas fun t ht=>?_
  obtain ⟨h0,h1⟩:=c8.mp ht
  show bits (n + 1) (((2 ^ n:Nat):Int) + t) = bits n t ++ [(n:Int)]
  rw [ec] at h1 ⊢
  unfold bits
  have e1:(2:Int) ^ n + t = t + 2 ^ n * 1:=by omega
  rw [iy,e1,mU]
  have e2:(t + 2 ^ n * 1) / 2 ^ n = 1:=by
   rw [Int.add_mul_ediv_left _ _ (by omega),Int.ediv_eq_zero_of_lt h0 h1]
   rfl
  rw [e2]
  simp
theorem ir (p:Int->Bool):∀ n,(groups n).filter (fun c=>c.all p) = jJ ((a6 n).filter p)
 | 0=>rfl
 | n + 1=>by
  rw [xq,YC,ir p n,gK,YC,List.filter_map]
  have key:∀ (b:Bool),p n = b->((groups n).filter ((fun c=>c.all p) ∘ (· ++ [(n:Int)]))) = if b then jJ ((a6 n).filter p) else []:=fun b hb=>by
   cases b with
   | true =>
    rw [if_pos rfl,<- ir p n]
    refine List.filter_congr fun c _=>?_
    show (c ++ [(n:Int)]).all p = c.all p
    simp [hb]
   | false =>
    rw [if_neg (by simp),List.filter_eq_nil_iff]
    intro c _
    show ¬ (c ++ [(n:Int)]).all p = true
    simp [hb]
  cases hb:p n with
  | true =>
   rw [key true hb,if_pos rfl]
   have e:[(n:Int)].filter p = [(n:Int)]:=by simp [hb]
   rw [e,gV]
  | false =>
   rw [key false hb,if_neg (by simp)]
   have e:[(n:Int)].filter p = []:=by simp [hb]
   rw [e]
   simp
abbrev bh:=List Int × Int
def MZ (n:Nat) (t:Int):Bool:=decide (0 <= t /\ t < (n:Int))
def cU (n:Nat) (st:bh):Bool:=(decide (st.2 = 0) || decide (st.2 = 1)) && (pd st.1 && st.1.all (MZ n))
def hV (st:bh):PyData:=.tuple [kO st.1,.int st.2]
def restOf (n:Nat) (g:List Int):List Int:=(a6 n).filter fun t=>!g.contains t
def br (qs:List Qu) (n:Nat) (g:List Int):Bool:=jG qs g && jG qs (restOf n g)
def bN (n:Nat) (st:bh):List Int:=if st.2 = 0 then st.1 else restOf n st.1
def vv (ts:List Th) (t:Int):Bool:=(ts.getD t.toNat (0,false)).2
def l7 (ts:List Th) (t:Int):Int:=(ts.getD t.toNat (0,false)).1
def eW (ts:List Th) (r:Int) (c:List Int):Bool:=decide (1 <= (c.length:Int) /\ (c.length:Int) <= r) && c.any (vv ts)
def behind (n:Nat) (st:bh) (c:List Int):bh:=if st.2 = 0 then (st.1.filter fun t=>!c.contains t,1) else ((a6 n).filter fun t=>st.1.contains t || c.contains t,0)
def iQ (ts:List Th) (r:Int) (qs:List Qu) (st:bh):List (List Int):=((jJ (bN ts.length st)).filter (eW ts r)).filter fun c=>br qs ts.length (behind ts.length st c).1
def bi (ts:List Th) (r:Int) (qs:List Qu) (st:bh):List (List Int):=Bu (iQ ts r qs st)
def aT (ts:List Th) (c:List Int):Int:=yS (c.map (l7 ts))
theorem iT {n:Nat} {st:bh} (h:cU n st = true):st.1.Pairwise (· < ·) /\ (∀ t ∈ st.1,0 <= t /\ t < (n:Int)) /\ (st.2 = 0 \/ st.2 = 1):=by
 unfold cU at h
 rw [YM,YM,Bool.or_eq_true] at h
 refine ⟨wF h.2.1,fun t ht=>YA (Y7.mp h.2.2 t ht),h.1.imp YA YA⟩
theorem qo {n:Nat} {st:bh} (h1:st.1.Pairwise (· < ·)) (h2:∀ t ∈ st.1,0 <= t /\ t < (n:Int)) (h3:st.2 = 0 \/ st.2 = 1):cU n st = true:=by
 unfold cU
 have e:st.1.all (MZ n) = true:=Y7.mpr fun t ht=>Yi (h2 t ht)
 rw [pw_rises h1,e]
 rcases h3 with e | e <;> simp [e]
theorem gU {n:Nat} {g:List Int} (h1:g.Pairwise (· < ·)) (h2:∀ t ∈ g,0 <= t /\ t < (n:Int)):(a6 n).filter (fun t=>g.contains t) = g:=by
 refine mr (fq _ (fO n)) h1 fun x=>?_
 rw [YK,contains_iff,c8]
 exact ⟨fun h=>h.2,fun h=>⟨h2 x h,h⟩⟩
theorem jZ {n:Nat} {st:bh} (h:cU n st = true):(a6 n).filter (fun t=>(bN n st).contains t) = bN n st:=by
 obtain ⟨h1,h2,_⟩:=iT h
 unfold bN
 split
 ·exact gU h1 h2
 ·exact gU (fq _ (fO n)) fun t ht=>c8.mp (YK.mp ht).1
theorem mD {n:Nat} {st:bh} (h:cU n st = true) {t:Int} (ht:t ∈ bN n st):0 <= t /\ t < (n:Int):=by
 rw [<- jZ h] at ht
 exact c8.mp (YK.mp ht).1
theorem Gy {n:Nat} {st:bh} (h:cU n st = true):(bN n st).Pairwise (· < ·):=by
 rw [<- jZ h]; exact fq _ (fO n)
theorem gP {n:Nat} {st:bh} (h:cU n st = true):(bN n st).length <= n:=by
 rw [<- jZ h]
 exact Yh (Yy _ _) (by rw [bE]; exact X7 _)
theorem nB {ts:List Th} {r:Int} {qs:List Qu} {st:bh} (h:cU ts.length st = true) (h6:ts.length <= 6):((jJ (bN ts.length st)).filter (eW ts r)).length < 64:=by
 have hb:=gP h
 have VR:(jJ (bN ts.length st)).length <= 64:=by
  rw [kD]
  exact Yh (ZJ (by decide) (Yh hb h6)) (by decide)
 have fT:((jJ (bN ts.length st)).filter (eW ts r)).length < (jJ (bN ts.length st)).length :=
  List.length_filter_lt_length_iff_exists.mpr ⟨[],A5 _,by simp [eW]⟩
 omega
theorem uc {ts:List Th} {r:Int} {c:List Int} (h:eW ts r c = true):c ≠ []:=by
 intro e
 rw [e] at h
 simp [eW] at h
theorem og {l:List Int} (h:l.Nodup):(jJ l).Nodup:=by
 induction l using snoc_ind with
 | nil=>simp [jJ]
 | snoc l t ih =>
  rw [List.nodup_append] at h
  rw [gV,List.nodup_append]
  refine ⟨ih h.1,?_,fun a ha b hb e=>?_⟩
  ·show ((jJ l).map (· ++ [t])).Pairwise (· ≠ ·)
   rw [Y2]
   exact (ih h.1).imp fun ne e=>ne (List.append_cancel_right e)
  ·obtain ⟨c,hc,rfl⟩:=YI.mp hb
   have:t ∈ a:=by rw [e]; simp
   exact h.2.2 t ((iX ha).subset this) t (by simp) rfl
theorem rS (n:Nat):(a6 n).Nodup:=(fO n).imp fun h=>Int.ne_of_lt h
theorem zf {n:Nat} {st:bh} (h:cU n st = true):(bN n st).Nodup:=(Gy h).imp fun h=>Int.ne_of_lt h
theorem tV {ts:List Th} {r:Int} {qs:List Qu} {st:bh} (h:cU ts.length st = true):(iQ ts r qs st).Nodup:=((og (zf h)).sublist aau).sublist aau
theorem Dx {α:Type} {lt:α->α->Bool} (Rb:∀ a,lt a a = false) (tr:∀ {a b c},lt a b = true->lt b c = true->lt a c = true):∀ {l m:List α},l.Pairwise (fun x y=>lt x y = true)->m.Pairwise (fun x y=>lt x y = true)->(∀ x,x ∈ l ↔ x ∈ m)->l = m
 | [],[],_,_,_=>rfl
 | [],b :: r,_,_,h=>absurd ((h b).mpr X9) (by simp)
 | a :: l,[],_,_,h=>absurd ((h a).mp X9) (by simp)
 | a :: l,b :: r,h1,h2,h=>by
  obtain ⟨ha,hl⟩:=YY.mp h1
  obtain ⟨hb,hr⟩:=YY.mp h2
  have no:∀ {x:α},lt x x = true->False:=fun z=>by rw [Rb] at z; cases z
  have e:a = b:=by
   rcases Yb.mp ((h a).mp X9) with e | e
   ·exact e
   ·rcases Yb.mp ((h b).mpr X9) with e' | e'
    ·exact e'.symm
    ·exact (no (tr (hb a e) (ha b e'))).elim
  subst e
  have t:l = r:=by
   refine Dx Rb tr hl hr fun x=>⟨fun hx=>?_,fun hx=>?_⟩
   ·rcases Yb.mp ((h x).mp (X8 _ hx)) with e | e
    ·have:=ha x hx; rw [e] at this; exact (no this).elim
    ·exact e
   ·rcases Yb.mp ((h x).mpr (X8 _ hx)) with e | e
    ·have:=hb x hx; rw [e] at this; exact (no this).elim
    ·exact e
  rw [t]
theorem Hh {l c:List Int} (h:c.Sublist l):c ∈ jJ l:=by
 induction l using snoc_ind generalizing c with
 | nil=>rw [List.sublist_nil.mp h]; exact YG.mpr rfl
 | snoc l t ih =>
  obtain ⟨c1,c2,rfl,h1,h2⟩:=List.sublist_append_iff.mp h
  rw [gV,Yz]
  cases h2 with
  | cons _ z=>rw [List.sublist_nil.mp z,aaA]; exact .inl (ih h1)
  | cons_cons _ z=>rw [List.sublist_nil.mp z]; exact .inr (YI.mpr ⟨c1,ih h1,rfl⟩)
theorem ja (n:Nat):groups n = jJ (a6 n):=by
 have:=ir (fun _=>true) n
 rw [List.filter_eq_self.mpr (by intro a _; simp),List.filter_eq_self.mpr (by intro a _; rfl)] at this
 exact this
theorem qU {n:Nat} {g:List Int}:g ∈ groups n ↔ g.Pairwise (· < ·) /\ ∀ t ∈ g,0 <= t /\ t < (n:Int):=by
 rw [ja]
 constructor
 ·intro h
  have s:=iX h
  exact ⟨List.Pairwise.sublist s (fO n),fun t ht=>c8.mp (s.subset ht)⟩
 ·rintro ⟨h1,h2⟩
  refine Hh ?_
  rw [<- gU h1 h2]
  exact aau
theorem uR (n:Nat):(groups n).Nodup:=by rw [ja]; exact og (rS n)
def sw (st:bh):Int × List Int:=(st.2,st.1)
def KA (qs:List Qu) (n:Nat):List (List Int):=Bu ((groups n).filter (br qs n))
def cA (qs:List Qu) (n:Nat):List bh:=(KA qs n).map (fun g=>(g,0)) ++ (KA qs n).map fun g=>(g,1)
def qW (qs:List Qu) (n:Nat):List bh:=((jJ (a6 n)).flatMap fun g=>[(g,0),(g,1)]).filter fun st=>br qs n st.1
theorem kM {qs:List Qu} {n:Nat} {g:List Int}:g ∈ KA qs n ↔ g ∈ groups n /\ br qs n g = true:=by
 unfold KA
 rw [(iN _).mem_iff,YK]
theorem qP (qs:List Qu) (n:Nat):(KA qs n).Pairwise fun g k=>HT.lexLt g k = true:=x8 ((uR n).sublist aau)
theorem qC {qs:List Qu} {n:Nat} {st:bh}:st ∈ cA qs n ↔ st.1 ∈ groups n /\ br qs n st.1 = true /\ (st.2 = 0 \/ st.2 = 1):=by
 unfold cA
 rw [Yz,YI,YI]
 constructor
 ·rintro (⟨g,hg,rfl⟩ | ⟨g,hg,rfl⟩)
  ·exact ⟨(kM.mp hg).1,(kM.mp hg).2,.inl rfl⟩
  ·exact ⟨(kM.mp hg).1,(kM.mp hg).2,.inr rfl⟩
 ·obtain ⟨g,sd⟩:=st
  rintro ⟨h1,h2,h3 | h3⟩
  ·have h3:sd = 0:=h3
   subst h3; exact .inl ⟨g,kM.mpr ⟨h1,h2⟩,rfl⟩
  ·have h3:sd = 1:=h3
   subst h3; exact .inr ⟨g,kM.mpr ⟨h1,h2⟩,rfl⟩
theorem BQ {qs:List Qu} {n:Nat} {st:bh}:st ∈ qW qs n ↔ st.1 ∈ groups n /\ br qs n st.1 = true /\ (st.2 = 0 \/ st.2 = 1):=by
 unfold qW
 rw [YK,List.mem_flatMap,ja]
 constructor
 ·rintro ⟨⟨g,hg,hs⟩,h2⟩
  rcases Yb.mp hs with rfl | hs
  ·exact ⟨hg,h2,.inl rfl⟩
  ·rw [YG.mp hs] at h2 ⊢
   exact ⟨hg,h2,.inr rfl⟩
 ·obtain ⟨g,sd⟩:=st
  rintro ⟨h1,h2,h3⟩
  refine ⟨⟨g,h1,?_⟩,h2⟩
  rcases h3 with h3 | h3
  ·have h3:sd = 0:=h3
   subst h3; exact X9
  ·have h3:sd = 1:=h3
   subst h3; exact X8 _ X9
theorem oX (qs:List Qu) (n:Nat):(cA qs n).Pairwise fun a b=>aC (sw a) (sw b) = true:=by
 unfold cA
 rw [Yr,Y2,Y2]
 refine ⟨(qP qs n).imp fun h=>?_,(qP qs n).imp fun h=>?_,fun a ha b hb=>?_⟩
 ·unfold aC sw; rw [if_pos rfl]; exact h
 ·unfold aC sw; rw [if_pos rfl]; exact h
 ·obtain ⟨g,_,rfl⟩:=YI.mp ha
  obtain ⟨k,_,rfl⟩:=YI.mp hb
  rfl
theorem rl (qs:List Qu) (n:Nat):(cA qs n).Nodup:=(oX qs n).imp fun h e=>by rw [e,oS] at h; cases h
theorem EH {a b:bh} (h:sw a = sw b):a = b:=by
 unfold sw at h
 injection h with h1 h2
 exact Prod.ext h2 h1
theorem xD (qs:List Qu) (n:Nat):((qW qs n).map sw).Nodup:=by
 have nd:(qW qs n).Nodup:=by
  unfold qW
  refine List.Nodup.sublist aau ?_
  show List.Pairwise _ _
  rw [List.pairwise_flatMap]
  refine ⟨fun g _=>?_,(og (rS n)).imp fun {a b} ne x hx y hy e=>ne ?_⟩
  ·simp
  ·have e1:x.1 = a:=by
    rcases Yb.mp hx with rfl | hx
    ·rfl
    ·rw [YG.mp hx]
   have e2:y.1 = b:=by
     rcases Yb.mp hy with rfl | hy
     ·rfl
     ·rw [YG.mp hy]
   rw [<- e1,<- e2,e]
 show List.Pairwise _ _
 rw [Y2]
 exact nd.imp fun ne e=>ne (EH e)
theorem wI {qs:List Qu} {n:Nat} {l:List bh} (hp:l.Perm (qW qs n)) (hs:l.Pairwise fun a b=>aC (sw a) (sw b) = true):l = cA qs n :=
 Dx (lt:=fun a b=>aC (sw a) (sw b)) (fun a=>oS _) (fun h1 h2=>rL h1 h2) hs (oX qs n) fun x=>by rw [hp.mem_iff,BQ,qC]
theorem gD {qs:List Qu} {n:Nat} {st:bh} (h:st ∈ cA qs n):cU n st = true /\ br qs n st.1 = true:=by
 obtain ⟨h1,h2,h3⟩:=qC.mp h
 obtain ⟨h4,h5⟩:=qU.mp h1
 exact ⟨qo h4 h5 h3,h2⟩
theorem Al {qs:List Qu} {n:Nat} {st:bh} (h:cU n st = true) (hg:br qs n st.1 = true):st ∈ cA qs n:=by
 obtain ⟨h1,h2,h3⟩:=iT h
 exact qC.mpr ⟨qU.mpr ⟨h1,h2⟩,hg,h3⟩
theorem jP (qs:List Qu) {n:Nat} (h6:n <= 6):(cA qs n).length <= 128:=by
 unfold cA
 rw [Yx,X6,X6]
 have:(KA qs n).length <= 64:=by
  unfold KA
  rw [(iN _).length_eq]
  refine Yh (Yy _ _) ?_
  rw [ja,kD,bE]
  exact Yh (ZJ (by decide) h6) (by decide)
 omega
theorem Cq (qs:List Qu) {n:Nat} (h6:n <= 6):((jJ (a6 n)).flatMap fun g=>[((g,0):bh),(g,1)]).length <= 128:=by
 have l:(jJ (a6 n)).length <= 64:=by
  rw [kD,bE]
  exact Yh (ZJ (by decide) h6) (by decide)
 have:∀ gs:List (List Int),(gs.flatMap fun g=>[((g,0):bh),(g,1)]).length = 2 * gs.length:=fun gs=>by
  induction gs with
  | nil=>rfl
  | cons g gs ih=>rw [List.flatMap_cons,Yx,ih]; simp; omega
 rw [this]; omega
theorem mO:∀ (k m:Nat) {g:List Int},g.Pairwise (· < ·)->(∀ t ∈ g,(m:Int) <= t /\ t < (m:Int) + k)->g ∈ subs k m
 | 0,m,g,_,h=>by
  cases g with
  | nil=>exact YG.mpr rfl
  | cons a g=>have:=h a X9; omega
 | k + 1,m,g,hp,h=>by
  show g ∈ subs k (m + 1) ++ (subs k (m + 1)).map fun g=>(m:Int) :: g
  rw [Yz]
  cases g with
  | nil=>exact .inl (mO k (m + 1) .nil (fun t ht=>by cases ht))
  | cons a g =>
   obtain ⟨h1,h2⟩:=YY.mp hp
   by_cases e:a = (m:Int)
   ·refine .inr (YI.mpr ⟨g,mO k (m + 1) h2 fun t ht=>?_,by rw [e]⟩)
    have:=h1 t ht
    have:=h t (X8 _ ht)
    omega
   ·refine .inl (mO k (m + 1) hp fun t ht=>?_)
    have ha:=h a X9
    have Fv:=h t ht
    rcases Yb.mp ht with rfl | ht
    ·omega
    ·have:=h1 t ht; omega
theorem E6 {n:Nat} {st:bh} (h:cU n st = true) (h6:n <= 6):st ∈ gc:=by
 obtain ⟨h1,h2,h3⟩:=iT h
 refine List.mem_flatMap.mpr ⟨st.1,mO 6 0 h1 fun t ht=>?_,?_⟩
 ·have:=h2 t ht; omega
 ·obtain ⟨g,sd⟩:=st
  rcases h3 with h3 | h3
  ·have h3:sd = 0:=h3
   subst h3; exact X9
  ·have h3:sd = 1:=h3
   subst h3; exact X8 _ X9
abbrev Wy:=List Int × Int × bh
def ck (ts:List Th) (r:Int) (qs:List Qu) (st:bh):List Wy:=(bi ts r qs st).map fun c=>(c,aT ts c,behind ts.length st c)
def bZ (ts:List Th) (r:Int) (qs:List Qu):List (bh × List Wy):=(cA qs ts.length).map fun st=>(st,ck ts r qs st)
def vo (ts:List Th) (r:Int) (qs:List Qu) (s:bh) (m:Int) (b:bh):Prop:=s ∈ cA qs ts.length /\ ∃ c ∈ bi ts r qs s,m = aT ts c /\ b = behind ts.length s c
def b8:bh:=([],1)
theorem kz {ts:List Th} {r:Int} {qs:List Qu} {st:bh} {c:List Int} (h:c ∈ bi ts r qs st):c.Sublist (bN ts.length st) /\ c ≠ [] /\ br qs ts.length (behind ts.length st c).1 = true:=by
 have h1:=(iN (iQ ts r qs st)).mem_iff.mp h
 obtain ⟨h2,h3⟩:=YK.mp h1
 obtain ⟨h4,h5⟩:=YK.mp h2
 exact ⟨iX h4,uc h5,h3⟩
theorem yo {n:Nat} {st:bh} {c:List Int} (h:cU n st = true):cU n (behind n st c) = true:=by
 obtain ⟨h1,h2,_⟩:=iT h
 unfold behind
 split
 ·exact qo (fq _ h1) (fun t ht=>h2 t (YK.mp ht).1) (.inr rfl)
 ·exact qo (fq _ (fO n)) (fun t ht=>c8.mp (YK.mp ht).1) (.inl rfl)
section
variable {ts:List Th} {r:Int} {qs:List Qu}
theorem o7 {st:bh} {c:List Int} (h:st ∈ cA qs ts.length) (hc:c ∈ bi ts r qs st):behind ts.length st c ∈ cA qs ts.length:=Al (yo (gD h).1) (kz hc).2.2
theorem tells:Sh.Tells (vo ts r qs) (bZ ts r qs):=by
 intro s m b
 constructor
 ·rintro ⟨h1,c,h2,rfl,rfl⟩
  exact ⟨(s,ck ts r qs s),YI.mpr ⟨s,h1,rfl⟩,rfl,c,YI.mpr ⟨c,h2,rfl⟩⟩
 ·rintro ⟨c,hc,rfl,g,hg⟩
  obtain ⟨st,h1,rfl⟩:=YI.mp hc
  obtain ⟨c,h2,e⟩:=YI.mp hg
  injection e with e1 e2
  injection e2 with e2 e3
  exact ⟨h1,c,h2,e2.symm,e3.symm⟩
theorem eP:(bZ ts r qs).map (·.1) = cA qs ts.length:=by
 unfold bZ
 rw [YQ]
 exact List.map_id' _
theorem pD (ok:zU ts) {c:List Int} (hc:c ≠ []) (wL:∀ t ∈ c,0 <= t /\ t < (ts.length:Int)):1 <= aT ts c /\ aT ts c <= 1000000000:=by
 have m:=EW (ns:=c.map (l7 ts)) (fun z=>hc (List.map_eq_nil_iff.mp z))
 obtain ⟨t,ht,e⟩:=YI.mp m
 obtain ⟨h0,h1⟩:=wL t ht
 have hj:t.toNat < ts.length:=by omega
 have e2:l7 ts t = ts[t.toNat].1:=by
  unfold l7
  rw [Yp,Ya hj]
  rfl
 have:=ok.p _ (ZF hj)
 show 1 <= yS _ /\ yS _ <= 1000000000
 rw [<- e,e2]
 exact this
theorem later (ok:zU ts):Sh.Later (vo ts r qs):=by
 rintro s m b ⟨h1,c,h2,rfl,rfl⟩
 obtain ⟨h3,h4,_⟩:=kz h2
 exact (pD ok h4 fun t ht=>mD (gD h1).1 (h3.subset ht)).1
structure Bp (ts:List Th) (r:Int) (qs:List Qu) (f:Sh.Mp bh):Prop where
 yes:b8 ∈ cA qs ts.length->Sh.tH (vo ts r qs) b8 (cA qs ts.length) f /\ Sh.oM (vo ts r qs) f
 no:b8 ∉ cA qs ts.length->f = []
theorem vJ {f g:Sh.Mp bh} (hf:Bp ts r qs f) (hg:Bp ts r qs g) (s:bh):Sh.lk f s = Sh.lk g s:=by
 by_cases e:b8 ∈ cA qs ts.length
 ·obtain ⟨h1,h2⟩:=hf.yes e
  obtain ⟨h3,h4⟩:=hg.yes e
  exact Sh.agree h1.sound h2 h1.base h3.sound h4 h3.base s
 ·rw [hf.no e,hg.no e]
end
def Fy (ts:List Th) (r:Int) (qs:List Qu):bh->Int->List (List Int)->Option Int
 | st,GC,[]=>if st = ([],1) then some GC else none
 | st,GC,c :: cs=>if c ∈ bi ts r qs st then Fy ts r qs (behind ts.length st c) (GC + aT ts c) cs else none
section
variable {ts:List Th} {r:Int} {qs:List Qu}
theorem qf {f:Sh.Mp bh} (ok:zU ts) (h:Bp ts r qs f) {s:bh} {v:Int} (hs:Sh.lk f s = some v):Sh.tH (vo ts r qs) b8 (cA qs ts.length) f /\ Sh.oM (vo ts r qs) f:=by
 by_cases e:b8 ∈ cA qs ts.length
 ·exact h.yes e
 ·rw [h.no e] at hs; cases hs
theorem IR {f:Sh.Mp bh} (ok:zU ts) (h:Bp ts r qs f) {s:bh} {v:Int} (hs:Sh.lk f s = some v) (ne:s ≠ b8):∃ c ∈ bi ts r qs s,∃ u,Sh.lk f (behind ts.length s c) = some u /\ aT ts c + u <= v:=by
 obtain ⟨fi,cl⟩:=qf ok h hs
 have w:=fi.sound s v hs
 cases w with
 | nil=>exact absurd rfl ne
 | cons e w' =>
  obtain ⟨u,h1,h2⟩:=Sh.best cl fi.base w'
  obtain ⟨_,c,hc,rfl,rfl⟩:=e
  exact ⟨c,hc,u,h1,by omega⟩
theorem Kr {f:Sh.Mp bh} (ok:zU ts) (h:Bp ts r qs f) {s:bh} {v u:Int} (hs:Sh.lk f s = some v) (hm:s ∈ cA qs ts.length) {c:List Int} (hc:c ∈ bi ts r qs s) (hu:Sh.lk f (behind ts.length s c) = some u):v <= aT ts c + u:=by
 obtain ⟨fi,cl⟩:=qf ok h hs
 obtain ⟨v',h1,h2⟩:=cl s _ _ u ⟨hm,c,hc,rfl,rfl⟩ hu
 rw [hs] at h1
 cases h1
 exact h2
theorem A1 {f:Sh.Mp bh} (ok:zU ts) (h:Bp ts r qs f) {s:bh} {v:Int} (hs:Sh.lk f s = some v):0 <= v:=((qf ok h hs).1.sound s v hs).nonneg (later ok)
theorem Df {f:Sh.Mp bh} (ok:zU ts) (h:Bp ts r qs f) {v:Int} (hs:Sh.lk f b8 = some v):v = 0:=by
 have:=A1 ok h hs
 obtain ⟨u,h1,h2⟩:=(qf ok h hs).1.base
 rw [hs] at h1
 cases h1
 omega
inductive Reach (ts:List Th) (r:Int) (qs:List Qu) (s:bh):bh->Prop
 | refl:Reach ts r qs s s
 | step {b:bh} {c:List Int}:Reach ts r qs s b->c ∈ bi ts r qs b->Reach ts r qs s (behind ts.length b c)
theorem sj {s b:bh} (hs:s ∈ cA qs ts.length) (h:Reach ts r qs s b):b ∈ cA qs ts.length:=by
 induction h with
 | refl=>exact hs
 | step _ hc ih=>exact o7 ih hc
theorem Ez {s:bh} {fl:List bh} (hs:s ∈ fl) (hc:∀ b ∈ fl,∀ c ∈ bi ts r qs b,behind ts.length b c ∈ fl) {b:bh} (h:Reach ts r qs s b):b ∈ fl:=by
 induction h with
 | refl=>exact hs
 | step _ yC ih=>exact hc _ ih _ yC
theorem xZ {st:bh} (h:cU ts.length st = true):(bi ts r qs st).Nodup:=(iN _).nodup_iff.mpr (tV h)
end
end FN
namespace WD
open PySem
theorem wj {c:Nat}:∀ {t p r s:List Nat},c ∉ t->c ∉ p->t ++ c :: r = p ++ c :: s->t = p /\ r = s
 | [],[],r,s,_,_,e=>by simpa using e
 | [],y :: p,r,s,_,hp,e=>by
  injection e with e1 e2
  exact absurd (Yb.mpr (.inl e1)) hp
 | x :: t,[],r,s,ht,_,e=>by
  injection e with e1 e2
  exact absurd (Yb.mpr (.inl e1.symm)) ht
 | x :: t,y :: p,r,s,ht,hp,e=>by
  injection e with e1 e2
  obtain ⟨h1,h2⟩:=wj (fun z=>ht (X8 _ z)) (fun z=>hp (X8 _ z)) e2
  exact ⟨by rw [e1,h1],h2⟩
theorem list_append (x y:Str):(x ++ y).cps.toList = x.cps.toList ++ y.cps.toList:=by
 show (x.cps ++ y.cps).toList = _
 simp
theorem gp {x y:Str} (h:x.cps.toList = y.cps.toList):x = y:=by
 cases x; cases y
 congr
 exact Array.toList_inj.mp h
theorem bF (c:Nat) (p q:Str) (r:List Str):(Str.join ⟨#[c]⟩ (p :: q :: r)).cps.toList = p.cps.toList ++ c :: (Str.join ⟨#[c]⟩ (q :: r)).cps.toList:=by
 show (p ++ ⟨#[c]⟩ ++ Str.join ⟨#[c]⟩ (q :: r)).cps.toList = _
 rw [list_append,list_append]
 simp
theorem j7 (x y:Str):Txt.split x y ≠ []:=by
 have h:=StrLaws.join_split x y
 unfold Txt.split
 split
 ·simp
 ·split
  ·simp
  ·rw [StrLaws.partsBetween_eq]
   intro z
   obtain ⟨p,q,e⟩:=StrLaws.partsFrom_ne x y.length 0 (Builtin.Str.occurrences x y 0 x.length (x.length + 1))
   rw [e] at z
   cases z
theorem zQ (x y:Str):Txt.startswith x y = true ↔ ∃ r,x.cps.toList = y.cps.toList ++ r:=by
 unfold Txt.startswith
 rw [StrLaws.subAt_eq]
 have hy:y.cps.toList.length = y.length:=Ye
 have hx:x.cps.toList.length = x.length:=Ye
 simp only [YM,decide_eq_true_eq,ZZ,List.drop_zero,Nat.zero_add]
 constructor
 ·rintro ⟨_,h⟩
  exact ⟨x.cps.toList.drop y.length,by rw [<- h,ZS]⟩
 ·rintro ⟨r,e⟩
  refine ⟨?_,by rw [e,<- hy]; simp⟩
  rw [<- hx,<- hy,e]; simp
theorem Dk (x y:Str):Txt.endswith x y = true ↔ ∃ r,x.cps.toList = r ++ y.cps.toList:=by
 unfold Txt.endswith
 rw [StrLaws.subAt_eq]
 have hy:y.cps.toList.length = y.length:=Ye
 have hx:x.cps.toList.length = x.length:=Ye
 simp only [YM,decide_eq_true_eq,ZZ,Nat.zero_add]
 constructor
 ·rintro ⟨hle,h⟩
  refine ⟨x.cps.toList.take (x.length - y.length),?_⟩
  rw [Yj (by rw [aaq,hx]; omega)] at h
  conv=>lhs; rw [<- ZS (x.length - y.length) x.cps.toList,h]
 ·rintro ⟨r,e⟩
  have hl:x.length = r.length + y.length:=by rw [<- hx,<- hy,e]; simp
  refine ⟨by omega,?_⟩
  rw [e,show x.length - y.length = r.length by omega,List.drop_left,<- hy,Zr]
theorem vy (x t:Str) (c:Nat) (ht:c ∉ t.cps.toList):Txt.startswith x (t ++ ⟨#[c]⟩) = true ↔ (Txt.split x ⟨#[c]⟩)[0]? = some t /\ 2 <= (Txt.split x ⟨#[c]⟩).length:=by
 have hj:=StrLaws.join_split x ⟨#[c]⟩
 have hf:=StrLaws.split_free x c
 have oE:=j7 x ⟨#[c]⟩
 rw [zQ,list_append]
 generalize Txt.split x ⟨#[c]⟩ = ps at hj hf oE ⊢
 cases ps with
 | nil=>exact absurd rfl oE
 | cons p ps =>
  have hp:=hf p X9
  cases ps with
  | nil =>
   have e:p = x:=hj
   subst e
   constructor
   ·rintro ⟨r,e⟩
    exact absurd (by rw [e]; simp) hp
   ·rintro ⟨_,h⟩
    simp at h
  | cons q ps =>
   rw [<- hj,bF]
   constructor
   ·rintro ⟨r,e⟩
    have e':t.cps.toList ++ c :: r = p.cps.toList ++ c :: (Str.join ⟨#[c]⟩ (q :: ps)).cps.toList:=by rw [e]; simp
    obtain ⟨h1,_⟩:=wj ht hp e'
    exact ⟨by rw [gp h1]; rfl,by simp⟩
   ·rintro ⟨h1,_⟩
    have e:p = t:=by simpa using h1
    subst e
    exact ⟨(Str.join ⟨#[c]⟩ (q :: ps)).cps.toList,by simp⟩
theorem rM (x:Str) (c:Nat):Txt.endswith x ⟨#[c]⟩ = true ↔ (Txt.split x ⟨#[c]⟩).getLast? = some ⟨#[]⟩ /\ 2 <= (Txt.split x ⟨#[c]⟩).length:=by
 have hj:=StrLaws.join_split x ⟨#[c]⟩
 have hf:=StrLaws.split_free x c
 have oE:=j7 x ⟨#[c]⟩
 rw [Dk]
 generalize Txt.split x ⟨#[c]⟩ = ps at hj hf oE ⊢
 subst hj
 have nl:∀ p:Str,c ∉ p.cps.toList->p ≠ ⟨#[]⟩->∀ l r:List Nat,l ++ p.cps.toList ≠ r ++ [c]:=fun p hp pe l r e=>by
  rcases List.eq_nil_or_concat p.cps.toList with z | ⟨a,b,z⟩
  ·exact pe (gp z)
  ·rw [z,List.concat_eq_append,<- Yo] at e
   obtain ⟨_,e2⟩:=List.append_inj' e rfl
   injection e2 with e3 _
   apply hp
   rw [z,List.concat_eq_append,e3]; simp
 have key:∀ ps:List Str,ps ≠ []->(∀ p ∈ ps,c ∉ p.cps.toList)->((∃ r,(Str.join ⟨#[c]⟩ ps).cps.toList = r ++ [c]) ↔ ps.getLast? = some ⟨#[]⟩ /\ 2 <= ps.length) /\ ∀ l,2 <= ps.length->((∃ r,l ++ (Str.join ⟨#[c]⟩ ps).cps.toList = r ++ [c]) ↔ ps.getLast? = some ⟨#[]⟩):=by
  intro ps
  induction ps with
  | nil=>intro h; exact absurd rfl h
  | cons p ps ih =>
   intro _ hf
   cases ps with
   | nil =>
    refine ⟨⟨fun ⟨r,e⟩=>?_,fun ⟨_,h⟩=>by simp at h⟩,fun l h=>by simp at h⟩
    exact absurd (show c ∈ p.cps.toList by rw [show p.cps.toList = r ++ [c] from e]; simp) (hf p X9)
   | cons q ps =>
    obtain ⟨N6,MS⟩:=ih (by simp) fun p hp=>hf p (X8 _ hp)
    have gen:∀ l,(∃ r,l ++ (Str.join ⟨#[c]⟩ (p :: q :: ps)).cps.toList = r ++ [c]) ↔ (p :: q :: ps).getLast? = some ⟨#[]⟩:=by
     intro l
     rw [bF,List.getLast?_cons_cons]
     cases ps with
     | nil =>
      show (∃ r,l ++ (p.cps.toList ++ c :: q.cps.toList) = r ++ [c]) ↔ some q = some ⟨#[]⟩
      constructor
      ·rintro ⟨r,e⟩
       by_cases z:q = ⟨#[]⟩
       ·rw [z]
       ·exact absurd (show (l ++ p.cps.toList ++ [c]) ++ q.cps.toList = r ++ [c] by rw [<- e]; simp) (nl q (hf q (by simp)) z _ _)
      ·intro z
       have:q = ⟨#[]⟩:=by simpa using z
       subst this
       exact ⟨l ++ p.cps.toList,by simp⟩
     | cons q2 ps =>
      rw [<- MS (l ++ p.cps.toList ++ [c]) (by simp)]
      constructor
      ·rintro ⟨r,e⟩; exact ⟨r,by rw [<- e]; simp⟩
      ·rintro ⟨r,e⟩; exact ⟨r,by rw [<- e]; simp⟩
    refine ⟨?_,fun l _=>gen l⟩
    have:=gen []
    rw [List.nil_append] at this
    rw [this]
    simp
 exact (key ps oE hf).1
open PySem FN
def ft (x:Str):List Str:=Txt.split x ⟨#[32]⟩
def BU (x:Str):List Str:=Txt.split x ⟨#[10]⟩
def val (w:Str):Int:=((w.cps.toList.foldl (fun acc c=>acc * 10 + (c - 48)) 0:Nat):Int)
def Ci:Str:="0123456789"
def HZ (c:Nat):Bool:=!(Builtin.Str.occurrences Ci ⟨#[c]⟩ 0 Ci.length 1).isEmpty
theorem vQ (c:Nat):HZ c = true ↔ 48 <= c /\ c <= 57:=by
 unfold HZ
 rw [StrLaws.found_iff]
 constructor
 ·rintro ⟨i,h⟩
  have h:=(StrLaws.subAt_one Ci c i).mp h
  have e:Ci.cps.toList = [48,49,50,51,52,53,54,55,56,57]:=rfl
  rw [e] at h
  have hm:=YE h
  simp at hm
  omega
 ·intro h
  refine ⟨c - 48,(StrLaws.subAt_one Ci c (c - 48)).mpr ?_⟩
  have e:Ci.cps.toList = [48,49,50,51,52,53,54,55,56,57]:=rfl
  rw [e]
  have:c = 48 \/ c = 49 \/ c = 50 \/ c = 51 \/ c = 52 \/ c = 53 \/ c = 54 \/ c = 55 \/ c = 56 \/ c = 57:=by omega
  rcases this with rfl | rfl | rfl | rfl | rfl | rfl | rfl | rfl | rfl | rfl <;> rfl
def isNum (w:Str):Bool:=decide (w = "0") || (decide (1 <= w.length) && decide (w.length <= 10) && !decide (w.cps.toList[0]? = some 48) && w.cps.toList.all HZ)
def fJ (w:Str) (most:Int):Int:=if isNum w = true /\ val w <= most then val w else -1
theorem jg (w:Str):w.cps.toList.length = w.length:=Ye
theorem uq (w:Str):isNum w = true ↔ (1 <= w.length /\ w.length <= 10 /\ ¬ (1 < w.length /\ w.cps.toList[0]? = some 48)) /\ w.cps.toList.all HZ = true:=by
 have hl:=jg w
 unfold isNum
 simp only [Bool.or_eq_true,YM,decide_eq_true_eq,Bool.not_eq_true',decide_eq_false_iff_not]
 constructor
 ·rintro (e | ⟨⟨⟨h1,h2⟩,h3⟩,h4⟩)
  ·subst e
   refine ⟨⟨by decide,by decide,fun h=>absurd h.1 (by decide)⟩,?_⟩
   rw [show (("0":Str).cps.toList) = [48] from rfl,List.all_cons,(vQ 48).mpr ⟨by omega,by omega⟩]
   rfl
  ·exact ⟨⟨h1,h2,fun h=>h3 h.2⟩,h4⟩
 ·rintro ⟨⟨h1,h2,h3⟩,h4⟩
  by_cases h5:w.cps.toList[0]? = some 48
  ·left
   apply gp
   have hlen:w.cps.toList.length = 1:=by
    rw [hl]
    have:¬ 1 < w.length:=fun z=>h3 ⟨z,h5⟩
    omega
   obtain ⟨x,hx⟩:=List.length_eq_one_iff.mp hlen
   rw [hx] at h5 ⊢
   have:x = 48:=by simpa using h5
   rw [this]
   rfl
  ·exact .inr ⟨⟨⟨h1,h2⟩,h5⟩,h4⟩
theorem vi {w:Str} (h:isNum w = true):(∀ c ∈ w.cps.toList,48 <= c /\ c <= 57) /\ w.cps.toList ≠ [] /\ w.length <= 10:=by
 obtain ⟨⟨h1,h2,_⟩,h4⟩:=(uq w).mp h
 refine ⟨fun c hc=>(vQ c).mp (Y7.mp h4 c hc),fun e=>?_,h2⟩
 have:=jg w
 rw [e] at this
 simp at this
 omega
def sF:List Str->Option Int
 | [a,b]=>if a = "boat" /\ isNum b = true then some (val b) else none
 | _=>none
def kF:List Str->Option Th
 | [a,b,c]=>if a = "thing" /\ (c = "rows" \/ c = "sits") /\ isNum b = true then some (val b,decide (c = "rows")) else none
 | _=>none
def fv:List Str->Option Qu
 | [a,b,c,d]=>if a = "quarrel" /\ isNum b = true /\ isNum c = true /\ (d = "-" \/ isNum d = true) then some (val b,val c,if d = "-" then -1 else val d) else none
 | _=>none
def loop:List (List Str)->List Th->List Qu->Option (List Th × List Qu)
 | [],ts,qs=>some (ts,qs)
 | ws :: r,ts,qs=>if (ws[0]? = some ("thing":Str) /\ 2 <= ws.length) /\ qs = [] then (kF ws).bind fun t=>loop r (ts ++ [t]) qs else (fv ws).bind fun q=>loop r ts (qs ++ [q])
theorem rf {ws:List Str} {r:List (List Str)} {ts:List Th} {qs:List Qu} (h:(ws[0]? = some ("thing":Str) /\ 2 <= ws.length) /\ qs = []):loop (ws :: r) ts qs = (kF ws).bind fun t=>loop r (ts ++ [t]) qs:=by
 rw [loop,if_pos h]
theorem je {ws:List Str} {r:List (List Str)} {ts:List Th} {qs:List Qu} (h:¬ ((ws[0]? = some ("thing":Str) /\ 2 <= ws.length) /\ qs = [])):loop (ws :: r) ts qs = (fv ws).bind fun q=>loop r ts (qs ++ [q]):=by
 rw [loop,if_neg h]
structure Fs (n:Int) (ts:List Th) (qs:List Qu):Prop where
 t:zU ts
 r1:1 <= n
 r3:n <= 3
 l:qs.length <= 30
 q:∀ q ∈ qs,wt ts.length q
open Classical in
noncomputable def yr (n:Int) (p:List Th × List Qu):Option (List Th × Int × List Qu):=if Fs n p.1 p.2 then some (p.1,n,p.2) else none
theorem xr {n:Int} {p:List Th × List Qu} (h:Fs n p.1 p.2):yr n p = some (p.1,n,p.2):=by unfold yr; rw [if_pos h]
theorem EX {n:Int} {p:List Th × List Qu} (h:¬ Fs n p.1 p.2):yr n p = none:=by unfold yr; rw [if_neg h]
noncomputable def QD (L:List (List Str)):Option (List Th × Int × List Qu) :=
 (sF (L.getD 0 [])).bind fun n=>(loop L.tail [] []).bind fun p=>yr n p
noncomputable def rd (text:Str):Option (List Th × Int × List Qu):=if Txt.endswith text ⟨#[10]⟩ = true then QD ((BU text).dropLast.map ft) else none
def tz (ws:List Str):Bool:=decide (ws.length = 3) && decide (ws[0]? = some ("thing":Str))
def xT (ws:List Str):Option Th :=
 if fJ (ws.getD 1 "") 1000000000 < 1 \/ ¬ (ws.getD 2 "" = "rows" \/ ws.getD 2 "" = "sits") then none else some (fJ (ws.getD 1 "") 1000000000,decide (ws.getD 2 "" = "rows"))
def FU (ws:List Str) (m:Int):Int:=if ws.getD 3 "" = "-" then m else fJ (ws.getD 3 "") (m - 1)
def rW (m:Int) (ws:List Str):Option Qu :=
 if (fJ (ws.getD 1 "") (m - 1) < 0 \/ fJ (ws.getD 2 "") (m - 1) < 0 \/ FU ws m < 0) \/ (fJ (ws.getD 1 "") (m - 1) = fJ (ws.getD 2 "") (m - 1) \/ fJ (ws.getD 1 "") (m - 1) = FU ws m \/ fJ (ws.getD 2 "") (m - 1) = FU ws m) then none
 else some (fJ (ws.getD 1 "") (m - 1),fJ (ws.getD 2 "") (m - 1),if ws.getD 3 "" = "-" then -1 else FU ws m)
def OT (ws:List Str):Bool:=decide (ws.length = 4) && decide (ws[0]? = some ("quarrel":Str))
def QC (n:Int) (rest:List (List Str)):Option (List Th × Int × List Qu) :=
 if ((rest.takeWhile tz).length < 1 \/ 6 < (rest.takeWhile tz).length) \/ none ∈ (rest.takeWhile tz).map xT \/ 30 < (rest.dropWhile tz).length then none else
 if ¬ ((rest.dropWhile tz).all OT = true) \/ none ∈ (rest.dropWhile tz).map (rW ((rest.takeWhile tz).length:Nat)) then none else
 some ((rest.takeWhile tz).filterMap xT,n,(rest.dropWhile tz).filterMap (rW ((rest.takeWhile tz).length:Nat)))
def OW (L:List (List Str)):Option (List Th × Int × List Qu) :=
 if L.getLast? ≠ some [("":Str)] \/ (L.getD 0 []).length ≠ 2 \/ (L.getD 0 []).getD 0 "" ≠ "boat" \/ fJ ((L.getD 0 []).getD 1 "") 3 < 1 then none else QC (fJ ((L.getD 0 []).getD 1 "") 3) L.tail.dropLast
def XT (text:Str):Option (List Th × Int × List Qu):=OW ((BU text).map ft)
open PySem PySem.NumText FN
theorem wE {c:Nat}:∀ {ps qs:List Str},ps ≠ []->qs ≠ []->(∀ p ∈ ps,c ∉ p.cps.toList)->(∀ p ∈ qs,c ∉ p.cps.toList)->Str.join ⟨#[c]⟩ ps = Str.join ⟨#[c]⟩ qs->ps = qs
 | [],_,h,_,_,_,_=>absurd rfl h
 | _ :: _,[],_,h,_,_,_=>absurd rfl h
 | [p],[q],_,_,_,_,e=>by rw [show p = q from e]
 | [p],q :: q' :: s,_,_,hp,_,e=>by
  have e':=Zi (fun x=>x.cps.toList) (show p = Str.join ⟨#[c]⟩ (q :: q' :: s) from e)
  simp only [bF] at e'
  exact absurd (by rw [e']; simp) (hp p X9)
 | p :: p' :: r,[q],_,_,_,hq,e=>by
  have e':=Zi (fun x=>x.cps.toList) (show Str.join ⟨#[c]⟩ (p :: p' :: r) = q from e)
  simp only [bF] at e'
  exact absurd (by rw [<- e']; simp) (hq q X9)
 | p :: p' :: r,q :: q' :: s,_,_,hp,hq,e=>by
  have e':=Zi (fun x=>x.cps.toList) e
  simp only [bF] at e'
  obtain ⟨h1,h2⟩:=wj (hp p X9) (hq q X9) e'
  have ih:=wE (ps:=p' :: r) (qs:=q' :: s) (by simp) (by simp) (fun x hx=>hp x (X8 _ hx)) (fun x hx=>hq x (X8 _ hx)) (gp h2)
  rw [gp h1,ih]
theorem jd {c:Nat} {ps:List Str} (h:ps ≠ []) (hf:∀ p ∈ ps,c ∉ p.cps.toList):Txt.split (Str.join ⟨#[c]⟩ ps) ⟨#[c]⟩ = ps :=
 wE (j7 _ _) h (StrLaws.split_free _ c) hf (StrLaws.join_split _ _)
def num (n:Int):Str:=Str.ofString (toString n)
theorem i7 {n:Int} (h0:0 <= n) (h1:n < 10 ^ 10):AllDigits (num n).cps.toList /\ (num n).cps.toList ≠ [] /\ (num n).length <= 10 /\ val (num n) = n /\ ((num n).cps.toList[0]? = some 48->num n = "0"):=by
 have hl:=PySem.W.KT.len_num h0 h1
 obtain ⟨m,rfl⟩:=Int.eq_ofNat_of_zero_le h0
 have hs:=PySem.W.KIN.signs_num m
 have hd:AllDigits ((Nat.toDigits 10 m).map Char.toNat):=by
  intro c hc
  obtain ⟨ch,pC,e⟩:=YI.mp hc
  have r:=PyProof.Rows.digit_range (Nat.isDigit_of_mem_toDigits (by decide) (by decide) pC)
  rw [<- e]
  exact r
 have hg:=PySem.toDigits_len_ge 10 m
 have hv:=PySem.W.KIN.val_back m
 refine ⟨by unfold num; rw [hs]; exact hd,?_,hl,?_,fun h=>?_⟩
 ·unfold num; rw [hs]
  intro e
  rw [List.map_eq_nil_iff.mp e] at hg
  exact absurd hg (by decide)
 ·show ((digitsVal (num (m:Int)).cps.toList:Nat):Int) = _
  unfold num
  rw [hs,hv]
 ·have ha:=toDigits_all _ hd
  rw [hv] at ha
  apply gp
  unfold num at h ⊢
  rw [hs] at h ⊢
  generalize J7:(Nat.toDigits 10 m).map Char.toNat = cs at *
  cases cs with
  | nil=>simp at h
  | cons c r =>
   have ec:c = 48:=by simpa using h
   subst ec
   rw [List.dropWhile_cons,if_pos (by decide)] at ha
   have hlen:=Zi List.length J7
   rw [X6] at hlen
   generalize hw:r.dropWhile (· == 48) = w at ha
   have hle:w.length <= r.length:=by rw [<- hw]; exact (List.dropWhile_sublist _).length_le
   cases w with
   | nil =>
    rw [<- J7,show Nat.toDigits 10 m = ['0'] from ha]
    decide
   | cons c' r' =>
    have e2:(Nat.toDigits 10 m).length = (c' :: r').length:=by rw [show Nat.toDigits 10 m = (c' :: r').map Char.ofNat from ha,X6]
    rw [hlen] at e2
    simp only [YW] at e2 hle
    omega
theorem fW {n:Int} (h0:0 <= n) (h1:n < 10 ^ 10):isNum (num n) = true:=by
 obtain ⟨a,b,c,_,e⟩:=i7 h0 h1
 rw [uq]
 have hz:=jg (num n)
 refine ⟨⟨?_,c,fun ⟨k1,k2⟩=>?_⟩,?_⟩
 ·rw [<- hz]; exact aat.mpr b
 ·rw [e k2] at k1; exact absurd k1 (by decide)
 ·rw [Y7]
  exact fun x hx=>(vQ x).mpr (a x hx)
theorem kL {n:Int} (h0:0 <= n) (h1:n < 10 ^ 10):val (num n) = n:=(i7 h0 h1).2.2.2.1
theorem dS {n:Int} (h0:0 <= n) (h1:n < 10 ^ 10) {c:Nat} (hc:c < 48):c ∉ (num n).cps.toList:=fun h=>by have:=(i7 h0 h1).1 c h; omega
theorem Dl {n:Int} (h0:0 <= n) (h1:n < 10 ^ 10):num n ≠ "-":=fun e=>dS h0 h1 (c:=45) (by decide) (by rw [e]; decide)
def nl:Str:=⟨#[10]⟩
def sp:Str:=⟨#[32]⟩
def kp (k:Int):Str:=if 0 <= k then num k else "-"
def dG (r:Int):Str:="boat " ++ num r
def qp (t:Th):Str:=("thing ":Str) ++ num t.1 ++ (" ":Str) ++ (if t.2 then ("rows":Str) else ("sits":Str))
def tZ (q:Qu):Str:=Txt.join " " [("quarrel":Str),num q.1,num q.2.1,kp q.2.2]
def linesOf (ts:List Th) (r:Int) (qs:List Qu):List Str:=dG r :: (ts.map qp ++ qs.map tZ)
def gR (ts:List Th) (r:Int) (qs:List Qu):Str:=Txt.join "" ((linesOf ts r qs).map fun l=>l ++ ("\n":Str))
theorem rR (s:Str) (l:List Str):Txt.join s l = Str.join s l:=StrLaws.glued_eq_join s l
theorem wZ (r:Int):dG r = Str.join ⟨#[32]⟩ [("boat":Str),num r]:=by
 apply gp
 rw [bF]
 unfold dG
 rw [list_append]
 show [98,111,97,116,32] ++ _ = [98,111,97,116] ++ 32 :: (num r).cps.toList
 simp
theorem Ey (t:Th):qp t = Str.join ⟨#[32]⟩ [("thing":Str),num t.1,if t.2 then ("rows":Str) else ("sits":Str)]:=by
 apply gp
 rw [bF,bF]
 unfold qp
 rw [list_append,list_append,list_append]
 show [116,104,105,110,103,32] ++ _ ++ [32] ++ _ = [116,104,105,110,103] ++ 32 :: (_ ++ 32 :: (if t.2 then ("rows":Str) else "sits").cps.toList)
 simp
theorem zi (q:Qu):tZ q = Str.join ⟨#[32]⟩ [("quarrel":Str),num q.1,num q.2.1,kp q.2.2]:=rR _ _
theorem row_free (b:Bool) (c:Nat) (hc:c < 97):c ∉ (if b then ("rows":Str) else "sits").cps.toList:=by
 cases b
 ·show c ∉ [115,105,116,115]
  simp; omega
 ·show c ∉ [114,111,119,115]
  simp; omega
theorem A7 {k:Int} (h1:k < 10 ^ 10) {c:Nat} (hc:c < 45):c ∉ (kp k).cps.toList:=by
 unfold kp
 split
 ·exact dS (by assumption) h1 (by omega)
 ·show c ∉ [45]
  simp; omega
theorem zO {r:Int} (h0:0 <= r) (h1:r < 10 ^ 10):ft (dG r) = [("boat":Str),num r]:=by
 unfold ft
 rw [wZ]
 refine jd (by simp) fun p hp=>?_
 rcases Yb.mp hp with e | hp
 ·rw [e]; decide
 ·rw [YG.mp hp]; exact dS h0 h1 (by decide)
theorem o8 {t:Th} (h0:0 <= t.1) (h1:t.1 < 10 ^ 10):ft (qp t) = [("thing":Str),num t.1,if t.2 then ("rows":Str) else ("sits":Str)]:=by
 unfold ft
 rw [Ey]
 refine jd (by simp) fun p hp=>?_
 rcases Yb.mp hp with e | hp
 ·rw [e]; decide
 ·rcases Yb.mp hp with e | hp
  ·rw [e]; exact dS h0 h1 (by decide)
  ·rw [YG.mp hp]; exact row_free _ _ (by decide)
theorem lC {q:Qu} (a0:0 <= q.1) (a1:q.1 < 10 ^ 10) (b0:0 <= q.2.1) (b1:q.2.1 < 10 ^ 10) (k1:q.2.2 < 10 ^ 10):ft (tZ q) = [("quarrel":Str),num q.1,num q.2.1,kp q.2.2]:=by
 unfold ft
 rw [zi]
 refine jd (by simp) fun p hp=>?_
 rcases Yb.mp hp with e | hp
 ·rw [e]; decide
 ·rcases Yb.mp hp with e | hp
  ·rw [e]; exact dS a0 a1 (by decide)
  ·rcases Yb.mp hp with e | hp
   ·rw [e]; exact dS b0 b1 (by decide)
   ·rw [YG.mp hp]; exact A7 k1 (by decide)
theorem Cv {r:Int} (h0:0 <= r) (h1:r < 10 ^ 10):sF (ft (dG r)) = some r:=by
 rw [zO h0 h1]
 show (if _ then _ else _) = _
 rw [if_pos ⟨rfl,fW h0 h1⟩,kL h0 h1]
theorem zx {t:Th} (h0:0 <= t.1) (h1:t.1 < 10 ^ 10):kF (ft (qp t)) = some t:=by
 rw [o8 h0 h1]
 show (if _ then _ else _) = _
 obtain ⟨n,b⟩:=t
 cases b
 ·rw [if_pos ⟨rfl,.inr rfl,fW h0 h1⟩,kL h0 h1]; rfl
 ·rw [if_pos ⟨rfl,.inl rfl,fW h0 h1⟩,kL h0 h1]; rfl
theorem uX {n:Int} (hn:n <= 10 ^ 10) {q:Qu} (h:wt n q):fv (ft (tZ q)) = some q:=by
 have a0:=h.a0
 have a1:=h.a1
 have b0:=h.b0
 have b1:=h.b1
 have hk:=h.k
 have k1:q.2.2 < 10 ^ 10:=by omega
 rw [lC a0 (by omega) b0 (by omega) k1]
 show (if _ then _ else _) = _
 obtain ⟨a,b,k⟩:=q
 have ea:=kL a0 (show a < 10 ^ 10 by simp only at a1; omega)
 have eb:=kL b0 (show b < 10 ^ 10 by simp only at b1; omega)
 by_cases z:0 <= k
 ·have ek:kp k = num k:=by unfold kp; rw [if_pos z]
  have gk:=fW z k1
  simp only at ea eb ⊢
  rw [ek,if_pos ⟨trivial,fW a0 (by simp only at a1; omega),fW b0 (by simp only at b1; omega),.inr gk⟩,ea,eb,if_neg (Dl z k1),kL z k1]
 ·have ek:kp k = "-":=by unfold kp; rw [if_neg z]
  simp only at ea eb hk ⊢
  rw [ek,if_pos ⟨trivial,fW a0 (by simp only at a1; omega),fW b0 (by simp only at b1; omega),.inl rfl⟩,ea,eb,if_pos rfl,show k = -1 by omega]
theorem x3 {t:Th} (h0:0 <= t.1) (h1:t.1 < 10 ^ 10):(ft (qp t))[0]? = some ("thing":Str) /\ 2 <= (ft (qp t)).length:=by
 rw [o8 h0 h1]
 exact ⟨rfl,by simp⟩
theorem sW {n:Int} (hn:n <= 10 ^ 10) {q:Qu} (h:wt n q):¬ (ft (tZ q))[0]? = some ("thing":Str):=by
 have a0:=h.a0
 have a1:=h.a1
 have b0:=h.b0
 have b1:=h.b1
 have hk:=h.k
 rw [lC a0 (by omega) b0 (by omega) (by omega)]
 intro e
 have e':("quarrel":Str) = "thing":=Y4 e
 exact absurd e' (by decide)
theorem lD {n:Int} (hn:n <= 10 ^ 10) {ts:List Th}:∀ {qs:List Qu} {q0:List Qu},(∀ q ∈ qs,wt n q)->loop (qs.map fun q=>ft (tZ q)) ts q0 = some (ts,q0 ++ qs)
 | [],q0,_=>by rw [aaA]; rfl
 | q :: qs,q0,h=>by
  have hq:=h q X9
  rw [Yq,je fun z=>sW hn hq z.1.1,uX hn hq]
  show loop _ ts (q0 ++ [q]) = _
  rw [lD hn fun x hx=>h x (X8 _ hx)]
  simp
theorem yg {n:Int} (hn:n <= 10 ^ 10) {qs:List Qu} (hq:∀ q ∈ qs,wt n q):∀ {ts t0:List Th},(∀ t ∈ ts,1 <= t.1 /\ t.1 <= 1000000000)->loop ((ts.map fun t=>ft (qp t)) ++ qs.map fun q=>ft (tZ q)) t0 [] = some (t0 ++ ts,qs)
 | [],t0,_=>by
  rw [aaA]
  exact lD hn hq
 | t :: ts,t0,h=>by
  obtain ⟨p0,p1⟩:=h t X9
  have h0:0 <= t.1:=by omega
  have h1:t.1 < 10 ^ 10:=by omega
  rw [Yq,List.cons_append,rf ⟨x3 h0 h1,rfl⟩,zx h0 h1]
  show loop _ (t0 ++ [t]) [] = _
  rw [yg hn hq fun x hx=>h x (X8 _ hx)]
  simp
theorem tQ:∀ ls:List Str,Str.join "" (ls.map fun l=>l ++ ("\n":Str)) = Str.join ⟨#[10]⟩ (ls ++ [⟨#[]⟩])
 | []=>rfl
 | [x]=>by
  apply gp
  show (x ++ ("\n":Str)).cps.toList = (Str.join ⟨#[10]⟩ (x :: ⟨#[]⟩ :: [])).cps.toList
  rw [bF,list_append]
  rfl
 | x :: y :: r=>by
  have ih:=tQ (y :: r)
  apply gp
  show ((x ++ ("\n":Str)) ++ ("":Str) ++ Str.join "" ((y :: r).map fun l=>l ++ ("\n":Str))).cps.toList = (Str.join ⟨#[10]⟩ (x :: y :: (r ++ [⟨#[]⟩]))).cps.toList
  rw [bF,list_append,list_append,list_append,ih]
  show _ ++ [10] ++ [] ++ _ = _
  simp
theorem zG {ts:List Th} {r:Int} {qs:List Qu} (hf:∀ l ∈ linesOf ts r qs,10 ∉ l.cps.toList):BU (gR ts r qs) = linesOf ts r qs ++ [⟨#[]⟩]:=by
 unfold BU gR
 rw [rR,tQ]
 refine jd (by simp) fun p hp=>?_
 rcases Yz.mp hp with h | h
 ·exact hf p h
 ·rw [YG.mp h]; simp
theorem kG {c:Nat} {s:Str} (hs:c ∉ s.cps.toList):∀ {l:List Str},(∀ x ∈ l,c ∉ x.cps.toList)->c ∉ (Str.join s l).cps.toList
 | [],_=>by simp [Str.join,Str.empty]
 | [x],h=>h x X9
 | x :: y :: r,h=>by
  show c ∉ (x ++ s ++ Str.join s (y :: r)).cps.toList
  rw [list_append,list_append]
  have ih:=kG hs (l:=y :: r) fun z hz=>h z (X8 _ hz)
  have hx:=h x X9
  simp only [Yz,not_or]
  exact ⟨⟨hx,hs⟩,ih⟩
theorem zg {ts:List Th} {r:Int} {qs:List Qu} (h:Fs r ts qs):∀ l ∈ linesOf ts r qs,10 ∉ l.cps.toList:=by
 have r1:=h.r1
 have r3:=h.r3
 have l6:=h.t.l6
 intro l hl
 rcases Yb.mp hl with e | hl
 ·rw [e,wZ]
  refine kG (by decide) fun x hx=>?_
  rcases Yb.mp hx with e | hx
  ·rw [e]; decide
  ·rw [YG.mp hx]; exact dS (by omega) (by omega) (by decide)
 ·rcases Yz.mp hl with hl | hl
  ·obtain ⟨t,ht,e⟩:=YI.mp hl
   obtain ⟨p0,p1⟩:=h.t.p t ht
   rw [<- e,Ey]
   refine kG (by decide) fun x hx=>?_
   rcases Yb.mp hx with e | hx
   ·rw [e]; decide
   ·rcases Yb.mp hx with e | hx
    ·rw [e]; exact dS (by omega) (by omega) (by decide)
    ·rw [YG.mp hx]; exact row_free _ _ (by decide)
  ·obtain ⟨q,hq,e⟩:=YI.mp hl
   have k:=h.q q hq
   have a0:=k.a0
   have a1:=k.a1
   have b0:=k.b0
   have b1:=k.b1
   have hk:=k.k
   rw [<- e,zi]
   refine kG (by decide) fun x hx=>?_
   rcases Yb.mp hx with e | hx
   ·rw [e]; decide
   ·rcases Yb.mp hx with e | hx
    ·rw [e]; exact dS a0 (by omega) (by decide)
    ·rcases Yb.mp hx with e | hx
     ·rw [e]; exact dS b0 (by omega) (by decide)
     ·rw [YG.mp hx]; exact A7 (by omega) (by decide)
theorem FK {ts:List Th} {r:Int} {qs:List Qu} (h:Fs r ts qs):rd (gR ts r qs) = some (ts,r,qs):=by
 have hl:=zG (zg h)
 have r1:=h.r1
 have r3:=h.r3
 have l6:=h.t.l6
 unfold rd
 rw [if_pos ((rM _ 10).mpr ⟨by rw [show Txt.split (gR ts r qs) ⟨#[10]⟩ = _ from hl]; simp,by rw [show Txt.split (gR ts r qs) ⟨#[10]⟩ = _ from hl]; simp [linesOf]; omega⟩),hl,List.dropLast_concat]
 unfold QD linesOf
 rw [Yq,List.getD_cons_zero,Cv (by omega) (by omega),List.tail_cons,Yd,YQ,YQ]
 show (loop ((ts.map fun t=>ft (qp t)) ++ qs.map fun q=>ft (tZ q)) [] []).bind _ = _
 rw [yg (n:=((ts.length:Nat):Int)) (by omega) h.q h.t.p]
 show yr r ([] ++ ts,qs) = _
 rw [List.nil_append]
 exact xr h
end WD
namespace FN
open PySem L2 PyProof.Rows
def top (i:Nat):Stmt:=PySem.Challenge.pw_ferrynight_k08_nights_written.main.body.getD i (.Pass ⟨0,0,0,0⟩)
abbrev cG:Stmt:=top 14
abbrev dF:Stmt:=top 15
abbrev cC:Stmt:=top 16
abbrev fm:Stmt:=top 17
abbrev c9:Stmt:=top 18
abbrev b7:Stmt:=top 19
abbrev cI:Stmt:=inClass (top 20) 0
abbrev bA:Stmt:=inClass (top 20) 1
abbrev eJ:Stmt:=inClass (top 20) 2
abbrev cH:Stmt:=inClass (top 20) 3
abbrev cW:Stmt:=inClass (top 20) 4
abbrev gx:Stmt:=inClass (top 20) 5
abbrev dQ:Stmt:=inClass (top 20) 6
abbrev eO:Stmt:=top 24
abbrev c7:Stmt:=top 25
abbrev qr:Stmt:=top 26
abbrev cy:Stmt:=top 27
abbrev bV:Stmt:=top 28
abbrev cv:Stmt:=top 29
abbrev fV:Stmt:=top 30
abbrev eV:Stmt:=top 31
abbrev cZ:Stmt:=top 32
abbrev u4:Stmt:=top 33
abbrev nJ:Stmt:=top 36
abbrev fK:Stmt:=top 37
abbrev eI:Stmt:=top 38
abbrev kH:Stmt:=top 39
abbrev fz:Stmt:=top 40
abbrev iw:Stmt:=top 41
abbrev io:Stmt:=top 42
abbrev gT:Stmt:=top 43
abbrev ku:Stmt:=top 44
abbrev kx:Stmt:=top 45
abbrev wk:Stmt:=top 46
abbrev kB:Stmt:=top 47
abbrev gI:Stmt:=top 49
abbrev dn:Stmt:=top 50
abbrev ge:Stmt:=top 51
abbrev fF:Stmt:=top 52
abbrev dW:Stmt:=top 53
abbrev cJ:Stmt:=top 54
abbrev kK:Stmt:=top 55
abbrev fX:Stmt:=top 56
abbrev iP:Stmt:=top 57
abbrev i6:Stmt:=top 58
abbrev b9:Stmt:=top 60
abbrev cF:Stmt:=top 61
abbrev cN:Stmt:=top 62
abbrev dP:Stmt:=top 63
abbrev dB:Stmt:=top 64
abbrev eN:Stmt:=top 65
abbrev fU:Stmt:=top 68
abbrev iq:Stmt:=top 69
abbrev gE:Stmt:=top 70
abbrev rj:Stmt:=top 71
structure Ad where
 k1:Tok
 k2:Tok
 k3:Tok
 k4:Tok
 k5:Tok
 k6:Tok
 k7:Tok
 sE:Addr
 me:Addr
 Ej:Addr
 Hd:Addr
 zu:Addr
 eg:Addr
 iW:Addr
 OG:Addr
 G5:Addr
abbrev OC:List Value:=[.type "ValueError",.type "Exception",.type "BaseException",.type "object"]
structure Ref (K:aaG) (mg:Str->Option Value) (Z:Ad) (x:Str) (D:Addr):Prop where
 g:mg x = some (.ref D)
 x:PySem.W.excIn K D OC "ValueError.__new__" = true
 k:PySem.W.Jc K D
 m:PySem.W.exmOne K (.ref D) (.ref Z.me) = some true
 v:PySem.W.kitOne K (.ref D) (.type "ValueError") = some true
structure Txt (K:aaG) (mg:Str->Option Value) (C:Addr) (Z:Ad):Prop where
 im:mg "len" = none
 u5:mg "list" = none
 ik:mg "tuple" = none
 jw:mg "range" = none
 mX:mg "isinstance" = none
 HS:mg "int" = none
 OO:mg "bool" = none
 LN:mg "zip" = none
 DJ:mg "all" = none
 MQ:mg "any" = none
 Nf:mg "max" = none
 mP:mg "sorted" = none
 Ho:mg "ValueError" = none
 Kz:mg "reversed" = none
 ID:mg "min" = none
 Ju:mg "dict" = none
 sL:mg "str" = none
 BB:mg "FIGURES" = some (.str "0123456789" Z.k6)
 rq:mg "MOST_FIGURES" = some (.int 10 Z.k7)
 tw:mg "MOST_THINGS" = some (.int 6 Z.k1)
 rZ:mg "MOST_MINUTES" = some (.int 1000000000 Z.k2)
 xC:mg "MOST_ROOM" = some (.int 3 Z.k3)
 pN:mg "MOST_QUARRELS" = some (.int 30 Z.k4)
 j8:mg "NO_KEEPER" = some (.int (-1) Z.k5)
 vB:mg "Night" = some (.ref C)
 aN:CO K C
 rp:iB K C "kept_things"
 CT:iB K C "kept_room"
 lO:iB K C "kept_quarrels"
 A4:mg "SIDES" = some (.ref Z.sE)
 uT:∀ H,bK K H Z.sE [.int 0,.int 1]
 FW:mg "FerryError" = some (.ref Z.me)
 JQ:mg "BadThing" = some (.ref Z.Ej)
 KZ:mg "BadRoom" = some (.ref Z.Hd)
 Gj:mg "BadQuarrel" = some (.ref Z.zu)
 KG:mg "BadNote" = some (.ref Z.G5)
 nU:Ref K mg Z "NoStanding" Z.eg
 re:Ref K mg Z "BadStart" Z.iW
section
variable {K:aaG} {mg:Str->Option Value} {C:Addr} {Z:Ad}
theorem Txt.uS (T:Txt K mg C Z):mg "NoStanding" = some (.ref Z.eg):=T.nU.g
theorem Txt.yN (T:Txt K mg C Z):mg "BadStart" = some (.ref Z.iW):=T.re.g
theorem Txt.uL (T:Txt K mg C Z):PySem.W.excIn K Z.eg OC "ValueError.__new__" = true:=T.nU.x
theorem Txt.yD (T:Txt K mg C Z):PySem.W.excIn K Z.iW OC "ValueError.__new__" = true:=T.re.x
end
def k9 (t:Addr) (r:Int) (q:Addr):List (Str × V):=dY "kept_quarrels" (.ref q) (dY "kept_room" (.int r) (dY "kept_things" (.ref t) []))
theorem Qc:¬ (("kept_room":Str) = "kept_things"):=by decide +kernel
theorem PD:¬ (("kept_quarrels":Str) = "kept_things"):=by decide +kernel
theorem P8:¬ (("kept_quarrels":Str) = "kept_room"):=by decide +kernel
theorem Da (t:Addr) (r:Int) (q:Addr):(k9 t r q).lookup ("kept_things":Str) = some (.ref t):=by
 unfold k9
 rw [bJ,if_neg (aag PD),bJ,if_neg (aag Qc),bJ,if_pos rfl]
theorem Kb (t:Addr) (r:Int) (q:Addr):(k9 t r q).lookup ("kept_room":Str) = some (.int r):=by
 unfold k9
 rw [bJ,if_neg (aag P8),bJ,if_pos rfl]
theorem E4 (t:Addr) (r:Int) (q:Addr):(k9 t r q).lookup ("kept_quarrels":Str) = some (.ref q):=by
 unfold k9
 rw [bJ,if_pos rfl]
theorem nV (t:Addr) (r:Int) (q:Addr) {m:Str} (h1:¬ m = "kept_quarrels") (h2:¬ m = "kept_room") (h3:¬ m = "kept_things"):(k9 t r q).lookup m = none:=by
 unfold k9
 rw [bJ,if_neg h1,bJ,if_neg h2,bJ,if_neg h3]
 all_goals rfl
structure aX (C:Addr) (H:Hp) (p:Addr) (ts:List Th) (r:Int) (qs:List Qu):Prop where
 ex:∃ dx t q,H p = some (.ins C dx (k9 t r q)) /\ TupAt vH H t ts /\ TupAt vF H q qs
theorem aX.mono {C:Addr} {H H':Hp} {p:Addr} {ts:List Th} {r:Int} {qs:List Qu} (h:aX C H p ts r qs) (e:ao H H'):aX C H' p ts r qs :=
 let ⟨dx,t,q,h1,h2,h3⟩:=h.ex
 ⟨dx,t,q,e _ _ h1,h2.mono e,h3.mono e⟩
theorem aX.upd {C:Addr} {H:Hp} {p:Addr} {ts:List Th} {r:Int} {qs:List Qu} {D:Addr} {o:HO} {ys:List V} (h:aX C H p ts r qs) (hD:H D = some (.lst ys)):aX C (L2.upd H D o) p ts r qs:=by
 obtain ⟨dx,t,q,h1,⟨vt,h2,iL⟩,⟨vq,h3,vV⟩⟩:=h.ex
 refine ⟨dx,t,q,?_,⟨vt,?_,bp hD iL (aE ph ts)⟩,⟨vq,?_,bp hD vV (aE m5 qs)⟩⟩
 ·rw [am (fe h1 hD (by intro z; cases z))]; exact h1
 ·rw [am (fe h2 hD (by intro z; cases z))]; exact h2
 ·rw [am (fe h3 hD (by intro z; cases z))]; exact h3
section
variable {P:Program} {w:World} {K:aaG} {mg:Str->Option Value} {base:Heap} {C:Addr} {Z:Ad}
def jm (K:aaG):Sp:=fun vs H Q _=>∃ (a:Addr) (ns:List Int) (k:Nat),vs = [.ref a,.int k] /\ aZ K H a (ns.map V.int) /\ Q (.int (ns.getD k 0)) H
theorem pQ:av ["script","k"] ["script","k"] (aj b9):=fk
theorem lQ {f:Addr} {fd:FuncData} (F:Fn K mg "_law_cell_at" b9 f fd ["script","k"]) (T:Txt K mg C Z):au P w K mg base be 1 f fd ["script","k"] (jm K):=by
 refine F.fn.ok pQ (fun vs H Q E h=>?_) (fun ci A outer s H vs Q E hr h=>?_)
 ·obtain ⟨a,ns,k,rfl,_⟩:=h
  rfl
 ·obtain ⟨a,ns,k,rfl,hS,q⟩:=h
  refine ⟨_,(ag (bL (aD xJ (pv 1) (aV ba (by rfl) T.im YN (aa (pv 0) af)) (aY _))
   (ai (aA (aR ce (pv 0) (pv 1) (fun _ _=>rfl))))
   aM)
   (ai (aA ak))),?_⟩
  refine ⟨_,rfl,_,rfl,a,_,rfl,.inl hS,_,_,rfl,rfl,_,rfl,?_⟩
  refine Ge (fun h=>?_) (fun h=>?_)
  ·have hk:k < ns.length:=by
    have:=YA h
    rw [X6] at this
    omega
   refine ⟨_,rfl,_,rfl,a,_,_,_,rfl,rfl,hS,fQ (v:=V.int (ns.getD k 0)) ?_,q⟩
   rw [Yl,Yp,Ya hk]
   rfl
  ·have hk:¬ k < ns.length:=fun z=>h (Yi (by rw [X6]; omega))
   have e:ns.getD k 0 = 0:=by
    rw [Yp,List.getElem?_eq_none_iff.mpr (by omega)]
    rfl
   rw [e] at q
   exact q
def wD (K:aaG):Sp:=fun vs H Q _=>∃ (a b:Addr) (qs:List Qu) (g:List Int),vs = [.ref a,.ref b] /\ LstAt vF H a qs /\ H b = some (.tup (g.map V.int)) /\ Q (.bl (jG qs g)) H
theorem xS {qs:List Qu} {g:List Int} {q:Qu} {i:Nat} (h:qs[i]? = some q) (hb:bad g q = true):jG qs g = false:=by
 unfold jG
 rw [List.any_eq_true.mpr ⟨q,YE h,hb⟩]
 rfl
theorem tT {qs:List Qu} {g:List Int} (h:∀ (i:Nat) q,i < qs.length->qs[i]? = some q->bad g q = false):jG qs g = true:=by
 unfold jG
 have e:qs.any (bad g) = false:=by
  rw [List.any_eq_false]
  intro q hq
  obtain ⟨i,hi⟩:=aaf.mp hq
  rw [h i q (Ys.mp hi).1 hi]
  exact Yc
 rw [e]
 rfl
theorem fL:av ["quarrels","group","one","other","keeper"] ["quarrels","group"] (aj eN):=fk
theorem EL {f:Addr} {fd:FuncData} (F:Fn K mg "_law_peace" eN f fd ["quarrels","group"]):au P w K mg base be 1 f fd ["quarrels","group"] (wD K):=by
 refine F.fn.ok fL (fun vs H Q E h=>?_) (fun ci A outer s H vs Q E hr h=>?_)
 ·obtain ⟨a,b,qs,g,rfl,_⟩:=h
  rfl
 ·obtain ⟨a,b,qs,g,rfl,⟨vq,ha,hq⟩,hb,k⟩:=h
  refine ⟨_,(ag (fA YS rfl (bU (pv 0)) (jk rfl (aG (gn 2 fL.nd) (aG (gn 3 fL.nd) (aG (gn 4 fL.nd) di))))
   (ai (bL (PW.pt (pw_and (aD iS (pv 2) (pv 1) (by with_unfolding_all rfl)) (pw_and (aD iS (pv 3) (pv 1) (by with_unfolding_all rfl)) (pw_and1 (aD jh (pv 4) (pv 1) (by with_unfolding_all rfl))))))
   (ai (aA jy))
   aM)))
   (ai (aA jy))),?_⟩
  have hl:=aI hq
  refine ⟨_,rfl,a,rfl,⟨_,aZ.of ha⟩,eX (K:=K) (a:=a) (xs:=vq) (fun i σ H'=>H' = H /\ (∃ v1 v2 v3,σ = [some (.ref a),some (.ref b),v1,v2,v3]) /\ ∀ (j:Nat) q,j < i->qs[j]? = some q->bad g q = false)
   ⟨rfl,⟨_,_,_,rfl⟩,fun j q hj=>absurd hj (Nat.not_lt_zero _)⟩ (fun i σ H' _ ⟨e,_⟩=>by rw [e]; exact aZ.of ha) ?_ ?_⟩
  ·rintro i x σ H' hi ⟨rfl,⟨v1,v2,v3,rfl⟩,hn⟩
   obtain ⟨q,Np,dq⟩:=bH hq hi
   obtain ⟨c,rfl,hc⟩:=sx dq
   have next:bad g q = false->∀ (j:Nat) q',j < i + 1->qs[j]? = some q'->bad g q' = false:=fun h0 j q' hj IB=>by
    by_cases e:j = i
    ·subst e; rw [Np] at IB; cases IB; exact h0
    ·exact hn j q' (by omega) IB
   refine ⟨c,_,rfl,bK.of hc,rfl,_,_,rfl,_,_,rfl,_,_,rfl,rfl,?_⟩
   refine ⟨_,rfl,_,rfl,b,_,rfl,.inr (bK.of hb),rfl,dC g,_,rfl,?_⟩
   refine bv (fun h1=>?_) (fun h1=>?_)
   ·refine ⟨_,rfl,_,rfl,b,_,rfl,.inr (bK.of hb),rfl,dC g,_,rfl,?_⟩
    refine bv (fun h2=>?_) (fun h2=>?_)
    ·refine ⟨_,rfl,_,rfl,b,_,rfl,.inr (bK.of hb),rfl,dC g,_,rfl,?_⟩
     refine bv (fun h3=>?_) (fun h3=>?_)
     ·have e:bad g q = true:=by
       have cV:xa (.int q.1) (g.map V.int) = true:=h1
       have iL:xa (.int q.2.1) (g.map V.int) = true:=h2
       have vV:(!xa (.int q.2.2) (g.map V.int)) = true:=h3
       rw [c6] at cV iL vV
       unfold bad
       rw [cV,iL,vV]
       rfl
      have k':=k
      rw [xS Np e] at k'
      exact k'
     ·have e:bad g q = false:=by
       have vV:(!xa (.int q.2.2) (g.map V.int)) = false:=h3
       rw [c6] at vV
       unfold bad
       rw [vV,Zz]
      exact ⟨rfl,⟨_,_,_,rfl⟩,next e⟩
    ·have e:bad g q = false:=by
      have iL:xa (.int q.2.1) (g.map V.int) = false:=h2
      rw [c6] at iL
      unfold bad
      rw [iL,Zz,YO]
     exact ic ⟨rfl,⟨_,_,_,rfl⟩,next e⟩
   ·have e:bad g q = false:=by
     have cV:xa (.int q.1) (g.map V.int) = false:=h1
     rw [c6] at cV
     unfold bad
     rw [cV,YO,YO]
    exact ic ⟨rfl,⟨_,_,_,rfl⟩,next e⟩
  ·rintro σ H' ⟨rfl,⟨v1,v2,v3,rfl⟩,hn⟩
   have k':=k
   rw [tT (qs:=qs) (g:=g) fun i q hi hq=>hn i q (by omega) hq] at k'
   exact k'
def uF (C:Addr):Sp:=fun vs H Q _=>∃ (p b:Addr) (ts:List Th) (r:Int) (qs:List Qu) (g:List Int),vs = [.ref p,.ref b] /\ aX C H p ts r qs /\ H b = some (.tup (g.map V.int)) /\ Q (.bl (jG qs g)) H
theorem eH:av ["self","group","one","other","keeper"] ["self","group"] (aj dQ):=fk
theorem Cn {f:Addr} {fd:FuncData} (F:Mt K "peace" "Night.peace" dQ f fd ["self","group"]) (T:Txt K mg C Z):au P w K mg base be 1 f fd ["self","group"] (uF C):=by
 refine F.fn.ok eH (fun vs H Q E h=>?_) (fun ci A outer s H vs Q E hr h=>?_)
 ·obtain ⟨p,b,ts,r,qs,g,rfl,_⟩:=h
  rfl
 ·obtain ⟨p,b,ts,r,qs,g,rfl,N,hb,k⟩:=h
  obtain ⟨dx,t,a,hp,_,⟨vq,ha,hq⟩⟩:=N.ex
  refine ⟨_,(ag (fA YS rfl (lY (qV (pv 0) rfl)) (jk rfl (aG (gn 2 eH.nd) (aG (gn 3 eH.nd) (aG (gn 4 eH.nd) di))))
   (ai (bL (PW.pt (pw_and (aD iS (pv 2) (pv 1) (by with_unfolding_all rfl)) (pw_and (aD iS (pv 3) (pv 1) (by with_unfolding_all rfl)) (pw_and1 (aD jh (pv 4) (pv 1) (by with_unfolding_all rfl))))))
   (ai (aA jy))
   aM)))
   (ai (aA jy))),?_⟩
  have hl:=aI hq
  refine ⟨_,rfl,p,C,dx,_,_,rfl,hp,T.aN,T.lO,E4 _ _ _,a,rfl,⟨_,bK.of ha⟩,Ay (K:=K) (a:=a) (xs:=vq) (fun i σ H'=>H' = H /\ (∃ v1 v2 v3,σ = [some (.ref p),some (.ref b),v1,v2,v3]) /\ ∀ (j:Nat) q,j < i->qs[j]? = some q->bad g q = false)
   ⟨rfl,⟨_,_,_,rfl⟩,fun j q hj=>absurd hj (Nat.not_lt_zero _)⟩ (fun i σ H' _ ⟨e,_⟩=>by rw [e]; exact bK.of ha) ?_ ?_⟩
  ·rintro i x σ H' hi ⟨rfl,⟨v1,v2,v3,rfl⟩,hn⟩
   obtain ⟨q,Np,dq⟩:=bH hq hi
   obtain ⟨c,rfl,hc⟩:=sx dq
   have next:bad g q = false->∀ (j:Nat) q',j < i + 1->qs[j]? = some q'->bad g q' = false:=fun h0 j q' hj IB=>by
    by_cases e:j = i
    ·subst e; rw [Np] at IB; cases IB; exact h0
    ·exact hn j q' (by omega) IB
   refine ⟨c,_,rfl,bK.of hc,rfl,_,_,rfl,_,_,rfl,_,_,rfl,rfl,?_⟩
   refine ⟨_,rfl,_,rfl,b,_,rfl,.inr (bK.of hb),rfl,dC g,_,rfl,?_⟩
   refine bv (fun h1=>?_) (fun h1=>?_)
   ·refine ⟨_,rfl,_,rfl,b,_,rfl,.inr (bK.of hb),rfl,dC g,_,rfl,?_⟩
    refine bv (fun h2=>?_) (fun h2=>?_)
    ·refine ⟨_,rfl,_,rfl,b,_,rfl,.inr (bK.of hb),rfl,dC g,_,rfl,?_⟩
     refine bv (fun h3=>?_) (fun h3=>?_)
     ·have e:bad g q = true:=by
       have cV:xa (.int q.1) (g.map V.int) = true:=h1
       have iL:xa (.int q.2.1) (g.map V.int) = true:=h2
       have vV:(!xa (.int q.2.2) (g.map V.int)) = true:=h3
       rw [c6] at cV iL vV
       unfold bad
       rw [cV,iL,vV]
       rfl
      have k':=k
      rw [xS Np e] at k'
      exact k'
     ·have e:bad g q = false:=by
       have vV:(!xa (.int q.2.2) (g.map V.int)) = false:=h3
       rw [c6] at vV
       unfold bad
       rw [vV,Zz]
      exact ⟨rfl,⟨_,_,_,rfl⟩,next e⟩
    ·have e:bad g q = false:=by
      have iL:xa (.int q.2.1) (g.map V.int) = false:=h2
      rw [c6] at iL
      unfold bad
      rw [iL,Zz,YO]
     exact ic ⟨rfl,⟨_,_,_,rfl⟩,next e⟩
   ·have e:bad g q = false:=by
     have cV:xa (.int q.1) (g.map V.int) = false:=h1
     rw [c6] at cV
     unfold bad
     rw [cV,YO,YO]
    exact ic ⟨rfl,⟨_,_,_,rfl⟩,next e⟩
  ·rintro σ H' ⟨rfl,⟨v1,v2,v3,rfl⟩,hn⟩
   have k':=k
   rw [tT (qs:=qs) (g:=g) fun i q hi hq=>hn i q (by omega) hq] at k'
   exact k'
end
section
variable {P:Program} {w:World} {K:aaG} {mg:Str->Option Value} {base:Heap} {C:Addr} {Z:Ad}
def qB:Sp:=fun vs H Q _=>∃ (cell:Int) (n:Nat),vs = [.int cell,.int n] /\ 2 <= n /\ n <= 6 /\ ∀ (q:Qu) (p:Addr) (H':Hp),wt n q->ao H H'->H' p = some (.tup [.int q.1,.int q.2.1,.int q.2.2])->Q (.ref p) H'
theorem bO:av ["cell","many","one","other","left","keeper"] ["cell","many"] (aj cF):=fk
theorem zj {f:Addr} {fd:FuncData} (F:Fn K mg "_law_quarrel" cF f fd ["cell","many"]) (T:Txt K mg C Z):au P w K mg base be 1 f fd ["cell","many"] qB:=by
 refine F.fn.ok bO (fun vs H Q E h=>?_) (fun ci A outer s H vs Q E hr h=>?_)
 ·obtain ⟨cell,n,rfl,_⟩:=h
  rfl
 ·obtain ⟨cell,n,rfl,h2,h6,k⟩:=h
  refine ⟨_,(ag (sn 2 bO.nd (bu fE (pv 0) (pv 1)))
   (ag (sn 3 bO.nd (bu fE (bu js (bu js (pv 2) ak) (bu fE (bu nK (pv 0) (pv 1)) (bu E8 (pv 1) ak))) (pv 1)))
   (ag (vx (j:=4) rfl (N':=["thing","one","other"]) (cap:=[none,some 2,some 3]) ⟨rfl,by with_unfolding_all rfl⟩ (iU (by rfl) T.jw (aa (pv 1) af)) (fun _=>(gn 0 (show (["thing","one","other"]:List Str).Nodup by decide +kernel))) (fun _=>(fY (PW.pt (pw_and (aD jB (pv 0) (pv 1) (aY _)) (pw_and1 (aD jB (pv 0) (pv 2) (aY _))))))) (fun _=>(pv 0)) bO.nd (by rfl) (by rfl) (by with_unfolding_all rfl))
   (ag (sn 0 bO.nd (bu nK (pv 0) (bu Jj (pv 1) (bu E8 (pv 1) ak))))
   (ag (sn 5 bO.nd (Ic Ff ak))
   (ag (bL (PW.pt (pw_and (aD D3 (bu fE (pv 0) ak) ak (aY _)) (pw_and1 (aD D3 (aV ba (by rfl) T.im YN (aa (pv 4) af)) ak (aY _)))))
   (ai (sn 5 bO.nd (aR ce (pv 4) (bu fE (bu nK (pv 0) ak) (aV ba (by rfl) T.im YN (aa (pv 4) af))) (fun _ _=>rfl))))
   aM)
   (ai (aA (cM (aa (pv 2) (aa (pv 3) (aa (pv 5) af)))))))))))),?_⟩
  have hn:(0:Int) < n:=by omega
  have N8:(0:Int) < (n:Int) - 1:=by omega
  obtain ⟨p1,p2⟩:=Hq n h2 h6
  obtain ⟨o1,o2,o3,o4,o5⟩:=Eu cell n h2 h6
  refine ⟨_,rfl,_,rfl,_,_,rfl,rfl,hn,?_⟩
  refine ⟨_,rfl,_,_,rfl,rfl,_,rfl,_,rfl,_,_,rfl,rfl,⟨hn,by omega⟩,_,rfl,_,_,rfl,rfl,_,_,rfl,rfl,N8,_,_,rfl,rfl,_,rfl,_,_,rfl,rfl,hn,?_⟩
  dsimp only
  generalize cell % (n:Int) = one at o1 o2 o3 o4 o5 ⊢
  generalize (one + 1 + cell / (n:Int) % ((n:Int) - 1)) % (n:Int) = other at o3 o4 o5 ⊢
  refine ⟨_,rfl,(n:Int),rfl,by omega,by omega,fun D hD=>?_⟩
  refine jx (fun i xs H'=>∃ L:List Int,xs = L.map V.int /\ L.length <= i /\ (∀ t ∈ L,0 <= t /\ t < n /\ t ≠ one /\ t ≠ other) /\ ao H H' /\ H' D = some (.lst xs))
   ⟨[],rfl,X7 _,(fun t ht=>by cases ht),ah hD,ae⟩ (fun i xs H' _ ⟨L,_,_,_,_,h⟩=>h) ?_ ?_
  ·rintro i xs H' hi ⟨L,rfl,hL,hm,sm,gu⟩
   have go:∀ {H5:Hp},H5 = H'->(((0:Int) + i) ≠ one /\ ((0:Int) + i) ≠ other)->∃ L':List Int,(L.map V.int ++ [V.int ((0:Int) + i)]) = L'.map V.int /\ L'.length <= i + 1 /\ (∀ t ∈ L',0 <= t /\ t < n /\ t ≠ one /\ t ≠ other) /\ ao H (L2.upd H5 D (.lst (L.map V.int ++ [V.int ((0:Int) + i)]))) /\ (L2.upd H5 D (.lst (L.map V.int ++ [V.int ((0:Int) + i)]))) D = some (.lst (L.map V.int ++ [V.int ((0:Int) + i)])):=by
    rintro H5 rfl ⟨e1,e2⟩
    refine ⟨L ++ [(0:Int) + i],by simp,by simp; omega,fun t ht=>?_,aq sm hD,ae⟩
    rcases Yz.mp ht with z | z
    ·exact hm t z
    ·rw [YG.mp z]
     exact ⟨by omega,by omega,e1,e2⟩
   have lT:∃ L':List Int,L.map V.int = L'.map V.int /\ L'.length <= i + 1 /\ (∀ t ∈ L',0 <= t /\ t < n /\ t ≠ one /\ t ≠ other) /\ ao H H' /\ H' D = some (.lst (L.map V.int)):=⟨L,rfl,by omega,hm,sm,gu⟩
   refine ⟨cm.set rfl,?_⟩
   refine ⟨_,rfl,_,rfl,rfl,_,rfl,?_⟩
   refine bv (fun h1=>?_) (fun h1=>?_)
   ·refine ⟨_,rfl,_,rfl,rfl,_,rfl,?_⟩
    refine bv (fun h2=>?_) (fun h2=>?_)
    ·refine ⟨_,rfl,gu,?_,go rfl ⟨fun z=>?_,fun z=>?_⟩⟩
     ·rw [X6]; exact aU (by omega)
     ·rw [z] at h1; simp at h1
     ·rw [z] at h2; simp at h2
    ·exact lT
   ·exact ic lT
  ·rintro xs H1 ⟨L,rfl,hL,hm,sm,At⟩
   refine ⟨_,rfl,_,rfl,_,rfl,_,_,rfl,rfl,_,_,rfl,rfl,.inl ⟨by omega,by omega⟩,_,_,rfl,rfl,⟨p1,p2⟩,?_⟩
   dsimp only
   generalize cell / ((n:Int) * ((n:Int) - 1)) = c2
   refine ⟨_,rfl,?_⟩
   have fin:∀ kp:Int,(kp = -1 \/ (0 <= kp /\ kp < n /\ kp ≠ one /\ kp ≠ other))->∀ p,H1 p = none->Q (.ref p) (L2.upd H1 p (.tup [.int one,.int other,.int kp])):=fun kp hk p hp =>
    k (one,other,kp) p _ ⟨o1,o2,o3,o4,o5,hk⟩ (aq sm (sm.free hp)) ae
   refine ⟨_,rfl,_,_,rfl,rfl,(by show (0:Int) < 3; decide),_,_,rfl,rfl,_,rfl,?_⟩
   refine bv (fun h1=>?_) (fun h1=>?_)
   ·refine ⟨_,rfl,D,_,rfl,.inl (aZ.of At),_,_,rfl,rfl,_,rfl,?_⟩
    refine bv (fun h2=>?_) (fun h2=>?_)
    ·have hl:0 < (L.map V.int).length:=by
      have:=YA h2
      omega
     have jN:(0:Int) < ((L.map V.int).length:Int):=by omega
     obtain ⟨v,hv,Jx⟩:=zw (xs:=L.map V.int) (i:=c2 / 3 % ((L.map V.int).length:Int)) (aaB _ (by omega)) (Z9 _ jN)
     obtain ⟨kp,Ws,rfl⟩:=YI.mp hv
     refine ⟨_,rfl,_,rfl,_,_,rfl,rfl,⟨by decide,by decide⟩,_,rfl,D,_,rfl,.inl (aZ.of At),_,_,rfl,rfl,jN,D,_,_,_,rfl,rfl,aZ.of At,Jx,?_⟩
     refine ⟨_,rfl,_,rfl,_,rfl,aH (by show 3 <= _; decide),fin kp (.inr (hm kp Ws))⟩
    ·refine ⟨_,rfl,_,rfl,_,rfl,aH (by show 3 <= _; decide),fin (-1) (.inl rfl)⟩
   ·refine ic ?_
    refine ⟨_,rfl,_,rfl,_,rfl,aH (by show 3 <= _; decide),fin (-1) (.inl rfl)⟩
def oW (K:aaG):Sp:=fun vs H Q _=>∃ (a:Addr) (ns:List Int) (st n:Nat),vs = [.ref a,.int st,.int n] /\ aZ K H a (ns.map V.int) /\ 1 <= n /\ n <= 6 /\
 ∀ (qs:List Qu) (p:Addr) (H':Hp),qs.length <= 4->(∀ q ∈ qs,wt n q)->ao H H'->LstAt vF H' p qs->Q (.ref p) H'
theorem iV:av ["script","start","many","count"] ["script","start","many"] (aj cN):=fk
theorem yu {f f1 f2:Addr} {fd eC jH:FuncData} (F:Fn K mg "_law_quarrels" cN f fd ["script","start","many"]) (T:Txt K mg C Z)
  (aJ:Fn K mg "_law_cell_at" b9 f1 eC ["script","k"]) (eZ:Fn K mg "_law_quarrel" cF f2 jH ["cell","many"]):au P w K mg base be 2 f fd ["script","start","many"] (oW K):=by
 have bx:au P w K mg base be 1 f1 eC ["script","k"] (jm K):=lQ aJ T
 have sB:au P w K mg base be 1 f2 jH ["cell","many"] qB:=zj eZ T
 refine F.fn.ok iV (fun vs H Q E h=>?_) (fun ci A outer s H vs Q E hr h=>?_)
 ·obtain ⟨a,ns,st,n,rfl,_⟩:=h
  rfl
 ·obtain ⟨a,ns,st,n,rfl,hS,h1,h6,k⟩:=h
  refine ⟨_,(ag (bL (aD j0 (pv 2) ak (aY _))
   (ai (aA (eT af)))
   aM)
   (ag (sn 3 iV.nd (bu fE (cl bx aJ hr ay (aa (pv 0) (aa (pv 1) af))) ak))
   (ai (aA (bS rfl (N':=["k","script","start","many"]) (cap:=[none,some 0,some 1,some 2]) ⟨rfl,by with_unfolding_all rfl⟩ (iU (by rfl) T.jw (aa (pv 3) af)) (fun _=>(gn 0 (show (["k","script","start","many"]:List Str).Nodup by decide +kernel))) (fun _=>cu) (fun _=>(cl sB eZ hr ay (aa (bu fE (cl bx aJ hr ay (aa (pv 1) (aa (bu js (bu js (pv 2) ak) (pv 0)) af))) (bu DH ak ak)) (aa (pv 3) af))))))))),?_⟩
  refine ⟨_,rfl,rfl,_,rfl,?_⟩
  refine Ge (fun h=>?_) (fun h=>?_)
  ·exact ⟨YD _,fun l hl=>k [] l _ (YD _) (fun q hq=>by cases hq) (ah hl) ⟨[],ae,.nil⟩⟩
  ·have h2:2 <= n:=by
    have z:¬ V.int (n:Int) = V.int 1:=fun z=>h (Yi z)
    have:n ≠ 1:=fun e=>z (by rw [e]; rfl)
    omega
   refine ⟨_,rfl,_,rfl,a,ns,st,rfl,hS,_,_,rfl,rfl,(by show (0:Int) < 5; decide),?_⟩
   have c0:0 <= ns.getD st 0 % 5:=aaB _ (by decide)
   have c5:ns.getD st 0 % 5 < 5:=Z9 _ (by decide)
   dsimp only
   generalize ns.getD st 0 % 5 = cnt at c0 c5 ⊢
   refine ⟨_,rfl,cnt,rfl,by omega,by omega,fun D hD=>?_⟩
   refine jx (fun i xs H'=>∃ qs:List Qu,qs.length = i /\ (∀ q ∈ qs,wt n q) /\ ao H H' /\ H' D = some (.lst xs) /\ bW H' (qs.map vF) xs)
    ⟨[],rfl,(fun q hq=>by cases hq),ah hD,ae,.nil⟩ (fun i xs H' _ ⟨_,_,_,_,h,_⟩=>h) ?_ ?_
   ·rintro i xs H' hi ⟨qs,hq,ok,sm,gu,dv⟩
    refine ⟨cm.set rfl,?_⟩
    have e1:(st:Int) + 1 + (0 + (i:Int)) = ((st + 1 + i:Nat):Int):=by omega
    refine ⟨_,rfl,_,rfl,_,_,rfl,rfl,_,rfl,_,_,rfl,rfl,a,ns,st + 1 + i,(by show [V.ref a,V.int ((st:Int) + 1 + (0 + (i:Int)))] = _; rw [e1]),sm.seq hS,?_⟩
    refine ⟨_,_,rfl,rfl,⟨by decide,by decide,by decide⟩,_,_,rfl,rfl,(by show (0:Int) < (10:Int) ^ (9:Int).toNat; decide),_,rfl,_,n,rfl,h2,h6,fun q p H2 IY QW hp=>?_⟩
    have rJ:=QW _ _ gu
    have dl:xs.length = qs.length:=aI dv
    refine ⟨rJ,aU (by omega),qs ++ [q],by simp [hq],fun q' oy=>?_,aq (sm.trans QW) hD,ae,?_⟩
    ·rcases Yz.mp oy with z | z
     ·exact ok q' z
     ·rw [YG.mp z]; exact IY
    ·rw [Yd]
     exact (bp rJ (dv.mono QW) (aE m5 qs)).snoc (dJ rJ (E9 hp) (m5 q))
   ·rintro xs H1 ⟨qs,hq,ok,sm,At,dv⟩
    exact k qs D H1 (by omega) ok sm ⟨xs,At,dv⟩
def uB (K:aaG):Sp:=fun vs H Q _=>∃ (a:Addr) (ns:List Int) (st n:Nat),vs = [.ref a,.int st,.int n] /\ aZ K H a (ns.map V.int) /\ n <= 6 /\
 ∀ (ts:List Th) (p:Addr) (H':Hp),ts.length = n->(∀ t ∈ ts,1 <= t.1 /\ t.1 <= 1000000000)->ao H H'->LstAt vH H' p ts->Q (.ref p) H'
theorem cY:av ["script","start","many","most","things","k","cell"] ["script","start","many"] (aj dP):=fk
theorem CF {f f1:Addr} {fd eC:FuncData} (F:Fn K mg "_law_things" dP f fd ["script","start","many"]) (T:Txt K mg C Z)
  (aJ:Fn K mg "_law_cell_at" b9 f1 eC ["script","k"]):au P w K mg base be 2 f fd ["script","start","many"] (uB K):=by
 have bx:au P w K mg base be 1 f1 eC ["script","k"] (jm K):=lQ aJ T
 refine F.fn.ok cY (fun vs H Q E h=>?_) (fun ci A outer s H vs Q E hr h=>?_)
 ·obtain ⟨a,ns,st,n,rfl,_⟩:=h
  rfl
 ·obtain ⟨a,ns,st,n,rfl,hS,h6,k⟩:=h
  refine ⟨_,(ag (sn 3 cY.nd (aR ce (eT (aa ak (aa ak (aa (bu DH ak ak) af)))) (bu fE (cl bx aJ hr ay (aa (pv 0) (aa (pv 1) af))) ak) (fun _ _=>rfl)))
   (ag (sn 4 cY.nd (eT af))
   (ag (fA YS rfl (iU (by rfl) T.jw (aa (pv 2) af)) (gn 5 cY.nd)
   (ag (sn 6 cY.nd (cl bx aJ hr ay (aa (pv 0) (aa (bu js (bu js (pv 1) ak) (pv 5)) af))))
   (ai (cp (fc Zv Z2 Z1 dm (pv 4) (aa (cM (aa (bu js ak (bu fE (bu nK (pv 6) ak) (pv 3))) (aa (fN xJ (bu fE (pv 6) ak) ak (aY _)) af))) af))))))
   (ai (aA (pv 4)))))),?_⟩
  refine ⟨_,_,rfl,rfl,⟨by decide,by decide,by decide⟩,aH (by show 3 <= _; decide),fun l0 yz=>?_⟩
  have s0:ao H (L2.upd H l0 (.lst [V.int 20,V.int 4,V.int ((10:Int) ^ (9:Int).toNat)])):=ah yz
  have c0:0 <= ns.getD st 0 % 3:=aaB _ (by decide)
  have c3:ns.getD st 0 % 3 < 3:=Z9 _ (by decide)
  obtain ⟨v,hv,Jx⟩:=zw (xs:=[V.int 20,V.int 4,V.int ((10:Int) ^ (9:Int).toNat)]) c0 (by show _ < ((3:Nat):Int); omega)
  obtain ⟨most,rfl,m1,m2⟩:∃ most:Int,v = V.int most /\ 1 <= most /\ most <= 1000000000:=by
   rcases Yb.mp hv with rfl | hv
   ·exact ⟨20,rfl,by decide,by decide⟩
   rcases Yb.mp hv with rfl | hv
   ·exact ⟨4,rfl,by decide,by decide⟩
   rw [YG.mp hv]
   exact ⟨_,rfl,by decide,by decide⟩
  refine ⟨_,rfl,_,rfl,a,ns,st,rfl,s0.seq hS,_,_,rfl,rfl,(by show (0:Int) < 3; decide),l0,_,_,_,rfl,rfl,aZ.of ae,Jx,?_⟩
  refine ⟨YD _,fun l hl=>?_⟩
  have Rk:H l = none:=s0.free hl
  refine ⟨_,rfl,(n:Int),rfl,by omega,by omega,Bz (fun i σ H'=>∃ (ts:List Th) (vs:List V) (v5 v6:Option V),σ = [some (.ref a),some (.int st),some (.int n),some (.int most),some (.ref l),v5,v6] /\ ts.length = i /\ (∀ t ∈ ts,1 <= t.1 /\ t.1 <= 1000000000) /\ ao H H' /\ H' l = some (.lst vs) /\ bW H' (ts.map vH) vs)
   ⟨[],[],_,_,rfl,rfl,(fun t ht=>by cases ht),aq s0 Rk,ae,.nil⟩ ?_ ?_⟩
  ·rintro i σ H' hi ⟨ts,vs,v5,v6,rfl,ht,ok,sm,jN,dv⟩
   have e1:(st:Int) + 1 + (0 + (i:Int)) = ((st + 1 + i:Nat):Int):=by omega
   refine ⟨_,rfl,_,rfl,_,_,rfl,rfl,_,rfl,_,_,rfl,rfl,a,ns,st + 1 + i,(by show [V.ref a,V.int ((st:Int) + 1 + (0 + (i:Int)))] = _; rw [e1]),sm.seq hS,?_⟩
   generalize ns.getD (st + 1 + i) 0 = cell
   refine ⟨_,rfl,.inl ⟨rfl,_,aZ.of jN⟩,_,rfl,_,_,rfl,rfl,⟨by decide,by decide⟩,_,rfl,_,_,rfl,rfl,(by show (0:Int) < most; omega),_,_,rfl,rfl,_,rfl,_,_,rfl,rfl,(by show (0:Int) < 3; decide),_,_,rfl,rfl,aH (by show 2 <= _; decide),fun p hp=>?_⟩
   have SU:l ≠ p:=ax jN hp
   have ox:(L2.upd H' p (.tup [V.int (1 + cell / 3 % most),V.bl (decide (cell % 3 < 2))])) l = some (.lst vs):=by rw [am SU]; exact jN
   have dl:vs.length = ts.length:=aI dv
   refine ⟨l,vs,_,rfl,rfl,ox,aU (by omega),?_⟩
   refine ⟨ts ++ [(1 + cell / 3 % most,decide (cell % 3 < 2))],_,_,_,rfl,by simp [ht],fun t Fv=>?_,aq (aq sm (sm.free hp)) Rk,ae,?_⟩
   ·rcases Yz.mp Fv with z | z
    ·exact ok t z
    ·rw [YG.mp z]
     have q0:0 <= cell / 3 % most:=aaB _ (by omega)
     have q1:cell / 3 % most < most:=Z9 _ (by omega)
     exact ⟨by show 1 <= 1 + cell / 3 % most; omega,by show 1 + cell / 3 % most <= 1000000000; omega⟩
   ·rw [Yd]
    exact (bp ox (dv.mono (ah hp)) (aE ph ts)).snoc (dJ ox (HY ae) (ph _))
  ·rintro σ H' ⟨ts,vs,v5,v6,rfl,ht,ok,sm,jN,dv⟩
   exact ⟨_,rfl,k ts l H' (by omega) ok sm ⟨vs,jN,dv⟩⟩
structure lZ (H:Hp) (p:Addr) (m:Nat) (ts:List Th) (r:Int) (qs:List Qu):Prop where
 t:zU ts
 m:ts.length <= m
 r1:1 <= r
 r3:r <= 3
 q:∀ q ∈ qs,wt ts.length q
 ex:∃ a b,H p = some (.tup [.ref a,.int r,.ref b]) /\ LstAt vH H a ts /\ LstAt vF H b qs
theorem lZ.mono {H H':Hp} {p:Addr} {m:Nat} {ts:List Th} {r:Int} {qs:List Qu} (h:lZ H p m ts r qs) (e:ao H H'):lZ H' p m ts r qs :=
 let ⟨a,b,h1,h2,h3⟩:=h.ex
 ⟨h.t,h.m,h.r1,h.r3,h.q,a,b,e _ _ h1,h2.mono e,h3.mono e⟩
def xL (K:aaG):Sp:=fun vs H Q _=>∃ (a:Addr) (ns:List Int) (m:Nat),vs = [.ref a,.int m] /\ aZ K H a (ns.map V.int) /\ 1 <= m /\ m <= 6 /\
 ∀ (ts:List Th) (r:Int) (qs:List Qu) (p:Addr) (H':Hp),lZ H' p m ts r qs->qs.length <= 4->ao H H'->Q (.ref p) H'
theorem fP:av ["script","most","many","room"] ["script","most"] (aj dB):=fk
theorem DY {f f1 f2 f3 f4:Addr} {fd eC jH oI EM:FuncData} (F:Fn K mg "_law_night" dB f fd ["script","most"]) (T:Txt K mg C Z)
  (aJ:Fn K mg "_law_cell_at" b9 f1 eC ["script","k"]) (eZ:Fn K mg "_law_quarrel" cF f2 jH ["cell","many"])
  (jz:Fn K mg "_law_quarrels" cN f3 oI ["script","start","many"]) (lI:Fn K mg "_law_things" dP f4 EM ["script","start","many"]):au P w K mg base be 3 f fd ["script","most"] (xL K):=by
 have bx:au P w K mg base be 1 f1 eC ["script","k"] (jm K):=lQ aJ T
 have pM:au P w K mg base be 2 f3 oI ["script","start","many"] (oW K):=yu jz T aJ eZ
 have sT:au P w K mg base be 2 f4 EM ["script","start","many"] (uB K):=CF lI T aJ
 refine F.fn.ok fP (fun vs H Q E h=>?_) (fun ci A outer s H vs Q E hr h=>?_)
 ·obtain ⟨a,ns,m,rfl,_⟩:=h
  rfl
 ·obtain ⟨a,ns,m,rfl,hS,h1,h6,k⟩:=h
  have hm:(0:Int) < m:=by omega
  obtain ⟨tl,Vh,RE⟩:∃ t,v8 (bX P w K mg base ["script","most","many","room"] "_law_night" dB f ci A outer s H E) ((cD dB).drop 2) t /\ ∀ n:Nat,1 <= n->n <= m->t (bD Q) [some (.ref a),some (.int m),some (.int n),none] H:=by
   refine ⟨_,(ag (sn 3 fP.nd (aR ce (eT (aa ak (aa ak (aa ak (aa ak af))))) (bu fE (cl bx aJ hr ay (aa (pv 0) (aa ak af))) ak) (fun _ _=>rfl)))
   (ai (aA (cM (aa (cl sT lI hr ay (aa (pv 0) (aa ak (aa (pv 2) af)))) (aa (pv 3) (aa (cl pM jz hr ay (aa (pv 0) (aa ak (aa (pv 2) af)))) af))))))),fun n n1 nm=>?_⟩
   have d0:0 <= ns.getD 1 0 % 4:=aaB _ (by decide)
   have d4:ns.getD 1 0 % 4 < 4:=Z9 _ (by decide)
   obtain ⟨v,hv,Jx⟩:=zw (xs:=[V.int 2,V.int 3,V.int 2,V.int 1]) d0 (by show _ < ((4:Nat):Int); omega)
   obtain ⟨r,rfl,r1,r3⟩:∃ r:Int,v = V.int r /\ 1 <= r /\ r <= 3:=by
    rcases Yb.mp hv with rfl | hv
    ·exact ⟨2,rfl,by decide,by decide⟩
    rcases Yb.mp hv with rfl | hv
    ·exact ⟨3,rfl,by decide,by decide⟩
    rcases Yb.mp hv with rfl | hv
    ·exact ⟨2,rfl,by decide,by decide⟩
    rw [YG.mp hv]
    exact ⟨1,rfl,by decide,by decide⟩
   refine ⟨aH (by show 4 <= _; decide),fun l0 yz=>?_⟩
   have s0:ao H (L2.upd H l0 (.lst [V.int 2,V.int 3,V.int 2,V.int 1])):=ah yz
   refine ⟨_,rfl,a,ns,1,rfl,s0.seq hS,_,_,rfl,rfl,(by show (0:Int) < 4; decide),l0,_,_,_,rfl,rfl,aZ.of ae,Jx,?_⟩
   refine ⟨_,rfl,_,rfl,a,ns,2,n,rfl,s0.seq hS,by omega,fun ts pt H1 ht O4 s1 lt=>?_⟩
   refine ⟨_,rfl,_,rfl,_,rfl,a,ns,10,n,rfl,(s0.trans s1).seq hS,n1,by omega,fun qs pq H2 hq IY s2 lq=>?_⟩
   refine ⟨aH (by show 3 <= _; decide),fun p hp=>?_⟩
   exact k ts r qs p _ ⟨⟨by omega,by omega,O4⟩,by omega,r1,r3,by rw [ht]; exact IY,pt,pq,ae,(lt.mono s2).mono (ah hp),lq.mono (ah hp)⟩ hq ((s0.trans s1).trans (s2.trans (ah hp)))
  refine ⟨_,(ag (sn 2 fP.nd (bu js ak (bu fE (cl bx aJ hr ay (aa (pv 0) (aa ak af))) (pv 1))))
   (ag (bL (aD j0 (bu fE (bu nK (cl bx aJ hr ay (aa (pv 0) (aa ak af))) ak) ak) ak (aY _))
   (ai (sn 2 fP.nd (pv 1)))
   aM)
   Vh)),?_⟩
  refine ⟨_,rfl,a,ns,0,rfl,hS,_,rfl,_,_,rfl,rfl,hm,_,_,rfl,rfl,?_⟩
  have c0:0 <= ns.getD 0 0 % (m:Int):=aaB _ (by omega)
  have c1:ns.getD 0 0 % (m:Int) < m:=Z9 _ hm
  refine ⟨_,rfl,a,ns,0,rfl,hS,_,_,rfl,rfl,⟨by decide,by decide⟩,_,_,rfl,rfl,(by show (0:Int) < 2; decide),rfl,_,rfl,?_⟩
  refine Ge (fun h=>?_) (fun h=>?_)
  ·refine ⟨_,rfl,?_⟩
   exact RE m h1 (X7 _)
  ·have e:(1:Int) + ns.getD 0 0 % (m:Int) = (((1 + ns.getD 0 0 % (m:Int)).toNat:Nat):Int):=by omega
   have z:=RE (1 + ns.getD 0 0 % (m:Int)).toNat (by omega) (by omega)
   rw [<- e] at z
   exact z
end
section
variable {P:Program} {w:World} {K:aaG} {mg:Str->Option Value} {base:Heap} {C:Addr} {Z:Ad}
def jF:Sp:=fun vs H Q _=>∃ (a:Addr) (ts:List Th),vs = [.ref a] /\ LstAt vH H a ts /\ zU ts /\ Q .cP H
theorem gi:av ["things","pace","rows"] ["things"] (aj cG):=fk
theorem pP {f:Addr} {fd:FuncData} (F:Fn K mg "check_things" cG f fd ["things"]) (T:Txt K mg C Z):au P w K mg base be 1 f fd ["things"] jF:=by
 refine F.fn.ok gi (fun vs H Q E h=>?_) (fun ci A outer s H vs Q E hr h=>?_)
 ·obtain ⟨a,ts,rfl,_⟩:=h
  rfl
 ·obtain ⟨a,ts,rfl,⟨va,ha,dv⟩,ok,k⟩:=h
  refine ⟨_,(ag (bL (eK (mG jX jX ak (aV ba (by rfl) T.im YN (aa (pv 0) af)) (dU (v:=.int (6)) (by rfl) T.tw ⟨_,rfl⟩)))
   (ai dO)
   aM)
   (ai (fA YS rfl (bU (pv 0)) (jk rfl (aG (gn 1 gi.nd) (aG (gn 2 gi.nd) di)))
   (ai (bL (eK (mG jX jX ak (pv 1) (dU (v:=.int (1000000000)) (by rfl) T.rZ ⟨_,rfl⟩)))
   (ai dO)
   aM))))),?_⟩
  have hl:=aI dv
  have l1:=ok.l1
  have l6:=ok.l6
  refine ⟨_,rfl,a,_,rfl,.inl (aZ.of ha),_,_,rfl,rfl,_,rfl,?_⟩
  rw [Yi (show (1:Int) <= (va.length:Int) by omega)]
  refine yL ⟨_,_,rfl,rfl,_,rfl,?_⟩
  rw [Yi (show (va.length:Int) <= 6 by omega)]
  refine ic ?_
  refine ⟨_,rfl,a,rfl,⟨_,aZ.of ha⟩,eX (K:=K) (a:=a) (xs:=va) (fun i σ H'=>H' = H /\ ∃ v1 v2,σ = [some (.ref a),v1,v2]) ⟨rfl,_,_,rfl⟩ (fun i σ H' _ ⟨e,_⟩=>by rw [e]; exact aZ.of ha) ?_ ?_⟩
  ·rintro i x σ H' hi ⟨rfl,v1,v2,rfl⟩
   obtain ⟨t,ht,dt⟩:=bH dv hi
   obtain ⟨b,rfl,hb⟩:=u3 dt
   obtain ⟨p1,p2⟩:=ok.p t (YE ht)
   refine ⟨b,_,rfl,bK.of hb,rfl,_,_,rfl,_,_,rfl,rfl,?_⟩
   refine ⟨_,rfl,_,_,rfl,rfl,_,rfl,?_⟩
   rw [Yi (show (1:Int) <= t.1 from p1)]
   refine yL ⟨_,_,rfl,rfl,_,rfl,?_⟩
   rw [Yi (show t.1 <= (1000000000:Int) from p2)]
   exact ic ⟨rfl,_,_,rfl⟩
  ·rintro σ H' ⟨rfl,v1,v2,rfl⟩
   exact k
def lu:Sp:=fun vs H Q _=>∃ (r:Int),vs = [.int r] /\ 1 <= r /\ r <= 3 /\ Q .cP H
theorem tJ:av ["room"] ["room"] (aj dF):=fk
theorem tE {f:Addr} {fd:FuncData} (F:Fn K mg "check_room" dF f fd ["room"]) (T:Txt K mg C Z):au P w K mg base be 1 f fd ["room"] lu:=by
 refine F.fn.ok tJ (fun vs H Q E h=>?_) (fun ci A outer s H vs Q E hr h=>?_)
 ·obtain ⟨r,rfl,_⟩:=h
  rfl
 ·obtain ⟨r,rfl,r1,r3,k⟩:=h
  refine ⟨_,(ai (bL (eK (mG jX jX ak (pv 0) (dU (v:=.int (3)) (by rfl) T.xC ⟨_,rfl⟩)))
   (ai dO)
   aM)),?_⟩
  refine ⟨_,rfl,_,_,rfl,rfl,_,rfl,?_⟩
  rw [Yi (show (1:Int) <= r from r1)]
  refine yL ⟨_,_,rfl,rfl,_,rfl,?_⟩
  rw [Yi (show r <= (3:Int) from r3)]
  exact ic k
def ip:Sp:=fun vs H Q _=>∃ (n c:Int),vs = [.int n,.int c] /\ Q (.bl (decide (0 <= n /\ n < c))) H
theorem xy:av ["number","count"] ["number","count"] (aj cC):=fk
theorem ke {f:Addr} {fd:FuncData} (F:Fn K mg "is_thing" cC f fd ["number","count"]):au P w K mg base be 1 f fd ["number","count"] ip:=by
 refine F.fn.ok xy (fun vs H Q E h=>?_) (fun ci A outer s H vs Q E hr h=>?_)
 ·obtain ⟨n,c,rfl,_⟩:=h
  rfl
 ·obtain ⟨n,c,rfl,k⟩:=h
  refine ⟨_,(ai (aA (xb jX xJ ak (pv 0) (pv 1)))),?_⟩
  refine ⟨_,rfl,_,_,rfl,rfl,_,rfl,?_⟩
  refine Ge (fun h=>?_) (fun h=>?_)
  ·have h0:0 <= n:=YA h
   refine ⟨_,rfl,_,_,rfl,rfl,?_⟩
   have e:decide (n < c) = decide (0 <= n /\ n < c):=by rw [aad]; simp [h0]
   show Q (V.bl (decide (n < c))) H
   rw [e]
   exact k
  ·have h0:¬ 0 <= n:=fun z=>h (Yi z)
   have e:decide (0 <= n /\ n < c) = false:=Yw (fun z=>h0 z.1)
   rw [e] at k
   exact k
def sP:Sp:=fun vs H Q _=>∃ (a b c:Int),vs = [.int a,.int b,.int c] /\ Q (.bl (decide (0 <= a /\ a < c) && (decide (0 <= b /\ b < c) && !decide (V.int a = V.int b)))) H
theorem y8:av ["one","other","count"] ["one","other","count"] (aj fm):=fk
theorem zM {f f1:Addr} {fd eC:FuncData} (F:Fn K mg "is_pair" fm f fd ["one","other","count"]) (bd:Fn K mg "is_thing" cC f1 eC ["number","count"]):au P w K mg base be 2 f fd ["one","other","count"] sP:=by
 have fh:au P w K mg base be 1 f1 eC ["number","count"] ip:=ke bd
 refine F.fn.ok y8 (fun vs H Q E h=>?_) (fun ci A outer s H vs Q E hr h=>?_)
 ·obtain ⟨a,b,c,rfl,_⟩:=h
  rfl
 ·obtain ⟨a,b,c,rfl,k⟩:=h
  refine ⟨_,(ai (aA (ix (cl fh bd hr ay (aa (pv 0) (aa (pv 2) af))) (ix (cl fh bd hr ay (aa (pv 1) (aa (pv 2) af))) (mi (fN jB (pv 0) (pv 1) (aY _))))))),?_⟩
  refine ⟨_,rfl,_,rfl,_,_,rfl,_,rfl,?_⟩
  refine bv (fun h1=>?_) (fun h1=>?_)
  ·refine ⟨_,rfl,_,rfl,_,_,rfl,_,rfl,?_⟩
   refine bv (fun h2=>?_) (fun h2=>?_)
   ·refine ⟨_,rfl,_,rfl,rfl,?_⟩
    rw [h1,h2] at k
    exact k
   ·rw [h1,h2] at k
    exact k
  ·rw [h1] at k
   exact k
def nG:Sp:=fun vs H Q _=>∃ (kp a b c:Int),vs = [.int kp,.int a,.int b,.int c] /\ Q (.bl (decide (V.int kp = V.int (-1)) || (decide (0 <= kp /\ kp < c) && (!decide (V.int kp = V.int a) && !decide (V.int kp = V.int b))))) H
theorem vA:av ["keeper","one","other","count"] ["keeper","one","other","count"] (aj c9):=fk
theorem uM {f f1:Addr} {fd eC:FuncData} (F:Fn K mg "is_keeper" c9 f fd ["keeper","one","other","count"]) (T:Txt K mg C Z) (bd:Fn K mg "is_thing" cC f1 eC ["number","count"]):au P w K mg base be 2 f fd ["keeper","one","other","count"] nG:=by
 have fh:au P w K mg base be 1 f1 eC ["number","count"] ip:=ke bd
 refine F.fn.ok vA (fun vs H Q E h=>?_) (fun ci A outer s H vs Q E hr h=>?_)
 ·obtain ⟨kp,a,b,c,rfl,_⟩:=h
  rfl
 ·obtain ⟨kp,a,b,c,rfl,k⟩:=h
  refine ⟨_,(ag (bL (aD j0 (pv 0) (dU (v:=.int (-1)) (by rfl) T.j8 ⟨_,rfl⟩) (aY _))
   (ai (aA jy))
   aM)
   (ai (aA (ix (cl fh bd hr ay (aa (pv 0) (aa (pv 3) af))) (ix (fN jB (pv 0) (pv 1) (aY _)) (mi (fN jB (pv 0) (pv 2) (aY _)))))))),?_⟩
  refine ⟨_,rfl,rfl,_,rfl,?_⟩
  refine bv (fun h0=>?_) (fun h0=>?_)
  ·rw [h0] at k
   exact k
  ·rw [h0] at k
   refine ⟨_,rfl,_,rfl,_,_,rfl,_,rfl,?_⟩
   refine bv (fun h1=>?_) (fun h1=>?_)
   ·rw [h1] at k
    refine ⟨_,rfl,_,rfl,rfl,_,rfl,?_⟩
    refine bv (fun h2=>?_) (fun h2=>?_)
    ·rw [h2] at k
     refine ⟨_,rfl,_,rfl,rfl,?_⟩
     exact k
    ·rw [h2] at k
     exact k
   ·rw [h1] at k
    exact k
def ig:Sp:=fun vs H Q _=>∃ (a:Addr) (n:Nat) (qs:List Qu),vs = [.ref a,.int n] /\ LstAt vF H a qs /\ qs.length <= 30 /\ (∀ q ∈ qs,wt n q) /\ Q .cP H
theorem cT:av ["quarrels","count","one","other","keeper"] ["quarrels","count"] (aj b7):=fk
theorem mR {f f1 f2 f3:Addr} {fd eC jH oI:FuncData} (F:Fn K mg "check_quarrels" b7 f fd ["quarrels","count"]) (T:Txt K mg C Z) (bd:Fn K mg "is_thing" cC f1 eC ["number","count"])
  (gJ:Fn K mg "is_pair" fm f2 jH ["one","other","count"]) (ei:Fn K mg "is_keeper" c9 f3 oI ["keeper","one","other","count"]):au P w K mg base be 3 f fd ["quarrels","count"] ig:=by
 have Bs:au P w K mg base be 2 f2 jH ["one","other","count"] sP:=zM gJ bd
 have xV:au P w K mg base be 2 f3 oI ["keeper","one","other","count"] nG:=uM ei T bd
 refine F.fn.ok cT (fun vs H Q E h=>?_) (fun ci A outer s H vs Q E hr h=>?_)
 ·obtain ⟨a,n,qs,rfl,_⟩:=h
  rfl
 ·obtain ⟨a,n,qs,rfl,⟨va,ha,dv⟩,Wh,ok,k⟩:=h
  refine ⟨_,(ag (bL (aD D3 (aV ba (by rfl) T.im YN (aa (pv 0) af)) (dU (v:=.int (30)) (by rfl) T.pN ⟨_,rfl⟩) (aY _))
   (ai dO)
   aM)
   (ai (fA YS rfl (bU (pv 0)) (jk rfl (aG (gn 2 cT.nd) (aG (gn 3 cT.nd) (aG (gn 4 cT.nd) di))))
   (ag (bL (eK (eS (cl Bs gJ hr ay (aa (pv 2) (aa (pv 3) (aa (pv 1) af))))))
   (ai dO)
   aM)
   (ai (bL (eK (eS (cl xV ei hr ay (aa (pv 4) (aa (pv 2) (aa (pv 3) (aa (pv 1) af)))))))
   (ai dO)
   aM)))))),?_⟩
  have hl:=aI dv
  refine ⟨_,rfl,a,_,rfl,.inl (aZ.of ha),_,_,rfl,rfl,_,rfl,?_⟩
  rw [Yw (show ¬ (30:Int) < (va.length:Int) by omega)]
  refine ic ?_
  refine ⟨_,rfl,a,rfl,⟨_,aZ.of ha⟩,eX (K:=K) (a:=a) (xs:=va) (fun i σ H'=>H' = H /\ ∃ v1 v2 v3,σ = [some (.ref a),some (.int n),v1,v2,v3]) ⟨rfl,_,_,_,rfl⟩ (fun i σ H' _ ⟨e,_⟩=>by rw [e]; exact aZ.of ha) ?_ ?_⟩
  ·rintro i x σ H' hi ⟨rfl,v1,v2,v3,rfl⟩
   obtain ⟨q,hq,dq⟩:=bH dv hi
   obtain ⟨b,rfl,hb⟩:=sx dq
   have o:=ok q (YE hq)
   refine ⟨b,_,rfl,bK.of hb,rfl,_,_,rfl,_,_,rfl,_,_,rfl,rfl,?_⟩
   refine ⟨_,rfl,_,rfl,_,rfl,_,_,_,rfl,_,rfl,?_⟩
   have e1:decide (0 <= q.1 /\ q.1 < (n:Int)) = true:=Yi ⟨o.a0,o.a1⟩
   have e2:decide (0 <= q.2.1 /\ q.2.1 < (n:Int)) = true:=Yi ⟨o.b0,o.b1⟩
   have e3:decide (V.int q.1 = V.int q.2.1) = false:=Yw fun z=>o.ab (by injection z)
   rw [e1,e2,e3]
   refine ic ?_
   refine ⟨_,rfl,_,rfl,_,rfl,_,rfl,_,_,_,_,rfl,_,rfl,?_⟩
   have e4:(decide (V.int q.2.2 = V.int (-1)) || (decide (0 <= q.2.2 /\ q.2.2 < (n:Int)) && (!decide (V.int q.2.2 = V.int q.1) && !decide (V.int q.2.2 = V.int q.2.1)))) = true:=by
    rcases o.k with z | ⟨z1,z2,z3,z4⟩
    ·rw [Yi (show V.int q.2.2 = V.int (-1) by rw [z])]
     rfl
    ·rw [Yi (show 0 <= q.2.2 /\ q.2.2 < (n:Int) from ⟨z1,z2⟩),Yw (show ¬ V.int q.2.2 = V.int q.1 from fun z=>z3 (by injection z)),Yw (show ¬ V.int q.2.2 = V.int q.2.1 from fun z=>z4 (by injection z))]
     simp
   rw [e4]
   exact ic ⟨rfl,_,_,_,rfl⟩
  ·rintro σ H' ⟨rfl,v1,v2,v3,rfl⟩
   exact k
def uV (C:Addr):Sp:=fun vs H Q _=>∃ (p dx a b:Addr) (ts:List Th) (r:Int) (qs:List Qu),vs = [.ref p,.ref a,.int r,.ref b] /\ H p = some (.ins C dx []) /\ LstAt vH H a ts /\ zU ts /\ 1 <= r /\ r <= 3 /\ LstAt vF H b qs /\ qs.length <= 30 /\ (∀ q ∈ qs,wt ts.length q) /\
 ∀ H',aX C H' p ts r qs->(∀ b o,H b = some o->b ≠ p->H' b = some o)->Q .cP H'
theorem nP:av ["self","things","room","quarrels"] ["self","things","room","quarrels"] (aj cI):=fk
theorem AE {f f1 f2 f3 f4 f5 f6:Addr} {fd eC jH oI EM HM LH:FuncData} (F:Mt K "__init__" "Night.__init__" cI f fd ["self","things","room","quarrels"]) (T:Txt K mg C Z) (bd:Fn K mg "is_thing" cC f1 eC ["number","count"])
  (gJ:Fn K mg "is_pair" fm f2 jH ["one","other","count"]) (ei:Fn K mg "is_keeper" c9 f3 oI ["keeper","one","other","count"])
  (fb:Fn K mg "check_things" cG f4 EM ["things"]) (gy:Fn K mg "check_room" dF f5 HM ["room"]) (dj:Fn K mg "check_quarrels" b7 f6 LH ["quarrels","count"]) :
  au P w K mg base be 4 f fd ["self","things","room","quarrels"] (uV C):=by
 have qz:au P w K mg base be 1 f4 EM ["things"] jF:=pP fb T
 have we:au P w K mg base be 1 f5 HM ["room"] lu:=tE gy T
 have ou:au P w K mg base be 3 f6 LH ["quarrels","count"] ig:=mR dj T bd gJ ei
 refine F.fn.ok nP (fun vs H Q E h=>?_) (fun ci A outer s H vs Q E hr h=>?_)
 ·obtain ⟨p,dx,a,b,ts,r,qs,rfl,_⟩:=h
  rfl
 ·obtain ⟨p,dx,a,b,ts,r,qs,rfl,hp,lt,O4,r1,r3,lq,hq,IY,k⟩:=h
  refine ⟨_,(ag (cp (cl qz fb hr ay (aa (pv 1) af)))
   (ag (cp (cl we gy hr ay (aa (pv 2) af)))
   (ag (cp (cl ou dj hr ay (aa (pv 3) (aa (aV ba (by rfl) T.im YN (aa (pv 1) af)) af))))
   (ag (zK (pv 0) (aO cO (by rfl) T.ik ZR (aa (pv 1) af)) rfl)
   (ag (zK (pv 0) (pv 2) rfl)
   (ai (zK (pv 0) (aO cO (by rfl) T.ik ZR (aa (pv 3) af)) rfl))))))),?_⟩
  obtain ⟨va,ha,RU⟩:=id lt
  obtain ⟨vb,hb,S4⟩:=id lq
  have hl:=aI RU
  refine ⟨_,rfl,a,ts,rfl,lt,O4,?_⟩
  refine ⟨_,rfl,r,rfl,r1,r3,?_⟩
  refine ⟨_,rfl,_,rfl,a,_,rfl,.inl (aZ.of ha),b,va.length,qs,rfl,lq,hq,by rw [hl]; exact IY,?_⟩
  refine ⟨_,rfl,a,_,rfl,.inl ⟨aZ.of ha,fun t ht=>?_⟩⟩
  have R6:p ≠ t:=ax hp ht
  have V5:b ≠ t:=ax hb ht
  refine ⟨_,rfl,p,C,dx,[],rfl,(by rw [am R6]; exact hp),T.aN,T.rp,(by show 0 < 1000; decide),?_⟩
  refine ⟨_,rfl,_,rfl,p,C,dx,_,rfl,ae,T.aN,T.CT,(by show 1 < 1000; decide),?_⟩
  have RA:b ≠ p:=fe hb hp (by intro z; cases z)
  have NY:∀ o o',(L2.upd (L2.upd (L2.upd H t (.tup va)) p o) p o') b = some (.lst vb):=fun o o'=>by rw [am RA,am RA,am V5]; exact hb
  refine ⟨_,rfl,b,_,rfl,.inl ⟨aZ.of (NY _ _),fun q oy=>?_⟩⟩
  have Rj:p ≠ q:=ax (H:=L2.upd (L2.upd (L2.upd H t (.tup va)) p _) p _) ae oy
  refine ⟨_,rfl,p,C,dx,_,rfl,(by rw [am Rj]; exact ae),T.aN,T.lO,(by show 2 < 1000; decide),?_⟩
  have old:∀ b o,H b = some o->b ≠ p->(L2.upd (L2.upd (L2.upd (L2.upd (L2.upd H t (.tup va)) p (.ins C dx (dY "kept_things" (.ref t) []))) p (.ins C dx (dY "kept_room" (.int r) (dY "kept_things" (.ref t) [])))) q (.tup vb)) p (.ins C dx (k9 t r q))) b = some o:=fun c o hc Mj=>by
   have Te:c ≠ t:=ax hc ht
   have h1:(L2.upd (L2.upd (L2.upd H t (.tup va)) p (.ins C dx (dY "kept_things" (.ref t) []))) p (.ins C dx (dY "kept_room" (.int r) (dY "kept_things" (.ref t) [])))) c = some o:=by rw [am Mj,am Mj,am Te]; exact hc
   have Vq:c ≠ q:=ax h1 oy
   rw [am Mj,am Vq]
   exact h1
  have QI:t ≠ p:=fun e=>R6 e.symm
  have Q8:(L2.upd (L2.upd (L2.upd H t (.tup va)) p (.ins C dx (dY "kept_things" (.ref t) []))) p (.ins C dx (dY "kept_room" (.int r) (dY "kept_things" (.ref t) [])))) t = some (.tup va):=by rw [am QI,am QI]; exact ae
  have Jp:t ≠ q:=ax Q8 oy
  have sm:∀ {α:Type} {f:α->PyData} {l:List α} {vs:List V},(∀ x,fZ (f x) = true)->bW H (l.map f) vs->bW (L2.upd (L2.upd (L2.upd (L2.upd (L2.upd H t (.tup va)) p (.ins C dx (dY "kept_things" (.ref t) []))) p (.ins C dx (dY "kept_room" (.int r) (dY "kept_things" (.ref t) [])))) q (.tup vb)) p (.ins C dx (k9 t r q))) (l.map f) vs:=fun {α f l vs} hf h=>ql (fun b ws hb=>old b _ hb (by
    intro z
    rw [z,hp] at hb
    cases hb)) h (aE hf l)
  refine k _ ⟨dx,t,q,ae,⟨va,?_,sm ph RU⟩,⟨vb,?_,sm m5 S4⟩⟩ old
  ·rw [am QI,am Jp]; exact Q8
  ·rw [am (fun e=>Rj e.symm)]; exact ae
def dX (C:Addr):Sp:=fun vs H Q _=>∃ (p:Addr) (ts:List Th) (r:Int) (qs:List Qu),vs = [.ref p] /\ aX C H p ts r qs /\ ∀ l vs,H l = none->bW H (ts.map vH) vs->Q (.ref l) (L2.upd H l (.lst vs))
theorem pW:av ["self"] ["self"] (aj bA):=fk
theorem fD {f:Addr} {fd:FuncData} (F:Mt K "things" "Night.things" bA f fd ["self"]) (T:Txt K mg C Z):au P w K mg base be 1 f fd ["self"] (dX C):=by
 refine F.fn.ok pW (fun vs H Q E h=>?_) (fun ci A outer s H vs Q E hr h=>?_)
 ·obtain ⟨p,ts,r,qs,rfl,_⟩:=h
  rfl
 ·obtain ⟨p,ts,r,qs,rfl,N,k⟩:=h
  obtain ⟨dx,t,q,hp,⟨vt,ht,dt⟩,_⟩:=N.ex
  refine ⟨_,(ai (aA (aO gA (by rfl) T.u5 boot_list (aa (qV (pv 0) rfl) af)))),?_⟩
  exact ⟨_,rfl,p,C,dx,_,_,rfl,hp,T.aN,T.rp,Da _ _ _,t,_,rfl,.inr (bK.of ht),fun l hl=>k l vt hl dt⟩
def jc (C:Addr):Sp:=fun vs H Q _=>∃ (p:Addr) (ts:List Th) (r:Int) (qs:List Qu),vs = [.ref p] /\ aX C H p ts r qs /\ ∀ l vs,H l = none->bW H (qs.map vF) vs->Q (.ref l) (L2.upd H l (.lst vs))
theorem nz:av ["self"] ["self"] (aj cH):=fk
theorem mH {f:Addr} {fd:FuncData} (F:Mt K "quarrels" "Night.quarrels" cH f fd ["self"]) (T:Txt K mg C Z):au P w K mg base be 1 f fd ["self"] (jc C):=by
 refine F.fn.ok nz (fun vs H Q E h=>?_) (fun ci A outer s H vs Q E hr h=>?_)
 ·obtain ⟨p,ts,r,qs,rfl,_⟩:=h
  rfl
 ·obtain ⟨p,ts,r,qs,rfl,N,k⟩:=h
  obtain ⟨dx,t,q,hp,_,⟨vq,hq,dq⟩⟩:=N.ex
  refine ⟨_,(ai (aA (aO gA (by rfl) T.u5 boot_list (aa (qV (pv 0) rfl) af)))),?_⟩
  exact ⟨_,rfl,p,C,dx,_,_,rfl,hp,T.aN,T.lO,E4 _ _ _,q,_,rfl,.inr (bK.of hq),fun l hl=>k l vq hl dq⟩
def nF (C:Addr):Sp:=fun vs H Q _=>∃ (p:Addr) (ts:List Th) (r:Int) (qs:List Qu),vs = [.ref p] /\ aX C H p ts r qs /\ Q (.int r) H
theorem sZ:av ["self"] ["self"] (aj eJ):=fk
theorem rE {f:Addr} {fd:FuncData} (F:Mt K "room" "Night.room" eJ f fd ["self"]) (T:Txt K mg C Z):au P w K mg base be 1 f fd ["self"] (nF C):=by
 refine F.fn.ok sZ (fun vs H Q E h=>?_) (fun ci A outer s H vs Q E hr h=>?_)
 ·obtain ⟨p,ts,r,qs,rfl,_⟩:=h
  rfl
 ·obtain ⟨p,ts,r,qs,rfl,N,k⟩:=h
  obtain ⟨dx,t,q,hp,_,_⟩:=N.ex
  refine ⟨_,(ai (aA (qV (pv 0) rfl))),?_⟩
  exact ⟨_,rfl,p,C,dx,_,_,rfl,hp,T.aN,T.CT,Kb _ _ _,k⟩
def IH (n:Nat):PyData:=.tuple [kO (a6 n),.int 0]
def mw (C:Addr):Sp:=fun vs H Q _=>∃ (p:Addr) (ts:List Th) (r:Int) (qs:List Qu),vs = [.ref p] /\ aX C H p ts r qs /\ ts.length <= 6 /\ ∀ l H',ao H H'->DV H' (IH ts.length) (.ref l)->Q (.ref l) H'
theorem p6:av ["self"] ["self"] (aj cW):=fk
theorem sK {f:Addr} {fd:FuncData} (F:Mt K "begins" "Night.begins" cW f fd ["self"]) (T:Txt K mg C Z):au P w K mg base be 1 f fd ["self"] (mw C):=by
 refine F.fn.ok p6 (fun vs H Q E h=>?_) (fun ci A outer s H vs Q E hr h=>?_)
 ·obtain ⟨p,ts,r,qs,rfl,_⟩:=h
  rfl
 ·obtain ⟨p,ts,r,qs,rfl,N,h6,k⟩:=h
  obtain ⟨dx,t,q,hp,⟨vt,ht,dt⟩,_⟩:=N.ex
  have hl:=aI dt
  refine ⟨_,(ai (aA (cM (aa (aO (iI rfl) (by rfl) T.ik ZR (aa (aO oY (by rfl) T.jw boot_range (aa (aV ba (by rfl) T.im YN (aa (qV (pv 0) rfl) af)) af)) af)) (aa ak af))))),?_⟩
  refine ⟨_,rfl,p,C,dx,_,_,rfl,hp,T.aN,T.rp,Da _ _ _,t,_,rfl,.inr (bK.of ht),_,rfl,fun l jN=>?_⟩
  refine ⟨l,ts.length,rfl,by rw [hl]; exact ae,by omega,fun g hg=>?_⟩
  refine ⟨aH (by show 2 <= _; decide),fun o ho=>?_⟩
  have sg:ao H (L2.upd (L2.upd H l (.CJ 0 (vt.length:Nat))) g (.tup ((a6 ts.length).map V.int))):=aq (ah jN) ((ah jN).free hg)
  refine k o _ (aq sg (sg.free ho)) (.tup ae (.cons (m4 ?_) (.cons (.int 0) .nil)))
  rw [am (ax (H:=L2.upd (L2.upd H l (.CJ 0 (vt.length:Nat))) g (.tup ((a6 ts.length).map V.int))) ae ho)]
  exact ae
def O8:PyData:=.tuple [.tuple [],.int 1]
def sv:Sp:=fun vs H Q _=>∃ (p:Addr),vs = [.ref p] /\ ∀ l H',ao H H'->DV H' O8 (.ref l)->Q (.ref l) H'
theorem sV:av ["self"] ["self"] (aj gx):=fk
theorem yf {f:Addr} {fd:FuncData} (F:Mt K "ends" "Night.ends" gx f fd ["self"]):au P w K mg base be 1 f fd ["self"] sv:=by
 refine F.fn.ok sV (fun vs H Q E h=>?_) (fun ci A outer s H vs Q E hr h=>?_)
 ·obtain ⟨p,rfl,_⟩:=h
  rfl
 ·obtain ⟨p,rfl,k⟩:=h
  refine ⟨_,(ai (aA (cM (aa (cM af) (aa ak af))))),?_⟩
  refine ⟨YD _,fun g hg=>⟨aH (by show 2 <= _; decide),fun o ho=>?_⟩⟩
  have sg:ao H (L2.upd H g (.tup [])):=ah hg
  refine k o _ (aq sg (sg.free ho)) (.tup ae (.cons (.tup ?_ .nil) (.cons (.int 1) .nil)))
  rw [am (ax (H:=L2.upd H g (.tup [])) ae ho)]
  exact ae
end
theorem bQ (t:Addr) (r:Int) (q:Addr):(k9 t r q).lookup ("things":Str) = none:=nV _ _ _ (by decide +kernel) (by decide +kernel) (by decide +kernel)
theorem mf (t:Addr) (r:Int) (q:Addr):(k9 t r q).lookup ("room":Str) = none:=nV _ _ _ (by decide +kernel) (by decide +kernel) (by decide +kernel)
theorem kP (t:Addr) (r:Int) (q:Addr):(k9 t r q).lookup ("peace":Str) = none:=nV _ _ _ (by decide +kernel) (by decide +kernel) (by decide +kernel)
def dI (H:Hp) (a:Addr) (st:bh):Prop:=∃ b,H a = some (.tup [.ref b,.int st.2]) /\ H b = some (.tup (st.1.map V.int))
theorem dI.mono {H H':Hp} {a:Addr} {st:bh} (h:dI H a st) (e:ao H H'):dI H' a st:=let ⟨b,h1,h2⟩:=h; ⟨b,e _ _ h1,e _ _ h2⟩
theorem dI.dv {H:Hp} {a:Addr} {st:bh} (h:dI H a st):DV H (hV st) (.ref a):=let ⟨_,h1,h2⟩:=h; .tup h1 (.cons (m4 h2) (.cons (.int _) .nil))
section
variable {P:Program} {w:World} {K:aaG} {mg:Str->Option Value} {base:Heap} {C:Addr} {Z:Ad}
def yb:Sp:=fun vs H Q _=>∃ (a:Addr) (g:List Int),vs = [.ref a] /\ H a = some (.tup (g.map V.int)) /\ g.length <= 1000 /\ ∀ H',ao H H'->Q (.bl (pd g)) H'
theorem Fh:av ["group"] ["group"] (aj nJ):=fk
theorem Ed {f:Addr} {fd:FuncData} (F:Fn K mg "rises" nJ f fd ["group"]) (T:Txt K mg C Z):au P w K mg base be 1 f fd ["group"] yb:=by
 refine F.fn.ok Fh (fun vs H Q E h=>?_) (fun ci A outer s H vs Q E hr h=>?_)
 ·obtain ⟨a,g,rfl,_⟩:=h
  rfl
 ·obtain ⟨a,g,rfl,ha,hl,k⟩:=h
  refine ⟨_,(ai (aA (aV (qF rfl) (by rfl) T.DJ boot_all (aa (bS rfl (N':=["one","other"]) (cap:=[none,none]) ⟨rfl,by with_unfolding_all rfl⟩ (Jv (by rfl) T.LN boot_zip (aa (pv 0) (aa (qT GN (pv 0) (vO ak) vZ) af))) (fun _=>(tupK (K:=K) (n:=2) rfl rfl (aG (gn 0 (show (["one","other"]:List Str).Nodup by decide +kernel)) (aG (gn 1 (show (["one","other"]:List Str).Nodup by decide +kernel)) di)))) (fun _=>cu) (fun _=>(fN xJ (pv 0) (pv 1) (aY _)))) af)))),?_⟩
  refine ⟨_,rfl,_,rfl,1,rfl,?_⟩
  by_cases hg:g = []
  ·subst hg
   refine .inr ⟨a,_,rfl,bK.of ha,⟨rfl,rfl⟩,a,a,_,_,rfl,ha,ha,fun D hD=>?_⟩
   refine yh (n:=0) (fun i xs H'=>ao H H' /\ H' D = some (.lst xs) /\ xs = [] /\ H' a = some (.tup [])) ⟨ah hD,ae,rfl,(ah hD) _ _ ha⟩ rfl (fun i xs H' _ ⟨_,h,_,h2⟩=>⟨h,h2,h2⟩) ?_ ?_
   ·rintro i x y xs H' p hx
    simp at hx
   ·rintro xs H' ⟨sm,gu,rfl,_⟩
    exact ⟨D,[],rfl,aZ.of gu,k H' sm⟩
  ·have h1:1 <= g.length:=aat.mpr hg
   have e1:HT.dN (g.map V.int).length 0 (some ((1:Nat):Int)) = 1:=by rw [HT.AJ,X6]; omega
   refine .inl ⟨a,_,rfl,bK.of ha,(fun z=>by have z1:=z.1; rw [show (1:Int) = ((1:Nat):Int) from rfl,e1] at z1; cases z1),fun p hp=>?_⟩
   have ec:oi (g.map V.int) (some 1) none = (g.drop 1).map V.int:=by
    unfold oi
    rw [show (1:Int) = ((1:Nat):Int) from rfl,e1]
    show List.take ((g.map V.int).length - 1) _ = _
    rw [<- List.map_drop,Yj (by simp)]
   rw [ec]
   have s1:ao H (L2.upd H p (.tup ((g.drop 1).map V.int))):=ah hp
   refine ⟨a,p,_,_,rfl,s1 _ _ ha,ae,fun D hD=>?_⟩
   have WF:=s1.free hD
   refine yh (as:=g.map V.int) (bs:=(g.drop 1).map V.int) (n:=g.length - 1) (fun i xs H'=>ao (L2.upd H p (.tup ((g.drop 1).map V.int))) H' /\ H' D = some (.lst xs) /\ xs = ((g.zip (g.drop 1)).take i).map fun q=>V.bl (decide (q.1 < q.2)))
    ⟨ah hD,ae,by simp⟩ (by simp) (fun i xs H' _ ⟨sm,h,_⟩=>⟨h,sm _ _ (s1 _ _ ha),sm _ _ ae⟩) ?_ ?_
   ·rintro i x y xs H' q hx hy hq ⟨sm,gu,rfl⟩
    rw [Yl,YU] at hx hy
    obtain ⟨x',sS,rfl⟩:=hx
    obtain ⟨y',gL,rfl⟩:=hy
    refine ⟨q,_,rfl,bK.of ae,rfl,_,_,rfl,_,_,rfl,rfl,(cm.set rfl).trans (cm.set rfl),?_⟩
    have sq:ao H' (L2.upd H' q (.tup [V.int x',V.int y'])):=ah hq
    have Tx:=sq _ _ gu
    refine ⟨_,rfl,_,rfl,_,_,rfl,rfl,Tx,aU (by rw [X6,Yt]; simp; omega),aq (sm.trans sq) hD,ae,?_⟩
    have ez:(g.zip (g.drop 1))[i]? = some (x',y'):=by rw [List.getElem?_zip_eq_some]; exact ⟨sS,gL⟩
    rw [Yv,ez]
    simp
   ·rintro xs H' ⟨sm,gu,rfl⟩
    refine ⟨D,(g.zip (g.drop 1)).map (fun q:Int × Int=>decide (q.1 < q.2)),rfl,aZ.of ?_,k H' (s1.trans sm)⟩
    rw [gu,YQ,Yj (by simp)]
    rfl
def iF (C:Addr):Sp:=fun vs H Q _=>∃ (p b:Addr) (ts:List Th) (r:Int) (qs:List Qu) (g:List Int),vs = [.ref p,.ref b] /\ aX C H p ts r qs /\ ts.length <= 6 /\ H b = some (.tup (g.map V.int)) /\
 ∀ l H',ao H H'->H' l = some (.tup ((restOf ts.length g).map V.int))->Q (.ref l) H'
theorem tG:av ["night","group"] ["night","group"] (aj eI):=fk
theorem ll {f f1:Addr} {fd eC:FuncData} (F:Fn K mg "other_bank" eI f fd ["night","group"]) (T:Txt K mg C Z) (aP:Meth K C "things" f1) (aF:Mt K "things" "Night.things" bA f1 eC ["self"]) :
  au P w K mg base be 2 f fd ["night","group"] (iF C):=by
 have a9:au P w K mg base be 1 f1 eC ["self"] (dX C):=fD aF T
 refine F.fn.ok tG (fun vs H Q E h=>?_) (fun ci A outer s H vs Q E hr h=>?_)
 ·obtain ⟨p,b,ts,r,qs,g,rfl,_⟩:=h
  rfl
 ·obtain ⟨p,b,ts,r,qs,g,rfl,N,h6,hb,k⟩:=h
  obtain ⟨dx,t,q,hp,_,_⟩:=id N.ex
  refine ⟨_,(ai (aA (aO cO (by rfl) T.ik ZR (aa (bS rfl (N':=["thing","group"]) (cap:=[none,some 1]) ⟨rfl,by with_unfolding_all rfl⟩ (iU (by rfl) T.jw (aa (aV ba (by rfl) T.im YN (aa (bP (pv 0) T.aN aP a9 (hr.mono (by decide)) aF.b .nil ay) af)) af)) (fun _=>(gn 0 (show (["thing","group"]:List Str).Nodup by decide +kernel))) (fun _=>(fY (aD (z0 (K:=K) rfl) (pv 0) (pv 1) (by with_unfolding_all rfl)))) (fun _=>(pv 0))) af)))),?_⟩
  refine ⟨_,rfl,p,dx,_,rfl,hp,bQ _ _ _,p,ts,r,qs,rfl,N,fun l vs hl dv=>?_⟩
  have s1:ao H (L2.upd H l (.lst vs)):=ah hl
  have lv:=aI dv
  refine ⟨l,_,rfl,.inl (aZ.of ae),_,rfl,by omega,by omega,fun D hD=>?_⟩
  have WF:=s1.free hD
  rw [Za,lv]
  refine jx (n:=ts.length) (fun i xs H'=>ao (L2.upd H l (.lst vs)) H' /\ H' D = some (.lst xs) /\ xs = ((a6 i).filter fun t=>!g.contains t).map V.int)
   ⟨ah hD,ae,rfl⟩ (fun i xs H' _ ⟨_,h,_⟩=>h) ?_ ?_
  ·rintro i xs H' hi ⟨sm,gu,rfl⟩
   have e1:((0:Int) + (i:Int)) = (i:Int):=by omega
   refine ⟨cm.set rfl,?_⟩
   refine ⟨_,rfl,_,rfl,b,_,rfl,.inr (bK.of (sm _ _ (s1 _ _ hb))),rfl,dC g,_,rfl,?_⟩
   rw [c6,e1]
   have sl:((a6 i).filter fun t=>!g.contains t).length <= i:=Yh (Yy _ _) (by rw [bE]; exact X7 _)
   refine bv (fun h1=>?_) (fun h1=>?_)
   ·refine ⟨_,rfl,gu,aU (by rw [X6]; omega),aq sm hD,ae,?_⟩
    rw [gK,YC,Yd]
    have cV:(!g.contains (i:Int)) = true:=h1
    have ef:[(i:Int)].filter (fun t=>!g.contains t) = [(i:Int)]:=by rw [YJ,if_pos cV]; rfl
    rw [ef]
    rfl
   ·refine ⟨sm,gu,?_⟩
    have cV:(!g.contains (i:Int)) = false:=h1
    have ef:[(i:Int)].filter (fun t=>!g.contains t) = []:=by rw [YJ,if_neg (by rw [cV]; simp)]; rfl
    rw [gK,YC,Yd,ef]
    simp
  ·rintro xs H' ⟨sm,gu,rfl⟩
   have sH:=s1.trans sm
   exact ⟨D,_,rfl,.inl ⟨aZ.of gu,fun o ho=>k o _ (aq sH (sH.free ho)) ae⟩⟩
def jv (C:Addr):Sp:=fun vs H Q _=>∃ (p a:Addr) (ts:List Th) (r:Int) (qs:List Qu) (st:bh),vs = [.ref p,.ref a] /\ aX C H p ts r qs /\ ts.length <= 6 /\ dI H a st /\ ∀ H',ao H H'->Q (.bl (br qs ts.length st.1)) H'
theorem zS:av ["night","standing"] ["night","standing"] (aj kH):=fk
theorem l8 {f f1 f2 f3:Addr} {fd eC jH oI:FuncData} (F:Fn K mg "is_good" kH f fd ["night","standing"]) (T:Txt K mg C Z) (aP:Meth K C "things" f1) (aF:Mt K "things" "Night.things" bA f1 eC ["self"])
  (lH:Meth K C "peace" f2) (iD:Mt K "peace" "Night.peace" dQ f2 jH ["self","group"]) (gG:Fn K mg "other_bank" eI f3 oI ["night","group"]):au P w K mg base be 3 f fd ["night","standing"] (jv C):=by
 have lh:au P w K mg base be 1 f2 jH ["self","group"] (uF C):=Cn iD T
 have iZ:au P w K mg base be 2 f3 oI ["night","group"] (iF C):=ll gG T aP aF
 refine F.fn.ok zS (fun vs H Q E h=>?_) (fun ci A outer s H vs Q E hr h=>?_)
 ·obtain ⟨p,a,ts,r,qs,st,rfl,_⟩:=h
  rfl
 ·obtain ⟨p,a,ts,r,qs,st,rfl,N,h6,⟨b,ha,hb⟩,k⟩:=h
  obtain ⟨dx,t,q,hp,_,_⟩:=id N.ex
  refine ⟨_,(ai (aA (ix (Bh (pv 0) T.aN lH lh (hr.mono (by decide)) iD.b .nil ay (aa (aR bz (pv 1) ak (fun _ _=>rfl)) af)) (mi (Bh (pv 0) T.aN lH lh (hr.mono (by decide)) iD.b .nil ay (aa (cl iZ gG hr ay (aa (pv 0) (aa (aR bz (pv 1) ak (fun _ _=>rfl)) af))) af)))))),?_⟩
  refine ⟨_,rfl,p,dx,_,rfl,hp,kP _ _ _,_,rfl,a,_,_,_,rfl,rfl,bK.of ha,wT,p,b,ts,r,qs,st.1,rfl,N,hb,_,rfl,?_⟩
  refine bv (fun h1=>?_) (fun h1=>?_)
  ·refine ⟨_,rfl,p,dx,_,rfl,hp,kP _ _ _,_,rfl,_,rfl,a,_,_,_,rfl,rfl,bK.of ha,wT,p,b,ts,r,qs,st.1,rfl,N,h6,hb,fun l H' sm hl=>?_⟩
   refine ⟨p,l,ts,r,qs,_,rfl,N.mono sm,hl,?_⟩
   have k':=k H' sm
   unfold br at k'
   rw [h1,aax] at k'
   exact k'
  ·have k':=k H (ao.refl H)
   unfold br at k'
   rw [h1,YO] at k'
   exact k'
theorem La (i:Int):xa (.int i) [V.int 0,V.int 1] = (decide (i = 0) || decide (i = 1)):=by
 show ((0 == i) || ((1 == i) || false)) = _
 rw [Bool.or_false,Bool.beq_eq_decide_eq,Bool.beq_eq_decide_eq]
 congr 1
 ·exact decide_eq_decide.mpr ⟨fun h=>h.symm,fun h=>h.symm⟩
 ·exact decide_eq_decide.mpr ⟨fun h=>h.symm,fun h=>h.symm⟩
def kh (C:Addr):Sp:=fun vs H Q _=>∃ (p a:Addr) (ts:List Th) (r:Int) (qs:List Qu) (st:bh),vs = [.ref p,.ref a] /\ aX C H p ts r qs /\ ts.length <= 6 /\ dI H a st /\ st.1.length <= 1000 /\ ∀ H',ao H H'->Q (.bl (cU ts.length st)) H'
theorem g9:av ["night","standing","group","count"] ["night","standing"] (aj fK):=fk
theorem rH {f f1 f2 f3:Addr} {fd eC jH oI:FuncData} (F:Fn K mg "is_standing" fK f fd ["night","standing"]) (T:Txt K mg C Z) (aP:Meth K C "things" f1) (aF:Mt K "things" "Night.things" bA f1 eC ["self"])
  (AA:Fn K mg "rises" nJ f2 jH ["group"]) (bd:Fn K mg "is_thing" cC f3 oI ["number","count"]):au P w K mg base be 2 f fd ["night","standing"] (kh C):=by
 have a9:au P w K mg base be 1 f1 eC ["self"] (dX C):=fD aF T
 have FP:au P w K mg base be 1 f2 jH ["group"] yb:=Ed AA T
 have fh:au P w K mg base be 1 f3 oI ["number","count"] ip:=ke bd
 refine F.fn.ok g9 (fun vs H Q E h=>?_) (fun ci A outer s H vs Q E hr h=>?_)
 ·obtain ⟨p,a,ts,r,qs,st,rfl,_⟩:=h
  rfl
 ·obtain ⟨p,a,ts,r,qs,st,rfl,N,h6,⟨b,ha,hb⟩,hl,k⟩:=h
  obtain ⟨dx,t,q,hp,_,_⟩:=id N.ex
  refine ⟨_,(ag (sn 2 g9.nd (aR bz (pv 1) ak (fun _ _=>rfl)))
   (ag (sn 3 g9.nd (aV ba (by rfl) T.im YN (aa (bP (pv 0) T.aN aP a9 (hr.mono (by decide)) aF.b .nil ay) af)))
   (ai (aA (ix (fN iS (aR bz (pv 1) ak (fun _ _=>rfl)) (dU (v:=.ref Z.sE) (by rfl) T.A4 rfl) (by with_unfolding_all rfl)) (ix (cl FP AA hr ay (aa (pv 2) af)) (mi (aV (qF rfl) (by rfl) T.DJ boot_all (aa (bS rfl (N':=["thing","count"]) (cap:=[none,some 3]) ⟨rfl,by with_unfolding_all rfl⟩ (lY (pv 2)) (fun _=>(gn 0 (show (["thing","count"]:List Str).Nodup by decide +kernel))) (fun _=>cu) (fun _=>(cl fh bd hr ay (aa (pv 0) (aa (pv 1) af))))) af))))))))),?_⟩
  refine ⟨_,rfl,a,_,_,_,rfl,rfl,bK.of ha,wT,?_⟩
  refine ⟨_,rfl,p,dx,_,rfl,hp,bQ _ _ _,p,ts,r,qs,rfl,N,fun l vs jN dv=>?_⟩
  have s1:ao H (L2.upd H l (.lst vs)):=ah jN
  have lv:=aI dv
  refine ⟨l,_,rfl,.inl (aZ.of ae),?_⟩
  rw [lv]
  refine ⟨_,rfl,a,_,_,_,rfl,rfl,bK.of (s1 _ _ ha),u6,Z.sE,_,rfl,.inr (T.uT _),rfl,rfl,_,rfl,?_⟩
  refine bv (fun h1=>?_) (fun h1=>?_)
  ·have cV:(decide (st.2 = 0) || decide (st.2 = 1)) = true:=by rw [<- La]; exact h1
   refine ⟨_,rfl,b,st.1,rfl,s1 _ _ hb,hl,fun H2 s2=>⟨_,rfl,?_⟩⟩
   refine bv (fun h2=>?_) (fun h2=>?_)
   ·refine ⟨_,rfl,b,rfl,⟨_,bK.of (s2 _ _ (s1 _ _ hb))⟩,fun D hD=>?_⟩
    refine ko (K:=K) (a:=b) (ys:=st.1.map V.int) (fun i xs H'=>ao H2 H' /\ H' D = some (.lst xs) /\ xs = (st.1.take i).map fun t=>V.bl (MZ ts.length t))
     ⟨ah hD,ae,rfl⟩ (fun i xs H' _ ⟨sm,h,_⟩=>⟨h,bK.of (sm _ _ (s2 _ _ (s1 _ _ hb)))⟩) ?_ ?_
    ·rintro i x xs H' hi ⟨sm,gu,rfl⟩
     rw [Yl,YU] at hi
     obtain ⟨x',sS,rfl⟩:=hi
     refine ⟨cm.set rfl,?_⟩
     refine ⟨_,rfl,_,rfl,_,_,rfl,gu,aU (by rw [X6,Yt]; omega),aq sm hD,ae,?_⟩
     rw [Yv,sS]
     simp [MZ]
    ·rintro xs H' ⟨sm,gu,rfl⟩
     refine ⟨D,st.1.map (MZ ts.length),rfl,aZ.of ?_,?_⟩
     ·rw [gu,X6,Zr,YQ]
      rfl
     ·have k':=k H' (s1.trans (s2.trans sm))
      unfold cU at k'
      rw [cV,h2,aax,aax] at k'
      rw [List.all_map]
      exact k'
   ·have k':=k H2 (s1.trans s2)
    unfold cU at k'
    rw [h2,YO,Zz] at k'
    exact k'
  ·have cV:(decide (st.2 = 0) || decide (st.2 = 1)) = false:=by rw [<- La]; exact h1
   have k':=k _ s1
   unfold cU at k'
   rw [cV,YO] at k'
   exact k'
def ie (C:Addr) (Z:Ad):Sp:=fun vs H Q E=>∃ (p a:Addr) (ts:List Th) (r:Int) (qs:List Qu) (st:bh),vs = [.ref p,.ref a] /\ aX C H p ts r qs /\ ts.length <= 6 /\ dI H a st /\ st.1.length <= 1000 /\
 (cU ts.length st = true->∀ H',ao H H'->Q .cP H') /\ (cU ts.length st = false->∀ H',ao H H'->E (.ref Z.eg) none H')
structure Lk (K:aaG) (mg:Str->Option Value) (C:Addr) (fs:Nat->Addr) (ds:Nat->FuncData):Prop where
 bQ:Meth K C "things" (fs 1)
 things:Mt K "things" "Night.things" bA (fs 1) (ds 1) ["self"]
 mf:Meth K C "room" (fs 2)
 room:Mt K "room" "Night.room" eJ (fs 2) (ds 2) ["self"]
 kP:Meth K C "peace" (fs 3)
 jG:Mt K "peace" "Night.peace" dQ (fs 3) (ds 3) ["self","group"]
 qD:Fn K mg "is_thing" cC (fs 4) (ds 4) ["number","count"]
 pd:Fn K mg "rises" nJ (fs 5) (ds 5) ["group"]
 pi:Fn K mg "is_standing" fK (fs 6) (ds 6) ["night","standing"]
 gY:Fn K mg "other_bank" eI (fs 7) (ds 7) ["night","group"]
 kQ:Fn K mg "is_good" kH (fs 8) (ds 8) ["night","standing"]
 kg:Fn K mg "check_standing" fz (fs 9) (ds 9) ["night","standing"]
 jT:Fn K mg "check_start" iw (fs 10) (ds 10) ["night","standing"]
 kN:Fn K mg "groups_of" io (fs 11) (ds 11) ["bank"]
 nW:Fn K mg "bank_of_boat" gT (fs 12) (ds 12) ["night","standing"]
 tN:Fn K mg "is_manned" ku (fs 13) (ds 13) ["night","crew"]
 qq:Fn K mg "crossed" kx (fs 14) (ds 14) ["standing","crew"]
 C0:Fn K mg "crews" wk (fs 15) (ds 15) ["night","standing"]
variable {fs:Nat->Addr} {ds:Nat->FuncData}
theorem mY:av ["night","standing"] ["night","standing"] (aj fz):=fk
theorem nS (L:Lk K mg C fs ds) (T:Txt K mg C Z):au P w K mg base (yO P w) 3 (fs 9) (ds 9) ["night","standing"] (ie C Z):=by
 have sQ:=L.pi
 have tm:au P w K mg base be 2 (fs 6) (ds 6) ["night","standing"] (kh C):=rH L.pi T L.bQ L.things L.pd L.qD
 refine L.kg.fn.NW mY (fun vs H Q E h=>?_) (fun ci A outer s H vs Q E hr h=>?_)
 ·obtain ⟨p,a,ts,r,qs,st,rfl,_⟩:=h
  rfl
 ·obtain ⟨p,a,ts,r,qs,st,rfl,N,h6,kC,hl,k1,k2⟩:=h
  refine ⟨_,(ai (bL (eK (eS (cl tm sQ hr ay (aa (pv 0) (aa (pv 1) af)))))
   (ai (xP wU rfl (by rfl) T.uS T.uL PySem.F.excBase_ValueError (aa aS af)))
   aM)),?_⟩
  refine ⟨_,rfl,_,rfl,p,a,ts,r,qs,st,rfl,N,h6,kC,hl,fun H' sm=>⟨_,rfl,?_⟩⟩
  refine bv (fun h1=>?_) (fun h1=>?_)
  ·exact ⟨aH (by show 1 <= _; decide),k2 (by simpa using h1) H' sm⟩
  ·exact k1 (by simpa using h1) H' sm
def gM (C:Addr) (Z:Ad):Sp:=fun vs H Q E=>∃ (p a:Addr) (ts:List Th) (r:Int) (qs:List Qu) (st:bh),vs = [.ref p,.ref a] /\ aX C H p ts r qs /\ ts.length <= 6 /\ dI H a st /\ st.1.length <= 1000 /\
 (cU ts.length st = true->br qs ts.length st.1 = true->∀ H',ao H H'->Q .cP H') /\ (cU ts.length st = false->∀ H',ao H H'->E (.ref Z.eg) none H') /\
 (cU ts.length st = true->br qs ts.length st.1 = false->∀ H',ao H H'->E (.ref Z.iW) none H')
theorem rA:av ["night","standing"] ["night","standing"] (aj iw):=fk
theorem kj (L:Lk K mg C fs ds) (T:Txt K mg C Z):au P w K mg base (yO P w) 4 (fs 10) (ds 10) ["night","standing"] (gM C Z):=by
 have oT:=L.kg
 have iJ:=L.kQ
 have n5:au P w K mg base (yO P w) 3 (fs 9) (ds 9) ["night","standing"] (ie C Z):=nS L T
 have iR:au P w K mg base be 3 (fs 8) (ds 8) ["night","standing"] (jv C):=l8 L.kQ T L.bQ L.things L.kP L.jG L.gY
 refine L.jT.fn.NW rA (fun vs H Q E h=>?_) (fun ci A outer s H vs Q E hr h=>?_)
 ·obtain ⟨p,a,ts,r,qs,st,rfl,_⟩:=h
  rfl
 ·obtain ⟨p,a,ts,r,qs,st,rfl,N,h6,kC,hl,k1,k2,k3⟩:=h
  refine ⟨_,(ag (cp (cl n5 oT hr lP (aa (pv 0) (aa (pv 1) af))))
   (ai (bL (eK (eS (cl iR iJ hr ay (aa (pv 0) (aa (pv 1) af)))))
   (ai (xP wU rfl (by rfl) T.yN T.yD PySem.F.excBase_ValueError (aa aS af)))
   aM))),?_⟩
  refine ⟨_,rfl,_,rfl,p,a,ts,r,qs,st,rfl,N,h6,kC,hl,fun hS H1 s1=>?_,k2⟩
  refine ⟨_,rfl,_,rfl,p,a,ts,r,qs,st,rfl,N.mono s1,h6,kC.mono s1,fun H2 s2=>⟨_,rfl,?_⟩⟩
  refine bv (fun h1=>?_) (fun h1=>?_)
  ·exact ⟨aH (by show 1 <= _; decide),k3 hS (by simpa using h1) H2 (s1.trans s2)⟩
  ·exact k1 hS (by simpa using h1) H2 (s1.trans s2)
def ju:Sp:=fun vs H Q _=>∃ (b:Addr) (kY:List Int),vs = [.ref b] /\ H b = some (.tup (kY.map V.int)) /\ kY.length <= 6 /\ ∀ l H',ao H H'->LstAt kO H' l (jJ kY)->Q (.ref l) H'
theorem gw:av ["bank","groups","thing"] ["bank"] (aj io):=fk
theorem nL {f:Addr} {fd:FuncData} (F:Fn K mg "groups_of" io f fd ["bank"]):au P w K mg base be 1 f fd ["bank"] ju:=by
 refine F.fn.ok gw (fun vs H Q E h=>?_) (fun ci A outer s H vs Q E hr h=>?_)
 ·obtain ⟨b,kY,rfl,_⟩:=h
  rfl
 ·obtain ⟨b,kY,rfl,hb,h6,k⟩:=h
  refine ⟨_,(ag (sn 1 gw.nd (eT (aa (cM af) af)))
   (ag (fA YS rfl (lY (pv 0)) (gn 2 gw.nd)
   (ai (sn 1 gw.nd (bu IG (pv 1) (bS rfl (N':=["group","thing"]) (cap:=[none,some 2]) ⟨rfl,by with_unfolding_all rfl⟩ (bU (pv 1)) (fun _=>(gn 0 (show (["group","thing"]:List Str).Nodup by decide +kernel))) (fun _=>cu) (fun _=>(bu (MB (K:=K) rfl) (pv 0) (cM (aa (pv 1) af)))))))))
   (ai (aA (pv 1))))),?_⟩
  refine ⟨aH (by show 0 <= _; decide),fun e he=>?_⟩
  have s1:ao H (L2.upd H e (.tup [])):=ah he
  refine ⟨aH (by show 1 <= _; decide),fun l0 yz=>?_⟩
  have s2:ao (L2.upd H e (.tup [])) (L2.upd (L2.upd H e (.tup [])) l0 (.lst [.ref e])):=ah yz
  refine ⟨_,rfl,b,rfl,⟨_,bK.of (s2 _ _ (s1 _ _ hb))⟩,Ay (K:=K) (a:=b) (xs:=kY.map V.int) (fun i σ H'=>ao H H' /\ ∃ l v,σ = [some (.ref b),some (.ref l),v] /\ LstAt kO H' l (jJ (kY.take i)))
   ⟨s1.trans s2,l0,_,rfl,[.ref e],ae,.cons (.tup (s2 _ _ ae) .nil) .nil⟩ (fun i σ H' _ ⟨sm,_⟩=>bK.of (sm _ _ hb)) ?_ ?_⟩
  ·rintro i x σ H1 hi ⟨sm,l,v,rfl,vs,hl,dv⟩
   rw [Yl,YU] at hi
   obtain ⟨t,ht,rfl⟩:=hi
   have ib:i < kY.length:=(Ys.mp ht).1
   have lg:(jJ (kY.take i)).length <= 64:=by
    rw [kD,Yt]
    exact Yh (ZJ (by decide) (show min i kY.length <= 6 by omega)) (by decide)
   have lv:=aI dv
   refine ⟨_,rfl,_,rfl,l,rfl,⟨_,aZ.of hl⟩,fun D hD=>?_⟩
   refine cR (K:=K) (a:=l) (ys:=vs) (fun j xs H'=>ao H1 H' /\ H' D = some (.lst xs) /\ xs.length = j /\ bW H' (((jJ (kY.take i)).take j).map (fun g=>kO (g ++ [t]))) xs)
    ⟨ah hD,ae,rfl,.nil⟩ (fun j xs H' _ ⟨s3,h,_⟩=>⟨h,aZ.of (s3 _ _ hl)⟩) ?_ ?_
   ·rintro j y xs H2 hj ⟨s3,rJ,lx,dx⟩
    obtain ⟨g,hg,dg⟩:=bH dv hj
    obtain ⟨c,rfl,hc⟩:=mj dg
    have Eb:=s3 _ _ hc
    have IB:=(Ys.mp hj).1
    have gl:g.length <= 6:=by
     have:=(iX (YE hg)).length_le
     rw [Yt] at this
     omega
    refine ⟨cm.set rfl,?_⟩
    refine ⟨_,rfl,_,rfl,aH (by show 1 <= _; decide),fun o ho=>?_⟩
    have s4:ao H2 (L2.upd H2 o (.tup [.int t])):=ah ho
    have fin:∀ (H3:Hp) (y:V),ao H2 H3->DV H3 (kO (g ++ [t])) y->H3 D = some (.lst xs) /\ xs.length < sizeLine /\ (ao H1 (L2.upd H3 D (.lst (xs ++ [y]))) /\ (L2.upd H3 D (.lst (xs ++ [y]))) D = some (.lst (xs ++ [y])) /\ (xs ++ [y]).length = j + 1 /\
      bW (L2.upd H3 D (.lst (xs ++ [y]))) (((jJ (kY.take i)).take (j + 1)).map (fun g=>kO (g ++ [t]))) (xs ++ [y])):=by
     intro H3 y s5 dy
     have Fu:=s5 _ _ rJ
     refine ⟨Fu,aU (by omega),aq (s3.trans s5) hD,ae,by simp [lx],?_⟩
     rw [Yv,hg,Yd]
     exact (bp Fu (dx.mono s5) (aE (fun g=>j6 _) _)).snoc (dJ Fu dy (j6 _))
    refine ⟨c,o,_,_,rfl,rfl,bK.of (s4 _ _ Eb),bK.of ae,aH (by simp; omega),fun z=>?_,(fun _ z=>by cases z),fun z _ o2 qv=>?_⟩
    ·have gz:g = []:=by simpa using z
     refine fin _ _ s4 (m4 ?_)
     rw [gz]; exact ae
    ·refine fin _ _ (s4.trans (ah qv)) (m4 ?_)
     rw [Yd]; exact ae
   ·rintro xs H2 ⟨s3,rJ,lx,dx⟩
    rw [Yj (by omega)] at dx
    refine ⟨l,D,vs,xs,rfl,rfl,s3 _ _ hl,rJ,aH (by omega),fun l2 ox=>?_⟩
    have s4:ao H2 (L2.upd H2 l2 (.lst (vs ++ xs))):=ah ox
    refine ⟨sm.trans (s3.trans s4),l2,_,rfl,vs ++ xs,ae,?_⟩
    have eb:kY.take (i + 1) = kY.take i ++ [t]:=by rw [Yv,ht]; rfl
    rw [eb,gV,Yd,YQ]
    exact (dv.mono (s3.trans s4)).append (dx.mono s4)
  ·rintro σ H1 ⟨sm,l,v,rfl,hL⟩
   rw [X6,Zr] at hL
   exact ⟨_,rfl,k l H1 sm hL⟩
def Ae (C:Addr):Sp:=fun vs H Q _=>∃ (p a:Addr) (ts:List Th) (r:Int) (qs:List Qu) (st:bh),vs = [.ref p,.ref a] /\ aX C H p ts r qs /\ ts.length <= 6 /\ dI H a st /\ ∀ l H',ao H H'->H' l = some (.tup ((bN ts.length st).map V.int))->Q (.ref l) H'
theorem pH:av ["night","standing"] ["night","standing"] (aj gT):=fk
theorem FG (L:Lk K mg C fs ds) (T:Txt K mg C Z):au P w K mg base be 3 (fs 12) (ds 12) ["night","standing"] (Ae C):=by
 have gG:=L.gY
 have iZ:au P w K mg base be 2 (fs 7) (ds 7) ["night","group"] (iF C):=ll L.gY T L.bQ L.things
 refine L.nW.fn.ok pH (fun vs H Q E h=>?_) (fun ci A outer s H vs Q E hr h=>?_)
 ·obtain ⟨p,a,ts,r,qs,st,rfl,_⟩:=h
  rfl
 ·obtain ⟨p,a,ts,r,qs,st,rfl,N,h6,⟨b,ha,hb⟩,k⟩:=h
  refine ⟨_,(ag (bL (aD j0 (aR bz (pv 1) ak (fun _ _=>rfl)) ak (aY _))
   (ai (aA (aR bz (pv 1) ak (fun _ _=>rfl))))
   aM)
   (ai (aA (cl iZ gG hr ay (aa (pv 0) (aa (aR bz (pv 1) ak (fun _ _=>rfl)) af)))))),?_⟩
  refine ⟨_,rfl,a,_,_,_,rfl,rfl,bK.of ha,u6,rfl,_,rfl,?_⟩
  refine bv (fun h1=>?_) (fun h1=>?_)
  ·have e:st.2 = 0:=by have:=YA h1; injection this
   refine ⟨_,rfl,a,_,_,_,rfl,rfl,bK.of ha,wT,k b H (ao.refl H) ?_⟩
   unfold bN
   rw [if_pos e]; exact hb
  ·have e:¬ st.2 = 0:=fun z=>by rw [z] at h1; exact absurd h1 (by simp)
   refine ⟨_,rfl,_,rfl,a,_,_,_,rfl,rfl,bK.of ha,wT,p,b,ts,r,qs,st.1,rfl,N,h6,hb,fun l H' sm hl=>k l H' sm ?_⟩
   unfold bN
   rw [if_neg e]; exact hl
def uI (C:Addr):Sp:=fun vs H Q _=>∃ (p b:Addr) (ts:List Th) (r:Int) (qs:List Qu) (c:List Int),vs = [.ref p,.ref b] /\ aX C H p ts r qs /\ ts.length <= 6 /\ H b = some (.tup (c.map V.int)) /\ c.length <= 1000 /\ (∀ t ∈ c,0 <= t /\ t < (ts.length:Int)) /\
 ∀ H',ao H H'->Q (.bl (eW ts r c)) H'
theorem Iv {H:Hp} {ts:List Th} {vs:List V} {t:Int} (dv:bW H (ts.map vH) vs) (h0:0 <= t) (h1:t < (ts.length:Int)):∃ b,BZ vs t = some (.ref b) /\ H b = some (.tup [.int (l7 ts t),.bl (vv ts t)]):=by
 have hj:t.toNat < ts.length:=by omega
 have e:ts[t.toNat]? = some (ts.getD t.toNat (0,false)):=by simp [hj]
 obtain ⟨v,hv,d⟩:=dv.get (i:=t.toNat) (d:=vH (ts.getD t.toNat (0,false))) (by rw [Yl,e]; rfl)
 obtain ⟨b,rfl,hb⟩:=u3 d
 refine ⟨b,?_,hb⟩
 have q:=fQ hv
 rwa [show ((t.toNat:Nat):Int) = t by omega] at q
theorem mS:av ["night","crew","things"] ["night","crew"] (aj ku):=fk
theorem BI (L:Lk K mg C fs ds) (T:Txt K mg C Z):au P w K mg base be 2 (fs 13) (ds 13) ["night","crew"] (uI C):=by
 have aF:=L.things
 have dD:=L.room
 have aP:=L.bQ
 have eL:=L.mf
 have a9:au P w K mg base be 1 (fs 1) (ds 1) ["self"] (dX C):=fD L.things T
 have eG:au P w K mg base be 1 (fs 2) (ds 2) ["self"] (nF C):=rE L.room T
 refine L.tN.fn.ok mS (fun vs H Q E h=>?_) (fun ci A outer s H vs Q E hr h=>?_)
 ·obtain ⟨p,b,ts,r,qs,c,rfl,_⟩:=h
  rfl
 ·obtain ⟨p,b,ts,r,qs,c,rfl,N,h6,hb,hc,wL,k⟩:=h
  obtain ⟨dx,t,q,hp,_,_⟩:=id N.ex
  refine ⟨_,(ag (sn 2 mS.nd (bP (pv 0) T.aN aP a9 (hr.mono (by decide)) aF.b .nil ay))
   (ai (aA (ix (xb jX jX ak (aV ba (by rfl) T.im YN (aa (pv 1) af)) (bP (pv 0) T.aN eL eG (hr.mono (by decide)) dD.b .nil ay)) (mi (aV (DB rfl) (by rfl) T.MQ boot_any (aa (bS rfl (N':=["thing","things"]) (cap:=[none,some 2]) ⟨rfl,by with_unfolding_all rfl⟩ (lY (pv 1)) (fun _=>(gn 0 (show (["thing","things"]:List Str).Nodup by decide +kernel))) (fun _=>cu) (fun _=>(aR (Md (K:=K) rfl) (aR (Lf (K:=K) rfl) (pv 1) (pv 0) (fun _ _=>rfl)) ak (fun _ _=>rfl)))) af))))))),?_⟩
  refine ⟨_,rfl,p,dx,_,rfl,hp,bQ _ _ _,p,ts,r,qs,rfl,N,fun l vs hl dv=>?_⟩
  have s1:ao H (L2.upd H l (.lst vs)):=ah hl
  have Ls:=dv.mono s1
  have N1:=N.mono s1
  have C8:=s1 _ _ hb
  have y7:(L2.upd H l (.lst vs)) l = some (.lst vs):=ae
  have HX:=s1 _ _ hp
  generalize L2.upd H l (.lst vs) = H1 at s1 Ls N1 C8 y7 HX ⊢
  refine ⟨_,rfl,b,_,rfl,.inr (bK.of C8),_,_,rfl,rfl,_,rfl,?_⟩
  rw [X6]
  refine bv (fun h1=>?_) (fun h1=>?_)
  ·refine ⟨_,rfl,p,dx,_,rfl,HX,mf _ _ _,p,ts,r,qs,rfl,N1,_,_,rfl,rfl,_,rfl,?_⟩
   refine bv (fun h2=>?_) (fun h2=>?_)
   ·have hm:decide (1 <= (c.length:Int) /\ (c.length:Int) <= r) = true:=Yi ⟨YA h1,YA h2⟩
    refine ⟨_,rfl,b,rfl,⟨_,bK.of C8⟩,fun D hD=>?_⟩
    refine ko (K:=K) (a:=b) (ys:=c.map V.int) (fun i xs H'=>ao H1 H' /\ H' D = some (.lst xs) /\ xs = (c.take i).map fun t=>V.bl (vv ts t))
     ⟨ah hD,ae,rfl⟩ (fun i xs H' _ ⟨sm,h,_⟩=>⟨h,bK.of (sm _ _ C8)⟩) ?_ ?_
    ·rintro i x xs H' hi ⟨sm,gu,rfl⟩
     rw [Yl,YU] at hi
     obtain ⟨x',sS,rfl⟩:=hi
     obtain ⟨x0,x1⟩:=wL x' (YE sS)
     obtain ⟨o,yi,qv⟩:=Iv Ls x0 x1
     refine ⟨cm.set rfl,?_⟩
     refine ⟨_,rfl,_,rfl,l,_,_,_,rfl,rfl,aZ.of (sm _ _ y7),yi,o,_,_,_,rfl,rfl,bK.of (sm _ _ qv),u6,gu,aU (by rw [X6,Yt]; omega),aq sm hD,ae,?_⟩
     rw [Yv,sS]
     simp
    ·rintro xs H' ⟨sm,gu,rfl⟩
     refine ⟨D,c.map (vv ts),rfl,aZ.of ?_,?_⟩
     ·rw [gu,X6,Zr,YQ]
      rfl
     ·have k':=k H' (s1.trans sm)
      unfold eW at k'
      rw [hm,aax] at k'
      rw [List.any_map]
      exact k'
   ·have hm:decide (1 <= (c.length:Int) /\ (c.length:Int) <= r) = false:=Yw fun z=>by rw [Yi z.2] at h2; cases h2
    have k':=k _ s1
    unfold eW at k'
    rw [hm,YO] at k'
    exact k'
  ·have hm:decide (1 <= (c.length:Int) /\ (c.length:Int) <= r) = false:=Yw fun z=>by rw [Yi z.1] at h1; cases h1
   have k':=k _ s1
   unfold eW at k'
   rw [hm,YO] at k'
   exact ⟨_,rfl,ic k'⟩
end
theorem merged {n:Nat} {g c ns:List Int} (hg:g.Pairwise (· < ·)) (Tz:∀ t ∈ g,0 <= t /\ t < (n:Int)) (hc:c.Pairwise (· < ·)) (Oe:∀ t ∈ c,(0 <= t /\ t < (n:Int)) /\ t ∉ g) (hp:ns.Perm (g ++ c)) (hs:ns.Pairwise (· <= ·)) :
  ns = (a6 n).filter fun t=>g.contains t || c.contains t:=by
 have nd:(g ++ c).Nodup:=by
  rw [List.nodup_append]
  refine ⟨hg.imp (fun h=>Int.ne_of_lt h),hc.imp (fun h=>Int.ne_of_lt h),fun a ha b hb e=>?_⟩
  exact (Oe b hb).2 (by rw [<- e]; exact ha)
 have Dp:ns.Nodup:=hp.nodup_iff.mpr nd
 have pw:ns.Pairwise (· < ·):=by
  have:=hs.and Dp
  exact this.imp fun h=>by have h1:=h.1; have h2:=h.2; omega
 refine mr pw (fq _ (fO n)) fun x=>?_
 rw [hp.mem_iff,Yz,YK,Bool.or_eq_true,contains_iff,contains_iff,c8]
 constructor
 ·rintro (h | h)
  ·exact ⟨Tz x h,.inl h⟩
  ·exact ⟨(Oe x h).1,.inr h⟩
 ·rintro ⟨_,h⟩
  exact h
section
variable {P:Program} {w:World} {K:aaG} {mg:Str->Option Value} {base:Heap} {C:Addr} {Z:Ad} {fs:Nat->Addr} {ds:Nat->FuncData}
def mq:Sp:=fun vs H Q _=>∃ (a b:Addr) (st:bh) (c:List Int) (n:Nat),vs = [.ref a,.ref b] /\ dI H a st /\ H b = some (.tup (c.map V.int)) /\ cU n st = true /\ n <= 6 /\ c.Sublist (bN n st) /\
 ∀ l H',ao H H'->dI H' l (behind n st c)->Q (.ref l) H'
theorem yG:av ["standing","crew"] ["standing","crew"] (aj kx):=fk
theorem sh {f:Addr} {fd:FuncData} (F:Fn K mg "crossed" kx f fd ["standing","crew"]) (T:Txt K mg C Z):au P w K mg base be 1 f fd ["standing","crew"] mq:=by
 refine F.fn.ok yG (fun vs H Q E h=>?_) (fun ci A outer s H vs Q E hr h=>?_)
 ·obtain ⟨a,b,st,c,n,rfl,_⟩:=h
  rfl
 ·obtain ⟨a,b,st,c,n,rfl,⟨g0,ha,KO⟩,hb,hS,h6,BR,k⟩:=h
  obtain ⟨Sj,wL,Xy⟩:=iT hS
  have lg:st.1.length <= 6:=by
   have e:=gU Sj wL
   have:((a6 n).filter fun t=>st.1.contains t).length <= n:=Yh (Yy _ _) (by rw [bE]; exact X7 _)
   rw [e] at this
   omega
  have lc:c.length <= 6:=Yh BR.length_le (Yh (gP hS) h6)
  refine ⟨_,(ag (bL (aD j0 (aR bz (pv 0) ak (fun _ _=>rfl)) ak (aY _))
   (ai (aA (cM (aa (aO cO (by rfl) T.ik ZR (aa (bS rfl (N':=["thing","crew"]) (cap:=[none,some 1]) ⟨rfl,by with_unfolding_all rfl⟩ (lY (aR bz (pv 0) ak (fun _ _=>rfl))) (fun _=>(gn 0 (show (["thing","crew"]:List Str).Nodup by decide +kernel))) (fun _=>(fY (aD (z0 (K:=K) rfl) (pv 0) (pv 1) (by with_unfolding_all rfl)))) (fun _=>(pv 0))) af)) (aa ak af)))))
   aM)
   (ai (aA (cM (aa (aO cO (by rfl) T.ik ZR (aa (aV vz (by rfl) T.mP boot_sorted (aa (bu AD (aR bz (pv 0) ak (fun _ _=>rfl)) (pv 1)) af)) af)) (aa ak af)))))),?_⟩
  refine ⟨_,rfl,a,_,_,_,rfl,rfl,bK.of ha,u6,rfl,_,rfl,?_⟩
  refine bv (fun h1=>?_) (fun h1=>?_)
  ·have e:st.2 = 0:=by have:=YA h1; injection this
   refine ⟨_,rfl,a,_,_,_,rfl,rfl,bK.of ha,wT,g0,rfl,⟨_,bK.of KO⟩,fun D hD=>?_⟩
   refine ko (K:=K) (a:=g0) (ys:=st.1.map V.int) (fun i xs H'=>ao H H' /\ H' D = some (.lst xs) /\ xs = ((st.1.take i).filter fun t=>!c.contains t).map V.int)
    ⟨ah hD,ae,rfl⟩ (fun i xs H' _ ⟨sm,h,_⟩=>⟨h,bK.of (sm _ _ KO)⟩) ?_ ?_
   ·rintro i x xs H' hi ⟨sm,gu,rfl⟩
    rw [Yl,YU] at hi
    obtain ⟨t,ht,rfl⟩:=hi
    have sl:((st.1.take i).filter fun t=>!c.contains t).length <= 6:=Yh (Yy _ _) (by rw [Yt]; omega)
    refine ⟨cm.set rfl,?_⟩
    refine ⟨_,rfl,_,rfl,b,_,rfl,.inr (bK.of (sm _ _ hb)),rfl,dC c,_,rfl,?_⟩
    rw [c6]
    have et:st.1.take (i + 1) = st.1.take i ++ [t]:=by rw [Yv,ht]; rfl
    refine bv (fun h2=>?_) (fun h2=>?_)
    ·have iL:(!c.contains t) = true:=h2
     refine ⟨_,rfl,gu,aU (by rw [X6]; omega),aq sm hD,ae,?_⟩
     have ef:[t].filter (fun t=>!c.contains t) = [t]:=by rw [YJ,if_pos iL]; rfl
     rw [et,YC,Yd,ef]
     rfl
    ·have iL:(!c.contains t) = false:=h2
     refine ⟨sm,gu,?_⟩
     have ef:[t].filter (fun t=>!c.contains t) = []:=by rw [YJ,if_neg (by rw [iL]; simp)]; rfl
     rw [et,YC,Yd,ef]
     simp
   ·rintro xs H' ⟨sm,gu,rfl⟩
    rw [X6,Zr] at gu
    refine ⟨D,_,rfl,.inl ⟨aZ.of gu,fun o ho=>?_⟩⟩
    have s2:ao H' (L2.upd H' o (.tup ((st.1.filter fun t=>!c.contains t).map V.int))):=ah ho
    refine ⟨aH (by show 2 <= _; decide),fun o2 qv=>?_⟩
    have s3:=ah (o:=.tup [.ref o,.int 1]) qv
    refine k o2 _ (sm.trans (s2.trans s3)) ?_
    unfold behind
    rw [if_pos e]
    exact ⟨o,ae,s3 _ _ ae⟩
  ·have e:¬ st.2 = 0:=fun z=>by rw [z] at h1; exact absurd h1 (by simp)
   have TY:bN n st = restOf n st.1:=by unfold bN; rw [if_neg e]
   rw [TY] at BR
   have Oe:∀ t ∈ c,(0 <= t /\ t < (n:Int)) /\ t ∉ st.1:=fun t ht=>by
    obtain ⟨z1,z2⟩:=YK.mp (BR.subset ht)
    refine ⟨c8.mp z1,fun z=>?_⟩
    rw [contains_iff.mpr z] at z2
    cases z2
   have Mj:c.Pairwise (· < ·):=List.Pairwise.sublist BR (fq _ (fO n))
   have tail:∀ (x:Addr) (H1:Hp),ao H H1->H1 x = some (.tup ((st.1 ++ c).map V.int))->∃ (p:Addr) (ns:List Int),[V.ref x] = [V.ref p] /\ bK K H1 p (ns.map V.int) /\ ns.length < 64 /\ ∀ (l:Addr) (uQ:List Int),H1 l = none->uQ.Perm ns->uQ.Pairwise (· <= ·) ->
     ∃ (p':Addr) (ys:List V),[V.ref l] = [V.ref p'] /\ ((aZ K (L2.upd H1 l (.lst (uQ.map V.int))) p' ys /\ ∀ l2:Addr,(L2.upd H1 l (.lst (uQ.map V.int))) l2 = none->[V.ref l2,V.int 0].length <= sizeLine /\ ∀ o:Addr,(L2.upd (L2.upd H1 l (.lst (uQ.map V.int))) l2 (.tup ys)) o = none ->
      Q (.ref o) (L2.upd (L2.upd (L2.upd H1 l (.lst (uQ.map V.int))) l2 (.tup ys)) o (.tup [.ref l2,.int 0]))) \/ (bK K (L2.upd H1 l (.lst (uQ.map V.int))) p' ys /\ [V.ref p',V.int 0].length <= sizeLine /\ ∀ o:Addr,(L2.upd H1 l (.lst (uQ.map V.int))) o = none ->
      Q (.ref o) (L2.upd (L2.upd H1 l (.lst (uQ.map V.int))) o (.tup [.ref p',.int 0])))):=by
    intro x H1 s1 hx
    refine ⟨x,st.1 ++ c,rfl,bK.of hx,by rw [Yx]; omega,fun l uQ hl hp hs=>⟨l,_,rfl,.inl ⟨aZ.of ae,fun l2 ox=>⟨aH (by show 2 <= _; decide),fun o ho=>?_⟩⟩⟩⟩
    have s2:ao H1 (L2.upd H1 l (.lst (uQ.map V.int))):=ah hl
    have s3:=ah (o:=.tup (uQ.map V.int)) ox
    have s4:=ah (o:=.tup [.ref l2,.int 0]) ho
    refine k o _ (s1.trans (s2.trans (s3.trans s4))) ?_
    unfold behind
    rw [if_neg e,<- merged Sj wL Mj Oe hp hs]
    exact ⟨l2,ae,s4 _ _ ae⟩
   refine ⟨_,rfl,a,_,_,_,rfl,rfl,bK.of ha,wT,_,rfl,g0,b,_,_,rfl,rfl,bK.of KO,bK.of hb,aH (by simp; omega),fun z=>?_,fun z z2=>?_,fun z z2 o ho=>?_⟩
   ·have gz:st.1 = []:=by simpa using z
    exact tail b H (ao.refl H) (by rw [gz]; exact hb)
   ·have cz:c = []:=by simpa using z2
    exact tail g0 H (ao.refl H) (by rw [cz,aaA]; exact KO)
   ·exact tail o _ (ah ho) (by rw [Yd]; exact ae)
theorem jC {H:Hp} {gs:List (List Int)} {xs:List V} {i:Nat} {g:List Int} {q:List Int->Bool} (hg:gs[i]? = some g) (hq:q g = false) (dx:bW H (((gs.take i).filter q).map kO) xs):bW H (((gs.take (i + 1)).filter q).map kO) xs:=by
 have e:gs.take (i + 1) = gs.take i ++ [g]:=by rw [Yv,hg]; rfl
 have ef:[g].filter q = []:=by rw [YJ,if_neg (by rw [hq]; simp)]; rfl
 rw [e,YC,ef,aaA]
 exact dx
theorem oZ {gs:List (List Int)} {i:Nat} {g:List Int} {q:List Int->Bool} (hg:gs[i]? = some g) (hq:q g = true):(gs.take (i + 1)).filter q = (gs.take i).filter q ++ [g]:=by
 have e:gs.take (i + 1) = gs.take i ++ [g]:=by rw [Yv,hg]; rfl
 have ef:[g].filter q = [g]:=by rw [YJ,if_pos hq]; rfl
 rw [e,YC,ef]
def qL (C:Addr) (Z:Ad):Sp:=fun vs H Q E=>∃ (p a:Addr) (ts:List Th) (r:Int) (qs:List Qu) (st:bh),vs = [.ref p,.ref a] /\ aX C H p ts r qs /\ ts.length <= 6 /\ dI H a st /\ st.1.length <= 1000 /\
 (cU ts.length st = true->br qs ts.length st.1 = true->∀ l H',H l = none->ao H H'->LstAt kO H' l (bi ts r qs st)->Q (.ref l) H') /\ (cU ts.length st = false->∀ H',ao H H'->E (.ref Z.eg) none H') /\
 (cU ts.length st = true->br qs ts.length st.1 = false->∀ H',ao H H'->E (.ref Z.iW) none H')
theorem yc:av ["night","standing","manned"] ["night","standing"] (aj wk):=fk
theorem x5 (L:Lk K mg C fs ds) (T:Txt K mg C Z):au P w K mg base (yO P w) 5 (fs 15) (ds 15) ["night","standing"] (qL C Z):=by
 have iC:=L.jT
 have iJ:=L.kQ
 have jY:=L.kN
 have qJ:=L.nW
 have x6:=L.tN
 have oA:=L.qq
 have iE:au P w K mg base (yO P w) 4 (fs 10) (ds 10) ["night","standing"] (gM C Z):=kj L T
 have iR:au P w K mg base be 3 (fs 8) (ds 8) ["night","standing"] (jv C):=l8 L.kQ T L.bQ L.things L.kP L.jG L.gY
 have j5:au P w K mg base be 1 (fs 11) (ds 11) ["bank"] ju:=nL L.kN
 have qY:au P w K mg base be 3 (fs 12) (ds 12) ["night","standing"] (Ae C):=FG L T
 have xm:au P w K mg base be 2 (fs 13) (ds 13) ["night","crew"] (uI C):=BI L T
 have oG:au P w K mg base be 1 (fs 14) (ds 14) ["standing","crew"] mq:=sh L.qq T
 refine L.C0.fn.NW yc (fun vs H Q E h=>?_) (fun ci A outer s H vs Q E hr h=>?_)
 ·obtain ⟨p,a,ts,r,qs,st,rfl,_⟩:=h
  rfl
 ·obtain ⟨p,a,ts,r,qs,st,rfl,N,h6,kC,hl,k1,k2,k3⟩:=h
  have hu:=hr.units
  refine ⟨_,(ag (cp (cl iE iC hr lP (aa (pv 0) (aa (pv 1) af))))
   (ag (vx (j:=2) rfl (N':=["crew","night"]) (cap:=[none,some 0]) ⟨rfl,by with_unfolding_all rfl⟩ (bU (cl j5 jY hr ay (aa (cl qY qJ hr ay (aa (pv 0) (aa (pv 1) af))) af))) (fun _=>(gn 0 (show (["crew","night"]:List Str).Nodup by decide +kernel))) (fun _=>(fY (eS (cl xm x6 hr ay (aa (pv 1) (aa (pv 0) af)))))) (fun _=>(pv 0)) yc.nd (by rfl) (by rfl) (by with_unfolding_all rfl))
   (ai (aA (aV (vc hu) (by rfl) T.mP boot_sorted (aa (bS rfl (N':=["crew","night","standing"]) (cap:=[none,some 0,some 1]) ⟨rfl,by with_unfolding_all rfl⟩ (bU (pv 2)) (fun _=>(gn 0 (show (["crew","night","standing"]:List Str).Nodup by decide +kernel))) (fun _=>(fY (eS (cl iR iJ hr ay (aa (pv 1) (aa (cl oG oA hr ay (aa (pv 2) (aa (pv 0) af))) af)))))) (fun _=>(pv 0))) af)))))),?_⟩
  refine ⟨_,rfl,_,rfl,p,a,ts,r,qs,st,rfl,N,h6,kC,hl,fun hS hG H1 s1=>?_,k2,k3⟩
  have N1:=N.mono s1
  have Ly:=kC.mono s1
  refine ⟨_,rfl,_,rfl,p,a,ts,r,qs,st,rfl,N1,h6,Ly,fun lb H2 s2 FY=>?_⟩
  have N2:=N1.mono s2
  have P1:=Ly.mono s2
  refine ⟨lb,_,rfl,FY,Yh (gP hS) h6,fun lg H3 s3 UX=>?_⟩
  have N3:=N2.mono s3
  have QU:=P1.mono s3
  obtain ⟨vg,By,dg⟩:=UX
  have IQ:=aI dg
  have Ve:(jJ (bN ts.length st)).length <= 64:=by
   rw [kD]
   exact Yh (ZJ (by decide) (Yh (gP hS) h6)) (by decide)
  refine ⟨lg,rfl,⟨_,aZ.of By⟩,fun D hD=>?_⟩
  refine cR (K:=K) (a:=lg) (ys:=vg) (fun j xs H'=>ao H3 H' /\ H' D = some (.lst xs) /\ bW H' ((((jJ (bN ts.length st)).take j).filter (eW ts r)).map kO) xs)
   ⟨ah hD,ae,.nil⟩ (fun j xs H' _ ⟨sm,h,_⟩=>⟨h,aZ.of (sm _ _ By)⟩) ?_ ?_
  ·rintro j y xs H4 hj ⟨s4,Iy,dx⟩
   obtain ⟨g,hg,QY⟩:=bH dg hj
   obtain ⟨c,rfl,hc⟩:=mj QY
   have sub:=iX (YE hg)
   have Ud:∀ t ∈ g,0 <= t /\ t < (ts.length:Int):=fun t ht=>mD hS (sub.subset ht)
   have gl:g.length <= 6:=Yh sub.length_le (Yh (gP hS) h6)
   refine ⟨cm.set rfl,?_⟩
   refine ⟨_,rfl,_,rfl,p,c,ts,r,qs,g,rfl,N3.mono s4,h6,s4 _ _ hc,by omega,Ud,fun H5 s5=>⟨_,rfl,?_⟩⟩
   have Rl:=dx.mono s5
   have m9:=s5 _ _ Iy
   have lx:xs.length <= 64:=by
    rw [aI dx]
    exact Yh (Yy _ _) (by rw [Yt]; omega)
   refine bv (fun h1=>?_) (fun h1=>?_)
   ·refine ⟨_,rfl,m9,aU (by omega),aq (s4.trans s5) hD,ae,?_⟩
    rw [oZ hg h1,Yd]
    exact (bp m9 Rl (aE j6 _)).snoc (dJ m9 (m4 (s5 _ _ (s4 _ _ hc))) (j6 _))
   ·exact ⟨s4.trans s5,m9,jC hg h1 Rl⟩
  ·rintro xs H4 ⟨s4,Iy,dx⟩
   rw [Yj (by omega)] at dx
   have N4:=N3.mono s4
   have El:=QU.mono s4
   have lx:xs.length < 64:=by
    rw [aI dx]
    exact nB (qs:=qs) hS h6
   have e0:(jJ (bN ts.length st)).filter (eW ts r) = (jJ (bN ts.length st)).filter (eW ts r):=rfl
   generalize hM:(jJ (bN ts.length st)).filter (eW ts r) = M at dx e0
   have mem:∀ g ∈ M,g.Sublist (bN ts.length st) /\ g ≠ []:=fun g hg=>by
    rw [<- hM] at hg
    obtain ⟨z1,z2⟩:=YK.mp hg
    exact ⟨iX z1,uc z2⟩
   refine ⟨_,rfl,D,rfl,⟨_,aZ.of Iy⟩,fun D2 rJ=>?_⟩
   refine cR (K:=K) (a:=D) (ys:=xs) (fun j zs H'=>ao H4 H' /\ H' D2 = some (.lst zs) /\ bW H' (((M.take j).filter fun c=>br qs ts.length (behind ts.length st c).1).map kO) zs)
    ⟨ah rJ,ae,.nil⟩ (fun j zs H' _ ⟨sm,h,_⟩=>⟨h,aZ.of (sm _ _ Iy)⟩) ?_ ?_
   ·rintro j y zs H5 hj ⟨s5,m9,dz⟩
    obtain ⟨g,hg,QY⟩:=bH dx hj
    obtain ⟨c,rfl,hc⟩:=mj QY
    obtain ⟨sub,_⟩:=mem g (YE hg)
    refine ⟨cm.set rfl,?_⟩
    refine ⟨_,rfl,_,rfl,_,rfl,a,c,st,g,ts.length,rfl,El.mono s5,s5 _ _ hc,hS,h6,sub,fun l H6 s6 Q6=>?_⟩
    refine ⟨p,l,ts,r,qs,_,rfl,(N4.mono s5).mono s6,h6,Q6,fun H7 s7=>⟨_,rfl,?_⟩⟩
    have FV:=s6.trans s7
    have Rm:=dz.mono FV
    have NV:=FV _ _ m9
    have lz:zs.length <= 64:=by
     rw [aI dz]
     exact Yh (Yy _ _) (by rw [Yt]; have:=aI dx; omega)
    refine bv (fun h1=>?_) (fun h1=>?_)
    ·refine ⟨_,rfl,NV,aU (by omega),aq (s5.trans FV) rJ,ae,?_⟩
     rw [oZ hg h1,Yd]
     exact (bp NV Rm (aE j6 _)).snoc (dJ NV (m4 (FV _ _ (s5 _ _ hc))) (j6 _))
    ·exact ⟨s5.trans FV,NV,jC hg h1 Rm⟩
   ·rintro zs H5 ⟨s5,m9,dz⟩
    have lM:xs.length = M.length:=aI dx
    rw [Yj (by omega)] at dz
    have Uy:(M.filter fun c=>br qs ts.length (behind ts.length st c).1).Nodup:=by rw [<- hM]; exact tV hS
    refine ⟨D2,_,zs,rfl,m9,dz,Uy,fun l Dc jN Ur=>?_⟩
    have JL:=s1.trans (s2.trans (s3.trans (s4.trans s5)))
    refine k1 hS hG l _ (JL.free jN) (aq JL (JL.free jN)) ⟨Dc,ae,?_⟩
    unfold bi iQ
    rw [hM]
    exact Ur.mono (ah jN)
end
theorem FS (n:Nat):cU n (a6 n,0) = true:=qo (fO n) (fun t ht=>c8.mp ht) (.inl rfl)
theorem DR {n:Nat} {st:bh} (h:cU n st = true) (h6:n <= 6):st.1.length <= 6:=by
 obtain ⟨h1,h2,_⟩:=iT h
 have e:=gU h1 h2
 have l:((a6 n).filter fun t=>st.1.contains t).length <= n:=Yh (Yy _ _) (by rw [bE]; exact X7 _)
 rw [e] at l
 omega
section
variable {P:Program} {w:World} {K:aaG} {mg:Str->Option Value} {base:Heap} {C:Addr} {Z:Ad} {fs:Nat->Addr} {ds:Nat->FuncData}
def A3:Sp:=fun vs H Q _=>∃ (b:Addr) (g:List Int) (n:Nat),vs = [.ref b,.int n] /\ H b = some (.tup (g.map V.int)) /\ n <= 6 /\ ∀ l H',ao H H'->H' l = some (.tup ((restOf n g).map V.int))->Q (.ref l) H'
theorem u9:av ["group","many"] ["group","many"] (aj fU):=fk
theorem Gd {f:Addr} {fd:FuncData} (F:Fn K mg "_law_rest" fU f fd ["group","many"]) (T:Txt K mg C Z):au P w K mg base be 1 f fd ["group","many"] A3:=by
 refine F.fn.ok u9 (fun vs H Q E h=>?_) (fun ci A outer s H vs Q E hr h=>?_)
 ·obtain ⟨b,g,n,rfl,_⟩:=h
  rfl
 ·obtain ⟨b,g,n,rfl,hb,h6,k⟩:=h
  refine ⟨_,(ai (aA (aO cO (by rfl) T.ik ZR (aa (bS rfl (N':=["thing","group"]) (cap:=[none,some 0]) ⟨rfl,by with_unfolding_all rfl⟩ (iU (by rfl) T.jw (aa (pv 1) af)) (fun _=>(gn 0 (show (["thing","group"]:List Str).Nodup by decide +kernel))) (fun _=>(fY (aD (z0 (K:=K) rfl) (pv 0) (pv 1) (by with_unfolding_all rfl)))) (fun _=>(pv 0))) af)))),?_⟩
  refine ⟨_,rfl,_,rfl,by omega,by omega,fun D hD=>?_⟩
  rw [Za]
  refine jx (n:=n) (fun i xs H'=>ao H H' /\ H' D = some (.lst xs) /\ xs = ((a6 i).filter fun t=>!g.contains t).map V.int)
   ⟨ah hD,ae,rfl⟩ (fun i xs H' _ ⟨_,h,_⟩=>h) ?_ ?_
  ·rintro i xs H' hi ⟨sm,gu,rfl⟩
   have e1:((0:Int) + (i:Int)) = (i:Int):=by omega
   refine ⟨cm.set rfl,?_⟩
   refine ⟨_,rfl,_,rfl,b,_,rfl,.inr (bK.of (sm _ _ hb)),rfl,dC g,_,rfl,?_⟩
   rw [c6,e1]
   have sl:((a6 i).filter fun t=>!g.contains t).length <= i:=Yh (Yy _ _) (by rw [bE]; exact X7 _)
   refine bv (fun h1=>?_) (fun h1=>?_)
   ·refine ⟨_,rfl,gu,aU (by rw [X6]; omega),aq sm hD,ae,?_⟩
    have cV:(!g.contains (i:Int)) = true:=h1
    have ef:[(i:Int)].filter (fun t=>!g.contains t) = [(i:Int)]:=by rw [YJ,if_pos cV]; rfl
    rw [gK,YC,Yd,ef]
    rfl
   ·have cV:(!g.contains (i:Int)) = false:=h1
    have ef:[(i:Int)].filter (fun t=>!g.contains t) = []:=by rw [YJ,if_neg (by rw [cV]; simp)]; rfl
    refine ⟨sm,gu,?_⟩
    rw [gK,YC,Yd,ef]
    simp
  ·rintro xs H' ⟨sm,gu,rfl⟩
   exact ⟨D,_,rfl,.inl ⟨aZ.of gu,fun o ho=>k o _ (aq sm (sm.free ho)) ae⟩⟩
def yl (K:aaG):Sp:=fun vs H Q _=>∃ (q b:Addr) (qs:List Qu) (g:List Int) (n:Nat),vs = [.ref q,.ref b,.int n] /\ LstAt vF H q qs /\ H b = some (.tup (g.map V.int)) /\ n <= 6 /\ ∀ H',ao H H'->Q (.bl (br qs n g)) H'
theorem vN:av ["quarrels","group","many"] ["quarrels","group","many"] (aj iq):=fk
theorem DG {f f1 f2:Addr} {fd eC jH:FuncData} (F:Fn K mg "_law_good" iq f fd ["quarrels","group","many"]) (T:Txt K mg C Z) (i4:Fn K mg "_law_peace" eN f1 eC ["quarrels","group"])
  (oU:Fn K mg "_law_rest" fU f2 jH ["group","many"]):au P w K mg base be 2 f fd ["quarrels","group","many"] (yl K):=by
 have nv:au P w K mg base be 1 f1 eC ["quarrels","group"] (wD K):=EL i4
 have yj:au P w K mg base be 1 f2 jH ["group","many"] A3:=Gd oU T
 refine F.fn.ok vN (fun vs H Q E h=>?_) (fun ci A outer s H vs Q E hr h=>?_)
 ·obtain ⟨q,b,qs,g,n,rfl,_⟩:=h
  rfl
 ·obtain ⟨q,b,qs,g,n,rfl,hq,hb,h6,k⟩:=h
  refine ⟨_,(ai (aA (ix (cl nv i4 hr ay (aa (pv 0) (aa (pv 1) af))) (mi (cl nv i4 hr ay (aa (pv 0) (aa (cl yj oU hr ay (aa (pv 1) (aa (pv 2) af))) af))))))),?_⟩
  refine ⟨_,rfl,_,rfl,q,b,qs,g,rfl,hq,hb,_,rfl,?_⟩
  refine bv (fun h1=>?_) (fun h1=>?_)
  ·refine ⟨_,rfl,_,rfl,_,rfl,b,g,n,rfl,hb,h6,fun l H' sm hl=>?_⟩
   refine ⟨q,l,qs,_,rfl,hq.mono sm,hl,?_⟩
   have k':=k H' sm
   unfold br at k'
   rw [h1,aax] at k'
   exact k'
  ·have k':=k H (ao.refl H)
   unfold br at k'
   rw [h1,YO] at k'
   exact k'
end
section
variable {P:Program} {w:World} {K:aaG} {mg:Str->Option Value} {base:Heap} {C:Addr} {Z:Ad} {fs:Nat->Addr} {ds:Nat->FuncData}
theorem EN (g:List Int):(kO g).canLay0 = true:=by simp [kO,PyData.canLay0,DD]
theorem Ik (g:List Int):(kO g).depth <= 6:=by
 have h:=iY (f:=PyData.int) (n:=5) (fun i=>by simp [PyData.depth]) g
 simp only [kO,PyData.depth]
 omega
end
theorem JR (g c:List Int):PyData.eqv (kO g) (kO c) = decide (g = c):=by
 show PyData.eqv (.tuple (g.map PyData.int)) (.tuple (c.map PyData.int)) = _
 rw [PyData.eqv]
 exact PySem.W.ked_eqvAll g c
section
variable {P:Program} {w:World} {K:aaG} {mg:Str->Option Value} {base:Heap} {C:Addr} {Z:Ad} {fs gs:Nat->Addr} {ds es:Nat->FuncData}
def r8 (C:Addr):Sp:=fun vs H Q _=>∃ (p b:Addr) (ts:List Th) (r:Int) (qs:List Qu) (c:List Int),vs = [.ref p,.ref b] /\ aX C H p ts r qs /\ ts.length <= 6 /\ H b = some (.tup (c.map V.int)) /\ c.length <= 1000 /\ c ≠ [] /\ (∀ t ∈ c,0 <= t /\ t < (ts.length:Int)) /\
 ∀ H',ao H H'->Q (.int (aT ts c)) H'
theorem rN:av ["night","crew","things"] ["night","crew"] (aj kB):=fk
theorem zV {f f1:Addr} {fd eC:FuncData} (F:Fn K mg "minutes" kB f fd ["night","crew"]) (T:Txt K mg C Z) (aP:Meth K C "things" f1) (aF:Mt K "things" "Night.things" bA f1 eC ["self"]) :
  au P w K mg base be 2 f fd ["night","crew"] (r8 C):=by
 have a9:au P w K mg base be 1 f1 eC ["self"] (dX C):=fD aF T
 refine F.fn.ok rN (fun vs H Q E h=>?_) (fun ci A outer s H vs Q E hr h=>?_)
 ·obtain ⟨p,b,ts,r,qs,c,rfl,_⟩:=h
  rfl
 ·obtain ⟨p,b,ts,r,qs,c,rfl,N,h6,hb,hc,oE,wL,k⟩:=h
  obtain ⟨dx,t,q,hp,_,_⟩:=id N.ex
  refine ⟨_,(ag (sn 2 rN.nd (bP (pv 0) T.aN aP a9 (hr.mono (by decide)) aF.b .nil ay))
   (ai (aA (aV (CW rfl) (by rfl) T.Nf boot_max (aa (bS rfl (N':=["thing","things"]) (cap:=[none,some 2]) ⟨rfl,by with_unfolding_all rfl⟩ (lY (pv 1)) (fun _=>(gn 0 (show (["thing","things"]:List Str).Nodup by decide +kernel))) (fun _=>cu) (fun _=>(aR (Md (K:=K) rfl) (aR (Lf (K:=K) rfl) (pv 1) (pv 0) (fun _ _=>rfl)) ak (fun _ _=>rfl)))) af))))),?_⟩
  refine ⟨_,rfl,p,dx,_,rfl,hp,bQ _ _ _,p,ts,r,qs,rfl,N,fun l vs hl dv=>?_⟩
  have s1:ao H (L2.upd H l (.lst vs)):=ah hl
  have Ls:=dv.mono s1
  have C8:=s1 _ _ hb
  have y7:(L2.upd H l (.lst vs)) l = some (.lst vs):=ae
  generalize L2.upd H l (.lst vs) = H1 at s1 Ls C8 y7 ⊢
  refine ⟨_,rfl,b,rfl,⟨_,bK.of C8⟩,fun D hD=>?_⟩
  refine ko (K:=K) (a:=b) (ys:=c.map V.int) (fun i xs H'=>ao H1 H' /\ H' D = some (.lst xs) /\ xs = (c.take i).map fun t=>V.int (l7 ts t))
   ⟨ah hD,ae,rfl⟩ (fun i xs H' _ ⟨sm,h,_⟩=>⟨h,bK.of (sm _ _ C8)⟩) ?_ ?_
  ·rintro i x xs H' hi ⟨sm,gu,rfl⟩
   rw [Yl,YU] at hi
   obtain ⟨x',sS,rfl⟩:=hi
   obtain ⟨x0,x1⟩:=wL x' (YE sS)
   obtain ⟨o,yi,qv⟩:=Iv Ls x0 x1
   refine ⟨cm.set rfl,?_⟩
   refine ⟨_,rfl,_,rfl,l,_,_,_,rfl,rfl,aZ.of (sm _ _ y7),yi,o,_,_,_,rfl,rfl,bK.of (sm _ _ qv),wT,gu,aU (by rw [X6,Yt]; omega),aq sm hD,ae,?_⟩
   rw [Yv,sS]
   simp
  ·rintro xs H' ⟨sm,gu,rfl⟩
   refine ⟨D,c.map (l7 ts),rfl,aZ.of ?_,?_,k H' (s1.trans sm)⟩
   ·rw [gu,X6,Zr,YQ]
    rfl
   ·simpa using oE
end
theorem zH (a b:bh):PyData.eqv (hV a) (hV b) = decide (a = b):=by
 obtain ⟨g,i⟩:=a
 obtain ⟨g',i'⟩:=b
 show PyData.eqv (.tuple [kO g,.int i]) (.tuple [kO g',.int i']) = _
 rw [PyData.eqv,PyData.eqvAll,PyData.eqvAll,PyData.eqvAll,JR,aad]
 simp [PyData.eqv,Prod.ext_iff]
theorem rm (st:bh):(hV st).canLay0 = true:=by
 simp [hV,PyData.canLay0,PyData.canLayAll0,EN]
theorem Fk (st:bh):(hV st).depth <= 8:=by
 have:=Ik st.1
 simp [hV,PyData.depth,PyData.depthAll]
 omega
def xl (H:Hp) (D:Addr) (H':Hp):Prop:=∀ b u,b ≠ D->H b = some u->H' b = some u
theorem xl.of {H H':Hp} {D:Addr} (h:ao H H'):xl H D H':=fun b u _ e=>h b u e
theorem xl.next {H H' HI:Hp} {D:Addr} (h:xl H D H') (g:ao H' HI):xl H D HI:=fun b u n e=>g b u (h b u n e)
theorem xl.upd {H H':Hp} {D:Addr} {o:HO} (h:xl H D H'):xl H D (L2.upd H' D o):=fun b u n e=>by rw [am n]; exact h b u n e
theorem xl.same {H H':Hp} {D:Addr} (h:xl H D H') (n:H D = none):ao H H':=fun b u e=>h b u (ax e n) e
theorem xl.iG {H H':Hp} {D:Addr} {ys:List V} (h:xl H D H') (n:H D = some (.lst ys)):∀ b vs,H b = some (.tup vs)->H' b = some (.tup vs):=fun b vs e=>h b _ (fun z=>by rw [z,n] at e; cases e) e
theorem lj.st {H:Hp} {a:Addr} {st:bh} (h:dI H a st):lj H st a:=h
theorem St.ka {H:Hp} {a:Addr} {st:bh} (h:lj H st a):dI H a st:=h
theorem jA (st:bh):fZ (hV st) = true:=by
 show de [kO st.1,.int st.2] = true
 simp only [de,Bool.and_true,j6]
 rfl
theorem eR {H:Hp} {st:bh} {v:V} (h:DV H (hV st) v):∃ a,v = .ref a /\ dI H a st:=lj.of h
theorem J8 {H:Hp} {st aB:bh} {v:V} (h:DV H (hV st) v) (h':DV H (hV aB) v):st = aB:=by
 obtain ⟨a,e,b,h1,h2⟩:=eR h
 obtain ⟨a',e',b',cV,iL⟩:=eR h'
 rw [e] at e'; cases e'
 rw [h1] at cV
 injection cV with e
 injection e with e
 injection e with e1 e2
 injection e1 with e1
 injection e2 with e2 _
 injection e2 with e2
 subst e1
 rw [h2] at iL
 injection iL with e
 injection e with e
 refine Prod.ext ?_ e2
 exact List.map_inj_right (fun x y z=>by injection z) |>.mp e
theorem Bx (gs:List (List Int)):(gs.flatMap fun g=>[((g,0):bh),(g,1)]).length = 2 * gs.length:=by
 induction gs with
 | nil=>rfl
 | cons g gs ih=>rw [List.flatMap_cons,Yx,ih]; simp; omega
theorem x9 {α:Type} {f:α->PyData} {H:Hp}:∀ {vs Dc:List V},Dc.Perm vs->∀ {l:List α},bW H (l.map f) vs->∃ l':List α,l'.Perm l /\ bW H (l'.map f) Dc:=by
 intro vs Dc hp
 induction hp with
 | nil=>exact fun {l} h=>⟨l,List.Perm.refl _,h⟩
 | cons x _ ih =>
  intro l h
  cases l with
  | nil=>cases h
  | cons a l =>
   cases h with
   | cons h1 h2 =>
    obtain ⟨l',h3,h4⟩:=ih h2
    exact ⟨a :: l',h3.cons a,.cons h1 h4⟩
 | swap x y l0 =>
  intro l h
  cases l with
  | nil=>cases h
  | cons a l =>
   cases h with
   | cons h1 h2 =>
    cases l with
    | nil=>cases h2
    | cons b l =>
     cases h2 with
     | cons h3 h4=>exact ⟨b :: a :: l,List.Perm.swap _ _ _,.cons h3 (.cons h1 h4)⟩
 | trans _ _ N6 MS =>
  intro l h
  obtain ⟨l1,h1,h2⟩:=MS h
  obtain ⟨l2,h3,h4⟩:=N6 h2
  exact ⟨l2,h3.trans h1,h4⟩
open Classical in
noncomputable def xO (H:Hp) (v:V):Int × List Int:=if e:∃ st:bh,DV H (hV st) v then sw (Classical.choose e) else (0,[])
theorem vn {H:Hp} {v:V} {st:bh} (h:DV H (hV st) v):xO H v = sw st:=by
 unfold xO
 rw [dif_pos ⟨st,h⟩]
 rw [J8 (Classical.choose_spec (⟨st,h⟩:∃ st:bh,DV H (hV st) v)) h]
theorem uU {H:Hp}:∀ {l:List bh} {vs:List V},bW H (l.map hV) vs->vs.map (xO H) = l.map sw
 | [],_,.nil=>rfl
 | _ :: _,_ :: _,.cons h t=>by rw [Yq,Yq,vn h,uU t]
theorem Ie {H:Hp} {l:List bh} {vs:List V} (h:bW H (l.map hV) vs) (hp:vs.Pairwise fun x y=>aC (xO H x) (xO H y) = true):l.Pairwise fun a b=>aC (sw a) (sw b) = true:=by
 have h1:(vs.map (xO H)).Pairwise fun a b=>aC a b = true:=by rw [Y2]; exact hp
 rw [uU h,Y2] at h1
 exact h1
theorem oR {ts:List Th} {r:Int} {qs:List Qu} {st:bh} (h:cU ts.length st = true) (h6:ts.length <= 6):(bi ts r qs st).length <= 1000 /\ ∀ g ∈ bi ts r qs st,g.length <= 1000:=by
 have pm:=iN (iQ ts r qs st)
 constructor
 ·rw [show (bi ts r qs st).length = _ from pm.length_eq]
  have:(iQ ts r qs st).length < 64:=Nat.lt_of_le_of_lt (Yy _ _) (nB (qs:=qs) h h6)
  omega
 ·intro g hg
  have Pz:=pm.mem_iff.mp hg
  have:=(iX (YK.mp (YK.mp Pz).1).1).length_le
  have:=gP h
  omega
section
variable {P:Program} {w:World} {K:aaG} {mg:Str->Option Value} {base:Heap} {C:Addr} {Z:Ad} {fs:Nat->Addr} {ds:Nat->FuncData}
def lX:Sp:=fun vs H Q _=>∃ (a b:Addr) (sd:Int),vs = [.ref a] /\ H a = some (.tup [.ref b,.int sd]) /\ ∀ q,H q = none->Q (.ref q) (L2.upd H q (.tup [.int sd,.ref b]))
theorem za:av ["standing"] ["standing"] (aj gI):=fk
theorem si {f:Addr} {fd:FuncData} (F:Fn K mg "by_side" gI f fd ["standing"]):au P w K mg base be 1 f fd ["standing"] lX:=by
 refine F.fn.ok za (fun vs H Q E h=>?_) (fun ci A outer s H vs Q E hr h=>?_)
 ·obtain ⟨a,b,sd,rfl,_⟩:=h
  rfl
 ·obtain ⟨a,b,sd,rfl,ha,k⟩:=h
  refine ⟨_,(ai (aA (cM (aa (aR bz (pv 0) ak (fun _ _=>rfl)) (aa (aR bz (pv 0) ak (fun _ _=>rfl)) af))))),?_⟩
  exact ⟨_,rfl,a,_,_,_,rfl,rfl,bK.of ha,u6,_,rfl,a,_,_,_,rfl,rfl,bK.of ha,wT,aH (by show 2 <= _; decide),fun o ho=>k o ho⟩
def Fa (C:Addr):Sp:=fun vs H Q _=>∃ (p:Addr) (ts:List Th) (r:Int) (qs:List Qu),vs = [.ref p] /\ aX C H p ts r qs /\ ts.length <= 6 /\ ∀ l H',ao H H'->LstAt hV H' l (cA qs ts.length)->Q (.ref l) H'
theorem eQ:av ["night","standings","group"] ["night"] (aj dn):=fk
theorem IN {f f1 f2:Addr} {fd eC jH:FuncData} (F:Fn K mg "good_standings" dn f fd ["night"]) (L:Lk K mg C fs ds) (T:Txt K mg C Z) (fB:Fn K mg "by_side" gI f1 eC ["standing"])
  (hU:Meth K C "begins" f2) (eF:Mt K "begins" "Night.begins" cW f2 jH ["self"]):au P w K mg base be 4 f fd ["night"] (Fa C):=by
 have jY:=L.kN
 have iJ:=L.kQ
 have hJ:au P w K mg base be 1 f2 jH ["self"] (mw C):=sK eF T
 have j5:au P w K mg base be 1 (fs 11) (ds 11) ["bank"] ju:=nL L.kN
 have iR:au P w K mg base be 3 (fs 8) (ds 8) ["night","standing"] (jv C):=l8 L.kQ T L.bQ L.things L.kP L.jG L.gY
 refine F.fn.ok eQ (fun vs H Q E h=>?_) (fun ci A outer s H vs Q E hr h=>?_)
 ·obtain ⟨p,ts,r,qs,rfl,_⟩:=h
  rfl
 ·obtain ⟨p,ts,r,qs,rfl,N,h6,k⟩:=h
  have hu:=hr.units
  obtain ⟨dx,t,q,hp,_,_⟩:=id N.ex
  refine ⟨_,(ag (sn 1 eQ.nd (eT af))
   (ag (fA YS rfl (bU (cl j5 jY hr ay (aa (aR bz (bP (pv 0) T.aN hU hJ (hr.mono (by decide)) eF.b .nil ay) ak (fun _ _=>rfl)) af))) (gn 2 eQ.nd)
   (ai (cp (fc Zv PySem.F.slot_list_extend PySem.F.type_list_extend oO (pv 1) (aa (bS rfl (N':=["side","group"]) (cap:=[none,some 2]) ⟨rfl,by with_unfolding_all rfl⟩ (lY (dU (v:=.ref Z.sE) (by rfl) T.A4 rfl)) (fun _=>(gn 0 (show (["side","group"]:List Str).Nodup by decide +kernel))) (fun _=>cu) (fun _=>(cM (aa (pv 1) (aa (pv 0) af))))) af)))))
   (ai (aA (uD hu (by rfl) T.mP (by rfl) fB.g (aa (bS rfl (N':=["standing","night"]) (cap:=[none,some 0]) ⟨rfl,by with_unfolding_all rfl⟩ (bU (pv 1)) (fun _=>(gn 0 (show (["standing","night"]:List Str).Nodup by decide +kernel))) (fun _=>(fY (eS (cl iR iJ hr ay (aa (pv 1) (aa (pv 0) af)))))) (fun _=>(pv 0))) af)))))),?_⟩
  refine ⟨aH (by show 0 <= _; decide),fun l0 yz=>?_⟩
  have s1:ao H (L2.upd H l0 (.lst [])):=ah yz
  have e1:(L2.upd H l0 (.lst [])) l0 = some (.lst []):=ae
  generalize L2.upd H l0 (.lst []) = H1 at s1 e1 ⊢
  refine ⟨_,rfl,p,dx,_,rfl,s1 _ _ hp,rfl,p,ts,r,qs,rfl,N.mono s1,h6,fun lb H2 s2 hb=>?_⟩
  obtain ⟨_,e,FY⟩:=eR (st:=(a6 ts.length,0)) hb
  cases e
  obtain ⟨g0,FY,KO⟩:=FY
  refine ⟨lb,_,_,_,rfl,rfl,bK.of FY,wT,g0,a6 ts.length,rfl,KO,by rw [bE]; exact h6,fun lg H3 s3 hG=>?_⟩
  obtain ⟨vg,By,dg⟩:=hG
  have IQ:=aI dg
  have Ve:(jJ (a6 ts.length)).length <= 64:=by
   rw [kD,bE]
   exact Yh (ZJ (by decide) h6) (by decide)
  have n4:=s2.trans s3
  have e3:H3 l0 = some (.lst []):=n4 _ _ e1
  have P0:lg ≠ l0:=fun z=>by
   rw [z,e3] at By
   cases By
   have:=List.length_pos_of_mem (A5 (a6 ts.length))
   simp at IQ; omega
  have Tn:=s1.trans n4
  refine ⟨lg,rfl,⟨_,aZ.of By⟩,eX (K:=K) (a:=lg) (xs:=vg) (fun i σ H'=>ao H H' /\ xl H3 l0 H' /\ (∃ v2,σ = [some (.ref p),some (.ref l0),v2]) /\ ∃ xs,H' l0 = some (.lst xs) /\ bW H' ((((jJ (a6 ts.length)).take i).flatMap fun g=>[((g,0):bh),(g,1)]).map hV) xs)
   ⟨Tn,xl.of (ao.refl _),⟨_,rfl⟩,[],e3,.nil⟩ (fun i σ H' _ ⟨_,bt,_⟩=>aZ.of (bt _ _ P0 By)) ?_ ?_⟩
  ·rintro i x σ H4 hi ⟨s4,bt,⟨v2,rfl⟩,xs,hx,dx⟩
   obtain ⟨g,hg,U9⟩:=bH dg hi
   obtain ⟨c,rfl,hc⟩:=mj U9
   have V9:=bt.iG e3 _ _ hc
   have et:((jJ (a6 ts.length)).take (i + 1)).flatMap (fun g=>[((g,0):bh),(g,1)]) = ((jJ (a6 ts.length)).take i).flatMap (fun g=>[((g,0):bh),(g,1)]) ++ [(g,0),(g,1)]:=by
    rw [Yv,hg,List.flatMap_append]; rfl
   have lx:xs.length <= 128:=by
    rw [aI dx,Bx,Yt]
    omega
   refine ⟨_,rfl,.inl ⟨rfl,_,aZ.of hx⟩,Z.sE,rfl,⟨_,T.uT _⟩,fun D hD=>?_⟩
   refine ko (K:=K) (a:=Z.sE) (ys:=[.int 0,.int 1]) (fun j zs H'=>ao H4 H' /\ H' D = some (.lst zs) /\ zs.length = j /\ bW H' (([((g,0):bh),(g,1)].take j).map hV) zs)
    ⟨ah hD,ae,rfl,.nil⟩ (fun j zs H' _ ⟨_,h,_⟩=>⟨h,T.uT _⟩) ?_ ?_
   ·rintro j y zs H5 hj ⟨s5,m9,lz,dz⟩
    obtain ⟨sd,rfl,SV⟩:∃ sd:Int,y = .int sd /\ [((g,0):bh),(g,1)][j]? = some (g,sd):=by
     match j,hj with
     | 0,hj=>exact ⟨0,by simpa using hj.symm,rfl⟩
     | 1,hj=>exact ⟨1,by simpa using hj.symm,rfl⟩
     | j + 2,hj=>simp at hj
    have QR:j < 2:=(Ys.mp hj).1
    refine ⟨cm.set rfl,?_⟩
    refine ⟨_,rfl,_,rfl,aH (by show 2 <= _; decide),fun o ho=>?_⟩
    have s6:ao H5 (L2.upd H5 o (.tup [.ref c,.int sd])):=ah ho
    have wv:=s6 _ _ m9
    have VD:dI (L2.upd H5 o (.tup [.ref c,.int sd])) o (g,sd):=⟨c,ae,s6 _ _ (s5 _ _ V9)⟩
    refine ⟨wv,aU (by omega),aq (s5.trans s6) hD,ae,by simp [lz],?_⟩
    rw [Yv,SV,Yd]
    exact (bp wv (dz.mono s6) (aE jA _)).snoc (dJ wv VD.dv (jA _))
   ·rintro zs H5 ⟨s5,m9,lz,dz⟩
    have X0:zs.length = 2:=lz
    refine ⟨l0,D,xs,zs,rfl,rfl,s5 _ _ hx,m9,aH (by omega),?_⟩
    refine ⟨aq (s4.trans s5) yz,(bt.next s5).upd,⟨_,rfl⟩,_,ae,?_⟩
    rw [et,Yd]
    exact (bp (s5 _ _ hx) (dx.mono s5) (aE jA _)).append (bp (s5 _ _ hx) dz (aE jA _))
  ·rintro σ H4 ⟨s4,bt,⟨v2,rfl⟩,xs,hx,dx⟩
   rw [Yj (by omega)] at dx
   have lx:=aI dx
   have Hc:=Cq qs h6
   generalize hM:(jJ (a6 ts.length)).flatMap (fun g=>[((g,0):bh),(g,1)]) = M at dx lx Hc
   refine ⟨_,rfl,l0,rfl,⟨_,aZ.of hx⟩,fun D hD=>?_⟩
   refine cR (K:=K) (a:=l0) (ys:=xs) (fun j zs H'=>ao H4 H' /\ H' D = some (.lst zs) /\ bW H' (((M.take j).filter fun st=>br qs ts.length st.1).map hV) zs)
    ⟨ah hD,ae,.nil⟩ (fun j zs H' _ ⟨sm,h,_⟩=>⟨h,aZ.of (sm _ _ hx)⟩) ?_ ?_
   ·rintro j y zs H5 hj ⟨s5,m9,dz⟩
    obtain ⟨st,kC,dst⟩:=bH dx hj
    obtain ⟨a,rfl,LG⟩:=eR dst
    refine ⟨cm.set rfl,?_⟩
    refine ⟨_,rfl,_,rfl,p,a,ts,r,qs,st,rfl,N.mono (s4.trans s5),h6,LG.mono s5,fun H6 s6=>⟨_,rfl,?_⟩⟩
    have wv:=s6 _ _ m9
    have RX:=dz.mono s6
    have lz:zs.length <= 128:=by
     rw [aI dz]
     exact Yh (Yy _ _) (by rw [Yt]; omega)
    have et:M.take (j + 1) = M.take j ++ [st]:=by rw [Yv,kC]; rfl
    refine bv (fun h1=>?_) (fun h1=>?_)
    ·refine ⟨_,rfl,wv,aU (by omega),aq (s5.trans s6) hD,ae,?_⟩
     have ef:[st].filter (fun st=>br qs ts.length st.1) = [st]:=by rw [YJ,if_pos h1]; rfl
     rw [et,YC,ef,Yd]
     exact (bp wv RX (aE jA _)).snoc (dJ wv (LG.mono (s5.trans s6)).dv (jA _))
    ·refine ⟨s5.trans s6,wv,?_⟩
     have cV:br qs ts.length st.1 = false:=h1
     have ef:[st].filter (fun st=>br qs ts.length st.1) = []:=by rw [YJ,if_neg (by rw [cV]; simp)]; rfl
     rw [et,YC,ef,aaA]
     exact RX
   ·rintro zs H5 ⟨s5,m9,dz⟩
    rw [lx,Zr] at dz
    have eM:M.filter (fun st=>br qs ts.length st.1) = qW qs ts.length:=by rw [<- hM]; rfl
    rw [eM] at dz
    have oz:au P w K mg base be 1 f1 eC ["standing"] lX:=si fB
    refine ⟨D,zs,xO H5,rfl,aZ.of m9,rO.of oz (hr.mono (by decide)) fB.b (fun _ _ _ _ _ z=>z) (fun y hy=>?_),by rw [uU dz]; exact xD _ _,fun H6 l Vc s6 hl hp hs=>?_⟩
    ·obtain ⟨i,hi⟩:=aaf.mp hy
     obtain ⟨st,_,dst⟩:=bH dz hi
     have ek:=vn dst
     obtain ⟨a,rfl,b,ha,hb⟩:=eR dst
     refine ⟨b,by rw [ek]; exact hb,fun H' sm Q hq=>⟨a,b,st.2,rfl,sm _ _ ha,fun q hn=>?_⟩⟩
     have:=hq q hn
     rw [ek] at this
     exact this
    ·obtain ⟨l',h1,h2⟩:=x9 hp dz
     have e:=wI h1 (Ie h2 hs)
     rw [e] at h2
     have s7:=s4.trans (s5.trans s6)
     exact k l _ (aq s7 (s7.free hl)) ⟨Vc,ae,(h2.mono s6).mono (ah hl)⟩
end
def Hm (x:Wy):PyData:=.tuple [kO x.1,.int x.2.1,hV x.2.2]
theorem xh (x:Wy):fZ (Hm x) = true:=by
 show de [kO x.1,.int x.2.1,hV x.2.2] = true
 simp only [de,Bool.and_true,j6,jA]
 rfl
theorem Dj {H:Hp} {x:Wy} {v:V} (h:DV H (Hm x) v):∃ a b c,v = .ref a /\ H a = some (.tup [.ref b,.int x.2.1,.ref c]) /\ H b = some (.tup (x.1.map V.int)) /\ dI H c x.2.2:=by
 obtain ⟨a,vs,rfl,e,q⟩:=h.il
 obtain ⟨v,w,u,rfl,h1,h2,h3⟩:=q.oP
 obtain ⟨b,rfl,hb⟩:=mj h1
 cases h2.int_inv
 obtain ⟨c,rfl,hc⟩:=eR h3
 exact ⟨a,b,c,rfl,e,hb,hc⟩
theorem Me {H:Hp} {x:Wy} {a b c:Addr} (h:H a = some (.tup [.ref b,.int x.2.1,.ref c])) (hb:H b = some (.tup (x.1.map V.int))) (hc:dI H c x.2.2):DV H (Hm x) (.ref a):=.tup h (.cons (m4 hb) (.cons (.int _) (.cons hc.dv .nil)))
theorem LstAt.keep {α:Type} {f:α->PyData} {H H':Hp} {a:Addr} {l:List α} (h:LstAt f H a l) (kl:∀ b vs,H b = some (.lst vs)->H' b = some (.lst vs)) (kt:∀ b vs,H b = some (.tup vs)->H' b = some (.tup vs)) (no:∀ x,fZ (f x) = true):LstAt f H' a l :=
 let ⟨vs,h1,h2⟩:=h
 ⟨vs,kl _ _ h1,ql kt h2 (aE no l)⟩
abbrev t7 (H:Hp):bM × V->bh × List Wy->Prop:=fun kv c=>kv.1 = c.1 /\ ∃ a,kv.2 = .ref a /\ LstAt Hm H a c.2
def xu (P:Program) (w:World) (H:Hp) (p:Addr) (cs:List (bh × List Wy)):Prop:=∃ kvs,DF P w H p kvs /\ Paired (t7 H) kvs cs
theorem t7.mono {H H':Hp} {kvs:List (bM × V)} {cs:List (bh × List Wy)} (h:Paired (t7 H) kvs cs) (e:ao H H'):Paired (t7 H') kvs cs:=Paired.yJ h fun _ _ ⟨h1,a,h2,h3⟩=>⟨h1,a,h2,h3.mono e⟩
theorem xu.mono {P:Program} {w:World} {H H':Hp} {p:Addr} {cs:List (bh × List Wy)} (h:xu P w H p cs) (e:ao H H'):xu P w H' p cs:=let ⟨kvs,h1,h2⟩:=h; ⟨kvs,h1.mono e,t7.mono h2 e⟩
theorem t7.keys {H:Hp}:∀ {kvs:List (bM × V)} {cs:List (bh × List Wy)},Paired (t7 H) kvs cs->kvs.map (·.1) = cs.map (·.1)
 | [],_,.nil=>rfl
 | _ :: _,_ :: _,.cons h r=>by rw [Yq,Yq,h.1,t7.keys r]
theorem t7.at {H:Hp}:∀ {kvs:List (bM × V)} {cs:List (bh × List Wy)} {i:Nat} {k:bM} {y:V},Paired (t7 H) kvs cs->kvs[i]? = some (k,y)->∃ wy a,cs[i]? = some (k,wy) /\ y = .ref a /\ LstAt Hm H a wy
 | [],_,_,_,_,.nil,e=>by simp at e
 | p :: _,c :: _,0,k,y,.cons h _,e=>by
  simp at e; subst e
  obtain ⟨h1,a,h2,h3⟩:=h
  obtain ⟨c1,c2⟩:=c
  have h1:k = c1:=h1
  subst h1
  exact ⟨c2,a,rfl,h2,h3⟩
 | _ :: _,_ :: _,i + 1,k,y,.cons _ r,e=>by
  obtain ⟨wy,a,h1,h2⟩:=t7.at (i:=i) (k:=k) (y:=y) r (by simpa using e)
  exact ⟨wy,a,by simpa using h1,h2⟩
theorem uw {kvs:List (bM × V)} {k:bM} (h:k ∉ kvs.map (·.1)):cX kvs k = none:=by
 unfold cX
 rw [List.find?_eq_none.mpr]
 ·rfl
 ·intro x hx z
  exact h (by rw [<- YA z]; exact Y0 (f:=fun x:bM × V=>x.1) hx)
theorem tP {kvs:List (bM × V)} {k:bM} (h:k ∈ kvs.map (·.1)):(cX kvs k).isSome = true:=by
 unfold cX
 rw [Zo,List.find?_isSome]
 obtain ⟨p,hp,rfl⟩:=YI.mp h
 exact ⟨p,hp,Yi rfl⟩
theorem Fg {kvs:List (bM × V)} {k:bM} {v:V} (h:k ∉ kvs.map (·.1)):tj kvs k v = kvs ++ [(k,v)]:=by
 unfold tj
 rw [uw h,if_neg (by simp)]
theorem yQ {α:Type} {l:List α} {i:Nat} {x:α} (nd:l.Nodup) (h:l[i]? = some x):x ∉ l.take i:=by
 intro hm
 obtain ⟨j,hj,e⟩:=List.mem_take_iff_getElem.mp hm
 obtain ⟨hi,e2⟩:=Ys.mp h
 rw [<- e2] at e
 have:=nO nd _ _ e
 omega
abbrev Bg:=Int × List Int × bh
def Jh (x:Bg):PyData:=.tuple [.int x.1,kO x.2.1,hV x.2.2]
theorem IA (x:Bg):fZ (Jh x) = true:=by
 show de [.int x.1,kO x.2.1,hV x.2.2] = true
 simp only [de,Bool.and_true,j6,jA]
 rfl
theorem yR {H:Hp} {x:Bg} {v:V} (h:DV H (Jh x) v):∃ a b c,v = .ref a /\ H a = some (.tup [.int x.1,.ref b,.ref c]) /\ H b = some (.tup (x.2.1.map V.int)) /\ dI H c x.2.2:=by
 obtain ⟨a,vs,rfl,e,q⟩:=h.il
 obtain ⟨v,w,u,rfl,h1,h2,h3⟩:=q.oP
 cases h1.int_inv
 obtain ⟨b,rfl,hb⟩:=mj h2
 obtain ⟨c,rfl,hc⟩:=eR h3
 exact ⟨a,b,c,rfl,e,hb,hc⟩
theorem Lx {H:Hp} {x:Bg} {a b c:Addr} (h:H a = some (.tup [.int x.1,.ref b,.ref c])) (hb:H b = some (.tup (x.2.1.map V.int))) (hc:dI H c x.2.2):DV H (Jh x) (.ref a):=.tup h (.cons (.int _) (.cons (m4 hb) (.cons hc.dv .nil)))
def cr (f:Sh.Mp bh) (gj:List Wy):List Bg:=(gj.filter fun x=>(Sh.lk f x.2.2).isSome).map fun x=>(x.2.1 + (Sh.lk f x.2.2).getD 0,x.1,x.2.2)
theorem qx (f:Sh.Mp bh) (gj:List Wy):(cr f gj).map (·.1) = Sh.B8 f gj:=by
 unfold cr Sh.B8
 rw [YQ]
 rfl
theorem jp (f:Sh.Mp bh) (k:bM):cX (iv f) k = (Sh.lk f k).map V.int:=vD f k
theorem GQ (f:Sh.Mp bh) (k:bM) (v:Int):tj (iv f) k (.int v) = iv (Sh.put f k v):=by
 unfold tj Sh.put
 rw [jp,Zo]
 by_cases h:(Sh.lk f k).isSome = true
 ·rw [if_pos h,if_pos h]
  unfold iv
  rw [YQ,YQ]
  refine aas fun x _=>?_
  show (if x.1 = k then (x.1,V.int v) else (x.1,V.int x.2)) = ((if x.1 = k then (x.1,v) else x).1,V.int (if x.1 = k then (x.1,v) else x).2)
  by_cases e:x.1 = k
  ·rw [if_pos e,if_pos e]
  ·rw [if_neg e,if_neg e]
 ·rw [if_neg h,if_neg h]
  unfold iv
  rw [Yd]
  rfl
section
variable {P:Program} {w:World} {K:aaG} {mg:Str->Option Value} {base:Heap} {C:Addr} {Z:Ad} {fs:Nat->Addr} {ds:Nat->FuncData}
def uK (P:Program) (w:World) (C:Addr):Sp:=fun vs H Q _=>∃ (p:Addr) (ts:List Th) (r:Int) (qs:List Qu),vs = [.ref p] /\ aX C H p ts r qs /\ ts.length <= 6 /\ ∀ l H',ao H H'->xu P w H' l (bZ ts r qs)->Q (.ref l) H'
structure Lp (K:aaG) (mg:Str->Option Value) (C:Addr) (fs:Nat->Addr) (ds:Nat->FuncData):Prop where
 m3:Meth K C "begins" (fs 60)
 yT:Mt K "begins" "Night.begins" cW (fs 60) (ds 60) ["self"]
 C7:Meth K C "ends" (fs 61)
 ends:Mt K "ends" "Night.ends" gx (fs 61) (ds 61) ["self"]
 AO:Fn K mg "minutes" kB (fs 62) (ds 62) ["night","crew"]
 AN:Fn K mg "by_side" gI (fs 63) (ds 63) ["standing"]
 jR:Fn K mg "good_standings" dn (fs 64) (ds 64) ["night"]
 iu:Fn K mg "all_crossings" ge (fs 65) (ds 65) ["night"]
 xH:Fn K mg "begun_by" fF (fs 66) (ds 66) ["ways","fewest"]
 lE:Fn K mg "with_one_more" dW (fs 67) (ds 67) ["crossings","fewest"]
 gO:Fn K mg "fewest_minutes" cJ (fs 68) (ds 68) ["crossings","end"]
theorem dE:av ["night","crossings","standing","let"] ["night"] (aj ge):=fk
theorem AF (L:Lk K mg C fs ds) (B:Lp K mg C fs ds) (T:Txt K mg C Z):au P w K mg base be 6 (fs 65) (ds 65) ["night"] (uK P w C):=by
 have oq:=B.jR
 have qg:=L.C0
 have oA:=L.qq
 have B0:=B.AO
 have oH:au P w K mg base be 4 (fs 64) (ds 64) ["night"] (Fa C):=IN B.jR L T B.AN B.m3 B.yT
 have p9:au P w K mg base (yO P w) 5 (fs 15) (ds 15) ["night","standing"] (qL C Z):=x5 L T
 have oG:au P w K mg base be 1 (fs 14) (ds 14) ["standing","crew"] mq:=sh L.qq T
 have Cr:au P w K mg base be 2 (fs 62) (ds 62) ["night","crew"] (r8 C):=zV B.AO T L.bQ L.things
 refine B.iu.fn.ok dE (fun vs H Q E h=>?_) (fun ci A outer s H vs Q E hr h=>?_)
 ·obtain ⟨p,ts,r,qs,rfl,_⟩:=h
  rfl
 ·obtain ⟨p,ts,r,qs,rfl,N,h6,k⟩:=h
  have hu:=hr.units
  refine ⟨_,(ag (sn 1 dE.nd (sC (P:=P) (w:=w) rfl rfl))
   (ag (fA YS rfl (bU (cl oH oq hr ay (aa (pv 0) af))) (gn 2 dE.nd)
   (ag (sn 3 dE.nd (cl p9 qg hr xR (aa (pv 0) (aa (pv 2) af))))
   (ai (zJ (bS rfl (N':=["crew","night","standing"]) (cap:=[none,some 0,some 2]) ⟨rfl,by with_unfolding_all rfl⟩ (bU (pv 3)) (fun _=>(gn 0 (show (["crew","night","standing"]:List Str).Nodup by decide +kernel))) (fun _=>cu) (fun _=>(cM (aa (pv 0) (aa (cl Cr B0 hr ay (aa (pv 1) (aa (pv 0) af))) (aa (cl oG oA hr ay (aa (pv 2) (aa (pv 0) af))) af)))))) (zk (pv 1) (pv 2) (Nh (P:=P) (w:=w) rfl rfl hu))))))
   (ai (aA (G2 (P:=P) (w:=w) rfl rfl (pv 1)))))),?_⟩
  refine fun D0 o0 MT KF=>?_
  have s1:ao H (L2.upd H D0 o0):=ah MT
  generalize L2.upd H D0 o0 = H1 at s1 KF ⊢
  refine ⟨_,rfl,p,ts,r,qs,rfl,N.mono s1,h6,fun lg H2 s2 hG=>?_⟩
  obtain ⟨vg,By,dg⟩:=hG
  have IQ:=aI dg
  have Hc:=jP qs h6
  obtain ⟨x0,e0⟩:=(KF.mono s2).at
  have P0:lg ≠ D0:=fe By e0 (by intro z; cases z)
  have Oi:=s1.trans s2
  have iG:∀ {H':Hp},xl H2 D0 H'->∀ b vs,H2 b = some (.tup vs)->H' b = some (.tup vs):=fun bt b vs e=>bt b _ (fe e e0 (by intro z; cases z)) e
  refine ⟨lg,rfl,⟨_,aZ.of By⟩,eX (K:=K) (a:=lg) (xs:=vg) (fun i σ H'=>ao H H' /\ xl H2 D0 H' /\ (∃ v2 v3,σ = [some (.ref p),some (.ref D0),v2,v3]) /\ ∃ kvs,DW P w H' D0 kvs /\ Paired (t7 H') kvs ((bZ ts r qs).take i))
   ⟨Oi,xl.of (ao.refl _),⟨_,_,rfl⟩,[],KF.mono s2,.nil⟩ (fun i σ H' _ ⟨_,bt,_⟩=>aZ.of (bt _ _ P0 By)) ?_ ?_⟩
  ·rintro i x σ H4 hi ⟨s4,bt,⟨v2,v3,rfl⟩,kvs,dw,pr⟩
   obtain ⟨st,kC,dst⟩:=bH dg hi
   obtain ⟨a,rfl,LG⟩:=eR (C5 (iG bt) dst (jA _))
   obtain ⟨hS,hG⟩:=gD (YE kC)
   have lst:=DR hS h6
   refine ⟨_,rfl,_,rfl,p,a,ts,r,qs,st,rfl,N.mono s4,h6,LG,by omega,fun _ _ l H5 hl s5 hL=>?_,(fun hn=>by rw [hS] at hn; cases hn),(fun _ hn=>by rw [hG] at hn; cases hn)⟩
   have xB:=s4.trans s5
   have LX:=LG.mono s5
   obtain ⟨vl,Rr,dl⟩:=hL
   have lvl:=aI dl
   have cl:=(oR (r:=r) (qs:=qs) hS h6).1
   refine ⟨_,rfl,l,rfl,⟨_,aZ.of Rr⟩,fun D hD=>?_⟩
   refine cR (K:=K) (a:=l) (ys:=vl) (fun j zs H'=>ao H5 H' /\ H' D = some (.lst zs) /\ zs.length = j /\ bW H' (((ck ts r qs st).take j).map Hm) zs)
    ⟨ah hD,ae,rfl,.nil⟩ (fun j zs H' _ ⟨sm,h,_⟩=>⟨h,aZ.of (sm _ _ Rr)⟩) ?_ ?_
   ·rintro j y zs H6 hj ⟨s6,wv,lz,dz⟩
    obtain ⟨c,hc,dc⟩:=bH dl hj
    obtain ⟨o,rfl,ho⟩:=mj dc
    have QR:=(Ys.mp hj).1
    obtain ⟨EQ,CV,cg⟩:=kz (YE hc)
    have VG:c.length <= 6:=Yh EQ.length_le (Yh (gP hS) h6)
    refine ⟨cm.set rfl,?_⟩
    refine ⟨_,rfl,_,rfl,_,rfl,p,o,ts,r,qs,c,rfl,N.mono (xB.trans s6),h6,s6 _ _ ho,by omega,CV,(fun t ht=>mD hS (EQ.subset ht)),fun H7 s7=>?_⟩
    have FV:=s6.trans s7
    refine ⟨_,rfl,_,rfl,a,o,st,c,ts.length,rfl,LX.mono FV,FV _ _ ho,hS,h6,EQ,fun l2 H8 s8 h8=>?_⟩
    have KH:=FV.trans s8
    refine ⟨aH (by show 3 <= _; decide),fun o3 Le=>?_⟩
    have s9:ao H8 (L2.upd H8 o3 (.tup [.ref o,.int (aT ts c),.ref l2])):=ah Le
    have Fq:=(s7.trans s8).trans s9
    have dy:DV (L2.upd H8 o3 (.tup [.ref o,.int (aT ts c),.ref l2])) (Hm (c,aT ts c,behind ts.length st c)) (.ref o3):=Me ae (s9 _ _ (KH _ _ ho)) (h8.mono s9)
    generalize L2.upd H8 o3 (.tup [.ref o,.int (aT ts c),.ref l2]) = H9 at Fq dy ⊢
    have OP:=Fq _ _ wv
    refine ⟨OP,aU (by omega),aq (s6.trans Fq) hD,ae,by simp [lz],?_⟩
    have ew:(ck ts r qs st)[j]? = some (c,aT ts c,behind ts.length st c):=by unfold ck; rw [Yl,hc]; rfl
    rw [Yv,ew,Yd]
    exact (bp OP (dz.mono Fq) (aE xh _)).snoc (dJ OP dy (xh _))
   ·rintro zs H6 ⟨s6,wv,lz,dz⟩
    have lw:(ck ts r qs st).length = vl.length:=by unfold ck; rw [X6,lvl]
    rw [Yj (by omega)] at dz
    have NP:=s5.trans s6
    have Lz:=dw.mono NP
    have hk:kvs.length <= 128:=by
     rw [Zl pr,Yt]
     unfold bZ
     rw [X6]; omega
    have nk:st ∉ kvs.map (·.1):=by
     rw [t7.keys pr,List.map_take,eP]
     exact yQ (rl _ _) kC
    refine ⟨_,rfl,_,rfl,D0,a,st,kvs,rfl,rfl,LX.mono s6,Lz,aU (by omega),fun o' KJ=>?_⟩
    rw [Fg nk] at KJ
    obtain ⟨kl,kt⟩:=Lz.nl (o:=o')
    refine ⟨aq (s4.trans NP) MT,(bt.next NP).upd,⟨_,_,rfl⟩,_,KJ,?_⟩
    have ec:(bZ ts r qs)[i]? = some (st,ck ts r qs st):=by unfold bZ; rw [Yl,kC]; rfl
    rw [Yv,ec]
    refine Paired.snoc (Paired.yJ (t7.mono pr NP) fun _ _ ⟨h1,a',h2,h3⟩=>⟨h1,a',h2,h3.keep kl kt xh⟩) ⟨rfl,D,rfl,LstAt.keep ⟨zs,wv,dz⟩ kl kt xh⟩
  ·rintro σ H4 ⟨s4,bt,⟨v2,v3,rfl⟩,kvs,dw,pr⟩
   have lc:(bZ ts r qs).length = vg.length:=by unfold bZ; rw [X6,IQ]
   rw [Yj (by omega)] at pr
   refine ⟨_,rfl,D0,kvs,rfl,dw,fun o df=>k D0 _ (aq s4 MT) ⟨kvs,df,?_⟩⟩
   obtain ⟨kl,kt⟩:=dw.nl (o:=o)
   exact Paired.yJ pr fun _ _ ⟨h1,a',h2,h3⟩=>⟨h1,a',h2,h3.keep kl kt xh⟩
def sN (P:Program) (w:World):Sp:=fun vs H Q _=>∃ (a d:Addr) (gj:List Wy) (f:Sh.Mp bh),vs = [.ref a,.ref d] /\ LstAt Hm H a gj /\ gj.length <= 1000 /\ DS P w H d (iv f) /\ ∀ l H',H l = none->ao H H'->LstAt Jh H' l (cr f gj)->Q (.ref l) H'
theorem ya:av ["ways","fewest"] ["ways","fewest"] (aj fF):=fk
theorem wX {f:Addr} {fd:FuncData} (F:Fn K mg "begun_by" fF f fd ["ways","fewest"]):au P w K mg base be 1 f fd ["ways","fewest"] (sN P w):=by
 refine F.fn.ok ya (fun vs H Q E h=>?_) (fun ci A outer s H vs Q E hr h=>?_)
 ·obtain ⟨a,d,gj,f,rfl,_⟩:=h
  rfl
 ·obtain ⟨a,d,gj,f,rfl,⟨vw,ha,dv⟩,hl,hd,k⟩:=h
  have hu:=hr.units
  have lw:=aI dv
  refine ⟨_,(ai (aA (bS rfl (N':=["crew","lasts","behind","fewest"]) (cap:=[none,none,none,some 1]) ⟨rfl,by with_unfolding_all rfl⟩ (bU (pv 0)) (fun _=>(tupK (K:=K) (n:=3) rfl rfl (aG (gn 0 (show (["crew","lasts","behind","fewest"]:List Str).Nodup by decide +kernel)) (aG (gn 1 (show (["crew","lasts","behind","fewest"]:List Str).Nodup by decide +kernel)) (aG (gn 2 (show (["crew","lasts","behind","fewest"]:List Str).Nodup by decide +kernel)) di))))) (fun _=>(fY (aD (NR (P:=P) (w:=w) rfl rfl hu) (pv 2) (pv 3) (by with_unfolding_all rfl)))) (fun _=>(cM (aa (bu js (pv 1) (aR (NF (P:=P) (w:=w) rfl rfl hu) (pv 3) (pv 2) (fun _ _=>rfl))) (aa (pv 0) (aa (pv 2) af)))))))),?_⟩
  refine ⟨_,rfl,a,rfl,⟨_,aZ.of ha⟩,fun D hD=>?_⟩
  refine cR (K:=K) (a:=a) (ys:=vw) (fun j zs H'=>ao H H' /\ H' D = some (.lst zs) /\ zs.length <= j /\ bW H' ((cr f (gj.take j)).map Jh) zs)
   ⟨ah hD,ae,YD _,.nil⟩ (fun j zs H' _ ⟨sm,h,_⟩=>⟨h,aZ.of (sm _ _ ha)⟩) ?_ ?_
  ·rintro j y zs H1 hj ⟨s1,At,lz,dz⟩
   obtain ⟨x,hx,dx⟩:=bH (dv.mono s1) hj
   have QR:=(Ys.mp hj).1
   obtain ⟨o,b,c,rfl,ho,hb,hc⟩:=Dj dx
   refine ⟨o,_,rfl,bK.of ho,rfl,_,_,rfl,_,_,rfl,_,_,rfl,rfl,(cm.set rfl).trans ((cm.set rfl).trans (cm.set rfl)),?_⟩
   refine ⟨_,rfl,_,rfl,d,c,x.2.2,iv f,rfl,rfl,hc,hd.mono s1,_,rfl,?_⟩
   rw [jp,Zo]
   have et:gj.take (j + 1) = gj.take j ++ [x]:=by rw [Yv,hx]; rfl
   refine bv (fun h1=>?_) (fun h1=>?_)
   ·have cV:(Sh.lk f x.2.2).isSome = true:=h1
    obtain ⟨v,hv⟩:=ZG.mp cV
    refine ⟨_,rfl,_,rfl,_,rfl,d,c,x.2.2,iv f,.int v,rfl,rfl,hc,hd.mono s1,by rw [jp,hv]; rfl,_,_,rfl,rfl,_,rfl,_,rfl,aH (by show 3 <= _; decide),fun o3 Le=>?_⟩
    have s2:ao H1 (L2.upd H1 o3 (.tup [.int (x.2.1 + v),.ref b,.ref c])):=ah Le
    have rJ:=s2 _ _ At
    have dy:DV (L2.upd H1 o3 (.tup [.int (x.2.1 + v),.ref b,.ref c])) (Jh (x.2.1 + v,x.1,x.2.2)) (.ref o3):=Lx ae (s2 _ _ hb) (hc.mono s2)
    refine ⟨rJ,aU (by omega),aq (s1.trans s2) hD,ae,by simp; omega,?_⟩
    have eb:cr f (gj.take (j + 1)) = cr f (gj.take j) ++ [(x.2.1 + v,x.1,x.2.2)]:=by
     unfold cr
     rw [et,YC,YJ,if_pos cV,Yd]
     simp [hv]
    rw [eb,Yd]
    exact (bp rJ (dz.mono s2) (aE IA _)).snoc (dJ rJ dy (IA _))
   ·have cV:(Sh.lk f x.2.2).isSome = false:=h1
    refine ⟨s1,At,by omega,?_⟩
    have eb:cr f (gj.take (j + 1)) = cr f (gj.take j):=by
     unfold cr
     rw [et,YC,YJ,if_neg (by rw [cV]; simp)]
     simp
    rw [eb]
    exact dz
  ·rintro zs H1 ⟨s1,At,lz,dz⟩
   rw [Yj (by omega)] at dz
   exact k D H1 hD s1 ⟨zs,At,dz⟩
end
theorem BF {b:Bool} {D:Ends} {t1 t2:TS} {σ:L2.St} {H:Hp} (M:L2.St->Hp->Prop) (hM:∀ σ H,M σ H->D.nx σ H) (h:(∀ σ H,M σ H->D.nx σ H)->if b = true then t1 D σ H else t2 D σ H):if b = true then t1 D σ H else t2 D σ H:=h hM
structure KY (f:Sh.Mp bh):Prop where
 nd:(f.map (·.1)).Nodup
 all:∀ k ∈ f.map (·.1),k ∈ gc
 len:f.length <= 1000
theorem KY.hash {P:Program} {w:World} {f:Sh.Mp bh} (h:KY f):rX P w (iv f):=by
 have e:(iv f).map (·.1) = f.map (·.1):=by unfold iv; rw [YQ]; rfl
 refine B7 (by rw [e]; exact h.nd) fun p hp=>h.all _ ?_
 rw [<- e]; exact Y0 (f:=fun x:bM × V=>x.1) hp
structure Qm (cs:List (bh × List Wy)):Prop where
 all:∀ k ∈ cs.map (·.1),k ∈ gc
 len:cs.length <= 200
 gj:∀ c ∈ cs,c.2.length <= 1000
theorem Hs {cs us:List (bh × List Wy)} {f:Sh.Mp bh} (hs:∀ c ∈ us,c ∈ cs) (hc:Qm cs) (hf:(f.map (·.1)).Nodup) (ha:∀ k ∈ f.map (·.1),k ∈ gc):KY (us.foldl (Sh.dH f) f):=by
 obtain ⟨h1,h2⟩:=Sh.gW us f hf
 have all:∀ k ∈ (us.foldl (Sh.dH f) f).map (·.1),k ∈ gc:=fun k hk=>by
  rcases h2 k hk with z | z
  ·exact ha k z
  ·obtain ⟨c,yC,rfl⟩:=YI.mp z
   exact hc.all _ (Y0 (f:=fun x:bh × List Wy=>x.1) (hs c yC))
 refine ⟨h1,all,?_⟩
 have:=Sh.sub_len h1 all
 rw [X6] at this
 have e:gc.length = 128:=by decide +kernel
 omega
theorem K7 {ts:List Th} {r:Int} {qs:List Qu} (h6:ts.length <= 6):Qm (bZ ts r qs) where
 all:=by rw [eP]; exact fun k hk=>E6 (gD hk).1 h6
 len:=by unfold bZ; rw [X6]; have:=jP qs h6; omega
 gj:=fun c hc=>by
  unfold bZ at hc
  obtain ⟨st,h1,rfl⟩:=YI.mp hc
  show (ck ts r qs st).length <= 1000
  unfold ck
  rw [X6]
  exact (oR (gD h1).1 h6).1
theorem yk {ts:List Th} {r:Int} {qs:List Qu} {f:Sh.Mp bh} (h6:ts.length <= 6) (h:Sh.tH (vo ts r qs) b8 (cA qs ts.length) f):KY f:=by
 have all:∀ k ∈ f.map (·.1),k ∈ gc:=fun k hk=>by
  rcases h.keys k hk with z | z
  ·rw [z]; decide +kernel
  ·exact E6 (gD z).1 h6
 refine ⟨h.nd,all,?_⟩
 have:=Sh.sub_len h.nd all
 rw [X6] at this
 have e:gc.length = 128:=by decide +kernel
 omega
section
variable {P:Program} {w:World} {K:aaG} {mg:Str->Option Value} {base:Heap} {C:Addr} {Z:Ad} {fs:Nat->Addr} {ds:Nat->FuncData}
def Ak (P:Program) (w:World):Sp:=fun vs H Q _=>∃ (a d:Addr) (cs:List (bh × List Wy)) (f:Sh.Mp bh),vs = [.ref a,.ref d] /\ xu P w H a cs /\ DS P w H d (iv f) /\ KY f /\ Qm cs /\ ∀ l H',H l = none->ao H H'->DW P w H' l (iv (Sh.oneMore cs f))->Q (.ref l) H'
theorem cE:av ["crossings","fewest","longer","standing","ways","totals"] ["crossings","fewest"] (aj dW):=fk
theorem FM {f f1:Addr} {fd eC:FuncData} (F:Fn K mg "with_one_more" dW f fd ["crossings","fewest"]) (gX:Fn K mg "begun_by" fF f1 eC ["ways","fewest"]) (T:Txt K mg C Z):au P w K mg base be 2 f fd ["crossings","fewest"] (Ak P w):=by
 have lW:au P w K mg base be 1 f1 eC ["ways","fewest"] (sN P w):=wX gX
 refine F.fn.ok cE (fun vs H Q E h=>?_) (fun ci A outer s H vs Q E hr h=>?_)
 ·obtain ⟨a,d,cs,f,rfl,_⟩:=h
  rfl
 ·obtain ⟨a,d,cs,f,rfl,⟨kvs,⟨hz,O0,ob,xs,pL,ks⟩,pr⟩,hd,om,oc,k⟩:=h
  have hu:=hr.units
  have lk:=Zl pr
  refine ⟨_,(ag (sn 2 cE.nd (aO (yW (P:=P) (w:=w) rfl rfl) (by rfl) T.Ju boot_dict (aa (pv 1) af)))
   (ag (fA YS rfl (Bw (P:=P) (w:=w) rfl rfl (pv 0)) (jk rfl (aG (gn 3 cE.nd) (aG (gn 4 cE.nd) di)))
   (ag (vx (j:=5) rfl (N':=["total","crew","behind"]) (cap:=[none,none,none]) ⟨rfl,by with_unfolding_all rfl⟩ (bU (cl lW gX hr ay (aa (pv 4) (aa (pv 1) af)))) (fun _=>(tupK (K:=K) (n:=3) rfl rfl (aG (gn 0 (show (["total","crew","behind"]:List Str).Nodup by decide +kernel)) (aG (gn 1 (show (["total","crew","behind"]:List Str).Nodup by decide +kernel)) (aG (gn 2 (show (["total","crew","behind"]:List Str).Nodup by decide +kernel)) di))))) (fun _=>cu) (fun _=>(pv 0)) cE.nd (by rfl) (by rfl) (by with_unfolding_all rfl))
   (ag (bL (aD (NR (P:=P) (w:=w) rfl rfl hu) (pv 3) (pv 1) (by with_unfolding_all rfl))
   (ai (cp (fc Zv Z2 Z1 dm (pv 5) (aa (aR (NF (P:=P) (w:=w) rfl rfl hu) (pv 1) (pv 3) (fun _ _=>rfl)) af))))
   aM)
   (ai (bL (xx (pv 5) (by intro _; rfl))
   (ai (zJ (aV (Bq rfl) (by rfl) T.ID boot_min (aa (pv 5) af)) (zk (pv 2) (pv 3) (Nh (P:=P) (w:=w) rfl rfl hu))))
   aM)))))
   (ai (aA (pv 2))))),?_⟩
  refine ⟨_,rfl,d,iv f,rfl,hd,om.hash,fun l0 o0 yz KF=>?_⟩
  have s1:ao H (L2.upd H l0 o0):=ah yz
  generalize L2.upd H l0 o0 = H1 at s1 KF ⊢
  refine ⟨_,rfl,a,ob,xs,kvs.map (·.2),rfl,O0,s1 _ _ pL,ks.vals,Cm (P:=P) (w:=w) (o:=ob) (d:=a) (xs:=xs) (kvs:=kvs) (fun i σ H'=>ao H H' /\ (∃ v3 v4 v5,σ = [some (.ref a),some (.ref d),some (.ref l0),v3,v4,v5]) /\ DW P w H' l0 (iv ((cs.take i).foldl (Sh.dH f) f)))
   ⟨s1,⟨_,_,_,rfl⟩,KF⟩ (fun i σ H' _ ⟨sm,_⟩=>⟨sm _ _ pL,ks.mono fun _ _=>sm _ _⟩) ?_ ?_⟩
  ·rintro i key y b p σ H2 hi kb hp ⟨s2,⟨v3,v4,v5,rfl⟩,dw⟩
   obtain ⟨wy,aw,hc,rfl,hL⟩:=t7.at pr hi
   have ow:=oc.gj _ (YE hc)
   have s3:ao H2 (L2.upd H2 p (.tup [.ref b,.ref aw])):=ah hp
   have e3:(L2.upd H2 p (.tup [.ref b,.ref aw])) p = some (.tup [.ref b,.ref aw]):=ae
   generalize L2.upd H2 p (.tup [.ref b,.ref aw]) = H3 at s3 e3 ⊢
   have n4:=s2.trans s3
   refine ⟨p,_,rfl,bK.of e3,rfl,_,_,rfl,_,_,rfl,rfl,?_⟩
   refine ⟨_,rfl,_,rfl,aw,d,wy,f,rfl,hL.mono n4,ow,hd.mono n4,fun lb H4 FY s4 hB=>?_⟩
   obtain ⟨vb,RP,db⟩:=hB
   have X2:=aI db
   have Wo:(cr f wy).length <= 1000:=by
    unfold cr
    rw [X6]
    exact Yh (Yy _ _) ow
   refine ⟨lb,rfl,⟨_,aZ.of RP⟩,fun D hD=>?_⟩
   refine cR (K:=K) (a:=lb) (ys:=vb) (fun j zs H'=>ao H4 H' /\ H' D = some (.lst zs) /\ zs = (((cr f wy).take j).map (·.1)).map V.int)
    ⟨ah hD,ae,rfl⟩ (fun j zs H' _ ⟨sm,h,_⟩=>⟨h,aZ.of (sm _ _ RP)⟩) ?_ ?_
   ·rintro j y zs H5 hj ⟨s5,m9,rfl⟩
    obtain ⟨x,hx,dx⟩:=bH (db.mono s5) hj
    obtain ⟨o,b1,c1,rfl,ho,C8,Vn⟩:=yR dx
    refine ⟨o,_,rfl,bK.of ho,rfl,_,_,rfl,_,_,rfl,_,_,rfl,rfl,(cm.set rfl).trans ((cm.set rfl).trans (cm.set rfl)),?_⟩
    refine ⟨_,rfl,m9,aU (by simp; omega),aq s5 hD,ae,?_⟩
    rw [Yv,hx,Yd,Yd]
    rfl
   ·rintro zs H5 ⟨s5,m9,rfl⟩
    rw [Yj (by omega),qx] at m9
    have N5:=s3.trans (s4.trans s5)
    have xB:=s2.trans N5
    have Op:lj H5 key b:=kb.mono fun _ _=>N5 _ _
    have MT:H D = none:=(n4.trans s4).free hD
    have Xw:(Sh.B8 f wy).length <= 1000:=by rw [<- qx,X6]; exact Wo
    have fo:(cs.take (i + 1)).foldl (Sh.dH f) f = Sh.dH f ((cs.take i).foldl (Sh.dH f) f) (key,wy):=by
     rw [Yv,hc,List.foldl_append]; rfl
    have lL:(iv ((cs.take i).foldl (Sh.dH f) f)).length <= 1000:=by
     unfold iv
     rw [X6]
     exact (Hs (fun c hc=>Zt hc) oc om.nd om.all).len
    refine ⟨_,rfl,_,rfl,d,b,key,iv f,rfl,rfl,Op,hd.mono xB,_,rfl,?_⟩
    rw [jp,Zo]
    refine BF (fun σ H'=>σ = [some (.ref a),some (.ref d),some (.ref l0),some (.ref b),some (.ref aw),some (.ref D)] /\ ao H H' /\ DW P w H' l0 (iv ((cs.take i).foldl (Sh.dH f) f)) /\ lj H' key b /\ H' D = some (.lst ((Sh.hX f (key,wy)).map V.int))) ?_ (fun fin=>?_)
    ·rintro σ H6 ⟨rfl,s6,Lz,SI,wv⟩
     refine ⟨_,rfl,_,.inl ⟨_,aZ.of wv,rfl⟩,?_⟩
     refine bv (fun h2=>?_) (fun h2=>?_)
     ·have ne:Sh.hX f (key,wy) ≠ []:=fun z=>by rw [z] at h2; cases h2
      refine ⟨_,rfl,D,Sh.hX f (key,wy),rfl,aZ.of wv,ne,fun m hm hle=>⟨_,rfl,_,rfl,l0,b,key,_,rfl,rfl,SI,Lz,aU (by omega),fun o' KJ=>?_⟩⟩
      refine ⟨aq s6 yz,⟨_,_,_,rfl⟩,?_⟩
      rw [fo]
      unfold Sh.dH
      rw [if_neg ne,<- Sh.G3 hm hle,<- GQ]
      exact KJ
     ·have ez:Sh.hX f (key,wy) = []:=by
       cases q:Sh.hX f (key,wy) with
       | nil=>rfl
       | cons x l=>rw [q] at h2; cases h2
      refine ⟨s6,⟨_,_,_,rfl⟩,?_⟩
      rw [fo]
      unfold Sh.dH
      rw [if_pos ez]
      exact Lz
    ·refine bv (fun h1=>?_) (fun h1=>?_)
     ·have cV:(Sh.lk f key).isSome = true:=h1
      obtain ⟨v,hv⟩:=ZG.mp cV
      refine ⟨_,rfl,.inl ⟨rfl,_,aZ.of m9⟩,_,rfl,_,rfl,d,b,key,iv f,.int v,rfl,rfl,Op,hd.mono xB,by rw [jp,hv]; rfl,D,_,_,rfl,rfl,m9,aU (by rw [X6]; omega),?_⟩
      refine fin _ _ ⟨rfl,aq xB MT,(dw.mono N5).IS m9,Op.mono (fun b' Dc e=>by rw [am (fe e m9 (by intro z; cases z))]; exact e),?_⟩
      rw [ae]
      unfold Sh.hX
      rw [hv,Yd]
      rfl
     ·have cV:Sh.lk f key = none:=by
       cases q:Sh.lk f key with
       | none=>rfl
       | some v=>rw [q] at h1; cases h1
      refine fin _ _ ⟨rfl,xB,dw.mono N5,Op,?_⟩
      unfold Sh.hX
      rw [cV,m9]
      simp
  ·rintro σ H2 ⟨s2,⟨v3,v4,v5,rfl⟩,dw⟩
   rw [Yj (by omega)] at dw
   exact ⟨_,rfl,k l0 H2 yz s2 dw⟩
def zr (P:Program) (w:World):Sp:=fun vs H Q _=>∃ (a b:Addr) (ts:List Th) (r:Int) (qs:List Qu),vs = [.ref a,.ref b] /\ xu P w H a (bZ ts r qs) /\ dI H b b8 /\ zU ts /\ ∀ l H' f,H l = none->ao H H'->Bp ts r qs f->DW P w H' l (iv f)->Q (.ref l) H'
theorem cx:av ["crossings","end","fewest","longer"] ["crossings","end"] (aj cJ):=fk
theorem De (B:Lp K mg C fs ds) (T:Txt K mg C Z):au P w K mg base be 3 (fs 68) (ds 68) ["crossings","end"] (zr P w):=by
 have pX:=B.lE
 have pR:au P w K mg base be 2 (fs 67) (ds 67) ["crossings","fewest"] (Ak P w):=FM B.lE B.xH T
 refine B.gO.fn.ok cx (fun vs H Q E h=>?_) (fun ci A outer s H vs Q E hr h=>?_)
 ·obtain ⟨a,b,ts,r,qs,rfl,_⟩:=h
  rfl
 ·obtain ⟨a,b,ts,r,qs,rfl,hC,he,ok,k⟩:=h
  have hu:=hr.units
  have h6:=ok.l6
  have nd:((bZ ts r qs).map (·.1)).Nodup:=by rw [eP]; exact rl _ _
  have oc:=K7 (r:=r) (qs:=qs) h6
  obtain ⟨tC,TM,rC⟩:∃ t0,v8 (bX P w K mg base ["crossings","end","fewest","longer"] "fewest_minutes" cJ (fs 68) ci A outer s H E) ((cD cJ).drop 2) t0 /\ ∀ (H2:Hp) (D1 D2:Addr) (lg:Sh.Mp bh),ao H H2->DW P w H2 D1 (iv [])->DW P w H2 D2 (iv lg)->H D1 = none->H D2 = none ->
    ((b8 ∈ cA qs ts.length /\ lg = [(b8,0)]) \/ (b8 ∉ cA qs ts.length /\ lg = []))->t0 (bD Q) [some (.ref a),some (.ref b),some (.ref D1),some (.ref D2)] H2:=by
   refine ⟨_,(ag (rQ YS (aD (TV (P:=P) (w:=w) rfl rfl hu) (pv 3) (pv 2) (aY _))
   (ag (sn 2 cx.nd (pv 3))
   (ai (sn 3 cx.nd (cl pR pX hr ay (aa (pv 0) (aa (pv 2) af)))))))
   (ai (aA (pv 2)))),fun H2 D1 D2 lg s2 Il Ft n1 n2 Vu=>?_⟩
   obtain ⟨n,hn⟩:∃ n,b8 ∈ cA qs ts.length->Sh.eqB (Sh.oneMore (bZ ts r qs) (Sh.it (Sh.oneMore (bZ ts r qs)) n [(b8,0)])) (Sh.it (Sh.oneMore (bZ ts r qs)) n [(b8,0)]) = true:=by
    by_cases e:b8 ∈ cA qs ts.length
    ·obtain ⟨n,hn⟩:=Sh.Dm (e:=b8) nd tells (later ok) (by rw [eP]; exact e)
     exact ⟨n,fun _=>hn⟩
    ·exact ⟨0,fun z=>absurd z e⟩
   have GG:∀ i,Sh.tH (vo ts r qs) b8 (cA qs ts.length) (Sh.it (Sh.oneMore (bZ ts r qs)) i [(b8,0)]):=fun i=>by
    have:=Sh.E7 (P:=Sh.tH (vo ts r qs) b8 ((bZ ts r qs).map (·.1))) (fun x h=>Sh.nE nd tells h) i [(b8,0)] (Sh.qS _)
    rwa [eP] at this
   refine ⟨fun m σ H'=>ao H H' /\ ∃ d1 d2 fw lw,σ = [some (.ref a),some (.ref b),some (.ref d1),some (.ref d2)] /\ H d1 = none /\ H d2 = none /\ DW P w H' d1 (iv fw) /\ DW P w H' d2 (iv lw) /\
     ((b8 ∈ cA qs ts.length /\ ((fw = [] /\ lw = [(b8,0)] /\ m = n + 1) \/ ∃ i,i + m = n /\ fw = Sh.it (Sh.oneMore (bZ ts r qs)) i [(b8,0)] /\ lw = Sh.it (Sh.oneMore (bZ ts r qs)) (i + 1) [(b8,0)])) \/ (b8 ∉ cA qs ts.length /\ fw = [] /\ lw = [])),
    ⟨n + 1,s2,D1,D2,[],lg,rfl,n1,n2,Il,Ft,?_⟩,?_⟩
   ·rcases Vu with ⟨e1,e2⟩ | ⟨e1,e2⟩
    ·exact .inl ⟨e1,.inl ⟨rfl,e2,rfl⟩⟩
    ·exact .inr ⟨e1,rfl,e2⟩
   rintro m σ H3 ⟨s3,d1,d2,fw,lw,rfl,n1,n2,Il,Ft,hc⟩
   refine ⟨_,rfl,_,rfl,d2,d1,lw,fw,rfl,rfl,Ft.ds,Il.ds,_,rfl,?_⟩
   refine bv (fun h1=>?_) (fun h1=>?_)
   ·have cV:Sh.eqB lw fw = false:=by
     have:(!Sh.eqB lw fw) = true:=h1
     simpa using this
    have om:KY lw:=by
     rcases hc with ⟨_,⟨_,e,_⟩ | ⟨i,_,_,e⟩⟩ | ⟨_,e1,e2⟩
     ·rw [e]; exact yk h6 (GG 0)
     ·rw [e]; exact yk h6 (GG (i + 1))
     ·rw [e1,e2] at cV; cases cV
    refine ⟨fun σ' H'=>ao H H' /\ ∃ d3,σ' = [some (.ref a),some (.ref b),some (.ref d2),some (.ref d3)] /\ H d3 = none /\ DW P w H' d2 (iv lw) /\ DW P w H' d3 (iv (Sh.oneMore (bZ ts r qs) lw)),?_,?_⟩
    ·rintro σ' H' ⟨s',d3,rfl,n3,Mi,LM⟩
     rcases hc with ⟨e,⟨_,e2,em⟩ | ⟨i,Vs,e1,e2⟩⟩ | ⟨_,e1,e2⟩
     ·exact ⟨n,by omega,s',d2,d3,lw,_,rfl,n2,n3,Mi,LM,.inl ⟨e,.inr ⟨0,Nat.zero_add _,e2,by rw [e2]; rfl⟩⟩⟩
     ·have ne:i ≠ n:=fun z=>by
       have:=hn e
       rw [<- z] at this
       have P6:lw = Sh.oneMore (bZ ts r qs) (Sh.it (Sh.oneMore (bZ ts r qs)) i [(b8,0)]):=e2
       rw [e1,P6,this] at cV
       cases cV
      exact ⟨m - 1,by omega,s',d2,d3,lw,_,rfl,n2,n3,Mi,LM,.inl ⟨e,.inr ⟨i + 1,by omega,e2,by rw [e2]; rfl⟩⟩⟩
     ·rw [e1,e2] at cV; cases cV
    ·refine ⟨_,rfl,_,rfl,_,rfl,a,d2,bZ ts r qs,lw,rfl,hC.mono s3,Ft.ds,om,oc,fun l H4 hl s4 VH=>?_⟩
     exact ⟨s3.trans s4,l,rfl,s3.free hl,Ft.mono s4,VH⟩
   ·have cV:Sh.eqB lw fw = true:=by
     have:(!Sh.eqB lw fw) = false:=h1
     simpa using this
    refine ⟨_,rfl,k d1 H3 fw n1 s3 ?_ Il⟩
    rcases hc with ⟨e,⟨e1,e2,em⟩ | ⟨i,Vs,e1,e2⟩⟩ | ⟨e,e1,e2⟩
    ·rw [e1,e2] at cV; cases cV
    ·refine ⟨fun _=>⟨by rw [e1]; exact GG i,?_⟩,fun z=>absurd e z⟩
     have P6:lw = Sh.oneMore (bZ ts r qs) (Sh.it (Sh.oneMore (bZ ts r qs)) i [(b8,0)]):=e2
     rw [e1,P6] at cV
     rw [e1]
     exact Sh.yU (e:=b8) nd tells (by rw [eP]; exact GG i) cV
    ·exact ⟨fun z=>absurd z e,fun _=>e1⟩
  refine ⟨_,(ag (sn 2 cx.nd (sC (P:=P) (w:=w) rfl rfl))
   (ag (sn 3 cx.nd (m6 (aD (NR (P:=P) (w:=w) rfl rfl hu) (pv 1) (pv 0) (by with_unfolding_all rfl)) (Bm (P:=P) (w:=w) rfl rfl hu (pv 1) ak) (sC (P:=P) (w:=w) rfl rfl)))
   TM)),?_⟩
  refine fun D1 o1 At Il=>?_
  have s1:ao H (L2.upd H D1 o1):=ah At
  generalize L2.upd H D1 o1 = H1 at s1 Il ⊢
  obtain ⟨kvs,df,pr⟩:=id (hC.mono s1)
  have ek:=t7.keys pr
  rw [eP] at ek
  refine ⟨_,rfl,_,rfl,a,b,b8,kvs,rfl,rfl,he.mono s1,df.ds,_,rfl,?_⟩
  refine bv (fun h1=>?_) (fun h1=>?_)
  ·have e:b8 ∈ cA qs ts.length:=by
    rw [<- ek]
    refine Classical.byContradiction fun z=>?_
    have cV:(cX kvs b8).isSome = true:=h1
    rw [uw z] at cV
    cases cV
   refine fun D2 o2 rJ Ft=>?_
   have s2:ao H1 (L2.upd H1 D2 o2):=ah rJ
   generalize L2.upd H1 D2 o2 = H2 at s2 Ft ⊢
   refine ⟨_,rfl,b,b8,rfl,(he.mono s1).mono s2,Ft,fun o' KJ=>?_⟩
   have s3:ao H1 (L2.upd H2 D2 o'):=aq s2 rJ
   exact rC _ D1 D2 [(b8,0)] (s1.trans s3) (Il.mono s3) KJ At (s1.free rJ) (.inl ⟨e,rfl⟩)
  ·have e:b8 ∉ cA qs ts.length:=fun z=>by
    rw [<- ek] at z
    have cV:(cX kvs b8).isSome = false:=h1
    rw [tP z] at cV
    cases cV
   refine fun D2 o2 rJ Ft=>?_
   have s2:ao H1 (L2.upd H1 D2 o2):=ah rJ
   exact rC _ D1 D2 [] (s1.trans s2) (Il.mono s2) Ft At (s1.free rJ) (.inr ⟨e,rfl⟩)
end
def DE:Option Int->PyData
 | none=>.none
 | some i=>.int i
def oV:Option Int->V
 | none=>.cP
 | some i=>.int i
theorem Q0 {H:Hp} (x:Option Int):DV H (DE x) (oV x):=by cases x with
 | none=>exact .cP
 | some i=>exact .int i
theorem Lq {f:Sh.Mp bh} {k:bM}:(cX (iv f) k).getD .cP = oV (Sh.lk f k):=by
 rw [jp]
 cases Sh.lk f k <;> rfl
abbrev Hg:=bh × Option Int
def C9 (x:Hg):PyData:=.tuple [hV x.1,DE x.2]
theorem HD (x:Hg):fZ (C9 x) = true:=by
 obtain ⟨s,o⟩:=x
 show de [hV s,DE o] = true
 simp only [de,Bool.and_true,jA]
 cases o <;> rfl
theorem Ms {H:Hp} {x:Hg} {a b:Addr} (h:H a = some (.tup [.ref b,oV x.2])) (hb:dI H b x.1):DV H (C9 x) (.ref a):=.tup h (.cons hb.dv (.cons (Q0 _) .nil))
def pT (ts:List Th) (qs:List Qu) (f:Sh.Mp bh):List Hg:=(cA qs ts.length).map fun st=>(st,Sh.lk f st)
section
variable {P:Program} {w:World} {K:aaG} {mg:Str->Option Value} {base:Heap} {C:Addr} {Z:Ad} {fs:Nat->Addr} {ds:Nat->FuncData}
def rK (C:Addr):Sp:=fun vs H Q _=>∃ (p:Addr) (ts:List Th) (r:Int) (qs:List Qu),vs = [.ref p] /\ aX C H p ts r qs /\ zU ts /\ ∀ l H' f,H l = none->ao H H'->Bp ts r qs f->LstAt C9 H' l (pT ts qs f)->Q (.ref l) H'
theorem mh:av ["night","crossings","fewest"] ["night"] (aj kK):=fk
theorem yK {f:Addr} {fd:FuncData} (F:Fn K mg "heights" kK f fd ["night"]) (L:Lk K mg C fs ds) (B:Lp K mg C fs ds) (T:Txt K mg C Z):au P w K mg base be 7 f fd ["night"] (rK C):=by
 have gh:=B.iu
 have fI:=B.gO
 have gr:=B.ends
 have gH:=B.C7
 have gg:au P w K mg base be 6 (fs 65) (ds 65) ["night"] (uK P w C):=AF L B T
 have fj:au P w K mg base be 3 (fs 68) (ds 68) ["crossings","end"] (zr P w):=De B T
 have gv:au P w K mg base be 1 (fs 61) (ds 61) ["self"] sv:=yf B.ends
 refine F.fn.ok mh (fun vs H Q E h=>?_) (fun ci A outer s H vs Q E hr h=>?_)
 ·obtain ⟨p,ts,r,qs,rfl,_⟩:=h
  rfl
 ·obtain ⟨p,ts,r,qs,rfl,N,ok,k⟩:=h
  have hu:=hr.units
  have h6:=ok.l6
  obtain ⟨dx,t,q,hp,_,_⟩:=id N.ex
  refine ⟨_,(ag (sn 1 mh.nd (cl gg gh hr ay (aa (pv 0) af)))
   (ag (sn 2 mh.nd (cl fj fI hr ay (aa (pv 1) (aa (bP (pv 0) T.aN gH gv (hr.mono (by decide)) gr.b .nil ay) af))))
   (ai (aA (bS rfl (N':=["standing","fewest"]) (cap:=[none,some 2]) ⟨rfl,by with_unfolding_all rfl⟩ (Eg (P:=P) (w:=w) rfl rfl (pv 1)) (fun _=>(gn 0 (show (["standing","fewest"]:List Str).Nodup by decide +kernel))) (fun _=>cu) (fun _=>(cM (aa (pv 0) (aa (GF (P:=P) (w:=w) rfl rfl hu (pv 1) (aa (pv 0) af)) af))))))))),?_⟩
  refine ⟨_,rfl,p,ts,r,qs,rfl,N,h6,fun lc H1 s1 hC=>?_⟩
  refine ⟨_,rfl,_,rfl,p,dx,_,rfl,s1 _ _ hp,rfl,p,rfl,fun le H2 s2 he=>?_⟩
  obtain ⟨_,e,he⟩:=eR (st:=b8) he
  cases e
  refine ⟨lc,le,ts,r,qs,rfl,hC.mono s2,he,ok,fun lf H3 f OD s3 fw dw=>?_⟩
  have Wm:=(hC.mono s2).mono s3
  obtain ⟨kvs,⟨hz,O0,ob,xs,pL,ks⟩,pr⟩:=id Wm
  have lk:=Zl pr
  have ek:=t7.keys pr
  rw [eP] at ek
  have Hc:=jP qs h6
  have XN:kvs.length = (cA qs ts.length).length:=by rw [<- ek,X6]
  refine ⟨_,rfl,lc,ob,xs,rfl,O0,pL,fun D hD=>?_⟩
  refine CA (P:=P) (w:=w) (o:=ob) (d:=lc) (kxs:=xs) (kvs:=kvs) (fun j zs H'=>ao H3 H' /\ H' D = some (.lst zs) /\ zs.length = j /\ bW H' (((pT ts qs f).take j).map C9) zs)
   ⟨ah hD,ae,rfl,.nil⟩ (fun j zs H' _ ⟨sm,h,_⟩=>⟨h,sm _ _ pL,ks.mono fun _ _=>sm _ _⟩) ?_ ?_
  ·rintro j key y b zs H4 hj kb ⟨s4,Iy,lz,dz⟩
   have QR:=(Ys.mp hj).1
   refine ⟨cm.set rfl,?_⟩
   refine ⟨_,rfl,_,rfl,⟨lf,_,rfl,(dw.mono s4).ds⟩,_,rfl,lf,b,key,_,rfl,rfl,kb,(dw.mono s4).ds,?_⟩
   rw [Lq]
   refine ⟨aH (by show 2 <= _; decide),fun o ho=>?_⟩
   have s5:ao H4 (L2.upd H4 o (.tup [.ref b,oV (Sh.lk f key)])):=ah ho
   have m9:=s5 _ _ Iy
   have dy:DV (L2.upd H4 o (.tup [.ref b,oV (Sh.lk f key)])) (C9 (key,Sh.lk f key)) (.ref o):=Ms ae (dI.mono kb s5)
   refine ⟨m9,aU (by omega),aq (s4.trans s5) hD,ae,by simp [lz],?_⟩
   have eh:(pT ts qs f)[j]? = some (key,Sh.lk f key):=by
    unfold pT
    rw [Yl,<- ek,Yl,hj]
    rfl
   rw [Yv,eh,Yd]
   exact (bp m9 (dz.mono s5) (aE HD _)).snoc (dJ m9 dy (HD _))
  ·rintro zs H4 ⟨s4,Iy,lz,dz⟩
   rw [Yj (by unfold pT; rw [X6]; omega)] at dz
   have vh:=s1.trans (s2.trans s3)
   exact k D H4 f (vh.free hD) (vh.trans s4) fw ⟨zs,Iy,dz⟩
end
theorem dI.IS {H:Hp} {a D:Addr} {st:bh} {o:HO} {ys:List V} (h:dI H a st) (hD:H D = some (.lst ys)):dI (L2.upd H D o) a st:=by
 obtain ⟨b,h1,h2⟩:=h
 exact ⟨b,by rw [am (fe h1 hD (by intro z; cases z))]; exact h1,by rw [am (fe h2 hD (by intro z; cases z))]; exact h2⟩
theorem J6 (l:List bh) (s:bh):((l.map hV).any fun e=>PyData.eqv e (hV s)) = decide (s ∈ l):=by
 rw [List.any_map,aad,decide_eq_true_eq,List.any_eq_true]
 constructor
 ·rintro ⟨x,hx,h⟩
  have h':PyData.eqv (hV x) (hV s) = true:=h
  rw [zH] at h'
  rw [<- YA h']; exact hx
 ·intro h
  refine ⟨s,h,?_⟩
  show PyData.eqv (hV s) (hV s) = true
  rw [zH]; exact Yi rfl
theorem C1 {H:Hp} {kvs:List (bM × V)} {ts:List Th} {r:Int} {qs:List Qu} (pr:Paired (t7 H) kvs (bZ ts r qs)) {b:bh} (hb:b ∈ cA qs ts.length):∃ aw,cX kvs b = some (.ref aw) /\ LstAt Hm H aw (ck ts r qs b):=by
 have ek:=t7.keys pr
 rw [eP] at ek
 have hs:(cX kvs b).isSome = true:=tP (by rw [ek]; exact hb)
 obtain ⟨y,hy⟩:=ZG.mp hs
 have gL:=hy
 unfold cX at gL
 obtain ⟨p,hp,e⟩:=YU.mp gL
 have hk:p.1 = b:=by have:=List.find?_some hp; simpa using this
 obtain ⟨i,hi⟩:=aaf.mp (List.mem_of_find?_eq_some hp)
 obtain ⟨p1,p2⟩:=p
 have hk:p1 = b:=hk
 subst hk
 obtain ⟨wy,aw,h1,h2,h3⟩:=t7.at pr hi
 have e:p2 = y:=e
 subst e
 refine ⟨aw,by rw [hy,h2],?_⟩
 unfold bZ at h1
 rw [Yl,YU] at h1
 obtain ⟨st,_,e2⟩:=h1
 injection e2 with e3 e4
 rw [<- e4,e3] at h3
 exact h3
theorem uC {ts:List Th} {r:Int} {qs:List Qu} {f:Sh.Mp bh} {b:bh} {x:Bg}:x ∈ cr f (ck ts r qs b) ↔ ∃ c ∈ bi ts r qs b,∃ u,Sh.lk f (behind ts.length b c) = some u /\ x = (aT ts c + u,c,behind ts.length b c):=by
 unfold cr ck
 rw [YI]
 constructor
 ·rintro ⟨y,hy,rfl⟩
  obtain ⟨h1,h2⟩:=YK.mp hy
  obtain ⟨c,hc,rfl⟩:=YI.mp h1
  obtain ⟨u,hu⟩:=ZG.mp h2
  have hu:Sh.lk f (behind ts.length b c) = some u:=hu
  exact ⟨c,hc,u,hu,by rw [hu]; rfl⟩
 ·rintro ⟨c,hc,u,hu,rfl⟩
  refine ⟨(c,aT ts c,behind ts.length b c),YK.mpr ⟨YI.mpr ⟨c,hc,rfl⟩,?_⟩,?_⟩
  ·show (Sh.lk f (behind ts.length b c)).isSome = true
   rw [hu]; rfl
  ·show (aT ts c + (Sh.lk f (behind ts.length b c)).getD 0,c,behind ts.length b c) = _
   rw [hu]; rfl
theorem ye (ts:List Th) (r:Int) (qs:List Qu) (f:Sh.Mp bh) (b:bh):((cr f (ck ts r qs b)).map fun x=>x.2.1).Sublist (bi ts r qs b):=by
 unfold cr ck
 rw [YQ]
 have e:(bi ts r qs b) = ((bi ts r qs b).map fun c=>(c,aT ts c,behind ts.length b c)).map fun x=>x.1:=by rw [YQ]; exact (List.map_id' _).symm
 conv=>rhs; rw [e]
 exact (aau).map _
theorem AT {H:Hp}:∀ {l:List Bg} {vs:List V},bW H (l.map Jh) vs->Paired (JW H) vs (l.map fun x=>(x.1,x.2.1))
 | [],_,.nil=>.nil
 | x :: l,_,.cons h t=>by
  obtain ⟨a,b,c,rfl,h1,h2,h3⟩:=yR h
  exact .cons ⟨a,b,[.ref c],rfl,h1,h2⟩ (AT t)
section
variable {P:Program} {w:World} {K:aaG} {mg:Str->Option Value} {base:Heap} {C:Addr} {Z:Ad} {fs:Nat->Addr} {ds:Nat->FuncData}
def wC (P:Program) (w:World):Sp:=fun vs H Q _=>∃ (a d s e:Addr) (ts:List Th) (r:Int) (qs:List Qu) (f:Sh.Mp bh) (st:bh) (v:Int),vs = [.ref a,.ref d,.ref s,.ref e] /\ xu P w H a (bZ ts r qs) /\ DS P w H d (iv f) /\ Bp ts r qs f /\ dI H s st /\ dI H e b8 /\ zU ts /\
 st ∈ cA qs ts.length /\ Sh.lk f st = some v /\ ∀ l H' tD,H l = none->ao H H'->LstAt kO H' l tD->Fy ts r qs st 0 tD = some v->tD.length <= 128->Q (.ref l) H'
theorem eY:av ["crossings","fewest","standing","end","plan","here","best"] ["crossings","fewest","standing","end"] (aj fX):=fk
theorem DA {f f1:Addr} {fd eC:FuncData} (F:Fn K mg "plan_from" fX f fd ["crossings","fewest","standing","end"]) (T:Txt K mg C Z) (gX:Fn K mg "begun_by" fF f1 eC ["ways","fewest"]):au P w K mg base be 2 f fd ["crossings","fewest","standing","end"] (wC P w):=by
 have lW:au P w K mg base be 1 f1 eC ["ways","fewest"] (sN P w):=wX gX
 refine F.fn.ok eY (fun vs H Q E h=>?_) (fun ci A outer s H vs Q E hr h=>?_)
 ·obtain ⟨a,d,s,e,ts,r,qs,f,st,v,rfl,_⟩:=h
  rfl
 ·obtain ⟨a,d,s,e,ts,r,qs,f,st,v,rfl,hC,hd,fw,hs,he,ok,kC,hv,k⟩:=h
  have hu:=hr.units
  have h6:=ok.l6
  refine ⟨_,(ag (sn 4 eY.nd (eT af))
   (ag (sn 5 eY.nd (pv 2))
   (ag (rQ YS (aD (uP hu) (pv 5) (pv 3) (aY _))
   (ag (sn 6 eY.nd (aV (Bj rfl hu) (by rfl) T.ID boot_min (aa (cl lW gX hr ay (aa (aR (NF (P:=P) (w:=w) rfl rfl hu) (pv 0) (pv 5) (fun _ _=>rfl)) (aa (pv 1) af))) af)))
   (ag (cp (fc Zv Z2 Z1 dm (pv 4) (aa (aR bz (pv 6) ak (fun _ _=>rfl)) af)))
   (ai (sn 5 eY.nd (aR bz (pv 6) ak (fun _ _=>rfl)))))))
   (ai (aA (pv 4)))))),?_⟩
  refine ⟨aH (by show 0 <= _; decide),fun lp BN=>?_⟩
  have s1:ao H (L2.upd H lp (.lst [])):=ah BN
  have e1:(L2.upd H lp (.lst [])) lp = some (.lst []):=ae
  generalize L2.upd H lp (.lst []) = H1 at s1 e1 ⊢
  refine ⟨_,rfl,fun m σ H'=>ao H H' /\ ∃ o b v' vb pl GC IP vs,σ = [some (.ref a),some (.ref d),some (.ref s),some (.ref e),some (.ref lp),some (.ref o),vb] /\ dI H' o b /\ b ∈ cA qs ts.length /\ Sh.lk f b = some v' /\ m = v'.toNat /\
    H' lp = some (.lst vs) /\ bW H' (pl.map kO) vs /\ (∀ rest,Fy ts r qs st 0 (pl ++ rest) = Fy ts r qs b GC rest) /\ GC + v' = v /\ IP.length = pl.length /\ IP.Nodup /\ ∀ x ∈ IP,x ∈ cA qs ts.length /\ ∃ u,Sh.lk f x = some u /\ v' < u,
   ⟨_,s1,s,st,v,_,[],0,[],[],rfl,hs.mono s1,kC,hv,rfl,e1,.nil,fun _=>rfl,by omega,rfl,.nil,(fun x hx=>by cases hx)⟩,?_⟩
  rintro m σ H2 ⟨s2,o,b,v',vb,pl,GC,IP,vs,rfl,ho,hb,IL,rfl,IM,kU,ML,Uk,LZ,K5,Ks⟩
  have XY:=Fk b
  have UH:pl.length <= 128:=by
   rw [<- LZ]
   exact Yh (Sh.sub_len K5 fun x hx=>(Ks x hx).1) (jP qs h6)
  refine ⟨_,rfl,_,rfl,hV b,hV b8,ho.dv,(he.mono s2).dv,rm _,rm _,by omega,_,rfl,?_⟩
  rw [zH]
  refine bv (fun h1=>?_) (fun h1=>?_)
  ·have ne:b ≠ b8:=fun z=>by
    have cV:(!decide (b = b8)) = true:=h1
    rw [Yi z] at cV
    cases cV
   obtain ⟨c0,We,u0,Wr,Xu⟩:=IR ok fw IL ne
   obtain ⟨kvs,df,pr⟩:=id (hC.mono s2)
   obtain ⟨aw,Kq,hL⟩:=C1 pr hb
   have lw:(ck ts r qs b).length <= 1000:=by unfold ck; rw [X6]; exact (oR (gD hb).1 h6).1
   refine ⟨fun σ' H'=>ao H H' /\ ∃ (o:Addr) (b2:bh) (v2:Int) (vb:Option V) (M4:List (List Int)) (Ht:Int) (EK:List bh) (xg:List V),σ' = [some (.ref a),some (.ref d),some (.ref s),some (.ref e),some (.ref lp),some (.ref o),vb] /\ dI H' o b2 /\ b2 ∈ cA qs ts.length /\ Sh.lk f b2 = some v2 /\ v2 < v' /\ 0 <= v2 /\
     H' lp = some (.lst xg) /\ bW H' (M4.map kO) xg /\ (∀ rest,Fy ts r qs st 0 (M4 ++ rest) = Fy ts r qs b2 Ht rest) /\ Ht + v2 = v /\ EK.length = M4.length /\ EK.Nodup /\ ∀ x ∈ EK,x ∈ cA qs ts.length /\ ∃ u,Sh.lk f x = some u /\ v2 < u,?_,?_⟩
   ·rintro σ' H' ⟨s',o2,b2,v2,Vf,M4,Ht,EK,xg,rfl,q1,q2,q3,lt,pos,q4,q5,q6,q7,q8,q9,Xf⟩
    exact ⟨v2.toNat,by omega,s',o2,b2,v2,Vf,M4,Ht,EK,xg,rfl,q1,q2,q3,rfl,q4,q5,q6,q7,q8,q9,Xf⟩
   ·refine ⟨_,rfl,_,rfl,a,o,b,kvs,.ref aw,rfl,rfl,ho,df.ds,Kq,_,rfl,aw,d,ck ts r qs b,f,rfl,hL,lw,hd.mono s2,fun lb H3 FY s3 hB=>?_⟩
    obtain ⟨vg,By,dg⟩:=hB
    have IQ:=aI dg
    have n4:=s2.trans s3
    have m0:=(uC (ts:=ts) (r:=r) (qs:=qs) (f:=f) (b:=b)).mpr ⟨c0,We,u0,Wr,rfl⟩
    refine ⟨lb,vg,_,rfl,aZ.of By,AT dg,?_,fun z=>?_,fun i y ky hy Nz OH=>?_⟩
    ·rw [YQ]
     exact (xZ (gD hb).1).sublist (ye ts r qs f b)
    ·have:=List.length_pos_of_mem m0
     rw [z] at IQ
     simp at IQ; omega
    obtain ⟨x,hx,dx⟩:=bH dg hy
    obtain ⟨bo,bc,bs,rfl,OX,UI,W1⟩:=yR dx
    rw [Yl,hx] at Nz
    have Nz:(x.1,x.2.1) = ky:=by simpa using Nz
    have Sc:x.1 <= aT ts c0 + u0:=by
     have:=OH _ (YI.mpr ⟨_,m0,rfl⟩)
     rw [<- Nz] at this
     exact this
    obtain ⟨c,hc,u,wx,rfl⟩:=uC.mp (YE hx)
    have RT:=Kr ok fw IL hb hc wx
    obtain ⟨EQ,CV,_⟩:=kz hc
    have mp:=(pD ok CV fun t ht=>mD (gD hb).1 (EQ.subset ht)).1
    have up:=A1 ok fw wx
    have Sc:aT ts c + u <= aT ts c0 + u0:=Sc
    have B2:=s3 _ _ IM
    refine ⟨_,rfl,.inl ⟨rfl,_,aZ.of B2⟩,_,rfl,bo,_,_,_,rfl,rfl,bK.of OX,u6,lp,vs,_,rfl,rfl,B2,aU (by rw [aI kU]; omega),?_⟩
    have Qw:(L2.upd H3 lp (.lst (vs ++ [.ref bc]))) bo = some (.tup [.int (aT ts c + u),.ref bc,.ref bs]):=by rw [am (fe OX B2 (by intro z; cases z))]; exact OX
    refine ⟨_,rfl,bo,_,_,_,rfl,rfl,bK.of Qw,at2,aq n4 BN,bs,behind ts.length b c,u,_,pl ++ [c],GC + aT ts c,b :: IP,vs ++ [.ref bc],rfl,W1.IS B2,o7 hb hc,wx,by omega,up,ae,?_,fun rest=>?_,by omega,by simp [LZ],?_,?_⟩
    ·rw [Yd]
     exact (bp B2 (kU.mono s3) (aE j6 _)).snoc (dJ B2 (m4 UI) (j6 _))
    ·rw [Yo,ML]
     show Fy ts r qs b GC (c :: rest) = _
     rw [Fy,if_pos hc]
    ·refine Ze.mpr ⟨fun z=>?_,K5⟩
     obtain ⟨_,u1,h2,h3⟩:=Ks b z
     rw [IL] at h2
     cases h2
     omega
    ·intro x hx
     rcases Yb.mp hx with rfl | hx
     ·exact ⟨hb,v',IL,by omega⟩
     ·obtain ⟨h2,u1,h3,h4⟩:=Ks x hx
      exact ⟨h2,u1,h3,by omega⟩
  ·have eq:b = b8:=by
    have cV:(!decide (b = b8)) = false:=h1
    by_cases z:b = b8
    ·exact z
    ·rw [Yw z] at cV; cases cV
   subst eq
   have v0:=Df ok fw IL
   refine ⟨_,rfl,k lp H2 pl BN s2 ⟨vs,IM,kU⟩ ?_ UH⟩
   have:=ML []
   rw [aaA] at this
   rw [this,Fy,if_pos (show b8 = ([],1) from rfl)]
   congr 1
   omega
def AH (P:Program) (w:World):Sp:=fun vs H Q _=>∃ (a s:Addr) (ts:List Th) (r:Int) (qs:List Qu) (st:bh),vs = [.ref a,.ref s] /\ xu P w H a (bZ ts r qs) /\ dI H s st /\ ts.length <= 6 /\ st ∈ cA qs ts.length /\
 ∀ l H' L,H l = none->ao H H'->LstAt hV H' l L->L.Pairwise (fun x y=>aC (sw x) (sw y) = true)->(∀ x,x ∈ L ↔ Reach ts r qs st x)->Q (.ref l) H'
theorem dh:av ["crossings","standing","found","place","here","crew","lasts","behind"] ["crossings","standing"] (aj iP):=fk
theorem G6 {f f1:Addr} {fd eC:FuncData} (F:Fn K mg "come_to" iP f fd ["crossings","standing"]) (T:Txt K mg C Z) (fB:Fn K mg "by_side" gI f1 eC ["standing"]):au P w K mg base be 4 f fd ["crossings","standing"] (AH P w):=by
 refine F.fn.ok dh (fun vs H Q E h=>?_) (fun ci A outer s H vs Q E hr h=>?_)
 ·obtain ⟨a,s,ts,r,qs,st,rfl,_⟩:=h
  rfl
 ·obtain ⟨a,s,ts,r,qs,st,rfl,hC,hs,h6,kC,k⟩:=h
  have hu:=hr.units
  obtain ⟨kvs,df,pr⟩:=id hC
  refine ⟨_,(ag (sn 2 dh.nd (eT (aa (pv 1) af)))
   (ag (sn 3 dh.nd ak)
   (ag (rQ YS (aD xJ (pv 3) (aV ba (by rfl) T.im YN (aa (pv 2) af)) (aY _))
   (ag (sn 4 dh.nd (aR ce (pv 2) (pv 3) (fun _ _=>rfl)))
   (ag (fA YS rfl (bU (aR (NF (P:=P) (w:=w) rfl rfl hu) (pv 0) (pv 4) (fun _ _=>rfl))) (jk rfl (aG (gn 5 dh.nd) (aG (gn 6 dh.nd) (aG (gn 7 dh.nd) di))))
   (ai (bL (aD (Cg hu) (pv 7) (pv 2) (by with_unfolding_all rfl))
   (ai (cp (fc Zv Z2 Z1 dm (pv 2) (aa (pv 7) af))))
   aM)))
   (ai (KC (i:=3) dh.nd (by rfl) (by first | exact Or.inl rfl | exact Or.inr rfl) ak JY)))))
   (ai (aA (uD hu (by rfl) T.mP (by rfl) fB.g (aa (pv 2) af))))))),?_⟩
  refine ⟨_,rfl,aH (by show 1 <= _; decide),fun lf OD=>?_⟩
  have s1:ao H (L2.upd H lf (.lst [.ref s])):=ah OD
  have e1:(L2.upd H lf (.lst [.ref s])) lf = some (.lst [.ref s]):=ae
  generalize L2.upd H lf (.lst [.ref s]) = H1 at s1 e1 ⊢
  have short:∀ {fl:List bh},fl.Nodup->(∀ x ∈ fl,Reach ts r qs st x)->fl.length <= 128:=fun nd hr=>Yh (Sh.sub_len nd fun x hx=>sj kC (hr x hx)) (jP qs h6)
  refine ⟨fun m σ H'=>ao H H' /\ ∃ (p:Nat) (fl:List bh) (vs:List V) (v4 v5 v6 v7:Option V),σ = [some (.ref a),some (.ref s),some (.ref lf),some (.int p),v4,v5,v6,v7] /\ H' lf = some (.lst vs) /\ bW H' (fl.map hV) vs /\ m = 200 - p /\ p <= fl.length /\ fl.Nodup /\ (∀ x ∈ fl,Reach ts r qs st x) /\ st ∈ fl /\
    ∀ (i:Nat) b,i < p->fl[i]? = some b->∀ c ∈ bi ts r qs b,behind ts.length b c ∈ fl,
   ⟨200,s1,0,[st],[.ref s],_,_,_,_,rfl,e1,.cons (hs.mono s1).dv .nil,rfl,YD _,by simp,(fun x hx=>by rw [YG.mp hx]; exact .refl),YG.mpr rfl,(fun i b hi=>absurd hi (Nat.not_lt_zero _))⟩,?_⟩
  rintro m σ H2 ⟨s2,p,fl,vs,v4,v5,v6,v7,rfl,IM,kU,rfl,hp,nd,GD,wL,OB⟩
  have Xt:=aI kU
  have Hc:=short nd GD
  refine ⟨_,rfl,_,rfl,lf,_,rfl,.inl (aZ.of IM),_,_,rfl,rfl,_,rfl,?_⟩
  refine bv (fun h1=>?_) (fun h1=>?_)
  ·have Jz:p < fl.length:=by
    have:=YA h1
    omega
   obtain ⟨y,hy,dy⟩:=kU.get (i:=p) (d:=hV fl[p]) (by rw [Yl,Ya Jz]; rfl)
   have hb:fl[p]? = some fl[p]:=Ya Jz
   have rb:=GD _ (ZF Jz)
   generalize fl[p] = b at dy hb rb
   obtain ⟨o,rfl,ho⟩:=eR dy
   have To:=sj kC rb
   obtain ⟨aw,Kq,vw,RF,dw⟩:=C1 pr To
   have XM:=aI dw
   refine ⟨fun σ' H'=>ao H H' /\ ∃ (mv:List bh) (xg:List V) (v4 v5 v6 v7:Option V),σ' = [some (.ref a),some (.ref s),some (.ref lf),some (.int ((p:Int) + 1)),v4,v5,v6,v7] /\ H' lf = some (.lst xg) /\ bW H' (mv.map hV) xg /\ fl <+: mv /\ mv.Nodup /\ (∀ x ∈ mv,Reach ts r qs st x) /\ ∀ c ∈ bi ts r qs b,behind ts.length b c ∈ mv,?_,?_⟩
   ·rintro σ' H' ⟨s',mv,xg,w4,w5,w6,w7,rfl,q1,q2,⟨ex,pre⟩,q4,q5,q6⟩
    have le:fl.length <= mv.length:=by rw [<- pre,Yx]; omega
    refine ⟨200 - (p + 1),by omega,s',p + 1,mv,xg,w4,w5,w6,w7,rfl,q1,q2,rfl,by omega,q4,q5,by rw [<- pre]; exact Zu _ wL,fun i b2 hi NY c hc=>?_⟩
    have Jf:fl[i]? = some b2:=by rw [<- pre,Zm (by omega)] at NY; exact NY
    by_cases z:i = p
    ·rw [z,hb] at Jf
     cases Jf
     exact q6 c hc
    ·rw [<- pre]
     exact Zu _ (OB i b2 (by omega) Jf c hc)
   ·refine ⟨_,rfl,_,rfl,lf,_,_,_,rfl,rfl,aZ.of IM,fQ hy,?_⟩
    refine ⟨_,rfl,_,rfl,a,o,b,kvs,.ref aw,rfl,rfl,ho,(df.mono s2).ds,Kq,aw,rfl,⟨_,aZ.of (s2 _ _ RF)⟩,eX (K:=K) (a:=aw) (xs:=vw) (fun j σ' H'=>ao H H' /\ ∃ (mv:List bh) (xg:List V) (v5 v6 v7:Option V),σ' = [some (.ref a),some (.ref s),some (.ref lf),some (.int p),some (.ref o),v5,v6,v7] /\ H' lf = some (.lst xg) /\ bW H' (mv.map hV) xg /\ fl <+: mv /\ mv.Nodup /\ (∀ x ∈ mv,Reach ts r qs st x) /\ ∀ x ∈ (ck ts r qs b).take j,x.2.2 ∈ mv)
     ⟨s2,fl,vs,_,_,_,rfl,IM,kU,List.prefix_refl _,nd,GD,(fun x hx=>by cases hx)⟩ (fun j σ' H' _ ⟨sm,_⟩=>aZ.of (sm _ _ RF)) ?_ ?_⟩
    ·rintro j y2 σ' H3 hj ⟨s3,mv,xg,w5,w6,w7,rfl,wY,Ck,pre,Dp,EJ,hw⟩
     obtain ⟨x,hx,dx⟩:=bH (dw.mono s3) hj
     obtain ⟨o3,b3,c3,rfl,Le,Xz,RQ⟩:=Dj dx
     have Ta:=aI Ck
     have l2:=short Dp EJ
     have XE:=Fk x.2.2
     have et:(ck ts r qs b).take (j + 1) = (ck ts r qs b).take j ++ [x]:=by rw [Yv,hx]; rfl
     refine ⟨o3,_,rfl,bK.of Le,rfl,_,_,rfl,_,_,rfl,_,_,rfl,rfl,?_⟩
     refine ⟨_,rfl,_,rfl,hV x.2.2,mv.map hV,RQ.dv,.inl (.lst wY Ck),rm _,i5 rm _,by omega,_,rfl,?_⟩
     rw [J6]
     refine bv (fun h2=>?_) (fun h2=>?_)
     ·have hn:x.2.2 ∉ mv:=fun z=>by
       have iL:(!decide (x.2.2 ∈ mv)) = true:=h2
       rw [Yi z] at iL
       cases iL
      refine ⟨_,rfl,.inl ⟨rfl,_,aZ.of wY⟩,_,rfl,lf,xg,_,rfl,rfl,wY,aU (by omega),?_⟩
      refine ⟨aq s3 OD,mv ++ [x.2.2],_,_,_,_,rfl,ae,?_,pre.trans (List.prefix_append _ _),?_,fun z hz=>?_,fun z hz=>?_⟩
      ·rw [Yd]
       exact (bp wY Ck (aE jA _)).snoc (dJ wY RQ.dv (jA _))
      ·rw [List.nodup_append]
       exact ⟨Dp,by simp,fun a1 h3 b1 h4 e=>hn (by rw [<- YG.mp h4,<- e]; exact h3)⟩
      ·rcases Yz.mp hz with z1 | z1
       ·exact EJ z z1
       ·rw [YG.mp z1]
        have sS:=YE hx
        unfold ck at sS
        obtain ⟨c,hc,rfl⟩:=YI.mp sS
        exact .step rb hc
      ·rw [et] at hz
       rcases Yz.mp hz with z1 | z1
       ·exact Zu _ (hw z z1)
       ·rw [YG.mp z1]; exact YH _ (YG.mpr rfl)
     ·have UD:x.2.2 ∈ mv:=by
       have iL:(!decide (x.2.2 ∈ mv)) = false:=h2
       by_cases z:x.2.2 ∈ mv
       ·exact z
       ·rw [Yw z] at iL; cases iL
      refine ⟨s3,mv,xg,_,_,_,rfl,wY,Ck,pre,Dp,EJ,fun z hz=>?_⟩
      rw [et] at hz
      rcases Yz.mp hz with z1 | z1
      ·exact hw z z1
      ·rw [YG.mp z1]; exact UD
    ·rintro σ' H3 ⟨s3,mv,xg,w5,w6,w7,rfl,wY,Ck,pre,Dp,EJ,hw⟩
     rw [Yj (by omega)] at hw
     refine ⟨_,rfl,_,_,rfl,rfl,s3,mv,xg,_,_,_,_,rfl,wY,Ck,pre,Dp,EJ,fun c hc=>?_⟩
     exact hw _ (YI.mpr ⟨c,hc,rfl⟩)
  ·have Jz:p = fl.length:=by
    have:=of_decide_eq_false h1
    omega
   have closed:∀ b ∈ fl,∀ c ∈ bi ts r qs b,behind ts.length b c ∈ fl:=fun b hb c hc=>by
    obtain ⟨i,hi⟩:=aaf.mp hb
    exact OB i b (by rw [Jz]; exact (Ys.mp hi).1) hi c hc
   have oz:au P w K mg base be 1 f1 eC ["standing"] lX:=si fB
   refine ⟨_,rfl,lf,vs,xO H2,rfl,aZ.of IM,rO.of oz (hr.mono (by decide)) fB.b (fun _ _ _ _ _ z=>z) (fun y hy=>?_),by rw [uU kU]; exact List.Pairwise.map _ (fun x y ne e=>ne (EH e)) nd,fun H3 l Dc s3 hl WJ Nw=>?_⟩
   ·obtain ⟨i,hi⟩:=aaf.mp hy
    obtain ⟨x,_,dx⟩:=bH kU hi
    have ek:=vn dx
    obtain ⟨c,rfl,b,hc,hb⟩:=eR dx
    refine ⟨b,by rw [ek]; exact hb,fun H' sm Q hq=>⟨c,b,x.2,rfl,sm _ _ hc,fun q hn=>?_⟩⟩
    have:=hq q hn
    rw [ek] at this
    exact this
   ·obtain ⟨L,h2,h3⟩:=x9 WJ kU
    have n4:=s2.trans s3
    refine k l _ L (n4.free hl) (aq n4 (n4.free hl)) ⟨Dc,ae,(h3.mono s3).mono (ah hl)⟩ (Ie h3 Nw) fun x=>?_
    rw [h2.mem_iff]
    exact ⟨GD x,fun hx=>Ez wL closed hx⟩
def wQ (C:Addr) (Z:Ad):Sp:=fun vs H Q E=>∃ (p a:Addr) (ts:List Th) (r:Int) (qs:List Qu) (st:bh),vs = [.ref p,.ref a] /\ aX C H p ts r qs /\ zU ts /\ dI H a st /\ st.1.length <= 1000 /\
 (cU ts.length st = true->br qs ts.length st.1 = true->∀ f,Bp ts r qs f->(∀ o l H' tD v,H l = none->ao H H'->H' o = some (.tup [.str "plan",.ref l])->LstAt kO H' l tD->Sh.lk f st = some v->Fy ts r qs st 0 tD = some v->tD.length <= 128->Q (.ref o) H') /\
  ∀ o l H' L,H l = none->ao H H'->H' o = some (.tup [.str "shut",.ref l])->LstAt hV H' l L->L.Pairwise (fun x y=>aC (sw x) (sw y) = true)->(∀ x,x ∈ L ↔ Reach ts r qs st x)->Sh.lk f st = none->Q (.ref o) H') /\
 (cU ts.length st = false->∀ H',ao H H'->E (.ref Z.eg) none H') /\ (cU ts.length st = true->br qs ts.length st.1 = false->∀ H',ao H H'->E (.ref Z.iW) none H')
theorem kr:av ["night","standing","crossings","fewest"] ["night","standing"] (aj i6):=fk
theorem Fc {f f1 f2:Addr} {fd eC jH:FuncData} (F:Fn K mg "shortest" i6 f fd ["night","standing"]) (L:Lk K mg C fs ds) (B:Lp K mg C fs ds) (T:Txt K mg C Z) (pj:Fn K mg "plan_from" fX f1 eC ["crossings","fewest","standing","end"])
  (t3:Fn K mg "come_to" iP f2 jH ["crossings","standing"]):au P w K mg base (yO P w) 7 f fd ["night","standing"] (wQ C Z):=by
 have iC:=L.jT
 have gh:=B.iu
 have fI:=B.gO
 have gr:=B.ends
 have gH:=B.C7
 have iE:au P w K mg base (yO P w) 4 (fs 10) (ds 10) ["night","standing"] (gM C Z):=kj L T
 have gg:au P w K mg base be 6 (fs 65) (ds 65) ["night"] (uK P w C):=AF L B T
 have fj:au P w K mg base be 3 (fs 68) (ds 68) ["crossings","end"] (zr P w):=De B T
 have gv:au P w K mg base be 1 (fs 61) (ds 61) ["self"] sv:=yf B.ends
 have xc:au P w K mg base be 2 f1 eC ["crossings","fewest","standing","end"] (wC P w):=DA pj T B.xH
 have BH:au P w K mg base be 4 f2 jH ["crossings","standing"] (AH P w):=G6 t3 T B.AN
 refine F.fn.NW kr (fun vs H Q E h=>?_) (fun ci A outer s H vs Q E hr h=>?_)
 ·obtain ⟨p,a,ts,r,qs,st,rfl,_⟩:=h
  rfl
 ·obtain ⟨p,a,ts,r,qs,st,rfl,N,ok,kC,hl,k1,k2,k3⟩:=h
  have hu:=hr.units
  have h6:=ok.l6
  obtain ⟨dx,t,q,hp,_,_⟩:=id N.ex
  refine ⟨_,(ag (cp (cl iE iC hr lP (aa (pv 0) (aa (pv 1) af))))
   (ag (sn 2 kr.nd (cl gg gh hr ay (aa (pv 0) af)))
   (ag (sn 3 kr.nd (cl fj fI hr ay (aa (pv 2) (aa (bP (pv 0) T.aN gH gv (hr.mono (by decide)) gr.b .nil ay) af))))
   (ag (bL (aD (NR (P:=P) (w:=w) rfl rfl hu) (pv 1) (pv 3) (by with_unfolding_all rfl))
   (ai (aA (cM (aa aS (aa (cl xc pj hr ay (aa (pv 2) (aa (pv 3) (aa (pv 1) (aa (bP (pv 0) T.aN gH gv (hr.mono (by decide)) gr.b .nil ay) af))))) af)))))
   aM)
   (ai (aA (cM (aa aS (aa (cl BH t3 hr ay (aa (pv 2) (aa (pv 1) af))) af))))))))),?_⟩
  refine ⟨_,rfl,_,rfl,p,a,ts,r,qs,st,rfl,N,h6,kC,hl,fun hS hG H1 s1=>?_,k2,k3⟩
  have k1:=k1 hS hG
  have hm:=Al hS hG
  refine ⟨_,rfl,p,ts,r,qs,rfl,N.mono s1,h6,fun lc H2 s2 hC=>?_⟩
  have Oi:=s1.trans s2
  refine ⟨_,rfl,_,rfl,p,dx,_,rfl,Oi _ _ hp,rfl,p,rfl,fun le H3 s3 he=>?_⟩
  obtain ⟨_,e,he⟩:=eR (st:=b8) he
  cases e
  have n4:=Oi.trans s3
  refine ⟨lc,le,ts,r,qs,rfl,hC.mono s3,he,ok,fun lf H4 f OD s4 fw dw=>?_⟩
  have vh:=n4.trans s4
  have Rx:=(hC.mono s3).mono s4
  have El:=kC.mono vh
  obtain ⟨k1,k2⟩:=k1 f fw
  refine ⟨_,rfl,_,rfl,lf,a,st,iv f,rfl,rfl,El,dw.ds,_,rfl,?_⟩
  rw [jp,Zo]
  refine bv (fun h1=>?_) (fun h1=>?_)
  ·have cV:(Sh.lk f st).isSome = true:=h1
   obtain ⟨v,hv⟩:=ZG.mp cV
   refine ⟨_,rfl,_,rfl,_,rfl,_,rfl,p,dx,_,rfl,vh _ _ hp,rfl,p,rfl,fun RT H5 s5 QA=>?_⟩
   obtain ⟨_,e,QA⟩:=eR (st:=b8) QA
   cases e
   refine ⟨lc,lf,a,RT,ts,r,qs,f,st,v,rfl,Rx.mono s5,(dw.mono s5).ds,fw,El.mono s5,QA,ok,hm,hv,fun l H6 tD Q6 s6 hL ML AR=>?_⟩
   have xB:=vh.trans s5
   have Qo:=xB.trans s6
   refine ⟨aH (by show 2 <= _; decide),fun o ho=>?_⟩
   have s7:ao H6 (L2.upd H6 o (.tup [.str "plan",.ref l])):=ah ho
   exact k1 o l _ tD v (xB.free Q6) (Qo.trans s7) ae (hL.mono s7) hv ML AR
  ·have cV:Sh.lk f st = none:=by
    cases q:Sh.lk f st with
    | none=>rfl
    | some v=>rw [q] at h1; cases h1
   refine ⟨_,rfl,_,rfl,lc,a,ts,r,qs,st,rfl,Rx,El,h6,hm,fun l H5 L SW s5 hL Nw RR=>?_⟩
   have xB:=vh.trans s5
   refine ⟨aH (by show 2 <= _; decide),fun o ho=>?_⟩
   have s7:ao H5 (L2.upd H5 o (.tup [.str "shut",.ref l])):=ah ho
   exact k2 o l _ L (vh.free SW) (xB.trans s7) ae (hL.mono s7) Nw RR cV
end
open PySem L2 PyProof.Rows WD
set_option exponentiation.threshold 4000 in
theorem cQ {n:Int} (h0:0 <= n) (h1:n < 10 ^ 10):n.natAbs.log2 < 1920:=by
 by_cases h:n.natAbs = 0
 ·rw [h]; decide
 ·exact (Nat.log2_lt h).mpr (YF (show n.natAbs < 2 ^ 34 by omega) (ZJ (by decide) (by decide)))
theorem cL (x:Str):Str.empty ++ x = x:=gp (by rw [list_append]; rfl)
theorem bG {x y:Str} {n m:Nat} (h:x.length <= n) (h':y.length <= m):(x ++ y).length <= n + m:=by rw [PySem.Str.length_append]; omega
theorem cS {n:Int} (h0:0 <= n) (h1:n < 10 ^ 10):(num n).length <= 10:=(i7 h0 h1).2.2.1
theorem yX {k:Int} (h1:k < 10 ^ 10):(kp k).length <= 10:=by
 unfold kp
 split
 ·exact cS (by assumption) h1
 ·decide
theorem aL {n:Nat} (h:n <= 1000):n <= sizeLine:=Yh h (by decide)
section
variable {P:Program} {w:World} {K:aaG} {mg:Str->Option Value} {base:Heap} {C:Addr} {Z:Ad}
def lF:Sp:=fun vs H Q _=>∃ t:Th,vs = [.int t.1,.bl t.2] /\ 0 <= t.1 /\ t.1 < 10 ^ 10 /\ ∀ H',ao H H'->Q (.str (qp t ++ ("\n":Str))) H'
theorem lA:av ["pace","rows","word"] ["pace","rows"] (aj eO):=fk
theorem sU {f:Addr} {fd:FuncData} (F:Fn K mg "thing_line" eO f fd ["pace","rows"]):au P w K mg base be 1 f fd ["pace","rows"] lF:=by
 refine F.fn.ok lA (fun vs H Q E h=>?_) (fun ci A outer s H vs Q E hr h=>?_)
 ·obtain ⟨t,rfl,_⟩:=h
  rfl
 ·obtain ⟨t,rfl,h0,h1,k⟩:=h
  refine ⟨_,(ag (sn 2 lA.nd (m6 (eS (pv 1)) aS aS))
   (ai (aA (wm (jf aS (wa (pv 0) (jf aS (DP (pv 2) (jf aS zF))))))))),?_⟩
  have nl:=cS h0 h1
  have l0:(("thing ":Str)).length <= 6:=by decide
  have l1:(("thing ":Str) ++ num t.1).length <= 16:=bG l0 nl
  have l2:(("thing ":Str) ++ num t.1 ++ (" ":Str)).length <= 17:=bG (m:=1) (y:=(" ":Str)) l1 (by decide)
  have g0:(Str.empty ++ ("thing ":Str)).length <= sizeLine:=by rw [cL]; exact aL (Yh l0 (by decide))
  have g1:(Str.empty ++ ("thing ":Str) ++ num t.1).length <= sizeLine:=by rw [cL]; exact aL (Yh l1 (by decide))
  have g2:(Str.empty ++ ("thing ":Str) ++ num t.1 ++ (" ":Str)).length <= sizeLine:=by rw [cL]; exact aL (Yh l2 (by decide))
  have g3:∀ wd:Str,wd.length <= 4->(Str.empty ++ ("thing ":Str) ++ num t.1 ++ (" ":Str) ++ wd).length <= sizeLine:=fun wd h=>by rw [cL]; exact aL (Yh (bG l2 h) (by decide))
  have g4:∀ wd:Str,wd.length <= 4->(Str.empty ++ ("thing ":Str) ++ num t.1 ++ (" ":Str) ++ wd ++ ("\n":Str)).length <= sizeLine:=fun wd h=>by rw [cL]; exact aL (Yh (bG (m:=1) (bG l2 h) (by decide)) (by decide))
  have ls:=cQ h0 h1
  have kk:=k H fun _ _ e=>e
  obtain ⟨p,b⟩:=t
  cases b with
  | true =>
   refine ⟨_,rfl,true,rfl,bv (fun _=>?_) (fun z=>by cases z)⟩
   refine ⟨_,rfl,g0,_,rfl,p,rfl,ls,g1,_,rfl,g2,_,rfl,_,rfl,by decide,g3 _ (by decide),_,rfl,g4 _ (by decide),g4 _ (by decide),?_⟩
   exact (show Q (.str (Str.empty ++ ("thing ":Str) ++ num p ++ (" ":Str) ++ ("rows":Str) ++ ("\n":Str))) H by rw [cL]; exact kk)
  | false =>
   refine ⟨_,rfl,false,rfl,bv (fun z=>by cases z) (fun _=>?_)⟩
   refine ⟨_,rfl,g0,_,rfl,p,rfl,ls,g1,_,rfl,g2,_,rfl,_,rfl,by decide,g3 _ (by decide),_,rfl,g4 _ (by decide),g4 _ (by decide),?_⟩
   exact (show Q (.str (Str.empty ++ ("thing ":Str) ++ num p ++ (" ":Str) ++ ("sits":Str) ++ ("\n":Str))) H by rw [cL]; exact kk)
theorem Is (q:Qu):tZ q = ("quarrel ":Str) ++ num q.1 ++ (" ":Str) ++ num q.2.1 ++ (" ":Str) ++ kp q.2.2:=by
 apply gp
 rw [zi,bF,bF,bF]
 simp only [list_append]
 show [113,117,97,114,114,101,108] ++ 32 :: (_ ++ 32 :: (_ ++ 32 :: (kp q.2.2).cps.toList)) = [113,117,97,114,114,101,108,32] ++ _ ++ [32] ++ _ ++ [32] ++ _
 simp
def jE:Sp:=fun vs H Q _=>∃ q:Qu,vs = [.int q.1,.int q.2.1,.int q.2.2] /\ wt 10 q /\ ∀ H',ao H H'->Q (.str (tZ q ++ ("\n":Str))) H'
theorem jD:av ["one","other","keeper","word"] ["one","other","keeper"] (aj c7):=fk
theorem pO {f:Addr} {fd:FuncData} (F:Fn K mg "quarrel_line" c7 f fd ["one","other","keeper"]) (T:Txt K mg C Z):au P w K mg base be 1 f fd ["one","other","keeper"] jE:=by
 refine F.fn.ok jD (fun vs H Q E h=>?_) (fun ci A outer s H vs Q E hr h=>?_)
 ·obtain ⟨q,rfl,_⟩:=h
  rfl
 ·obtain ⟨q,rfl,ok,k⟩:=h
  refine ⟨_,(ag (sn 3 jD.nd (m6 (aD j0 (pv 2) (dU (v:=.int (-1)) (by rfl) T.j8 ⟨_,rfl⟩) (aY _)) aS (aO dA (by rfl) T.sL boot_str (aa (pv 2) af))))
   (ai (aA (wm (jf aS (wa (pv 0) (jf aS (wa (pv 1) (jf aS (DP (pv 3) (jf aS zF))))))))))),?_⟩
  have a0:=ok.a0
  have a1:=ok.a1
  have b0:=ok.b0
  have b1:=ok.b1
  have hk:=ok.k
  have na:=cS a0 (show q.1 < 10 ^ 10 by omega)
  have nb:=cS b0 (show q.2.1 < 10 ^ 10 by omega)
  have l0:(("quarrel ":Str)).length <= 8:=by decide
  have l1:=bG l0 na
  have l2:=bG (m:=1) (y:=(" ":Str)) l1 (by decide)
  have l3:=bG l2 nb
  have l4:=bG (m:=1) (y:=(" ":Str)) l3 (by decide)
  have g0:(Str.empty ++ ("quarrel ":Str)).length <= sizeLine:=by rw [cL]; exact aL (Yh l0 (by decide))
  have g1:(Str.empty ++ ("quarrel ":Str) ++ num q.1).length <= sizeLine:=by rw [cL]; exact aL (Yh l1 (by decide))
  have g2:(Str.empty ++ ("quarrel ":Str) ++ num q.1 ++ (" ":Str)).length <= sizeLine:=by rw [cL]; exact aL (Yh l2 (by decide))
  have g3:(Str.empty ++ ("quarrel ":Str) ++ num q.1 ++ (" ":Str) ++ num q.2.1).length <= sizeLine:=by rw [cL]; exact aL (Yh l3 (by decide))
  have g4:(Str.empty ++ ("quarrel ":Str) ++ num q.1 ++ (" ":Str) ++ num q.2.1 ++ (" ":Str)).length <= sizeLine:=by rw [cL]; exact aL (Yh l4 (by decide))
  have lk:=yX (show q.2.2 < 10 ^ 10 by omega)
  have g5:(Str.empty ++ ("quarrel ":Str) ++ num q.1 ++ (" ":Str) ++ num q.2.1 ++ (" ":Str) ++ kp q.2.2).length <= sizeLine:=by rw [cL]; exact aL (Yh (bG l4 lk) (by decide))
  have g6:(Str.empty ++ ("quarrel ":Str) ++ num q.1 ++ (" ":Str) ++ num q.2.1 ++ (" ":Str) ++ kp q.2.2 ++ ("\n":Str)).length <= sizeLine:=by rw [cL]; exact aL (Yh (bG (m:=1) (bG l4 lk) (by decide)) (by decide))
  have e6:Str.empty ++ ("quarrel ":Str) ++ num q.1 ++ (" ":Str) ++ num q.2.1 ++ (" ":Str) ++ kp q.2.2 ++ ("\n":Str) = tZ q ++ ("\n":Str):=by rw [Is,cL]
  have kk:=k H fun _ _ e=>e
  have sa:=cQ a0 (show q.1 < 10 ^ 10 by omega)
  have sb:=cQ b0 (show q.2.1 < 10 ^ 10 by omega)
  rw [<- e6] at kk
  by_cases z:q.2.2 = -1
  ·have ek:kp q.2.2 = "-":=by unfold kp; rw [if_neg (by omega)]
   rw [ek] at g5 g6 kk
   refine ⟨_,rfl,rfl,_,rfl,bv (fun _=>?_) (fun y=>?_)⟩
   ·exact ⟨_,rfl,g0,_,rfl,_,rfl,sa,g1,_,rfl,g2,_,rfl,_,rfl,sb,g3,_,rfl,g4,_,rfl,_,rfl,by decide,g5,_,rfl,g6,g6,kk⟩
   ·exact absurd (show decide (V.int q.2.2 = V.int (-1)) = true by rw [z]; rfl) (by rw [show decide (V.int q.2.2 = V.int (-1)) = false from y]; simp)
  ·have ek:kp q.2.2 = num q.2.2:=by unfold kp; rw [if_pos (by omega)]
   rw [ek] at g5 g6 kk
   have sk:=cQ (show 0 <= q.2.2 by omega) (show q.2.2 < 10 ^ 10 by omega)
   refine ⟨_,rfl,rfl,_,rfl,bv (fun y=>?_) (fun _=>?_)⟩
   ·exact absurd (V.int.inj (YA y)) z
   ·exact ⟨_,rfl,_,rfl,sk,_,rfl,g0,_,rfl,_,rfl,sa,g1,_,rfl,g2,_,rfl,_,rfl,sb,g3,_,rfl,g4,_,rfl,_,rfl,aL (Yh (cS (show 0 <= q.2.2 by omega) (show q.2.2 < 10 ^ 10 by omega)) (by decide)),g5,_,rfl,g6,g6,kk⟩
end
theorem gZ (t:Addr) (r:Int) (q:Addr):(k9 t r q).lookup ("quarrels":Str) = none:=nV _ _ _ (by decide +kernel) (by decide +kernel) (by decide +kernel)
theorem xE {n:Nat}:∀ {l:List Str},(∀ y ∈ l,y.length <= n)->(l.map (·.length)).sum <= l.length * n
 | [],_=>by simp
 | y :: l,h=>by
  have ih:=xE (l:=l) fun z hz=>h z (X8 _ hz)
  have:=h y X9
  rw [Yq,List.sum_cons,YW,Nat.succ_mul]
  omega
theorem oQ {sep:Str} {l:List Str} {n k:Nat} (h:∀ y ∈ l,y.length <= n) (hk:l.length <= k) (hc:sep.length <= 1) (hb:k * (n + 1) <= 10000000):JoinOk sep l = true /\ (Txt.join sep l).length <= k * (n + 1):=by
 have h1:=xE h
 have h2:(l.map (·.length)).sum + l.length * sep.length <= k * (n + 1):=by
  have a1:l.length * n <= k * n:=Nat.mul_le_mul_right _ hk
  have a2:l.length * sep.length <= k * 1:=Nat.mul_le_mul hk hc
  rw [Nat.mul_add]
  omega
 refine ⟨?_,?_⟩
 ·unfold JoinOk
  rw [StrLaws.joinTotal]
  show (!decide (_ > sizeLine)) = true
  rw [Yw]
  ·rfl
  ·have:(10000000:Nat) <= sizeLine:=by decide
   omega
 ·rw [rR]
  exact Yh (StrLaws.join_length_le sep l) h2
theorem Ar {t:Th} (h0:0 <= t.1) (h1:t.1 < 10 ^ 10):(qp t).length <= 21:=by
 refine bG (n:=17) (m:=4) (bG (n:=16) (m:=1) (bG (n:=6) (by decide) (cS h0 h1)) (by decide)) ?_
 cases t.2 <;> decide
theorem Am {q:Qu} (ok:wt 10 q):(tZ q).length <= 40:=by
 have a0:=ok.a0
 have a1:=ok.a1
 have b0:=ok.b0
 have b1:=ok.b1
 have hk:=ok.k
 rw [Is]
 exact bG (n:=30) (m:=10) (bG (n:=29) (m:=1) (bG (n:=19) (m:=10) (bG (n:=18) (m:=1) (bG (n:=8) (m:=10) (by decide) (cS a0 (by omega))) (by decide)) (cS b0 (by omega))) (by decide)) (yX (by omega))
theorem wt.wide {n m:Int} {q:Qu} (h:wt n q) (hn:n <= m):wt m q:=by
 have hk:=h.k
 have a1:=h.a1
 have b1:=h.b1
 exact ⟨h.a0,by omega,h.b0,by omega,h.ab,by omega⟩
section
variable {P:Program} {w:World} {K:aaG} {mg:Str->Option Value} {base:Heap} {C:Addr} {Z:Ad}
def xk (C:Addr):Sp:=fun vs H Q _=>∃ (p:Addr) (ts:List Th) (r:Int) (qs:List Qu),vs = [.ref p] /\ aX C H p ts r qs /\ Fs r ts qs /\ ∀ H',ao H H'->Q (.str (gR ts r qs)) H'
theorem rn:av ["night","room","lines"] ["night"] (aj qr):=fk
theorem D7 {f f1 f2 f3 f4 f5:Addr} {fd eC jH oI EM HM:FuncData} (F:Fn K mg "shown" qr f fd ["night"]) (T:Txt K mg C Z) (nM:Fn K mg "thing_line" eO f1 eC ["pace","rows"]) (j9:Fn K mg "quarrel_line" c7 f2 jH ["one","other","keeper"])
  (aP:Meth K C "things" f3) (aF:Mt K "things" "Night.things" bA f3 oI ["self"]) (eL:Meth K C "room" f4) (dD:Mt K "room" "Night.room" eJ f4 EM ["self"])
  (fH:Meth K C "quarrels" f5) (dk:Mt K "quarrels" "Night.quarrels" cH f5 HM ["self"]) :
  au P w K mg base be 2 f fd ["night"] (xk C):=by
 have vE:au P w K mg base be 1 f1 eC ["pace","rows"] lF:=sU nM
 have sJ:au P w K mg base be 1 f2 jH ["one","other","keeper"] jE:=pO j9 T
 have a9:au P w K mg base be 1 f3 oI ["self"] (dX C):=fD aF T
 have eG:au P w K mg base be 1 f4 EM ["self"] (nF C):=rE dD T
 have fG:au P w K mg base be 1 f5 HM ["self"] (jc C):=mH dk T
 refine F.fn.ok rn (fun vs H Q E h=>?_) (fun ci A outer s H vs Q E hr h=>?_)
 ·obtain ⟨p,ts,r,qs,rfl,_⟩:=h
  rfl
 ·obtain ⟨p,ts,r,qs,rfl,N,ok,k⟩:=h
  obtain ⟨dx,t,q,hp,_,_⟩:=id N.ex
  refine ⟨_,(ag (sn 1 rn.nd (bP (pv 0) T.aN eL eG (hr.mono (by decide)) dD.b .nil ay))
   (ag (sn 2 rn.nd (eT (aa (wm (jf aS (wa (pv 1) (jf aS zF)))) af)))
   (ag (cp (fc Zv PySem.F.slot_list_extend PySem.F.type_list_extend oO (pv 2) (aa (bS rfl (N':=["pace","rows"]) (cap:=[none,none]) ⟨rfl,by with_unfolding_all rfl⟩ (bU (bP (pv 0) T.aN aP a9 (hr.mono (by decide)) aF.b .nil ay)) (fun _=>(tupK (K:=K) (n:=2) rfl rfl (aG (gn 0 (show (["pace","rows"]:List Str).Nodup by decide +kernel)) (aG (gn 1 (show (["pace","rows"]:List Str).Nodup by decide +kernel)) di)))) (fun _=>cu) (fun _=>(cl vE nM hr ay (aa (pv 0) (aa (pv 1) af))))) af)))
   (ag (cp (fc Zv PySem.F.slot_list_extend PySem.F.type_list_extend oO (pv 2) (aa (bS rfl (N':=["one","other","keeper"]) (cap:=[none,none,none]) ⟨rfl,by with_unfolding_all rfl⟩ (bU (bP (pv 0) T.aN fH fG (hr.mono (by decide)) dk.b .nil ay)) (fun _=>(tupK (K:=K) (n:=3) rfl rfl (aG (gn 0 (show (["one","other","keeper"]:List Str).Nodup by decide +kernel)) (aG (gn 1 (show (["one","other","keeper"]:List Str).Nodup by decide +kernel)) (aG (gn 2 (show (["one","other","keeper"]:List Str).Nodup by decide +kernel)) di))))) (fun _=>cu) (fun _=>(cl sJ j9 hr ay (aa (pv 0) (aa (pv 1) (aa (pv 2) af)))))) af)))
   (ai (aA (fc PySem.F.plainAttrs_str PySem.F.slot_str_join PySem.F.type_str_join vm aS (aa (pv 2) af)))))))),?_⟩
  refine ⟨_,rfl,p,dx,_,rfl,hp,mf _ _ _,p,ts,r,qs,rfl,N,?_⟩
  have r0:0 <= r:=by have:=ok.r1; omega
  have r9:r < 10 ^ 10:=by have:=ok.r3; omega
  have nr:=cS r0 r9
  have l0:(("boat ":Str)).length <= 5:=by decide
  have l1:=bG l0 nr
  have g0:(Str.empty ++ ("boat ":Str)).length <= sizeLine:=by rw [cL]; exact aL (Yh l0 (by decide))
  have g1:(Str.empty ++ ("boat ":Str) ++ num r).length <= sizeLine:=by rw [cL]; exact aL (Yh l1 (by decide))
  have g2:(Str.empty ++ ("boat ":Str) ++ num r ++ ("\n":Str)).length <= sizeLine:=by rw [cL]; exact aL (Yh (bG (m:=1) l1 (by decide)) (by decide))
  refine ⟨_,rfl,g0,_,rfl,r,rfl,cQ r0 r9,g1,_,rfl,g2,g2,?_⟩
  have eb:Str.empty ++ ("boat ":Str) ++ Str.ofString (toString r) ++ ("\n":Str) = dG r ++ ("\n":Str):=by rw [cL]; rfl
  rw [eb]
  refine ⟨aH (by show 1 <= _; decide),fun l hl=>?_⟩
  have s1:ao H (L2.upd H l (.lst [V.str (dG r ++ ("\n":Str))])):=ah hl
  have h1:(L2.upd H l (.lst [V.str (dG r ++ ("\n":Str))])) l = some (.lst [V.str (dG r ++ ("\n":Str))]):=ae
  generalize L2.upd H l (.lst [V.str (dG r ++ ("\n":Str))]) = H1 at s1 h1 ⊢
  have N1:=N.mono s1
  refine ⟨_,rfl,.inl ⟨rfl,_,aZ.of h1⟩,_,rfl,p,dx,_,rfl,s1 _ _ hp,bQ _ _ _,p,ts,r,qs,rfl,N1,fun a va ha da=>?_⟩
  have s2:ao H1 (L2.upd H1 a (.lst va)):=ah ha
  have h2:(L2.upd H1 a (.lst va)) a = some (.lst va):=ae
  have Ox:=da.mono s2
  generalize L2.upd H1 a (.lst va) = H2 at s2 h2 Ox ⊢
  have la:=aI da
  have l6:=ok.t.l6
  refine ⟨a,rfl,⟨_,aZ.of h2⟩,fun D hD=>?_⟩
  refine cR (K:=K) (a:=a) (ys:=va) (fun j zs H'=>ao H2 H' /\ H' D = some (.lst zs) /\ zs = (ts.take j).map fun t=>V.str (qp t ++ ("\n":Str)))
   ⟨ah hD,ae,rfl⟩ (fun j zs H' _ ⟨sm,h,_⟩=>⟨h,aZ.of (sm _ _ h2)⟩) ?_ ?_
  ·rintro j y zs H' hj ⟨sm,gu,rfl⟩
   obtain ⟨t,ht,dt⟩:=bH (Ox.mono sm) hj
   obtain ⟨b',rfl,yB⟩:=u3 dt
   obtain ⟨p1,p2⟩:=ok.t.p t (YE ht)
   refine ⟨b',_,rfl,bK.of yB,rfl,_,_,rfl,_,_,rfl,rfl,(cm.set rfl).trans (cm.set rfl),?_⟩
   refine ⟨_,rfl,_,rfl,t,rfl,by omega,by omega,fun H4 s4=>?_⟩
   refine ⟨s4 _ _ gu,aU (by rw [X6,Yt]; omega),aq (sm.trans s4) hD,ae,?_⟩
   rw [Yv,ht]
   simp
  ·rintro zs H3 ⟨Oh,Fu,rfl⟩
   rw [Yj (by omega)] at Fu
   have h3:=Oh _ _ (s2 _ _ h1)
   refine ⟨l,D,_,_,rfl,rfl,h3,Fu,aL (by simp; omega),?_⟩
   have N3:=((N1.mono s2).mono Oh).upd (o:=.lst ([V.str (dG r ++ ("\n":Str))] ++ ts.map fun t=>V.str (qp t ++ ("\n":Str)))) h3
   have s4:ao H (L2.upd H3 l (.lst ([V.str (dG r ++ ("\n":Str))] ++ ts.map fun t=>V.str (qp t ++ ("\n":Str))))):=aq (s1.trans (s2.trans Oh)) hl
   have h4:(L2.upd H3 l (.lst ([V.str (dG r ++ ("\n":Str))] ++ ts.map fun t=>V.str (qp t ++ ("\n":Str))))) l = some (.lst ([V.str (dG r ++ ("\n":Str))] ++ ts.map fun t=>V.str (qp t ++ ("\n":Str)))):=ae
   generalize L2.upd H3 l (.lst ([V.str (dG r ++ ("\n":Str))] ++ ts.map fun t=>V.str (qp t ++ ("\n":Str)))) = H4 at N3 s4 h4 ⊢
   clear Oh Fu h3 hD h2 Ox s2 da ha la
   refine ⟨_,rfl,.inl ⟨rfl,_,aZ.of h4⟩,_,rfl,p,dx,_,rfl,s4 _ _ hp,gZ _ _ _,p,ts,r,qs,rfl,N3,fun a va ha da=>?_⟩
   have s5:ao H4 (L2.upd H4 a (.lst va)):=ah ha
   have h5:(L2.upd H4 a (.lst va)) a = some (.lst va):=ae
   have RN:=da.mono s5
   generalize L2.upd H4 a (.lst va) = H5 at s5 h5 RN ⊢
   have la:=aI da
   have XC:=ok.l
   refine ⟨a,rfl,⟨_,aZ.of h5⟩,fun D hD=>?_⟩
   refine cR (K:=K) (a:=a) (ys:=va) (fun j zs H'=>ao H5 H' /\ H' D = some (.lst zs) /\ zs = (qs.take j).map fun q=>V.str (tZ q ++ ("\n":Str)))
    ⟨ah hD,ae,rfl⟩ (fun j zs H' _ ⟨sm,h,_⟩=>⟨h,aZ.of (sm _ _ h5)⟩) ?_ ?_
   ·rintro j y zs H' hj ⟨sm,gu,rfl⟩
    obtain ⟨t,ht,dt⟩:=bH (RN.mono sm) hj
    obtain ⟨b',rfl,yB⟩:=sx dt
    have IY:=wt.wide (ok.q t (YE ht)) (show ((ts.length:Nat):Int) <= 10 by omega)
    refine ⟨b',_,rfl,bK.of yB,rfl,_,_,rfl,_,_,rfl,_,_,rfl,rfl,(cm.set rfl).trans ((cm.set rfl).trans (cm.set rfl)),?_⟩
    refine ⟨_,rfl,_,rfl,_,rfl,t,rfl,IY,fun H4 s4=>?_⟩
    refine ⟨s4 _ _ gu,aU (by rw [X6,Yt]; omega),aq (sm.trans s4) hD,ae,?_⟩
    rw [Yv,ht]
    simp
   ·rintro zs H6 ⟨So,wv,rfl⟩
    rw [Yj (by omega)] at wv
    have h6:=So _ _ (s5 _ _ h4)
    refine ⟨l,D,_,_,rfl,rfl,h6,wv,aL (by simp; omega),?_⟩
    have el:[V.str (dG r ++ ("\n":Str))] ++ (ts.map fun t=>V.str (qp t ++ ("\n":Str))) ++ (qs.map fun q=>V.str (tZ q ++ ("\n":Str))) = ((linesOf ts r qs).map fun x=>x ++ ("\n":Str)).map V.str:=by simp [WD.linesOf,Function.comp_def]
    have s7:ao H (L2.upd H6 l (.lst ([V.str (dG r ++ ("\n":Str))] ++ (ts.map fun t=>V.str (qp t ++ ("\n":Str))) ++ (qs.map fun q=>V.str (tZ q ++ ("\n":Str)))))):=aq (s4.trans (s5.trans So)) hl
    have h7:(L2.upd H6 l (.lst ([V.str (dG r ++ ("\n":Str))] ++ (ts.map fun t=>V.str (qp t ++ ("\n":Str))) ++ (qs.map fun q=>V.str (tZ q ++ ("\n":Str)))))) l = some (.lst (((linesOf ts r qs).map fun x=>x ++ ("\n":Str)).map V.str)):=by rw [<- el]; exact ae
    have jn:=oQ (sep:=("":Str)) (l:=(linesOf ts r qs).map fun x=>x ++ ("\n":Str)) (n:=41) (k:=37) (fun y hy=>by
     obtain ⟨x,hx,rfl⟩:=YI.mp hy
     refine bG (n:=40) (m:=1) ?_ (by decide)
     rcases Yb.mp hx with e | hx
     ·rw [e]; exact Yh l1 (by decide)
     ·rcases Yz.mp hx with hx | hx
      ·obtain ⟨t,ht,rfl⟩:=YI.mp hx
       obtain ⟨p1,p2⟩:=ok.t.p t ht
       exact Yh (Ar (by omega) (by omega)) (by decide)
      ·obtain ⟨q,hq,rfl⟩:=YI.mp hx
       exact Am (wt.wide (ok.q q hq) (show ((ts.length:Nat):Int) <= 10 by omega))) (by simp [WD.linesOf]; omega) (by decide) (by decide)
    exact ⟨rfl,_,rfl,"",l,_,rfl,rfl,aZ.of h7,jn.1,k _ s7⟩
end
section
variable {P:Program} {w:World} {K:aaG} {mg:Str->Option Value} {base:Heap} {C:Addr} {Z:Ad}
def xI:Sp:=fun vs H Q _=>∃ (p:Addr) (m:Nat) (ts:List Th) (r:Int) (qs:List Qu),vs = [.ref p] /\ lZ H p m ts r qs /\ qs.length <= 4 /\ ∀ (l:Addr) (H':Hp),ao H H'->H' l = some (.lst ((WD.linesOf ts r qs).map V.str))->Q (.ref l) H'
theorem bY:av ["night","lines","pace","rows","one","other","keeper","words"] ["night"] (aj gE):=fk
theorem Eo {f:Addr} {fd:FuncData} (F:Fn K mg "_law_lines" gE f fd ["night"]) (T:Txt K mg C Z):au P w K mg base be 1 f fd ["night"] xI:=by
 refine F.fn.ok bY (fun vs H Q E h=>?_) (fun ci A outer s H vs Q E hr h=>?_)
 ·obtain ⟨p,m,ts,r,qs,rfl,_⟩:=h
  rfl
 ·obtain ⟨p,m,ts,r,qs,rfl,N,HH,k⟩:=h
  obtain ⟨a,b,hp,⟨va,ha,da⟩,⟨vb,hb,db⟩⟩:=N.ex
  have la:=aI da
  have lb:=aI db
  have t6:=N.t.l6
  refine ⟨_,(ag (sn 1 bY.nd (eT (aa (bu gS aS (aO dA (by rfl) T.sL boot_str (aa (aR bz (pv 0) ak (fun _ _=>rfl)) af))) af)))
   (ag (fA YS rfl (bU (aR bz (pv 0) ak (fun _ _=>rfl))) (jk rfl (aG (gn 2 bY.nd) (aG (gn 3 bY.nd) di)))
   (ai (cp (fc Zv Z2 Z1 dm (pv 1) (aa (bu gS (bu gS (bu gS aS (aO dA (by rfl) T.sL boot_str (aa (pv 2) af))) aS) (aR ce (eT (aa aS (aa aS af))) (aO call_int_bool (by rfl) T.HS boot_int (aa (pv 3) af)) (fun _ _=>rfl))) af)))))
   (ag (fA YS rfl (bU (aR bz (pv 0) ak (fun _ _=>rfl))) (jk rfl (aG (gn 4 bY.nd) (aG (gn 5 bY.nd) (aG (gn 6 bY.nd) di))))
   (ag (sn 7 bY.nd (eT (aa aS (aa (aO dA (by rfl) T.sL boot_str (aa (pv 4) af)) (aa (aO dA (by rfl) T.sL boot_str (aa (pv 5) af)) (aa aS af))))))
   (ag (bL (aD LJ (pv 6) ak (aY _))
   (ai (zJ (aO dA (by rfl) T.sL boot_str (aa (pv 6) af)) (zk (pv 7) ak set_list)))
   aM)
   (ai (cp (fc Zv Z2 Z1 dm (pv 1) (aa (fc PySem.F.plainAttrs_str PySem.F.slot_str_join PySem.F.type_str_join vm aS (aa (pv 7) af)) af)))))))
   (ai (aA (pv 1)))))),?_⟩
  have r0:0 <= r:=by have:=N.r1; omega
  have r9:r < 10 ^ 10:=by have:=N.r3; omega
  have sr:=cS r0 r9
  refine ⟨_,rfl,p,_,1,.int r,rfl,rfl,bK.of hp,rfl,r,rfl,cQ r0 r9,_,_,rfl,rfl,(by show ("boat ":Str).length + _ <= sizeLine; exact Yh (Nat.add_le_add_left sr _) (by decide)),aH (by show 1 <= _; decide),fun l hl=>?_⟩
  have sl:=ah (o:=.lst [V.str (dG r)]) hl
  refine ⟨_,rfl,p,_,0,.ref a,rfl,rfl,bK.of (sl _ _ hp),rfl,a,rfl,⟨_,aZ.of (sl _ _ ha)⟩,eX (K:=K) (a:=a) (xs:=va) (fun i σ H'=>∃ (v2 v3 v4 v5 v6 v7:Option V),σ = [some (.ref p),some (.ref l),v2,v3,v4,v5,v6,v7] /\ ao H H' /\ H' l = some (.lst ((dG r :: (ts.take i).map qp).map V.str)))
   ⟨_,_,_,_,_,_,rfl,sl,ae⟩ (fun i σ H' _ ⟨_,_,_,_,_,_,_,sm,_⟩=>aZ.of (sm _ _ ha)) ?_ ?_⟩
  ·rintro i x σ H' hi ⟨v2,v3,v4,v5,v6,v7,rfl,sm,jN⟩
   obtain ⟨t,ht,dt⟩:=bH da hi
   obtain ⟨b',rfl,yB⟩:=u3 dt
   obtain ⟨p1,p2⟩:=N.t.p t (YE ht)
   have t0:0 <= t.1:=by omega
   have t9:t.1 < 10 ^ 10:=by omega
   have sp:=cS t0 t9
   have s1:(("thing ":Str) ++ num t.1).length <= 16:=bG (n:=6) (by decide) sp
   have s2:(("thing ":Str) ++ num t.1 ++ (" ":Str)).length <= 17:=bG (m:=1) (y:=(" ":Str)) s1 (by decide)
   refine ⟨b',_,rfl,bK.of (sm _ _ yB),rfl,_,_,rfl,_,_,rfl,rfl,?_⟩
   refine ⟨_,rfl,.inl ⟨rfl,_,aZ.of jN⟩,_,rfl,t.1,rfl,cQ t0 t9,_,_,rfl,rfl,aL (n:=("thing ":Str).length + (num t.1).length) (Yh (Nat.add_le_add_left sp _) (by decide)),_,_,rfl,rfl,aL (n:=(("thing ":Str) ++ num t.1).length + 1) (by omega),aH (by show 2 <= _; decide),fun l3 Nd=>?_⟩
   have s3:=ah (o:=.lst [V.str "sits",V.str "rows"]) Nd
   have Jx:BZ [V.str "sits",V.str "rows"] (if t.2 then 1 else 0) = some (.str (if t.2 then ("rows":Str) else ("sits":Str))):=by cases t.2 <;> rfl
   have lw:(if t.2 then ("rows":Str) else ("sits":Str)).length <= 4:=by cases t.2 <;> decide
   refine ⟨_,rfl,t.2,rfl,l3,_,_,_,rfl,rfl,aZ.of ae,Jx,_,_,rfl,rfl,aL (n:=(("thing ":Str) ++ num t.1 ++ (" ":Str)).length + (if t.2 then ("rows":Str) else ("sits":Str)).length) (by omega),l,_,_,rfl,rfl,s3 _ _ jN,aU (by simp; omega),?_⟩
   refine ⟨_,_,_,_,_,_,rfl,aq (sm.trans s3) hl,?_⟩
   rw [ae,Yv,ht]
   simp [qp,num]
  ·rintro σ H1 ⟨v2,v3,v4,v5,v6,v7,rfl,sm,jN⟩
   rw [Yj (by omega)] at jN
   refine ⟨_,rfl,p,_,2,.ref b,rfl,rfl,bK.of (sm _ _ hp),rfl,b,rfl,⟨_,aZ.of (sm _ _ hb)⟩,eX (K:=K) (a:=b) (xs:=vb) (fun i σ H'=>∃ (v2 v3 v4 v5 v6 v7:Option V),σ = [some (.ref p),some (.ref l),v2,v3,v4,v5,v6,v7] /\ ao H H' /\ H' l = some (.lst ((dG r :: (ts.map qp ++ (qs.take i).map tZ)).map V.str)))
    ⟨_,_,_,_,_,_,rfl,sm,by rw [jN]; simp⟩ (fun i σ H' _ ⟨_,_,_,_,_,_,_,sm,_⟩=>aZ.of (sm _ _ hb)) ?_ ?_⟩
   ·rintro i x σ H' hi ⟨v2,v3,v4,v5,v6,v7,rfl,sm,jN⟩
    obtain ⟨q,hq,dq⟩:=bH db hi
    obtain ⟨c,rfl,hc⟩:=sx dq
    have ok:=N.q q (YE hq)
    have x0:=ok.a0
    have x1:=ok.a1
    have y0:=ok.b0
    have y1:=ok.b1
    have hk:=ok.k
    have so:=cS x0 (show q.1 < 10 ^ 10 by omega)
    have sp:=cS y0 (show q.2.1 < 10 ^ 10 by omega)
    have sk:=yX (show q.2.2 < 10 ^ 10 by omega)
    have jn:=oQ (sep:=(" ":Str)) (l:=[("quarrel":Str),num q.1,num q.2.1,kp q.2.2]) (n:=10) (k:=4) (fun y hy=>by
     simp only [Yb,aap,or_false] at hy
     rcases hy with rfl | rfl | rfl | rfl
     ·decide
     ·exact so
     ·exact sp
     ·exact sk) (by show 4 <= 4; decide) (by decide) (by decide)
    refine ⟨c,_,rfl,bK.of (sm _ _ hc),rfl,_,_,rfl,_,_,rfl,_,_,rfl,rfl,?_⟩
    refine ⟨_,rfl,q.1,rfl,cQ x0 (by omega),_,rfl,q.2.1,rfl,cQ y0 (by omega),aH (by show 4 <= _; decide),fun lw QL=>?_⟩
    have sw:=ah (o:=.lst [V.str "quarrel",V.str (num q.1),V.str (num q.2.1),V.str "-"]) QL
    have RJ:l ≠ lw:=ax jN QL
    refine ⟨_,rfl,_,_,rfl,rfl,_,rfl,?_⟩
    refine bv (fun g=>?_) (fun g=>?_)
    ·have k0:0 <= q.2.2:=YA g
     have ek:kp q.2.2 = num q.2.2:=by unfold kp; rw [if_pos k0]
     refine ⟨_,rfl,q.2.2,rfl,cQ k0 (by omega),_,rfl,lw,_,3,3,rfl,rfl,ae,rfl,?_⟩
     have hW:(L2.upd (L2.upd H' lw (.lst [V.str "quarrel",V.str (num q.1),V.str (num q.2.1),V.str "-"])) lw (.lst ([V.str "quarrel",V.str (num q.1),V.str (num q.2.1),V.str "-"].set 3 (V.str (num q.2.2))))) lw = some (.lst ([("quarrel":Str),num q.1,num q.2.1,kp q.2.2].map V.str)):=by rw [ek]; exact ae
     have hL:(L2.upd (L2.upd H' lw (.lst [V.str "quarrel",V.str (num q.1),V.str (num q.2.1),V.str "-"])) lw (.lst ([V.str "quarrel",V.str (num q.1),V.str (num q.2.1),V.str "-"].set 3 (V.str (num q.2.2))))) l = some (.lst ((dG r :: (ts.map qp ++ (qs.take i).map tZ)).map V.str)):=by rw [am RJ,am RJ]; exact jN
     refine ⟨_,rfl,.inl ⟨rfl,_,aZ.of hL⟩,rfl,_,rfl," ",lw,[("quarrel":Str),num q.1,num q.2.1,kp q.2.2],rfl,rfl,aZ.of hW,jn.1,l,_,_,rfl,rfl,hL,aU (by simp; omega),?_⟩
     refine ⟨_,_,_,_,_,_,rfl,aq (aq (sm.trans sw) (sm.free QL)) hl,?_⟩
     rw [ae,Yv,hq]
     simp [tZ]
    ·have k0:¬ 0 <= q.2.2:=of_decide_eq_false g
     have ek:kp q.2.2 = "-":=by unfold kp; rw [if_neg k0]
     have hW:(L2.upd H' lw (.lst [V.str "quarrel",V.str (num q.1),V.str (num q.2.1),V.str "-"])) lw = some (.lst ([("quarrel":Str),num q.1,num q.2.1,kp q.2.2].map V.str)):=by rw [ek]; exact ae
     refine ⟨_,rfl,.inl ⟨rfl,_,aZ.of (sw _ _ jN)⟩,rfl,_,rfl," ",lw,[("quarrel":Str),num q.1,num q.2.1,kp q.2.2],rfl,rfl,aZ.of hW,jn.1,l,_,_,rfl,rfl,(sw _ _ jN),aU (by simp; omega),?_⟩
     refine ⟨_,_,_,_,_,_,rfl,aq (sm.trans sw) hl,?_⟩
     rw [ae,Yv,hq]
     simp [tZ]
   ·rintro σ H2 ⟨v2,v3,v4,v5,v6,v7,rfl,sm,jN⟩
    rw [Yj (by omega)] at jN
    exact ⟨_,rfl,k l H2 sm jN⟩
end
abbrev most:Nat:=1000000
theorem kR {n:Nat} (h:n <= most):n <= sizeLine:=Yh h (by decide)
theorem zp {x:Str} (e:x = "0"):isNum x = true:=by unfold isNum; rw [Yi e]; rfl
theorem zt {x:Str} (e:x ≠ "0"):isNum x = (decide (1 <= x.length) && decide (x.length <= 10) && !decide (x.cps.toList[0]? = some 48) && x.cps.toList.all HZ):=by unfold isNum; rw [Yw e]; rfl
theorem num_reads {x:Str} (h:isNum x = true):PySem.intText? x = some (val x) /\ x.length <= 640:=by
 obtain ⟨h1,h2,h3⟩:=vi h
 exact ⟨PySem.intText_digits h1 h2 (by omega),by omega⟩
theorem sign_eq {c:Nat}:decide (V.str ⟨#[c]⟩ = V.str "0") = decide (c = 48):=by
 by_cases e:c = 48
 ·subst e; rw [Yi rfl]; exact Yi rfl
 ·rw [Yw e,Yw]
  intro z
  injection z with z
  have:(⟨#[c]⟩:Str).cps.toList = [48]:=by rw [z]; rfl
  exact e (by simpa using this)
theorem jV {a b:Str}:decide (V.str a = V.str b) = decide (a = b):=by
 by_cases e:a = b
 ·rw [Yi e,Yi (by rw [e])]
 ·rw [Yw e,Yw (fun z=>e (by injection z))]
theorem ne_str {a b:Str} (h:(!decide (V.str a = V.str b)) = true):¬ a = b:=fun e=>by rw [e,Yi rfl] at h; cases h
theorem eq_str {a b:Str} (h:(!decide (V.str a = V.str b)) = false):a = b:=by
 rw [jV] at h
 exact YA (by simpa using h)
theorem ED (xs:List V):oi xs none (some (-1)) = xs.dropLast:=by
 unfold oi
 have e:HT.dN xs.length xs.length (some (-1)) = xs.length - 1:=by
  have h:=HT.vL (-1) xs.length xs.length
  rw [if_pos (by decide)] at h
  omega
 rw [e,HT.xY,List.drop_zero,Nat.sub_zero,List.dropLast_eq_take]
theorem Fi (xs:List V):oi xs (some 1) none = xs.tail:=by
 unfold oi
 rw [show (1:Int) = ((1:Nat):Int) from rfl,HT.AJ,HT.xY]
 cases xs with
 | nil=>rfl
 | cons x xs =>
  rw [show min 1 (x :: xs).length = 1 by simp]
  exact Yj (by simp)
theorem LU (a b:Str):sF [a,b] = if a = "boat" /\ isNum b = true then some (val b) else none:=rfl
theorem Ke (a b c:Str):kF [a,b,c] = if a = "thing" /\ (c = "rows" \/ c = "sits") /\ isNum b = true then some (val b,decide (c = "rows")) else none:=rfl
theorem D4 (a b c d:Str):fv [a,b,c,d] = if a = "quarrel" /\ isNum b = true /\ isNum c = true /\ (d = "-" \/ isNum d = true) then some (val b,val c,if d = "-" then -1 else val d) else none:=rfl
section
variable {P:Program} {w:World} {K:aaG} {mg:Str->Option Value} {base:Heap} {C:Addr} {Z:Ad}
def nT:Sp:=fun vs H Q _=>∃ (x:Str),vs = [.str x] /\ x.length <= most /\ ∀ H',ao H H'->Q (.bl (isNum x)) H'
theorem uY:av ["word"] ["word"] (aj cy):=fk
theorem wr {f:Addr} {fd:FuncData} (F:Fn K mg "is_number" cy f fd ["word"]) (T:Txt K mg C Z):au P w K mg base be 1 f fd ["word"] nT:=by
 refine F.fn.ok uY (fun vs H Q E h=>?_) (fun ci A outer s H vs Q E hr h=>?_)
 ·obtain ⟨x,rfl,_⟩:=h
  rfl
 ·obtain ⟨x,rfl,hz,k⟩:=h
  refine ⟨_,(ag (bL (aD j0 (pv 0) aS (aY _))
   (ai (aA jy))
   aM)
   (ag (bL (PW.pt (pw_or (eK (mG jX jX ak (aV vG (by rfl) T.im YN (aa (pv 0) af)) (dU (v:=.int (10)) (by rfl) T.rq ⟨_,rfl⟩))) (pw_or1 (aD j0 (aR JK (pv 0) ak (fun _ _=>rfl)) aS (aY _)))))
   (ai (aA jy))
   aM)
   (ai (aA (aV (qF rfl) (by rfl) T.DJ boot_all (aa (bS rfl (N':=["sign"]) (cap:=[none]) ⟨rfl,by with_unfolding_all rfl⟩ (IU (pv 0)) (fun _=>(gn 0 (show (["sign"]:List Str).Nodup by decide +kernel))) (fun _=>cu) (fun _=>(fN B6 (pv 0) (dU (v:=.str "0123456789") (by rfl) T.BB ⟨_,rfl⟩) (by with_unfolding_all rfl)))) af)))))),?_⟩
  have kb:∀ b,isNum x = b->∀ H',ao H H'->Q (.bl b) H':=fun b e H' sm=>by rw [<- e]; exact k H' sm
  have hl:=jg x
  refine ⟨_,rfl,rfl,_,rfl,?_⟩
  refine bv (fun h0=>?_) (fun h0=>?_)
  ·exact kb true (zp (by have:=YA h0; injection this)) H fun _ _ e=>e
  have e0:x ≠ "0":=fun z=>by have:=of_decide_eq_false h0; exact this (by rw [z])
  have e1:=zt e0
  refine ⟨_,rfl,x,rfl,kR hz,_,_,rfl,rfl,_,rfl,?_⟩
  refine bv (fun h1=>?_) (fun h1=>?_)
  rotate_left
  ·refine ⟨_,rfl,yL (yL ?_)⟩
   refine kb false ?_ H fun _ _ e=>e
   rw [e1,Yw (show ¬ 1 <= x.length from fun z=>of_decide_eq_false h1 (by omega))]
   rfl
  have cV:(1:Int) <= (x.length:Int):=YA h1
  refine ⟨_,_,rfl,rfl,_,rfl,?_⟩
  refine bv (fun h2=>?_) (fun h2=>?_)
  ·refine yL ?_
   have iL:(!decide ((x.length:Int) <= 10)) = true:=h2
   refine kb false ?_ H fun _ _ e=>e
   rw [e1,Yw (show ¬ x.length <= 10 from fun z=>by rw [Yi (by omega)] at iL; cases iL)]
   simp
  have iL:(x.length:Int) <= 10:=by
   have z:(!decide ((x.length:Int) <= 10)) = false:=h2
   simpa using z
  obtain ⟨c,hc⟩:∃ c,x.cps.toList[0]? = some c:=⟨x.cps.toList[0]'(by omega),Ya (by omega)⟩
  refine ⟨_,rfl,x,0,c,rfl,rfl,kR hz,fQ (j:=0) hc,rfl,_,rfl,?_⟩
  refine bv (fun h3=>?_) (fun h3=>?_)
  ·have vV:decide (V.str ⟨#[c]⟩ = V.str "0") = true:=h3
   rw [sign_eq] at vV
   refine kb false ?_ H fun _ _ e=>e
   rw [e1,hc,Yi (show some c = some 48 by rw [YA vV])]
   simp
  have vV:decide (V.str ⟨#[c]⟩ = V.str "0") = false:=h3
  rw [sign_eq] at vV
  have e2:isNum x = x.cps.toList.all HZ:=by
   rw [e1,hc,Yi (show 1 <= x.length by omega),Yi (show x.length <= 10 by omega),Yw (show ¬ some c = some 48 from fun z=>of_decide_eq_false vV (Y4 z))]
   rfl
  refine ⟨_,rfl,x,rfl,fun D hD=>?_⟩
  refine DO (x:=x) (fun i xs H'=>ao H H' /\ H' D = some (.lst xs) /\ xs = (x.cps.toList.take i).map fun c=>V.bl (HZ c)) ⟨ah hD,ae,rfl⟩ (fun i xs H' _ ⟨_,h,_⟩=>h) ?_ ?_
  ·rintro i c xs H' hi ⟨sm,gu,rfl⟩
   refine ⟨cm.set rfl,?_⟩
   have p7:x.cps.toList[i]? = some c:=by rw [<- hi]; simp
   have fT:i < x.cps.toList.length:=(Ys.mp p7).1
   refine ⟨_,rfl,_,_,rfl,rfl,gu,aU (by rw [X6,Yt]; omega),aq sm hD,ae,?_⟩
   rw [Yv,p7]
   simp only [Option.toList,Yd]
   rfl
  ·rintro xs H' ⟨sm,gu,rfl⟩
   refine ⟨D,x.cps.toList.map HZ,rfl,aZ.of ?_,?_⟩
   ·rw [gu,show x.cps.size = x.cps.toList.length by simp,Zr,YQ]
    rfl
   ·refine kb _ ?_ H' sm
    rw [e2,List.all_map]
    rfl
def eE:Sp:=fun vs H Q _=>∃ (x:Str),vs = [.str x] /\ x.length <= most /\ isNum x = true /\ ∀ H',ao H H'->Q (.int (val x)) H'
theorem sD:av ["word"] ["word"] (aj bV):=fk
theorem gQ {f f1:Addr} {fd eC:FuncData} (F:Fn K mg "read_number" bV f fd ["word"]) (T:Txt K mg C Z) (bC:Fn K mg "is_number" cy f1 eC ["word"]):au P w K mg base be 2 f fd ["word"] eE:=by
 have wN:au P w K mg base be 1 f1 eC ["word"] nT:=wr bC T
 refine F.fn.ok sD (fun vs H Q E h=>?_) (fun ci A outer s H vs Q E hr h=>?_)
 ·obtain ⟨x,rfl,_⟩:=h
  rfl
 ·obtain ⟨x,rfl,hz,e,k⟩:=h
  refine ⟨_,(ag (bL (eK (eS (cl wN bC hr ay (aa (pv 0) af))))
   (ai dO)
   aM)
   (ai (aA (aO tF (by rfl) T.HS boot_int (aa (pv 0) af))))),?_⟩
  refine ⟨_,rfl,x,rfl,hz,fun H1 s1=>⟨_,rfl,?_⟩⟩
  refine bv (fun h0=>?_) (fun h0=>?_)
  ·have z:(!isNum x) = true:=h0
   rw [e] at z; cases z
  ·obtain ⟨r1,r2⟩:=num_reads e
   exact ⟨_,rfl,x,_,rfl,r1,r2,k H1 s1⟩
def fR:Sp:=fun vs H Q _=>∃ (x y:Str) (n:Nat),vs = [.str x,.str y,.int n] /\ x.length <= most /\ (ft x)[0]? = some y /\ (ft x).length = n /\ ∀ l H',ao H H'->H' l = some (.lst ((ft x).map V.str))->Q (.ref l) H'
theorem Gf (x:Str) (h:x.length <= most):(ft x).length <= sizeLine:=Yh (split_le x ⟨#[32]⟩) (Yh (Nat.add_le_add_right h 2) (by decide))
theorem Gx (x:Str) (h:x.length <= most):(BU x).length <= sizeLine:=Yh (split_le x ⟨#[10]⟩) (Yh (Nat.add_le_add_right h 2) (by decide))
theorem Fj (x:Str) (h:x.length <= most):(BU x).length <= most + 2:=Yh (split_le x ⟨#[10]⟩) (by omega)
theorem FX (x:Str):∃ y r,ft x = y :: r:=by
 cases e:ft x with
 | nil=>exact absurd e (j7 x ⟨#[32]⟩)
 | cons y r=>exact ⟨y,r,rfl⟩
theorem jS {x y:Str} (h:y ∈ ft x) (hz:x.length <= most):y.length <= most:=Yh (part_short h) hz
theorem ly:av ["line","first","count","words"] ["line","first","count"] (aj cv):=fk
theorem iz {f:Addr} {fd:FuncData} (F:Fn K mg "read_words" cv f fd ["line","first","count"]) (T:Txt K mg C Z):au P w K mg base be 1 f fd ["line","first","count"] fR:=by
 refine F.fn.ok ly (fun vs H Q E h=>?_) (fun ci A outer s H vs Q E hr h=>?_)
 ·obtain ⟨x,y,n,rfl,_⟩:=h
  rfl
 ·obtain ⟨x,y,n,rfl,hz,e1,e2,k⟩:=h
  refine ⟨_,(ag (sn 3 ly.nd (fc PySem.F.plainAttrs_str PySem.F.slot_str_split PySem.F.type_str_split yq (pv 0) (aa aS af)))
   (ag (bL (PW.pt (pw_or (aD jB (aR ce (pv 3) ak (fun _ _=>rfl)) (pv 1) (aY _)) (pw_or1 (aD jB (aV ba (by rfl) T.im YN (aa (pv 3) af)) (pv 2) (aY _)))))
   (ai dO)
   aM)
   (ai (aA (pv 3))))),?_⟩
  refine ⟨_,rfl,rfl,x," ",rfl,rfl,rfl,kR hz,Gf x hz,fun l hl=>?_⟩
  show _
  have jN:(L2.upd H l (.lst ((ft x).map V.str))) l = some (.lst ((ft x).map V.str)):=ae
  have s1:ao H (L2.upd H l (.lst ((ft x).map V.str))):=ah hl
  obtain ⟨y0,r,ew⟩:=FX x
  have ey:y0 = y:=by rw [ew] at e1; simpa using e1
  refine ⟨_,rfl,l,_,0,.str y0,rfl,rfl,aZ.of jN,fQ (j:=0) (by rw [ew]; rfl),_,rfl,rfl,_,rfl,?_⟩
  refine bv (fun h0=>?_) (fun h0=>?_)
  ·have Sf:(!decide (V.str y0 = V.str y)) = true:=h0
   rw [ey,Yi rfl] at Sf
   cases Sf
  refine ⟨_,rfl,l,_,rfl,.inl (aZ.of jN),_,rfl,rfl,_,rfl,?_⟩
  rw [X6]
  refine bv (fun h1=>?_) (fun h1=>?_)
  ·have cV:(!decide (V.int ((ft x).length:Nat) = V.int n)) = true:=h1
   rw [e2,Yi rfl] at cV
   cases cV
  ·exact ⟨_,rfl,k l _ s1 jN⟩
def nN:Sp:=fun vs H Q _=>∃ (x:Str) (n:Int),vs = [.str x] /\ x.length <= most /\ sF (ft x) = some n /\ ∀ H',ao H H'->Q (.int n) H'
theorem nC:av ["line","words"] ["line"] (aj fV):=fk
theorem vf {f f1 f2 f3:Addr} {fd eC jH oI:FuncData} (F:Fn K mg "read_boat" fV f fd ["line"]) (T:Txt K mg C Z) (bC:Fn K mg "is_number" cy f1 eC ["word"]) (aQ:Fn K mg "read_number" bV f2 jH ["word"])
  (bj:Fn K mg "read_words" cv f3 oI ["line","first","count"]):au P w K mg base be 3 f fd ["line"] nN:=by
 have cB:au P w K mg base be 2 f2 jH ["word"] eE:=gQ aQ T bC
 have eU:au P w K mg base be 1 f3 oI ["line","first","count"] fR:=iz bj T
 refine F.fn.ok nC (fun vs H Q E h=>?_) (fun ci A outer s H vs Q E hr h=>?_)
 ·obtain ⟨x,n,rfl,_⟩:=h
  rfl
 ·obtain ⟨x,n,rfl,hz,hb,k⟩:=h
  refine ⟨_,(ag (sn 1 nC.nd (cl eU bj hr ay (aa (pv 0) (aa aS (aa ak af)))))
   (ai (aA (cl cB aQ hr ay (aa (aR ce (pv 1) ak (fun _ _=>rfl)) af))))),?_⟩
  match e:ft x,hb with
  | [a,b],hb =>
   rw [LU] at hb
   split at hb
   ·rename_i BC
    have en:val b = n:=Y4 hb
    have mb:b.length <= most:=jS (by rw [e]; simp) hz
    refine ⟨_,rfl,x,"boat",2,rfl,hz,by rw [e,BC.1]; rfl,by rw [e]; rfl,fun l H1 s1 h1=>?_⟩
    rw [e] at h1
    refine ⟨_,rfl,l,_,1,.str b,rfl,rfl,aZ.of h1,rfl,b,rfl,mb,BC.2,fun H2 s2=>?_⟩
    rw [en]
    exact k H2 (s1.trans s2)
   ·cases hb
def lB:Sp:=fun vs H Q _=>∃ (x:Str) (t:Th),vs = [.str x] /\ x.length <= most /\ kF (ft x) = some t /\ ∀ p H',ao H H'->H' p = some (.tup [.int t.1,.bl t.2])->Q (.ref p) H'
theorem lm:av ["line","words"] ["line"] (aj eV):=fk
theorem sX {f f1 f2 f3:Addr} {fd eC jH oI:FuncData} (F:Fn K mg "read_thing" eV f fd ["line"]) (T:Txt K mg C Z) (bC:Fn K mg "is_number" cy f1 eC ["word"]) (aQ:Fn K mg "read_number" bV f2 jH ["word"])
  (bj:Fn K mg "read_words" cv f3 oI ["line","first","count"]):au P w K mg base be 3 f fd ["line"] lB:=by
 have cB:au P w K mg base be 2 f2 jH ["word"] eE:=gQ aQ T bC
 have eU:au P w K mg base be 1 f3 oI ["line","first","count"] fR:=iz bj T
 refine F.fn.ok lm (fun vs H Q E h=>?_) (fun ci A outer s H vs Q E hr h=>?_)
 ·obtain ⟨x,t,rfl,_⟩:=h
  rfl
 ·obtain ⟨x,t,rfl,hz,hb,k⟩:=h
  refine ⟨_,(ag (sn 1 lm.nd (cl eU bj hr ay (aa (pv 0) (aa aS (aa ak af)))))
   (ag (bL (PW.pt (pw_and (aD jB (aR ce (pv 1) ak (fun _ _=>rfl)) aS (aY _)) (pw_and1 (aD jB (aR ce (pv 1) ak (fun _ _=>rfl)) aS (aY _)))))
   (ai dO)
   aM)
   (ai (aA (cM (aa (cl cB aQ hr ay (aa (aR ce (pv 1) ak (fun _ _=>rfl)) af)) (aa (fN j0 (aR ce (pv 1) ak (fun _ _=>rfl)) aS (aY _)) af))))))),?_⟩
  match e:ft x,hb with
  | [a,b,c],hb =>
   rw [Ke] at hb
   split at hb
   ·rename_i BC
    obtain ⟨ea,hc,hn⟩:=BC
    have en:=Y4 hb
    have mb:b.length <= most:=jS (by rw [e]; simp) hz
    refine ⟨_,rfl,x,"thing",3,rfl,hz,by rw [e,ea]; rfl,by rw [e]; rfl,fun l H1 s1 h1=>?_⟩
    rw [e] at h1
    have last:∀ H2,ao H1 H2->∀ p:Addr,H2 p = none->Q (.ref p) (L2.upd H2 p (.tup [.int (val b),.bl (decide (c = "rows"))])):=fun H2 s2 p hp=>by
     refine k p _ (s1.trans (s2.trans (ah hp))) ?_
     rw [<- en]
     exact ae
    refine ⟨_,rfl,l,_,2,.str c,rfl,rfl,aZ.of h1,rfl,rfl,_,rfl,?_⟩
    refine bv (fun c1=>?_) (fun c1=>?_)
    ·refine ⟨_,rfl,l,_,2,.str c,rfl,rfl,aZ.of h1,rfl,rfl,_,rfl,?_⟩
     refine bv (fun c2=>?_) (fun c2=>?_)
     ·exact (hc.elim (ne_str c1) (ne_str c2)).elim
     ·refine ⟨_,rfl,l,_,1,.str b,rfl,rfl,aZ.of h1,rfl,b,rfl,mb,hn,fun H2 s2=>?_⟩
      refine ⟨_,rfl,l,_,2,.str c,rfl,rfl,aZ.of (s2 _ _ h1),rfl,rfl,aH (by show 2 <= _; decide),fun p hp=>?_⟩
      rw [jV]
      exact last H2 s2 p hp
    ·refine ic ?_
     refine ⟨_,rfl,l,_,1,.str b,rfl,rfl,aZ.of h1,rfl,b,rfl,mb,hn,fun H2 s2=>?_⟩
     refine ⟨_,rfl,l,_,2,.str c,rfl,rfl,aZ.of (s2 _ _ h1),rfl,rfl,aH (by show 2 <= _; decide),fun p hp=>?_⟩
     rw [jV]
     exact last H2 s2 p hp
   ·cases hb
def jI:Sp:=fun vs H Q _=>∃ (x:Str) (q:Qu),vs = [.str x] /\ x.length <= most /\ fv (ft x) = some q /\ ∀ p H',ao H H'->H' p = some (.tup [.int q.1,.int q.2.1,.int q.2.2])->Q (.ref p) H'
theorem gf:av ["line","words","keeper"] ["line"] (aj cZ):=fk
theorem pS {f f1 f2 f3:Addr} {fd eC jH oI:FuncData} (F:Fn K mg "read_quarrel" cZ f fd ["line"]) (T:Txt K mg C Z) (bC:Fn K mg "is_number" cy f1 eC ["word"]) (aQ:Fn K mg "read_number" bV f2 jH ["word"])
  (bj:Fn K mg "read_words" cv f3 oI ["line","first","count"]):au P w K mg base be 3 f fd ["line"] jI:=by
 have cB:au P w K mg base be 2 f2 jH ["word"] eE:=gQ aQ T bC
 have eU:au P w K mg base be 1 f3 oI ["line","first","count"] fR:=iz bj T
 refine F.fn.ok gf (fun vs H Q E h=>?_) (fun ci A outer s H vs Q E hr h=>?_)
 ·obtain ⟨x,q,rfl,_⟩:=h
  rfl
 ·obtain ⟨x,q,rfl,hz,hb,k⟩:=h
  refine ⟨_,(ag (sn 1 gf.nd (cl eU bj hr ay (aa (pv 0) (aa aS (aa ak af)))))
   (ag (sn 2 gf.nd (m6 (aD j0 (aR ce (pv 1) ak (fun _ _=>rfl)) aS (aY _)) (dU (v:=.int (-1)) (by rfl) T.j8 ⟨_,rfl⟩) (cl cB aQ hr ay (aa (aR ce (pv 1) ak (fun _ _=>rfl)) af))))
   (ai (aA (cM (aa (cl cB aQ hr ay (aa (aR ce (pv 1) ak (fun _ _=>rfl)) af)) (aa (cl cB aQ hr ay (aa (aR ce (pv 1) ak (fun _ _=>rfl)) af)) (aa (pv 2) af)))))))),?_⟩
  match e:ft x,hb with
  | [a,b,c,d],hb =>
   rw [D4] at hb
   split at hb
   ·rename_i BC
    obtain ⟨ea,hn,hm,wz⟩:=BC
    have en:=Y4 hb
    have mb:b.length <= most:=jS (by rw [e]; simp) hz
    have mc:c.length <= most:=jS (by rw [e]; simp) hz
    have md:d.length <= most:=jS (by rw [e]; simp) hz
    refine ⟨_,rfl,x,"quarrel",4,rfl,hz,by rw [e,ea]; rfl,by rw [e]; rfl,fun l H1 s1 h1=>?_⟩
    rw [e] at h1
    refine ⟨_,rfl,l,_,3,.str d,rfl,rfl,aZ.of h1,rfl,rfl,_,rfl,?_⟩
    refine bv (fun c1=>?_) (fun c1=>?_)
    ·have hd:d = "-":=by rw [jV] at c1; exact YA c1
     rw [if_pos hd] at en
     refine ⟨_,rfl,l,_,1,.str b,rfl,rfl,aZ.of h1,rfl,b,rfl,mb,hn,fun H2 s2=>?_⟩
     refine ⟨_,rfl,l,_,2,.str c,rfl,rfl,aZ.of (s2 _ _ h1),rfl,c,rfl,mc,hm,fun H3 s3=>?_⟩
     refine ⟨_,rfl,aH (by show 3 <= _; decide),fun p hp=>?_⟩
     refine k p _ (s1.trans (s2.trans (s3.trans (ah hp)))) ?_
     rw [<- en]
     exact ae
    ·have hd:¬ d = "-":=by rw [jV] at c1; exact of_decide_eq_false c1
     rw [if_neg hd] at en
     refine ⟨_,rfl,l,_,3,.str d,rfl,rfl,aZ.of h1,rfl,d,rfl,md,wz.resolve_left hd,fun H0 s0=>?_⟩
     refine ⟨_,rfl,l,_,1,.str b,rfl,rfl,aZ.of (s0 _ _ h1),rfl,b,rfl,mb,hn,fun H2 s2=>?_⟩
     refine ⟨_,rfl,l,_,2,.str c,rfl,rfl,aZ.of (s2 _ _ (s0 _ _ h1)),rfl,c,rfl,mc,hm,fun H3 s3=>?_⟩
     refine ⟨_,rfl,aH (by show 3 <= _; decide),fun p hp=>?_⟩
     refine k p _ (s1.trans (s0.trans (s2.trans (s3.trans (ah hp))))) ?_
     rw [<- en]
     exact ae
   ·cases hb
end
section
variable {P:Program} {w:World} {K:aaG} {mg:Str->Option Value} {base:Heap} {C:Addr} {Z:Ad}
def Ai (C:Addr):Sp:=fun vs H Q _=>∃ (x:Str) (ts:List Th) (r:Int) (qs:List Qu),vs = [.str x] /\ x.length <= most /\ rd x = some (ts,r,qs) /\ ∀ p H',ao H H'->aX C H' p ts r qs->Q (.ref p) H'
theorem Mb {x:Str} {ts:List Th} {r:Int} {qs:List Qu} (h:rd x = some (ts,r,qs)):Txt.endswith x ⟨#[10]⟩ = true /\ QD ((BU x).dropLast.map ft) = some (ts,r,qs):=by
 unfold rd at h
 split at h
 ·rename_i e; exact ⟨e,h⟩
 ·cases h
theorem nq {α β:Type} {o:Option α} {f:α->Option β} {b:β} (h:o.bind f = some b):∃ a,o = some a /\ f a = some b:=Option.bind_eq_some_iff.mp h
theorem Gm {n:Int} {p:List Th × List Qu} {y:List Th × Int × List Qu} (h:yr n p = some y):Fs n p.1 p.2 /\ y = (p.1,n,p.2):=by
 by_cases z:Fs n p.1 p.2
 ·rw [xr z] at h; exact ⟨z,(Y4 h).symm⟩
 ·rw [EX z] at h; cases h
theorem nQ (x:Str):Txt.startswith x "thing " = true ↔ (ft x)[0]? = some ("thing":Str) /\ 2 <= (ft x).length:=vy x "thing" 32 (by decide)
theorem Dq {x y:Str} (h:y ∈ BU x) (hz:x.length <= most):y.length <= most:=Yh (part_short h) hz
theorem i8:av ["text","lines","room","things","quarrels","line","night","bad"] ["text"] (aj u4):=fk
theorem Gs {f f1 f2 f3 f4 f5 f6 f7 f8 f9 g1 g2 g3:Addr} {fd eC jH oI EM HM LH Ro T3 WB U2 UN WN:FuncData} (F:Fn K mg "read" u4 f fd ["text"]) (T:Txt K mg C Z) (bC:Fn K mg "is_number" cy f1 eC ["word"])
  (aQ:Fn K mg "read_number" bV f2 jH ["word"]) (bj:Fn K mg "read_words" cv f3 oI ["line","first","count"]) (pG:Fn K mg "read_boat" fV f4 EM ["line"]) (mM:Fn K mg "read_thing" eV f5 HM ["line"])
  (jU:Fn K mg "read_quarrel" cZ f6 LH ["line"]) (vX:Mk K C f7) (du:Mt K "__init__" "Night.__init__" cI f7 Ro ["self","things","room","quarrels"]) (bd:Fn K mg "is_thing" cC f8 T3 ["number","count"])
  (gJ:Fn K mg "is_pair" fm f9 WB ["one","other","count"]) (ei:Fn K mg "is_keeper" c9 g1 U2 ["keeper","one","other","count"]) (fb:Fn K mg "check_things" cG g2 UN ["things"])
  {g4:Addr} {Tc:FuncData} (gy:Fn K mg "check_room" dF g3 WN ["room"]) (dj:Fn K mg "check_quarrels" b7 g4 Tc ["quarrels","count"]) :
  au P w K mg base be 6 f fd ["text"] (Ai C):=by
 have wO:au P w K mg base be 3 f4 EM ["line"] nN:=vf pG T bC aQ bj
 have u8:au P w K mg base be 3 f5 HM ["line"] lB:=sX mM T bC aQ bj
 have qw:au P w K mg base be 3 f6 LH ["line"] jI:=pS jU T bC aQ bj
 have fu:au P w K mg base be 4 f7 Ro ["self","things","room","quarrels"] (uV C):=AE du T bd gJ ei fb gy dj
 refine F.fn.ok i8 (fun vs H Q E h=>?_) (fun ci A outer s H vs Q E hr h=>?_)
 ·obtain ⟨x,ts,r,qs,rfl,_⟩:=h
  rfl
 ·obtain ⟨x,Rq,r0,Se,rfl,hz,Q2,k⟩:=h
  obtain ⟨he,hL⟩:=Mb Q2
  refine ⟨_,(ag (bL (eK (eS (fc PySem.F.plainAttrs_str PySem.F.slot_str_endswith PySem.F.type_str_endswith GH (pv 0) (aa aS af))))
   (ai dO)
   aM)
   (ag (sn 1 i8.nd (qT AU (fc PySem.F.plainAttrs_str PySem.F.slot_str_split PySem.F.type_str_split yq (pv 0) (aa aS af)) vZ (vO (Ic Ff ak))))
   (ag (sn 2 i8.nd (cl wO pG hr ay (aa (aR ce (pv 1) ak (fun _ _=>rfl)) af)))
   (ag (sn 3 i8.nd (eT af))
   (ag (sn 4 i8.nd (eT af))
   (ag (fA YS rfl (bU (qT AU (pv 1) (vO ak) vZ)) (gn 5 i8.nd)
   (ai (bL (PW.pt (pw_and (eS (fc PySem.F.plainAttrs_str PySem.F.slot_str_startswith PySem.F.type_str_startswith BY (pv 5) (aa aS af))) (pw_and1 (eK (xx (pv 4) (by intro _; rfl))))))
   (ai (cp (fc Zv Z2 Z1 dm (pv 3) (aa (cl u8 mM hr ay (aa (pv 5) af)) af))))
   (ai (cp (fc Zv Z2 Z1 dm (pv 4) (aa (cl qw jU hr ay (aa (pv 5) af)) af)))))))
   (ag (He (ai (sn 6 i8.nd (AC vX fu (hr.mono (by decide)) (by rfl) T.vB du.b .nil ay (aa (pv 3) (aa (pv 2) (aa (pv 4) af)))))))
   (ai (aA (pv 6)))))))))),?_⟩
  refine ⟨_,rfl,rfl,x,"\n",rfl,rfl,_,rfl,?_⟩
  refine bv (fun h0=>?_) (fun h0=>?_)
  ·have z:(!Txt.endswith x "\n") = true:=h0
   rw [show Txt.endswith x "\n" = true from he] at z
   cases z
  have hE:=(rM x 10).mp he
  have oE:BU x ≠ []:=j7 x ⟨#[10]⟩
  obtain ⟨y0,lr,Ob⟩:∃ y0 lr,(BU x).dropLast = y0 :: lr:=by
   have h2:2 <= (BU x).length:=hE.2
   match BU x,h2 with
   | a :: b :: r,_=>exact ⟨a,(b :: r).dropLast,by rw [List.dropLast_cons_of_ne_nil (by simp)]⟩
  have mem:∀ y ∈ y0 :: lr,y.length <= most:=fun y hy=>Dq (List.dropLast_subset _ (by rw [Ob]; exact hy)) hz
  rw [Ob] at hL
  obtain ⟨n,en,hL⟩:=nq (show (sF (ft y0)).bind (fun n=>(loop (lr.map ft) [] []).bind fun p=>yr n p) = some (Rq,r0,Se) from hL)
  obtain ⟨tq,GL,hL⟩:=nq hL
  obtain ⟨EU,Qq⟩:=Gm hL
  refine ⟨_,rfl,rfl,x,"\n",rfl,rfl,rfl,kR hz,Gx x hz,fun l0 yz=>?_⟩
  have s0:=ah (o:=.lst ((Txt.split x "\n").map V.str)) yz
  refine ⟨_,rfl,_,rfl,l0,_,rfl,aZ.of ae,fun l1 y7=>?_⟩
  have ec:oi ((Txt.split x "\n").map V.str) none (some (-1)) = (y0 :: lr).map V.str:=by
   rw [ED,<- List.map_dropLast]
   exact Zi (List.map V.str) Ob
  rw [ec]
  have s1:=s0.trans (ah (o:=.lst ((y0 :: lr).map V.str)) y7)
  have h1:(L2.upd (L2.upd H l0 (.lst ((Txt.split x "\n").map V.str))) l1 (.lst ((y0 :: lr).map V.str))) l1 = some (.lst ((y0 :: lr).map V.str)):=ae
  generalize L2.upd (L2.upd H l0 (.lst ((Txt.split x "\n").map V.str))) l1 (.lst ((y0 :: lr).map V.str)) = H1 at s1 h1 ⊢
  refine ⟨_,rfl,l1,_,0,.str y0,rfl,rfl,aZ.of h1,fQ (j:=0) rfl,y0,n,rfl,mem y0 (by simp),en,fun H2 s2=>?_⟩
  have sb:=s1.trans s2
  have hB:=s2 _ _ h1
  refine ⟨aH (YD _),fun lt fT=>?_⟩
  refine ⟨aH (YD _),fun lq Pq=>?_⟩
  have SK:H2 lt = none:=fT
  have s3:ao H2 (L2.upd H2 lt (.lst [])):=ah fT
  have Jp:lt ≠ lq:=ax (H:=L2.upd H2 lt (.lst [])) ae Pq
  have RV:H2 lq = none:=s3.free Pq
  have s4:ao H2 (L2.upd (L2.upd H2 lt (.lst [])) lq (.lst [])):=s3.trans (ah Pq)
  refine ⟨_,rfl,_,rfl,l1,_,rfl,aZ.of (s4 _ _ hB),fun l2 ox=>?_⟩
  rw [Fi]
  have et:((y0 :: lr).map V.str).tail = lr.map V.str:=rfl
  rw [et]
  have Mf:lt ≠ l2:=ax (H:=L2.upd (L2.upd H2 lt (.lst [])) lq (.lst [])) (by rw [am Jp]; exact ae) ox
  have JF:lq ≠ l2:=ax (H:=L2.upd (L2.upd H2 lt (.lst [])) lq (.lst [])) ae ox
  refine ⟨l2,rfl,⟨_,aZ.of ae⟩,eX (K:=K) (a:=l2) (xs:=lr.map V.str) (fun i σ H'=>∃ (ts:List Th) (qs:List Qu) (vt vq:List V) (v5:Option V),σ = [some (.str x),some (.ref l1),some (.int n),some (.ref lt),some (.ref lq),v5,none,none] /\ ao H2 H' /\ H' l2 = some (.lst (lr.map V.str)) /\
   loop (lr.map ft) [] [] = loop ((lr.drop i).map ft) ts qs /\ H' lt = some (.lst vt) /\ bW H' (ts.map vH) vt /\ H' lq = some (.lst vq) /\ bW H' (qs.map vF) vq /\ vt.length <= i /\ vq.length <= i) ?_ (fun i σ H' _ ⟨_,_,_,_,_,_,_,h,_⟩=>aZ.of h) ?_ ?_⟩
  ·refine ⟨[],[],[],[],_,rfl,s4.trans (ah ox),ae,rfl,?_,.nil,?_,.nil,YD _,YD _⟩
   ·rw [am Mf,am Jp]; exact ae
   ·rw [am JF]; exact ae
  ·rintro i v σ H' hi ⟨ts,qs,vt,vq,v5,rfl,sm,GW,BN,Fv,dt,oy,dq,bt,bq⟩
   rw [Yl,YU] at hi
   obtain ⟨y,hy,rfl⟩:=hi
   have my:y.length <= most:=mem y (X8 _ (YE hy))
   have wK:lr.drop i = y :: lr.drop (i + 1):=List.drop_eq_getElem?_toList_append.trans (by rw [hy]; rfl)
   have U7:i < lr.length:=(Ys.mp hy).1
   have Wc:lr.length <= 10000000:=by
    have:=Fj x hz
    have h2:(BU x).dropLast.length = (y0 :: lr).length:=by rw [Ob]
    rw [List.length_dropLast] at h2
    simp at h2
    have em:most = 1000000:=rfl
    omega
   have big:∀ n,n <= lr.length->n < sizeLine:=fun n h=>Nat.lt_of_le_of_lt (Yh h Wc) (by decide)
   have eqs:vq.isEmpty = true ↔ qs = []:=by
    have:=aI dq
    cases vq <;> cases qs <;> simp_all
   refine ⟨_,rfl,rfl,y,"thing ",rfl,rfl,_,rfl,?_⟩
   refine bv (fun a1=>?_) (fun a1=>?_)
   ·have w1:=(nQ y).mp a1
    refine ⟨_,rfl,_,.inl ⟨vq,aZ.of oy,rfl⟩,?_⟩
    refine bv (fun a2=>?_) (fun a2=>?_)
    ·have z:(!(!vq.isEmpty)) = true:=a2
     have OJ:qs = []:=eqs.mp (by simpa using z)
     have Q9:loop ((lr.drop i).map ft) ts qs = (kF (ft y)).bind fun t=>loop ((lr.drop (i + 1)).map ft) (ts ++ [t]) qs:=by
      rw [wK,Yq,rf ⟨w1,OJ⟩]
     obtain ⟨t,eq,_⟩:=nq (Q9.symm.trans (BN.symm.trans GL))
     refine ⟨_,rfl,.inl ⟨rfl,_,aZ.of Fv⟩,_,rfl,y,t,rfl,my,eq,fun p H4 s4 hp=>?_⟩
     refine ⟨lt,vt,_,rfl,rfl,s4 _ _ Fv,big _ (by omega),?_⟩
     have Qk:=s4 _ _ Fv
     refine ⟨ts ++ [t],qs,vt ++ [.ref p],vq,_,rfl,aq (sm.trans s4) SK,?_,by rw [BN,Q9,eq]; rfl,ae,?_,?_,bp Qk (dq.mono s4) (aE m5 qs),by rw [Yx]; simp; omega,by omega⟩
     ·rw [am (fun z=>Mf z.symm)]; exact s4 _ _ GW
     ·rw [Yd]
      exact (bp Qk (dt.mono s4) (aE ph ts)).snoc (dJ Qk (HY hp) (ph _))
     ·rw [am (fun z=>Jp z.symm)]; exact s4 _ _ oy
    ·have z:(!(!vq.isEmpty)) = false:=a2
     have OJ:¬ qs = []:=fun e=>by rw [eqs.mpr e] at z; cases z
     have ME:loop ((lr.drop i).map ft) ts qs = (fv (ft y)).bind fun q=>loop ((lr.drop (i + 1)).map ft) ts (qs ++ [q]):=by
      rw [wK,Yq,je (fun z=>OJ z.2)]
     obtain ⟨q,eq,_⟩:=nq (ME.symm.trans (BN.symm.trans GL))
     refine ⟨_,rfl,.inl ⟨rfl,_,aZ.of oy⟩,_,rfl,y,q,rfl,my,eq,fun p H4 s4 hp=>?_⟩
     refine ⟨lq,vq,_,rfl,rfl,s4 _ _ oy,big _ (by omega),?_⟩
     have HH:=s4 _ _ oy
     refine ⟨ts,qs ++ [q],vt,vq ++ [.ref p],_,rfl,aq (sm.trans s4) RV,?_,by rw [BN,ME,eq]; rfl,?_,bp HH (dt.mono s4) (aE ph ts),ae,?_,by omega,by rw [Yx]; simp; omega⟩
     ·rw [am (fun z=>JF z.symm)]; exact s4 _ _ GW
     ·rw [am Jp]; exact s4 _ _ Fv
     ·rw [Yd]
      exact (bp HH (dq.mono s4) (aE m5 qs)).snoc (dJ HH (E9 hp) (m5 _))
   ·refine ic ?_
    have w1:¬ ((ft y)[0]? = some ("thing":Str) /\ 2 <= (ft y).length):=fun z=>by rw [(nQ y).mpr z] at a1; cases a1
    have ME:loop ((lr.drop i).map ft) ts qs = (fv (ft y)).bind fun q=>loop ((lr.drop (i + 1)).map ft) ts (qs ++ [q]):=by
     rw [wK,Yq,je (fun z=>w1 z.1)]
    obtain ⟨q,eq,_⟩:=nq (ME.symm.trans (BN.symm.trans GL))
    refine ⟨_,rfl,.inl ⟨rfl,_,aZ.of oy⟩,_,rfl,y,q,rfl,my,eq,fun p H4 s4 hp=>?_⟩
    refine ⟨lq,vq,_,rfl,rfl,s4 _ _ oy,big _ (by omega),?_⟩
    have HH:=s4 _ _ oy
    refine ⟨ts,qs ++ [q],vt,vq ++ [.ref p],_,rfl,aq (sm.trans s4) RV,?_,by rw [BN,ME,eq]; rfl,?_,bp HH (dt.mono s4) (aE ph ts),ae,?_,by omega,by rw [Yx]; simp; omega⟩
    ·rw [am (fun z=>JF z.symm)]; exact s4 _ _ GW
    ·rw [am Jp]; exact s4 _ _ Fv
    ·rw [Yd]
     exact (bp HH (dq.mono s4) (aE m5 qs)).snoc (dJ HH (E9 hp) (m5 _))
  ·rintro σ H' ⟨ts,qs,vt,vq,v5,rfl,sm,GW,BN,Fv,dt,oy,dq,bt,bq⟩
   rw [X6,List.drop_length] at BN
   have Pm:loop (lr.map ft) [] [] = some (ts,qs):=BN
   have VX:tq = (ts,qs):=Y4 (GL.symm.trans Pm)
   subst VX
   obtain ⟨rfl,e2⟩:=Prod.mk.inj Qq
   obtain ⟨rfl,rfl⟩:=Prod.mk.inj e2
   refine ⟨_,rfl,_,rfl,_,rfl,fun pm dx nx Pa TN=>?_⟩
   have sp:ao H' (L2.upd (L2.upd H' dx (.own pm)) pm (.ins C dx [])):=aq (ah Pa) nx
   refine ⟨pm,dx,lt,lq,Rq,r0,Se,rfl,ae,⟨vt,sp _ _ Fv,dt.mono sp⟩,EU.t,EU.r1,EU.r3,⟨vq,sp _ _ oy,dq.mono sp⟩,EU.l,EU.q,fun H7 NA kp=>⟨rfl,?_⟩⟩
   have s7:ao H' H7:=fun b o e=>kp b o (sp b o e) (ax e nx)
   exact ⟨_,rfl,k pm H7 ((sb.trans sm).trans s7) NA⟩
end
theorem qe {α:Type} {f:α->PyData} (hf:∀ x,(f x).canLay0 = true) (l:List α):(PyData.list (l.map f)).canLay0 = true:=by
 simp only [PyData.canLay0]
 exact i5 hf l
theorem ve {α:Type} {f:α->PyData} (hf:∀ x,(f x).depth <= 50) (l:List α):(PyData.list (l.map f)).depth <= 60:=by
 have h:=iY hf l
 simp only [PyData.depth]
 omega
theorem m3 (t:Addr) (r:Int) (q:Addr):(k9 t r q).lookup ("begins":Str) = none:=nV _ _ _ (by decide +kernel) (by decide +kernel) (by decide +kernel)
theorem J1 (x:Hg):(C9 x).canLay0 = true:=by
 obtain ⟨s,o⟩:=x
 cases o <;> simp [C9,DE,PyData.canLay0,PyData.canLayAll0,rm]
theorem M9 (x:Hg):(C9 x).depth <= 50:=by
 obtain ⟨s,o⟩:=x
 have:=Fk s
 cases o <;> simp [C9,DE,PyData.depth,PyData.depthAll] <;> omega
theorem zI {ts:List Th} {r:Int} {qs:List Qu} {f g:Sh.Mp bh} (hf:Bp ts r qs f) (hg:Bp ts r qs g):pT ts qs f = pT ts qs g:=by
 unfold pT
 refine aas fun st _=>?_
 rw [vJ hf hg st]
structure All (K:aaG) (mg:Str->Option Value) (C:Addr) (fs:Nat->Addr) (ds:Nat->FuncData):Prop where
 m8:Fn K mg "check_things" cG (fs 21) (ds 21) ["things"]
 sO:Fn K mg "check_room" dF (fs 22) (ds 22) ["room"]
 A0:Fn K mg "is_pair" fm (fs 23) (ds 23) ["one","other","count"]
 tU:Fn K mg "is_keeper" c9 (fs 24) (ds 24) ["keeper","one","other","count"]
 jW:Fn K mg "check_quarrels" b7 (fs 25) (ds 25) ["quarrels","count"]
 init:Mt K "__init__" "Night.__init__" cI (fs 26) (ds 26) ["self","things","room","quarrels"]
 GY:Fn K mg "_law_cell_at" b9 (fs 28) (ds 28) ["script","k"]
 Gg:Fn K mg "_law_quarrel" cF (fs 30) (ds 30) ["cell","many"]
 B1:Fn K mg "_law_quarrels" cN (fs 31) (ds 31) ["script","start","many"]
 Gr:Fn K mg "_law_things" dP (fs 32) (ds 32) ["script","start","many"]
 night:Fn K mg "_law_night" dB (fs 33) (ds 33) ["script","most"]
 BP:Fn K mg "plan_from" fX (fs 37) (ds 37) ["crossings","fewest","standing","end"]
 FH:Fn K mg "come_to" iP (fs 38) (ds 38) ["crossings","standing"]
 Aj:Fn K mg "heights" kK (fs 39) (ds 39) ["night"]
 shortest:Fn K mg "shortest" i6 (fs 40) (ds 40) ["night","standing"]
 gZ:Meth K C "quarrels" (fs 41)
 qR:Mt K "quarrels" "Night.quarrels" cH (fs 41) (ds 41) ["self"]
 z9:Fn K mg "thing_line" eO (fs 42) (ds 42) ["pace","rows"]
 vj:Fn K mg "quarrel_line" c7 (fs 43) (ds 43) ["one","other","keeper"]
 shown:Fn K mg "shown" qr (fs 44) (ds 44) ["night"]
 CB:Fn K mg "is_number" cy (fs 45) (ds 45) ["word"]
 yp:Fn K mg "read_number" bV (fs 46) (ds 46) ["word"]
 Aa:Fn K mg "read_words" cv (fs 47) (ds 47) ["line","first","count"]
 B3:Fn K mg "read_boat" fV (fs 48) (ds 48) ["line"]
 zq:Fn K mg "read_thing" eV (fs 49) (ds 49) ["line"]
 vT:Fn K mg "read_quarrel" cZ (fs 50) (ds 50) ["line"]
 read:Fn K mg "read" u4 (fs 51) (ds 51) ["text"]
 lines:Fn K mg "_law_lines" gE (fs 52) (ds 52) ["night"]
 JV:Fn K mg "_law_peace" eN (fs 53) (ds 53) ["quarrels","group"]
 Nr:Fn K mg "_law_rest" fU (fs 54) (ds 54) ["group","many"]
 Ix:Fn K mg "_law_good" iq (fs 55) (ds 55) ["quarrels","group","many"]
 lk:Lk K mg C fs ds
 lp:Lp K mg C fs ds
 AZ:Mk K C (fs 26)
 Oy:SJ K C
section
variable {P:Program} {w:World} {K:aaG} {mg:Str->Option Value} {base:Heap} {C:Addr} {Z:Ad} {fs:Nat->Addr} {ds:Nat->FuncData}
def y9 (K:aaG):Sp:=fun vs H Q _=>∃ (a:Addr) (ns:List Int),vs = [.ref a] /\ aZ K H a (ns.map V.int) /\ ns.length <= 63 /\ ∀ H',Q (.bl true) H'
theorem ki:av ["script","night","made","due","found","back","many","begins"] ["script"] (aj rj):=fk
theorem Jo {f:Addr} {fd:FuncData} (F:Fn K mg "law" rj f fd ["script"]) (T:Txt K mg C Z) (L:All K mg C fs ds):au P w K mg base be 8 f fd ["script"] (y9 K):=by
 have uW:=L.night
 have wg:=L.lines
 have xn:=L.Ix
 have AY:=L.shown
 have JI:=L.read
 have tW:=L.Aj
 have rG:=L.shortest
 have qg:=L.lk.C0
 have du:=L.init
 have vX:=L.AZ
 have eF:=L.lp.yT
 have hU:=L.lp.m3
 have aF:=L.lk.things
 have aP:=L.lk.bQ
 have dD:=L.lk.room
 have eL:=L.lk.mf
 have dk:=L.qR
 have fH:=L.gZ
 have wq:au P w K mg base be 3 _ _ ["script","most"] (xL K):=DY L.night T L.GY L.Gg L.B1 L.Gr
 have vC:au P w K mg base be 1 _ _ ["night"] xI:=Eo L.lines T
 have wH:au P w K mg base be 2 _ _ ["quarrels","group","many"] (yl K):=DG L.Ix T L.JV L.Nr
 have A9:au P w K mg base be 2 _ _ ["night"] (xk C):=D7 L.shown T L.z9 L.vj L.lk.bQ L.lk.things L.lk.mf L.lk.room L.gZ L.qR
 have Kj:au P w K mg base be 6 _ _ ["text"] (Ai C):=Gs L.read T L.CB L.yp L.Aa L.B3 L.zq L.vT L.AZ L.init L.lk.qD L.A0 L.tU L.m8 L.sO L.jW
 have ul:au P w K mg base be 7 _ _ ["night"] (rK C):=yK L.Aj L.lk L.lp T
 have p9:au P w K mg base (yO P w) 5 _ _ ["night","standing"] (qL C Z):=x5 L.lk T
 have rD:au P w K mg base (yO P w) 7 _ _ ["night","standing"] (wQ C Z):=Fc L.shortest L.lk L.lp T L.BP L.FH
 have hJ:au P w K mg base be 1 _ _ ["self"] (mw C):=sK L.lp.yT T
 have a9:au P w K mg base be 1 _ _ ["self"] (dX C):=fD L.lk.things T
 have eG:au P w K mg base be 1 _ _ ["self"] (nF C):=rE L.lk.room T
 have fG:au P w K mg base be 1 _ _ ["self"] (jc C):=mH L.qR T
 have fu:au P w K mg base be 4 _ _ ["self","things","room","quarrels"] (uV C):=AE L.init T L.lk.qD L.A0 L.tU L.m8 L.sO L.jW
 refine F.fn.ok ki (fun vs H Q E h=>?_) (fun ci A outer s H vs Q E hr h=>?_)
 ·obtain ⟨a,ns,rfl,_⟩:=h
  rfl
 obtain ⟨a,ns,rfl,hS,hlen,k⟩:=h
 have hu:=hr.units
 obtain ⟨tC,hC,rC⟩:∃ t,v8 (bX P w K mg base ["script","night","made","due","found","back","many","begins"] "law" rj f ci A outer s H E) ((cD rj).drop 8) t /\ ∀ (H1:Hp) (p pm pb:Addr) (ts:List Th) (r:Int) (qs:List Qu) (v3 v4:Option V),lZ H1 p 6 ts r qs->aX C H1 pm ts r qs->aX C H1 pb ts r qs ->
   t (bD Q) [some (.ref a),some (.ref p),some (.ref pm),v3,v4,some (.ref pb),none,none] H1:=by
  refine ⟨_,(ag (bL (aD (uP hu) (cl ul tW hr ay (aa (pv 5) af)) (cl ul tW hr ay (aa (pv 2) af)) (aY _))
   (ai (aA jy))
   aM)
   (ag (sn 6 ki.nd (aV ba (by rfl) T.im YN (aa (aR bz (pv 1) ak (fun _ _=>rfl)) af)))
   (ag (bL (eK (eS (cl wH xn hr ay (aa (aR bz (pv 1) ak (fun _ _=>rfl)) (aa (aO (iI rfl) (by rfl) T.ik ZR (aa (aO oY (by rfl) T.jw boot_range (aa (pv 6) af)) af)) (aa (pv 6) af))))))
   (ai (aA jy))
   aM)
   (ag (sn 7 ki.nd (bP (pv 2) T.aN hU hJ (hr.mono (by decide)) eF.b .nil ay))
   (ai (aA (ix (fN (Kg hu) (cl p9 qg hr xR (aa (pv 5) (aa (pv 7) af))) (cl p9 qg hr xR (aa (pv 2) (aa (pv 7) af))) (aY _)) (mi (fN j0 (aR bz (cl rD rG hr xR (aa (pv 5) (aa (pv 7) af))) ak (fun _ _=>rfl)) (aR bz (cl rD rG hr xR (aa (pv 2) (aa (pv 7) af))) ak (fun _ _=>rfl)) (aY _)))))))))),fun H1 p pm pb ts r qs v3 v4 ND NA NB=>?_⟩
  have ok:=ND.t
  have h6:=ok.l6
  obtain ⟨ap,bq,hp,Na,M6⟩:=id ND.ex
  obtain ⟨vt,ht,dt⟩:=id Na
  refine ⟨_,rfl,pb,ts,r,qs,rfl,NB,ok,fun l1 H2 f1 y7 s2 NT W4=>⟨_,rfl,pm,ts,r,qs,rfl,NA.mono s2,ok,fun l2 H3 f2 ox s3 L7 K1=>?_⟩⟩
  have cn:=qe J1 (pT ts qs f1)
  have dp:=ve M9 (pT ts qs f1)
  rw [<- zI NT L7] at K1
  obtain ⟨w1,e1,d1⟩:=W4.mono s3
  obtain ⟨w2,e2,d2⟩:=K1
  refine ⟨.list ((pT ts qs f1).map C9),.list ((pT ts qs f1).map C9),.lst e1 d1,.lst e2 d2,cn,cn,Yh (Nat.min_le_left _ _) dp,_,rfl,?_⟩
  rw [if_pos rfl,SeqAt.eqv_refl _ cn]
  refine ic ?_
  have n4:=s2.trans s3
  have lt:=aI dt
  refine ⟨_,rfl,p,_,_,_,rfl,rfl,bK.of (n4 _ _ hp),wT,ap,vt,rfl,.inl (aZ.of (n4 _ _ ht)),?_⟩
  rw [lt]
  refine ⟨_,rfl,p,_,_,_,rfl,rfl,bK.of (n4 _ _ hp),at2,_,rfl,?_⟩
  refine ⟨_,rfl,fun q1 Ui=>⟨q1,ts.length,rfl,ae,by omega,fun l3 Nd=>?_⟩⟩
  have s4:ao H3 (L2.upd (L2.upd H3 q1 (.CJ 0 ((ts.length:Nat):Int))) l3 (.tup ((a6 ts.length).map V.int))):=(ah Ui).trans (ah Nd)
  have h4:(L2.upd (L2.upd H3 q1 (.CJ 0 ((ts.length:Nat):Int))) l3 (.tup ((a6 ts.length).map V.int))) l3 = some (.tup ((a6 ts.length).map V.int)):=ae
  generalize L2.upd (L2.upd H3 q1 (.CJ 0 ((ts.length:Nat):Int))) l3 (.tup ((a6 ts.length).map V.int)) = H4 at s4 h4 ⊢
  have vh:=n4.trans s4
  refine ⟨_,rfl,bq,l3,qs,a6 ts.length,ts.length,rfl,M6.mono vh,h4,h6,fun H5 s5=>⟨_,rfl,?_⟩⟩
  refine bv (fun _=>k H5) (fun c=>?_)
  have hG:br qs ts.length (a6 ts.length) = true:=by have z:(!br qs ts.length (a6 ts.length)) = false:=c; simpa using z
  have v9:=FS ts.length
  have xB:=vh.trans s5
  have Pu:=NA.mono xB
  have W0:=NB.mono xB
  obtain ⟨dx,t5,q5,Ti,_,_⟩:=id Pu.ex
  refine ⟨_,rfl,pm,dx,_,rfl,Ti,m3 _ _ _,pm,ts,r,qs,rfl,Pu,h6,fun lb H6 s6 db=>?_⟩
  obtain ⟨_,eb,kC⟩:=eR (st:=(a6 ts.length,0)) db
  cases eb
  have P7:=Pu.mono s6
  have RC:=W0.mono s6
  have lst:=DR v9 h6
  have Xl:(a6 ts.length).length <= 6:=lst
  refine ⟨_,rfl,_,rfl,pb,lb,ts,r,qs,(a6 ts.length,0),rfl,RC,h6,kC,by show (a6 ts.length).length <= 1000; omega,fun _ _ c1 H7 Vn s7 V6=>?_,(fun hn=>by rw [v9] at hn; cases hn),(fun _ hn=>by rw [hG] at hn; cases hn)⟩
  refine ⟨_,rfl,_,rfl,pm,lb,ts,r,qs,(a6 ts.length,0),rfl,P7.mono s7,h6,kC.mono s7,by show (a6 ts.length).length <= 1000; omega,fun _ _ c2 H8 Eb s8 UO=>?_,(fun hn=>by rw [v9] at hn; cases hn),(fun _ hn=>by rw [hG] at hn; cases hn)⟩
  have cn:=qe EN (bi ts r qs (a6 ts.length,0))
  have dp:=ve (fun g=>Yh (Ik g) (by decide)) (bi ts r qs (a6 ts.length,0))
  obtain ⟨w1,e1,d1⟩:=V6.mono s8
  obtain ⟨w2,e2,d2⟩:=UO
  refine ⟨.list ((bi ts r qs (a6 ts.length,0)).map kO),.list ((bi ts r qs (a6 ts.length,0)).map kO),.lst e1 d1,.lst e2 d2,cn,cn,Yh (Nat.min_le_left _ _) dp,_,rfl,?_⟩
  rw [if_neg Yc,SeqAt.eqv_refl _ cn]
  refine yL ?_
  have KH:=s7.trans s8
  refine ⟨_,rfl,_,rfl,pb,lb,ts,r,qs,(a6 ts.length,0),rfl,RC.mono KH,ok,kC.mono KH,by show (a6 ts.length).length <= 1000; omega,fun _ _ f1 NT=>⟨fun o l H9 tD v hl s9 ho hL hv ML _=>?_,fun o l H9 L hl s9 ho hL Nw RR Ao=>?_⟩,(fun hn=>by rw [v9] at hn; cases hn),(fun _ hn=>by rw [hG] at hn; cases hn)⟩
  ·have Fq:=KH.trans s9
   refine ⟨o,_,_,_,rfl,rfl,bK.of ho,wT,?_⟩
   refine ⟨_,rfl,_,rfl,pm,lb,ts,r,qs,(a6 ts.length,0),rfl,P7.mono Fq,ok,kC.mono Fq,by show (a6 ts.length).length <= 1000; omega,fun _ _ f2 L7=>⟨fun o2 l2 K0 MC v2 ox Og qv K1 RO Pl _=>?_,fun o2 l2 K0 L2 ox Og qv K1 PZ Qs D5=>?_⟩,(fun hn=>by rw [v9] at hn; cases hn),(fun _ hn=>by rw [hG] at hn; cases hn)⟩
   ·exact ⟨o2,_,_,_,rfl,rfl,bK.of qv,wT,rfl,k K0⟩
   ·rw [vJ NT L7,D5] at hv; cases hv
  ·have Fq:=KH.trans s9
   refine ⟨o,_,_,_,rfl,rfl,bK.of ho,wT,?_⟩
   refine ⟨_,rfl,_,rfl,pm,lb,ts,r,qs,(a6 ts.length,0),rfl,P7.mono Fq,ok,kC.mono Fq,by show (a6 ts.length).length <= 1000; omega,fun _ _ f2 L7=>⟨fun o2 l2 K0 MC v2 ox Og qv K1 RO Pl _=>?_,fun o2 l2 K0 L2 ox Og qv K1 PZ Qs D5=>?_⟩,(fun hn=>by rw [v9] at hn; cases hn),(fun _ hn=>by rw [hG] at hn; cases hn)⟩
   ·rw [vJ NT L7,RO] at Ao; cases Ao
   ·exact ⟨o2,_,_,_,rfl,rfl,bK.of qv,wT,rfl,k K0⟩
 obtain ⟨tB,hB,rB⟩:∃ t,v8 (bX P w K mg base ["script","night","made","due","found","back","many","begins"] "law" rj f ci A outer s H E) ((cD rj).drop 5) t /\ ∀ (H1:Hp) (p pm:Addr) (ts:List Th) (r:Int) (qs:List Qu) (v4:Option V),lZ H1 p 6 ts r qs->aX C H1 pm ts r qs->Fs r ts qs->(gR ts r qs).length <= most ->
   t (bD Q) [some (.ref a),some (.ref p),some (.ref pm),some (.str (gR ts r qs)),v4,none,none,none] H1:=by
  refine ⟨_,(ag (sn 5 ki.nd (cl Kj JI hr ay (aa (pv 3) af)))
   (ag (bL (PW.pt (pw_or (eK (eS (aV vK (by rfl) T.mX boot_isinstance (aa (pv 5) (aa (dU (v:=.ref C) (by rfl) T.vB rfl) af))))) (pw_or (aD (uP hu) (bP (pv 5) T.aN aP a9 (hr.mono (by decide)) aF.b .nil ay) (aR bz (pv 1) ak (fun _ _=>rfl)) (aY _)) (pw_or1 (aD jB (bP (pv 5) T.aN eL eG (hr.mono (by decide)) dD.b .nil ay) (aR bz (pv 1) ak (fun _ _=>rfl)) (aY _))))))
   (ai (aA jy))
   aM)
   (ag (bL (PW.pt (pw_or (aD (uP hu) (bP (pv 5) T.aN fH fG (hr.mono (by decide)) dk.b .nil ay) (aR bz (pv 1) ak (fun _ _=>rfl)) (aY _)) (pw_or1 (aD jB (cl A9 AY hr ay (aa (pv 5) af)) (pv 3) (aY _)))))
   (ai (aA jy))
   aM)
   hC))),fun H1 p pm ts r qs v4 ND NA EU hz=>?_⟩
  obtain ⟨ap,bq,hp,Na,M6⟩:=id ND.ex
  obtain ⟨vt,ht,dt⟩:=id Na
  obtain ⟨vq,hq,dq⟩:=id M6
  refine ⟨_,rfl,gR ts r qs,ts,r,qs,rfl,hz,FK EU,fun pb H2 s2 NB=>?_⟩
  obtain ⟨dx,t5,q5,Oz,_,_⟩:=id NB.ex
  refine ⟨_,rfl,_,_,_,_,rfl,.ins Oz T.aN L.Oy.ha L.Oy.hn L.Oy.Om L.Oy.hm,Go _ _,_,rfl,ic ?_⟩
  have ct:=qe Ka ts
  have UZ:=ve (fun t=>Yh (K6 t) (by decide)) ts
  have cq:=qe Je qs
  have S3:=ve (fun t=>Yh (Nm t) (by decide)) qs
  refine ⟨_,rfl,pb,dx,_,rfl,Oz,bQ _ _ _,pb,ts,r,qs,rfl,NB,fun l3 v3 Nd d3=>?_⟩
  have s3:ao H2 (L2.upd H2 l3 (.lst v3)):=ah Nd
  have h3:(L2.upd H2 l3 (.lst v3)) l3 = some (.lst v3):=ae
  have Rp:=d3.mono s3
  generalize L2.upd H2 l3 (.lst v3) = H3 at s3 h3 Rp ⊢
  have n4:=s2.trans s3
  refine ⟨_,rfl,p,_,_,_,rfl,rfl,bK.of (n4 _ _ hp),wT,.list (ts.map vH),.list (ts.map vH),.lst h3 Rp,.lst (n4 _ _ ht) (dt.mono n4),ct,ct,Yh (Nat.min_le_left _ _) UZ,_,rfl,?_⟩
  rw [if_pos rfl,SeqAt.eqv_refl _ ct]
  refine ic ?_
  have Os:=NB.mono s3
  refine ⟨_,rfl,pb,dx,_,rfl,s3 _ _ Oz,mf _ _ _,pb,ts,r,qs,rfl,Os,?_⟩
  refine ⟨_,rfl,p,_,_,_,rfl,rfl,bK.of (n4 _ _ hp),u6,rfl,_,rfl,?_⟩
  rw [Yi rfl]
  refine ic ?_
  refine ⟨_,rfl,pb,dx,_,rfl,s3 _ _ Oz,gZ _ _ _,pb,ts,r,qs,rfl,Os,fun l4 Of VL d4=>?_⟩
  have s4:ao H3 (L2.upd H3 l4 (.lst Of)):=ah VL
  have h4:(L2.upd H3 l4 (.lst Of)) l4 = some (.lst Of):=ae
  have Ri:=d4.mono s4
  generalize L2.upd H3 l4 (.lst Of) = H4 at s4 h4 Ri ⊢
  have vh:=n4.trans s4
  refine ⟨_,rfl,p,_,_,_,rfl,rfl,bK.of (vh _ _ hp),at2,.list (qs.map vF),.list (qs.map vF),.lst h4 Ri,.lst (vh _ _ hq) (dq.mono vh),cq,cq,Yh (Nat.min_le_left _ _) S3,_,rfl,?_⟩
  rw [if_pos rfl,SeqAt.eqv_refl _ cq]
  refine ic ?_
  refine ⟨_,rfl,pb,ts,r,qs,rfl,Os.mono s4,EU,fun H5 s5=>?_⟩
  refine ⟨_,rfl,rfl,_,rfl,?_⟩
  rw [Yi rfl]
  refine ic ?_
  have xB:=vh.trans s5
  exact rC H5 p pm pb ts r qs _ _ (ND.mono xB) (NA.mono xB) ((Os.mono s4).mono s5)
 refine ⟨_,(ag (sn 1 ki.nd (cl wq uW hr ay (aa (pv 0) (aa ak af))))
   (ag (sn 2 ki.nd (AC vX fu (hr.mono (by decide)) (by rfl) T.vB du.b .nil ay (aa (aO gA (by rfl) T.u5 boot_list (aa (aR bz (pv 1) ak (fun _ _=>rfl)) af)) (aa (aR bz (pv 1) ak (fun _ _=>rfl)) (aa (aO gA (by rfl) T.u5 boot_list (aa (aR bz (pv 1) ak (fun _ _=>rfl)) af)) af)))))
   (ag (sn 3 ki.nd (fc PySem.F.plainAttrs_str PySem.F.slot_str_join PySem.F.type_str_join vm aS (aa (bS rfl (N':=["line"]) (cap:=[none]) ⟨rfl,by with_unfolding_all rfl⟩ (bU (cl vC wg hr ay (aa (pv 1) af))) (fun _=>(gn 0 (show (["line"]:List Str).Nodup by decide +kernel))) (fun _=>cu) (fun _=>(bu gS (pv 0) aS))) af)))
   (ag (sn 4 ki.nd (cl A9 AY hr ay (aa (pv 2) af)))
   (ag (bL (PW.pt (pw_or (eK (eS (aV wR (by rfl) T.mX boot_isinstance (aa (pv 4) (aa (GX (v:=.ty "str") (by rfl) T.sL boot_str rfl) af))))) (pw_or1 (aD jB (pv 4) (pv 3) (aY _)))))
   (ai (aA jy))
   aM)
   hB))))),?_⟩
 refine ⟨_,rfl,a,ns,6,rfl,hS,by decide,by decide,fun ts r qs p H1 ND q4 s1=>?_⟩
 have ok:=ND.t
 have l6:=ok.l6
 have EU:Fs r ts qs:=⟨ok,ND.r1,ND.r3,by omega,ND.q⟩
 obtain ⟨ap,bq,hp,Na,M6⟩:=id ND.ex
 obtain ⟨vt,ht,dt⟩:=id Na
 obtain ⟨vq,hq,dq⟩:=id M6
 refine ⟨_,rfl,p,_,_,_,rfl,rfl,bK.of hp,wT,ap,_,rfl,.inl (aZ.of ht),fun l0 yz=>?_⟩
 have s2:ao H1 (L2.upd H1 l0 (.lst vt)):=ah yz
 have e0:(L2.upd H1 l0 (.lst vt)) l0 = some (.lst vt):=ae
 generalize L2.upd H1 l0 (.lst vt) = H2 at s2 e0 ⊢
 refine ⟨_,rfl,p,_,_,_,rfl,rfl,bK.of (s2 _ _ hp),u6,_,rfl,p,_,_,_,rfl,rfl,bK.of (s2 _ _ hp),at2,bq,_,rfl,.inl (aZ.of (s2 _ _ hq)),fun l1 y7=>?_⟩
 have s3:ao H2 (L2.upd H2 l1 (.lst vq)):=ah y7
 have e1:(L2.upd H2 l1 (.lst vq)) l1 = some (.lst vq):=ae
 generalize L2.upd H2 l1 (.lst vq) = H3 at s3 e1 ⊢
 have n4:=s2.trans s3
 refine fun pm dx nx Pa TN=>?_
 have Ov:ao H3 (L2.upd (L2.upd H3 dx (.own pm)) pm (.ins C dx [])):=aq (ah Pa) nx
 have st:=n4.trans Ov
 refine ⟨pm,dx,l0,l1,ts,r,qs,rfl,ae,⟨vt,Ov _ _ (s3 _ _ e0),dt.mono st⟩,ok,ND.r1,ND.r3,⟨vq,Ov _ _ e1,dq.mono st⟩,by omega,ND.q,fun H4 NA kp=>⟨rfl,?_⟩⟩
 have s4:ao H3 H4:=fun b o e=>kp b o (Ov b o e) (ax e nx)
 have vh:=n4.trans s4
 have TH:=ND.mono vh
 refine ⟨rfl,_,rfl,p,6,ts,r,qs,rfl,TH,q4,fun l H5 s5 hl=>⟨l,rfl,⟨_,aZ.of hl⟩,fun D gu=>?_⟩⟩
 have short:∀ y ∈ WD.linesOf ts r qs,y.length <= 40:=fun x hx=>by
  have r1:=ND.r1
  have r3:=ND.r3
  rcases Yb.mp hx with e | hx
  ·rw [e]; exact Yh (bG (n:=5) (by decide) (cS (show 0 <= r by omega) (show r < 10 ^ 10 by omega))) (by decide)
  ·rcases Yz.mp hx with hx | hx
   ·obtain ⟨t,ht,rfl⟩:=YI.mp hx
    obtain ⟨p1,p2⟩:=ok.p t ht
    exact Yh (Ar (by omega) (by omega)) (by decide)
   ·obtain ⟨q,hq,rfl⟩:=YI.mp hx
    exact Am (wt.wide (ND.q q hq) (show ((ts.length:Nat):Int) <= 10 by omega))
 have nl:(WD.linesOf ts r qs).length <= 11:=by simp [WD.linesOf]; omega
 refine cR (K:=K) (a:=l) (ys:=(WD.linesOf ts r qs).map V.str) (fun i ys H'=>ao H5 H' /\ H' D = some (.lst ys) /\ ys = (((WD.linesOf ts r qs).take i).map fun y=>y ++ ("\n":Str)).map V.str) ⟨ah gu,ae,rfl⟩ (fun i ys H' _ ⟨sm,h,_⟩=>⟨h,aZ.of (sm _ _ hl)⟩) ?_ ?_
 ·rintro i v ys H' hi ⟨sm,rJ,rfl⟩
  rw [Yl,YU] at hi
  obtain ⟨y,hy,rfl⟩:=hi
  have sy:=short y (YE hy)
  refine ⟨cm.set rfl,?_⟩
  refine ⟨_,rfl,_,_,rfl,rfl,Yh (Nat.add_le_add_right sy _) (by decide),rJ,aU (by rw [X6,X6,Yt]; omega),aq sm gu,ae,?_⟩
  rw [Yv,hy]
  simp
 ·rintro ys H6 ⟨s6,Fu,rfl⟩
  rw [X6,Zr] at Fu
  obtain ⟨j1,j2⟩:=oQ (sep:=("":Str)) (k:=11) (n:=41) (l:=(WD.linesOf ts r qs).map fun y=>y ++ ("\n":Str)) (fun y hy=>by
   obtain ⟨z,hz,rfl⟩:=YI.mp hy
   exact bG (n:=40) (m:=1) (short z hz) (by decide)) (by rw [X6]; exact nl) (by decide) (by decide)
  refine ⟨"",D,_,rfl,rfl,aZ.of Fu,j1,?_⟩
  have Qr:=s5.trans s6
  have Qo:=vh.trans Qr
  refine ⟨_,rfl,pm,ts,r,qs,rfl,NA.mono Qr,EU,fun H7 s7=>?_⟩
  refine ⟨_,rfl,_,_,_,_,rfl,.str _,DM _ _,_,rfl,ic ?_⟩
  refine ⟨_,rfl,_,rfl,rfl,_,rfl,?_⟩
  have en:(!decide (V.str (gR ts r qs) = V.str (Txt.join "" ((WD.linesOf ts r qs).map fun y=>y ++ ("\n":Str))))) = false:=by rw [Yi (show V.str (gR ts r qs) = V.str (Txt.join "" ((WD.linesOf ts r qs).map fun y=>y ++ ("\n":Str))) from rfl)]; rfl
  refine bv (fun z=>absurd (en.symm.trans z) (by decide)) (fun _=>?_)
  exact rB H7 p pm ts r qs _ (ND.mono (Qo.trans s7)) (NA.mono (Qr.trans s7)) EU (Yh j2 (by decide))
end
open PySem L2
theorem Kh {K:aaG} {D:Addr} {v:Value} (h:PySem.W.mroIn K D v = some true):(PySem.W.clsIn K D).isSome = true:=by
 unfold PySem.W.mroIn at h
 cases e:PySem.W.clsIn K D with
 | none=>rw [e] at h; cases h
 | some c=>rfl
theorem na {K:aaG} {C:Addr} {x:Str} (a:PySem.W.findIn K (.ref C) x = some none:=by k_is):iB K C x:=a
section
variable {K:aaG} {h:Heap} {mg:Str->Option Value} (X:K.In h) (G:h.Ns mainGlobals mg)
include X G
abbrev Qa {E:Addr} (_:mg "FerryError" = some (.ref E)):Addr:=E
theorem nn {x:Str} (a:PySem.W.nsIn K mainGlobals x = some none:=by k_is):mg x = none:=PySem.W.mg_none_of X G a
theorem gl (x:Str) {D:Addr} (a:PySem.W.nsIn K mainGlobals x = some (some (.ref D)):=by k_is):mg x = some (.ref D):=aaw X G a
theorem AV (x:Str) {D:Addr} (a:PySem.W.nsIn K mainGlobals x = some (some (.ref D)):=by k_is):∃ D,mg x = some (.ref D):=⟨D,aaw X G a⟩
theorem uE (x:Str) (i:Int) {k:Tok} (a:PySem.W.nsIn K mainGlobals x = some (some (.int i k)):=by k_is):∃ k,mg x = some (.int i k):=⟨k,aaw X G a⟩
theorem MN (x i:Str) {k:Tok} (a:PySem.W.nsIn K mainGlobals x = some (some (.str i k)):=by k_is):∃ k,mg x = some (.str i k):=⟨k,aaw X G a⟩
theorem Mc (x:Str) {D:Addr} {d:Option Addr} {t0 t1:Tok} {n:Nat} {sl:Array (Option Value)} (a:PySem.W.nsIn K mainGlobals x = some (some (.ref D)):=by k_is) (l:K.lookup D = some ⟨.type "tuple",d,.seq #[.int 0 t0,.int 1 t1] n,sl⟩:=by k_is):∃ D,mg x = some (.ref D) /\ ∀ H,bK K H D [.int 0,.int 1] :=
 ⟨D,aaw X G a,fun H=>.inr ⟨_,_,_,l,rfl,rfl,by show 2 <= sizeLine; decide,.cons ⟨_,rfl⟩ (.cons ⟨_,rfl⟩ .nil)⟩⟩
theorem a8 (x:Str) (st:Stmt) (ps:List Str) {f:Addr} {oc:Value} {od an:Option Addr} {sl:Array (Option Value)} {kV dc pm cd ct:Value} (a:PySem.W.nsIn K mainGlobals x = some (some (.ref f)):=by k_is)
  (l:K.lookup f = some ⟨oc,od,.func (PySem.W.fnOf x x (fM st) (cD st) (aj st) .none kV dc pm an cd ct),sl⟩:=by k_is) (c:PySem.W.codeIn K cd x = true:=by k_is) (k:PySem.W.keepIn K (.ref f) = true:=by k_is)
  (b:∀ (kV dc pm:Value) (an:Option Addr) (cd ct:Value) (us:List Value),us.length = ps.length->bindArgs (PySem.W.fnOf x x (fM st) (cD st) (aj st) .none kV dc pm an cd ct) ⟨us,[]⟩ = pure (ps.zip us):=by
   intro _ _ _ _ _ _ us hl; rcases us with _ | ⟨_,_ | ⟨_,_ | ⟨_,_ | ⟨_,_ | ⟨_,_⟩⟩⟩⟩⟩ <;> first | rfl | cases hl):∃ f fd,Fn K mg x st f fd ps:=⟨f,_,oK l c k,(oK l c k).binds b,aaw X G a⟩
omit G in
theorem rY {C:Addr} (_:mg "Night" = some (.ref C)) (x y:Str) (st:Stmt) (ps:List Str) {f:Addr} {oc:Value} {od an:Option Addr} {sl:Array (Option Value)} {kV dc pm cd ct:Value} (a:PySem.W.findIn K (.ref C) x = some (some (.ref f)):=by k_is) (i:PySem.W.isFn K (.ref f) = true:=by k_is)
  (l:K.lookup f = some ⟨oc,od,.func (PySem.W.fnOf x y (fM st) (cD st) (aj st) .none kV dc pm an cd ct),sl⟩:=by k_is) (c:PySem.W.codeIn K cd y = true:=by k_is) (k:PySem.W.keepIn K (.ref f) = true:=by k_is)
  (b:∀ (kV dc pm:Value) (an:Option Addr) (cd ct:Value) (us:List Value),us.length = ps.length->bindArgs (PySem.W.fnOf x y (fM st) (cD st) (aj st) .none kV dc pm an cd ct) ⟨us,[]⟩ = pure (ps.zip us):=by
   intro _ _ _ _ _ _ us hl; rcases us with _ | ⟨_,_ | ⟨_,_ | ⟨_,_ | ⟨_,_ | ⟨_,_⟩⟩⟩⟩⟩ <;> first | rfl | cases hl):∃ f fd,Mt K x y st f fd ps /\ Meth K C x f:=⟨f,_,⟨oK l c k,(oK l c k).binds b⟩,a,i,k⟩
theorem Ia {E:Addr} (_:mg "FerryError" = some (.ref E)) (x:Str) {D:Addr} (a:PySem.W.nsIn K mainGlobals x = some (some (.ref D)):=by k_is) (e1:PySem.W.excIn K D OC "ValueError.__new__" = true:=by k_exc) (e2:PySem.W.findIn K (.ref D) "__getattribute__" = some (some (.builtin "BaseException.__getattribute__")):=by k_is)
  (e3:PySem.W.findIn K (.ref D) "__getattr__" = some none:=by k_is) (e4:PySem.W.findIn K (.ref D) "__class__" = some (some (.builtin "object.__class__")):=by k_is) (gt:PySem.W.specialIn K (.builtin "object.__class__") "__get__" = some (some (.builtin "getset_descriptor.__get__")):=by k_is)
  (tk:PySem.W.takesIn K (.builtin "object.__class__") = some true:=by k_is) (e5:PySem.W.mroIn K D (.type "object") = some true:=by k_is) (e6:PySem.W.mroIn K D (.type "BaseException") = some true:=by k_is) (e8:PySem.W.exmOne K (.ref D) (.ref E) = some true:=by kts_exm)
  (e9:PySem.W.kitOne K (.ref D) (.type "ValueError") = some true:=by kit_is):∃ D,∀ Z:Ad,Z.me = E->Ref K mg Z x D:=⟨D,fun Z hZ=>⟨aaw X G a,e1,⟨e2,e3,e4,gt,tk,e5,e6,Kh e5⟩,by rw [hZ]; exact e8,e9⟩⟩
theorem Nb (x:Str) (st:Stmt) {f:Addr} {oc:Value} {od an:Option Addr} {sl:Array (Option Value)} {kV dc pm cd ct:Value} (a:PySem.W.nsIn K mainGlobals x = some (some (.ref f)):=by k_is)
  (l:K.lookup f = some ⟨oc,od,.func (PySem.W.fnOf x x (fM st) (cD st) (aj st) .none kV dc pm an cd ct),sl⟩:=by k_is) (c:PySem.W.codeIn K cd x = true:=by k_is) (k:PySem.W.keepIn K (.ref f) = true:=by k_is)
  (b:∀ (kV dc pm:Value) (an:Option Addr) (cd ct:Value) (us:List Value),us.length = 1->bindArgs (PySem.W.fnOf x x (fM st) (cD st) (aj st) .none kV dc pm an cd ct) ⟨us,[]⟩ = pure ((["script"]:List Str).zip us):=by
   intro _ _ _ _ _ _ us hl; rcases us with _ | ⟨_,_ | ⟨_,_⟩⟩ <;> first | rfl | cases hl):∃ f fd,Fn K mg x st f fd ["script"] /\ ∀ (s:Shared) (v:Value),BindsTo s fd ⟨[v],[]⟩ [("script",v)]:=⟨f,_,⟨oK l c k,(oK l c k).binds b,aaw X G a⟩,fun s v=>.of_eq (b _ _ _ _ _ _ [v] rfl)⟩
end
theorem walk {l:PySem.W.OpenLaw} {q:Program} {loose:List Str} {XP:(Str->Option Value)->Heap->Prop} {YP:World->Heap->Prop} {d:DefRec} {K:Params->aaG} (hn:l.most = some 63) (Ng:d.params.defaults = [])
  (hY:∀ (w:World) (h:Heap),YP w h->(K w.params).In h)
  (F:∀ (w:World) (mg:Str->Option Value) (fa:Addr) (h:Heap),(K w.params).In h->h.Ns mainGlobals mg->mg d.name = some (.ref fa) ->
   ∃ fd:FuncData,(∀ (s:Shared) (u:Value),BindsTo s fd ⟨[u],[]⟩ [("script",u)]) /\ ∀ base:Heap,(K w.params).In base->base.Ns mainGlobals mg->au l.prog w (K w.params) mg base be 8 fa fd ["script"] (y9 (K w.params))) :
  PySem.W.WalkO q loose XP YP l.row.toRowW d [] (fun f vs=>PySem.call f vs) :=
 L2.Hb (n:=63) (k:=8) (x:="script") (CX:=fun _=>be) (sp:=fun w=>y9 (K w.params)) hn (by decide) Ng ⟨rfl,by decide,by decide⟩ hY F (fun _ _ a ns hl _ hS=>⟨a,ns,rfl,hS,hl,fun _=>rfl⟩) fun _ _ _ _ _ z=>z
end FN
def PySem.W.Fast.tw18159066694281316352:Unit:=()
def PySem.W.Fast.tw14321548632834973920:Unit:=()
def PySem.W.Fast.tw4442601217842445088:Unit:=()
def PySem.W.Fast.tw14823079409064456258:Unit:=()
def PySem.W.Fast.tw9540353989705398018:Unit:=()
def PySem.W.Fast.tw17864894589119824164:Unit:=()
def PySem.W.Fast.tw17519889068424052934:Unit:=()
def PySem.W.Fast.tw8809125211678196106:Unit:=()
def PySem.W.Fast.tw10372954621608344205:Unit:=()
def PySem.W.Fast.tw8566284320493018319:Unit:=()
def PySem.W.Fast.tw17192934142058756943:Unit:=()
def PySem.W.Fast.tw7230036892787119023:Unit:=()
def PySem.W.Fast.tw15873665888396642867:Unit:=()
def PySem.W.Fast.tw13225012347627965844:Unit:=()
def PySem.W.Fast.tw9802238045401835573:Unit:=()
def PySem.W.Fast.tw15031701248663877558:Unit:=()
def PySem.W.Fast.tw3914658728475999865:Unit:=()
def PySem.W.Fast.tw7255914293278217566:Unit:=()
def PySem.W.Fast.tw11594742758434876448:Unit:=()
def PySem.W.Fast.tw14535877029320005478:Unit:=()
def PySem.W.Fast.tw5273620551353148328:Unit:=()
def PySem.W.Fast.tw8068272467551703390:Unit:=()
def PySem.W.Fast.tw9595955764599449762:Unit:=()
def PySem.W.Fast.tw17627512896639555384:Unit:=()
def PySem.W.Fast.tw18046624576585104998:Unit:=()
def PySem.W.Fast.tw14626928771410184651:Unit:=()
def PySem.W.Fast.tw18389779984460318185:Unit:=()
def PySem.W.Fast.tw12339649483190148141:Unit:=()
def PySem.W.Fast.tw14654276588650913344:Unit:=()
def PySem.W.Fast.tw5492238684475894039:Unit:=()
def PySem.W.Fast.tw13769155419769793178:Unit:=()
def PySem.W.Fast.tw18398450231219627127:Unit:=()
def PySem.W.Fast.tw15467473507077462713:Unit:=()
def PySem.W.Fast.tw6871523160355184098:Unit:=()
def PySem.W.Fast.tw15351092927773784129:Unit:=()
def PySem.W.Fast.tw7313099051541653145:Unit:=()
def PySem.W.Fast.tw13633201253351556376:Unit:=()
def PySem.W.Fast.tw9779279414452428601:Unit:=()
def PySem.W.Fast.tw1285219842341586393:Unit:=()
def PySem.W.Fast.tw9209409501397179482:Unit:=()
def PySem.W.Fast.tw8421439253985297930:Unit:=()
def PySem.W.Fast.tw13129554506284671784:Unit:=()
def PySem.W.Fast.tw14003318609101159990:Unit:=()
def PySem.W.Fast.tw8994904527875093522:Unit:=()
def PySem.W.Fast.tw7442380663206855170:Unit:=()
def PySem.W.Fast.tw1039196240432543906:Unit:=()
def PySem.W.Fast.tw12574356299352246568:Unit:=()
def PySem.W.Fast.tw17524388121218374865:Unit:=()
def PySem.W.Fast.tw18198831988540385573:Unit:=()
def PySem.W.Fast.tw7970268679231794740:Unit:=()
def PySem.W.Fast.tw960669027741413610:Unit:=()
def PySem.W.Fast.tw15510638830437925039:Unit:=()
def PySem.W.Fast.tw9427925722649085310:Unit:=()
def PySem.W.Fast.tw16542581442688919236:Unit:=()
def PySem.W.Fast.tw3416850282918830020:Unit:=()
def PySem.W.Fast.tw1191600801421382331:Unit:=()
def PySem.W.Fast.tw10490151657731235412:Unit:=()
def PySem.W.Fast.tw4344872624761011073:Unit:=()
def PySem.W.Fast.tw1651264797862691242:Unit:=()
def PySem.W.Fast.tw2547770838749070902:Unit:=()
def PySem.W.Fast.tw16558671705699075967:Unit:=()
def PySem.W.Fast.tw9645411957477950887:Unit:=()
def PySem.W.Fast.tw7487947980227732733:Unit:=()
def PySem.W.Fast.tw4032819376793362778:Unit:=()
def PySem.W.Fast.tw8457162157040910431:Unit:=()
def PySem.W.Fast.tw5213850333493890185:Unit:=()
def PySem.W.Fast.tw14389606079295204074:Unit:=()
def PySem.W.Fast.tw14409298170434504398:Unit:=()
def PySem.W.Fast.tw14283902632819884846:Unit:=()
def PySem.W.Fast.tw3437818256453293842:Unit:=()
def PySem.W.Fast.tw2642904052663321566:Unit:=()
def PySem.W.Fast.tw5770844586604143715:Unit:=()
def PySem.W.Fast.tw6793725979900374033:Unit:=()
def PySem.W.Fast.tw14672855306931484514:Unit:=()
def PySem.W.Fast.tw3252041116958108202:Unit:=()
def PySem.W.Fast.tw8890603506657339770:Unit:=()
def PySem.W.Fast.tw4685981435780461845:Unit:=()
def PySem.W.Fast.tw3474697601885901838:Unit:=()
def PySem.W.Fast.tw18154750704862790679:Unit:=()
def PySem.W.Fast.tw1824111315768926852:Unit:=()
def PySem.W.Fast.tw12403244615772769693:Unit:=()
def PySem.W.Fast.tw15681755903363824301:Unit:=()
def PySem.W.Fast.tw16635277493103256482:Unit:=()
def PySem.W.Fast.tw9678935077831852852:Unit:=()
def PySem.W.Fast.tw13012501682168938811:Unit:=()
def PySem.W.Fast.tw307372932928116031:Unit:=()
def PySem.W.Fast.tw259688423157851728:Unit:=()
def PySem.W.Fast.tw9755961353787508973:Unit:=()
def PySem.W.Fast.tw17303867417878728125:Unit:=()
def PySem.W.Fast.tw9256773943338757740:Unit:=()
def PySem.W.Fast.tw10752244253386453048:Unit:=()
def PySem.W.Fast.tw3349544087231620446:Unit:=()
def PySem.W.Fast.tw7081683176029781998:Unit:=()
def PySem.W.Fast.tw9623026606067107399:Unit:=()
def PySem.W.Fast.tw17953815020743225265:Unit:=()
def PySem.W.Fast.tw6823430675031114367:Unit:=()
def PySem.W.Fast.tw6683884110442928835:Unit:=()
def PySem.W.Fast.tw3101939406912002456:Unit:=()
def PySem.W.Fast.tw7959101579345342727:Unit:=()
def PySem.W.Fast.tw162787752933425141:Unit:=()
def PySem.W.Fast.tw15849367292121748541:Unit:=()
def PySem.W.Fast.tw15398279818785978663:Unit:=()
def PySem.W.Fast.tw11576143136886806878:Unit:=()
def PySem.W.Fast.tw14977518934341317721:Unit:=()
def PySem.W.Fast.tw16590815692340498766:Unit:=()
def PySem.W.Fast.tw12274644149596114965:Unit:=()
def PySem.W.Fast.tw17608731712320515539:Unit:=()
def PySem.W.Fast.tw12983513549149118903:Unit:=()
def PySem.W.Fast.tw10608073820955396852:Unit:=()
def PySem.W.Fast.tw14703523677527019403:Unit:=()
def PySem.W.Fast.tw17817910778689421066:Unit:=()
def PySem.W.Fast.tw16310234158243848398:Unit:=()
def PySem.W.Fast.tw17456665366693790937:Unit:=()
def PySem.W.Fast.tw2654139322303414452:Unit:=()
def PySem.W.Fast.tw7066791790603625369:Unit:=()
def PySem.W.Fast.tw16425650494960974954:Unit:=()
def PySem.W.Fast.tw14008446747210458327:Unit:=()
def PySem.W.Fast.tw14524378162400792550:Unit:=()
def PySem.W.Fast.tw14569600144271508406:Unit:=()
def PySem.W.Fast.tw16984059961897227539:Unit:=()
def PySem.W.Fast.tw3775039851028049583:Unit:=()
def PySem.W.Fast.tw15548858671315880565:Unit:=()
def PySem.W.Fast.tw8726248654354900910:Unit:=()
def PySem.W.Fast.tw2644205527702718646:Unit:=()
def PySem.W.Fast.tw393170535941719239:Unit:=()
def PySem.W.Fast.tw13093404101532856234:Unit:=()
def PySem.W.Fast.tw16981018441610618625:Unit:=()
def PySem.W.Fast.tw4111444156667205916:Unit:=()
def PySem.W.Fast.tw14213629315124605718:Unit:=()
def PySem.W.Fast.tw6578654754313351534:Unit:=()
def PySem.W.Fast.tw3502260131726284319:Unit:=()
def PySem.W.Fast.tw782752264614765745:Unit:=()
def PySem.W.Fast.tw13031019194369160885:Unit:=()
def PySem.W.Fast.tw1702064422112363142:Unit:=()
def PySem.W.Fast.tw17118549575944567615:Unit:=()
def PySem.W.Fast.tw11147703792692046885:Unit:=()
def PySem.W.Fast.tw14322907884117010650:Unit:=()
def PySem.W.Fast.tw6628935177761610798:Unit:=()
def PySem.W.Fast.tw917739127291004883:Unit:=()
def PySem.W.Fast.tw15444518832117019408:Unit:=()
def PySem.W.Fast.tw15001330826540720822:Unit:=()
def PySem.W.Fast.tw6854738782013266262:Unit:=()
def PySem.W.Fast.tw12221849418038563964:Unit:=()
def PySem.W.Fast.tw16054187427433716141:Unit:=()
def PySem.W.Fast.tw1567738842293418549:Unit:=()
def PySem.W.Fast.tw6901054687081060997:Unit:=()
def PySem.W.Fast.tw5237634962932940247:Unit:=()
def PySem.W.Fast.tw10676590682281061127:Unit:=()
def PySem.W.Fast.tw10103916850655357061:Unit:=()
def PySem.W.Fast.tw4320259338732826030:Unit:=()
def PySem.W.Fast.tw8618429788921991162:Unit:=()
def PySem.W.Fast.tw7539211377420365918:Unit:=()
def PySem.W.Fast.tw3886787377416891534:Unit:=()
def PySem.W.Fast.tw9120182127641372268:Unit:=()
def PySem.W.Fast.tw13482891943598468340:Unit:=()
def PySem.W.Fast.tw972434973860834162:Unit:=()
def PySem.W.Fast.tw6083763014215063565:Unit:=()
def PySem.W.Fast.tw5083473405513845519:Unit:=()
def PySem.W.Fast.tw8498862586224479908:Unit:=()
def PySem.W.Fast.tw8335723965499184159:Unit:=()
def PySem.W.Fast.tw399652647046847566:Unit:=()
def PySem.W.Fast.tw5988945111768612041:Unit:=()
def PySem.W.Fast.tw3638878531500671001:Unit:=()
def PySem.W.Fast.tw2022510827665198394:Unit:=()
def PySem.W.Fast.tw16632359709907886937:Unit:=()
def PySem.W.Fast.tw15465184839401394374:Unit:=()
def PySem.W.Fast.tw11949273492146151430:Unit:=()
def PySem.W.Fast.tw5867782669122713919:Unit:=()
def PySem.W.Fast.tw10908269602680789596:Unit:=()
def PySem.W.Fast.tw4684245184463889432:Unit:=()
def PySem.W.Fast.tw1112568135941478970:Unit:=()
def PySem.W.Fast.tw6461188989544385605:Unit:=()
def PySem.W.Fast.tw3720351427111253312:Unit:=()
def PySem.W.Fast.tw11250260821949163097:Unit:=()
def PySem.W.Fast.tw18120104748359215508:Unit:=()
def PySem.W.Fast.tw16848199285450651547:Unit:=()
def PySem.W.Fast.tw13494576174578950783:Unit:=()
def PySem.W.Fast.tw3946012350956728666:Unit:=()
def PySem.W.Fast.tw2043527360265867563:Unit:=()
def PySem.W.Fast.tw11973241480816272835:Unit:=()
def PySem.W.Fast.tw13664947872411022447:Unit:=()
def PySem.W.Fast.tw6349081561807265999:Unit:=()
def PySem.W.Fast.tw11168721114430462527:Unit:=()
def PySem.W.Fast.tw536361914952395379:Unit:=()
def PySem.W.Fast.tw10372741425114973894:Unit:=()
def PySem.W.Fast.tw2374972321110209939:Unit:=()
def PySem.W.Fast.tw2339853778960811017:Unit:=()
def PySem.W.Fast.tw16342321255221774981:Unit:=()
def PySem.W.Fast.tw7470489850550000422:Unit:=()
def PySem.W.Fast.tw1429964135490305720:Unit:=()
def PySem.W.Fast.tw9833046173547297272:Unit:=()
def PySem.W.Fast.tw1773697413524910315:Unit:=()
def PySem.W.Fast.tw1618361124937640649:Unit:=()
def PySem.W.Fast.tw500365391482244915:Unit:=()
def PySem.W.Fast.tw10023280282396235154:Unit:=()
def PySem.W.Fast.tw8141165851830170691:Unit:=()
def PySem.W.Fast.tw5778745306438699433:Unit:=()
def PySem.W.Fast.tw227280896962937119:Unit:=()
def PySem.W.Fast.tw17792703194853791671:Unit:=()
def PySem.W.Fast.tw14942441799218106187:Unit:=()
def PySem.W.Fast.tw18339015847267900267:Unit:=()
def PySem.W.Fast.tw5804215082689576788:Unit:=()
def PySem.W.Fast.tw6721425835603427647:Unit:=()
def PySem.W.Fast.tw875983757606552665:Unit:=()
def PySem.W.Fast.tw8374647245259094407:Unit:=()
def PySem.W.Fast.tw5202538554086358954:Unit:=()
def PySem.W.Fast.tw4744330926598327486:Unit:=()
def PySem.W.Fast.tw10422642068728923367:Unit:=()
def PySem.W.Fast.tw6691305256390278501:Unit:=()
def PySem.W.Fast.tw17146744807376095759:Unit:=()
def PySem.W.Fast.tw8327892675980203305:Unit:=()
def PySem.W.Fast.tw116302952021116968:Unit:=()
def PySem.W.Fast.tw11173438986730725725:Unit:=()
def PySem.W.Fast.tw11264242426617654929:Unit:=()
def PySem.W.Fast.tw4558722627837194419:Unit:=()
def PySem.W.Fast.tw1728148989581787906:Unit:=()
def PySem.W.Fast.tw15067680694606255450:Unit:=()
def PySem.W.Fast.tw8007453173552680831:Unit:=()
def PySem.W.Fast.tw8805503135095104894:Unit:=()
def PySem.W.Fast.tw865766547990056343:Unit:=()
def PySem.W.Fast.tw14617500387605661098:Unit:=()
def PySem.W.Fast.tw13108771766349405597:Unit:=()
def PySem.W.Fast.tw8041657491397240230:Unit:=()
def PySem.W.Fast.tw5253572760260700225:Unit:=()
def PySem.W.Fast.tw16311713588611313534:Unit:=()
def PySem.W.Fast.tw8630478921574040688:Unit:=()
def PySem.W.Fast.tw798404570845364175:Unit:=()
def PySem.W.Fast.tw4989727724782981285:Unit:=()
def PySem.W.Fast.tw9590828101995486349:Unit:=()
def PySem.W.Fast.tw5056261493206317287:Unit:=()
def PySem.W.Fast.tw15427791854298722611:Unit:=()
def PySem.W.Fast.tw11437808416260190835:Unit:=()
def PySem.W.Fast.tw9721452268650922468:Unit:=()
def PySem.W.Fast.tw5581114414446602138:Unit:=()
def PySem.W.Fast.tw3996575102392392625:Unit:=()
def PySem.W.Fast.tw5266118911947536274:Unit:=()
def PySem.W.Fast.tw2022570963935793103:Unit:=()
def PySem.W.Fast.tw6137774449894997292:Unit:=()
open PySem PySem.W PyProof.Rows
set_option maxRecDepth 100000 in
set_option maxHeartbeats 0 in
theorem PySem.Challenge.cw_ferrynight_k08_nights_written_holds : PySem.Challenge.rw_ferrynight_k08_nights_written.Holds := by
 w_on; o_law; k_head; (case hw=>w_witness2)
 k_fill
 refine FN.walk (l:=PySem.Challenge.rw_ferrynight_k08_nights_written) rfl rfl (fun w h Y=>PySem.W.kIn_of Y) ?F
 case F =>
  intro w mg fa h KX G Ll
  have gC:=FN.gl KX G "Night"
  have gF:=FN.gl KX G "FerryError"
  obtain ⟨UW,Uq,Tj⟩:=FN.a8 KX G "check_things" FN.cG ["things"]
  obtain ⟨WV,Va,Vr⟩:=FN.a8 KX G "check_room" FN.dF ["room"]
  obtain ⟨UB,UJ,Wg⟩:=FN.a8 KX G "is_pair" FN.fm ["one","other","count"]
  obtain ⟨VV,W3,V1⟩:=FN.a8 KX G "is_keeper" FN.c9 ["keeper","one","other","count"]
  obtain ⟨T6,Tr,T4⟩:=FN.a8 KX G "check_quarrels" FN.b7 ["quarrels","count"]
  obtain ⟨f4,d4,F4⟩:=FN.a8 KX G "is_thing" FN.cC ["number","count"]
  obtain ⟨f5,d5,F5⟩:=FN.a8 KX G "rises" FN.nJ ["group"]
  obtain ⟨f6,d6,F6⟩:=FN.a8 KX G "is_standing" FN.fK ["night","standing"]
  obtain ⟨f7,d7,F7⟩:=FN.a8 KX G "other_bank" FN.eI ["night","group"]
  obtain ⟨f8,d8,F8⟩:=FN.a8 KX G "is_good" FN.kH ["night","standing"]
  obtain ⟨f9,d9,F9⟩:=FN.a8 KX G "check_standing" FN.fz ["night","standing"]
  obtain ⟨TR,SE,TD⟩:=FN.a8 KX G "check_start" FN.iw ["night","standing"]
  obtain ⟨Uz,Tf,SX⟩:=FN.a8 KX G "groups_of" FN.io ["bank"]
  obtain ⟨Vx,VN,UA⟩:=FN.a8 KX G "bank_of_boat" FN.gT ["night","standing"]
  obtain ⟨S8,TW,Xg⟩:=FN.a8 KX G "is_manned" FN.ku ["night","crew"]
  obtain ⟨Tv,Vy,Tl⟩:=FN.a8 KX G "crossed" FN.kx ["standing","crew"]
  obtain ⟨V0,V2,WU⟩:=FN.a8 KX G "crews" FN.wk ["night","standing"]
  obtain ⟨VA,Uw,TJ⟩:=FN.a8 KX G "_law_cell_at" FN.b9 ["script","k"]
  obtain ⟨W2,SH,U4⟩:=FN.a8 KX G "_law_quarrel" FN.cF ["cell","many"]
  obtain ⟨Vw,WW,TU⟩:=FN.a8 KX G "_law_quarrels" FN.cN ["script","start","many"]
  obtain ⟨S6,Vm,US⟩:=FN.a8 KX G "_law_things" FN.dP ["script","start","many"]
  obtain ⟨T9,S0,Xh⟩:=FN.a8 KX G "_law_night" FN.dB ["script","most"]
  obtain ⟨WC,WE,UP⟩:=FN.a8 KX G "plan_from" FN.fX ["crossings","fewest","standing","end"]
  obtain ⟨T0,Vt,Wd⟩:=FN.a8 KX G "come_to" FN.iP ["crossings","standing"]
  obtain ⟨WQ,UM,Vi⟩:=FN.a8 KX G "heights" FN.kK ["night"]
  obtain ⟨SL,VW,SG⟩:=FN.a8 KX G "shortest" FN.i6 ["night","standing"]
  obtain ⟨V3,Ww,Wv⟩:=FN.a8 KX G "thing_line" FN.eO ["pace","rows"]
  obtain ⟨WA,Sz,TK⟩:=FN.a8 KX G "quarrel_line" FN.c7 ["one","other","keeper"]
  obtain ⟨VY,Tu,Sw⟩:=FN.a8 KX G "shown" FN.qr ["night"]
  obtain ⟨Wx,WR,Uf⟩:=FN.a8 KX G "is_number" FN.cy ["word"]
  obtain ⟨UT,W6,Ux⟩:=FN.a8 KX G "read_number" FN.bV ["word"]
  obtain ⟨Wp,Vk,Td⟩:=FN.a8 KX G "read_words" FN.cv ["line","first","count"]
  obtain ⟨Su,VJ,Ts⟩:=FN.a8 KX G "read_boat" FN.fV ["line"]
  obtain ⟨U5,W7,Xd⟩:=FN.a8 KX G "read_thing" FN.eV ["line"]
  obtain ⟨WT,Wn,VZ⟩:=FN.a8 KX G "read_quarrel" FN.cZ ["line"]
  obtain ⟨U8,Wb,Vl⟩:=FN.a8 KX G "read" FN.u4 ["text"]
  obtain ⟨W8,TC,WM⟩:=FN.a8 KX G "_law_lines" FN.gE ["night"]
  obtain ⟨WG,Xn,Xi⟩:=FN.a8 KX G "_law_peace" FN.eN ["quarrels","group"]
  obtain ⟨Wk,S2,Ug⟩:=FN.a8 KX G "_law_rest" FN.fU ["group","many"]
  obtain ⟨UC,Xm,TZ⟩:=FN.a8 KX G "_law_good" FN.iq ["quarrels","group","many"]
  obtain ⟨Ua,Xc,WK⟩:=FN.a8 KX G "minutes" FN.kB ["night","crew"]
  obtain ⟨VO,SF,Ue⟩:=FN.a8 KX G "by_side" FN.gI ["standing"]
  obtain ⟨Uc,UG,Xe⟩:=FN.a8 KX G "good_standings" FN.dn ["night"]
  obtain ⟨S1,Ul,UQ⟩:=FN.a8 KX G "all_crossings" FN.ge ["night"]
  obtain ⟨VU,U3,SS⟩:=FN.a8 KX G "begun_by" FN.fF ["ways","fewest"]
  obtain ⟨Vb,Uj,Vd⟩:=FN.a8 KX G "with_one_more" FN.dW ["crossings","fewest"]
  obtain ⟨WI,Sv,TQ⟩:=FN.a8 KX G "fewest_minutes" FN.cJ ["crossings","end"]
  obtain ⟨f1,d1,F1,M1⟩:=FN.rY KX gC "things" "Night.things" FN.bA ["self"]
  obtain ⟨f2,d2,F2,M2⟩:=FN.rY KX gC "room" "Night.room" FN.eJ ["self"]
  obtain ⟨f3,d3,F3,M3⟩:=FN.rY KX gC "peace" "Night.peace" FN.dQ ["self","group"]
  obtain ⟨Xj,Wu,Wi,RY⟩:=FN.rY KX gC "__init__" "Night.__init__" FN.cI ["self","things","room","quarrels"]
  obtain ⟨V8,UR,VM,T8⟩:=FN.rY KX gC "quarrels" "Night.quarrels" FN.cH ["self"]
  obtain ⟨VQ,Vo,SN,W9⟩:=FN.rY KX gC "begins" "Night.begins" FN.cW ["self"]
  obtain ⟨S5,Ut,Uu,WL⟩:=FN.rY KX gC "ends" "Night.ends" FN.gx ["self"]
  obtain ⟨XD,Re,Rc,Tk⟩:=FN.Nb KX G "law" FN.rj
  obtain ⟨k0,v0⟩:=FN.uE KX G "MOST_FIGURES" (10)
  obtain ⟨k1,v1⟩:=FN.uE KX G "MOST_THINGS" (6)
  obtain ⟨k2,v2⟩:=FN.uE KX G "MOST_MINUTES" (1000000000)
  obtain ⟨k3,v3⟩:=FN.uE KX G "MOST_ROOM" (3)
  obtain ⟨k4,v4⟩:=FN.uE KX G "MOST_QUARRELS" (30)
  obtain ⟨k5,v5⟩:=FN.uE KX G "NO_KEEPER" (-1)
  obtain ⟨k6,y0⟩:=FN.MN KX G "FIGURES" "0123456789"
  obtain ⟨sd,vS,lS⟩:=FN.Mc KX G "SIDES"
  obtain ⟨Ce,Cf⟩:=FN.AV KX G "BadThing"
  obtain ⟨Fp,EV⟩:=FN.AV KX G "BadRoom"
  obtain ⟨xX,wM⟩:=FN.AV KX G "BadQuarrel"
  obtain ⟨xW,xM⟩:=FN.Ia KX G gF "NoStanding"
  obtain ⟨Bn,Bt⟩:=FN.Ia KX G gF "BadStart"
  obtain ⟨Er,Fl⟩:=FN.AV KX G "BadNote"
  let Z:FN.Ad:=⟨k1,k2,k3,k4,k5,k6,k0,sd,FN.Qa gF,Ce,Fp,xX,xW,Bn,0,Er⟩
  have T:FN.Txt _ mg _ Z:=⟨FN.nn KX G,FN.nn KX G,FN.nn KX G,FN.nn KX G,FN.nn KX G,FN.nn KX G,FN.nn KX G,FN.nn KX G,FN.nn KX G,FN.nn KX G,FN.nn KX G,FN.nn KX G,FN.nn KX G,FN.nn KX G,FN.nn KX G,FN.nn KX G,FN.nn KX G,y0,v0,v1,v2,v3,v4,v5,gC,⟨by k_is,by k_is,by k_is,by k_is⟩,FN.na,FN.na,FN.na,vS,lS,gF,Cf,EV,wM,Fl,xM Z rfl,Bt Z rfl⟩
  let fs:Nat->Addr:=fun i=>match i with | 1=>f1 | 2=>f2 | 3=>f3 | 4=>f4 | 5=>f5 | 6=>f6 | 7=>f7 | 8=>f8 | 9=>f9 | 10=>TR | 11=>Uz | 12=>Vx | 13=>S8 | 14=>Tv | 15=>V0 | 21=>UW | 22=>WV | 23=>UB | 24=>VV | 25=>T6 | 26=>Xj | 28=>VA | 30=>W2 | 31=>Vw | 32=>S6 | 33=>T9 | 37=>WC | 38=>T0 | 39=>WQ | 40=>SL | 41=>V8 | 42=>V3 | 43=>WA | 44=>VY | 45=>Wx | 46=>UT | 47=>Wp | 48=>Su | 49=>U5 | 50=>WT | 51=>U8 | 52=>W8 | 53=>WG | 54=>Wk | 55=>UC | 60=>VQ | 61=>S5 | 62=>Ua | 63=>VO | 64=>Uc | 65=>S1 | 66=>VU | 67=>Vb | 68=>WI | _=>0
  let ds:Nat->FuncData:=fun i=>match i with | 1=>d1 | 2=>d2 | 3=>d3 | 4=>d4 | 5=>d5 | 6=>d6 | 7=>d7 | 8=>d8 | 9=>d9 | 10=>SE | 11=>Tf | 12=>VN | 13=>TW | 14=>Vy | 15=>V2 | 21=>Uq | 22=>Va | 23=>UJ | 24=>W3 | 25=>Tr | 26=>Wu | 28=>Uw | 30=>SH | 31=>WW | 32=>Vm | 33=>S0 | 37=>WE | 38=>Vt | 39=>UM | 40=>VW | 41=>UR | 42=>Ww | 43=>Sz | 44=>Tu | 45=>WR | 46=>W6 | 47=>Vk | 48=>VJ | 49=>W7 | 50=>Wn | 51=>Wb | 52=>TC | 53=>Xn | 54=>S2 | 55=>Xm | 60=>Vo | 61=>Ut | 62=>Xc | 63=>SF | 64=>UG | 65=>Ul | 66=>U3 | 67=>Uj | 68=>Sv | _=>Re
  have lk:FN.Lk _ mg _ fs ds:=⟨M1,F1,M2,F2,M3,F3,F4,F5,F6,F7,F8,F9,TD,SX,UA,Xg,Tl,WU⟩
  have lp:FN.Lp _ mg _ fs ds:=⟨W9,SN,WL,Uu,WK,Ue,Xe,UQ,SS,Vd,TQ⟩
  have A:FN.All _ mg _ fs ds:=⟨Tj,Vr,Wg,V1,T4,Wi,TJ,U4,TU,US,Xh,UP,Wd,Vi,SG,T8,VM,Wv,TK,Sw,Uf,Ux,Td,Ts,Xd,VZ,Vl,WM,Xi,Ug,TZ,lk,lp,⟨by k_is,RY.at_,RY.fn,by k_is⟩,⟨by k_is,by k_is,by k_is,by k_is⟩⟩
  cases Ll.symm.trans Rc.g
  exact ⟨Re,Tk,fun base _ _=>FN.Jo Rc T A⟩
