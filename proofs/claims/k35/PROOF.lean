import PyProof.Rows.All
import Wide.All
import OpenK.AllK
import Wide.FinOn
import Lean
import PyProof.EqAt
import PyProof.EqKinds
import PyProof.TupleCall
import KE.KRevIter
import PyProof.Rows.SortShellK
import PyProof.FString5
import PyProof.NeData
import PyProof.TupleOfStr
import PyProof.IsRules
import PyProof.ListRange
import PyProof.FactsAll.tuple_3
import PyProof.ExcInit
import PyProof.InstStoreFacts
import PyProof.NsDelKeeps
import PyProof.ListMulRoad
import PyProof.FactsAll.tuple_2
import PyProof.TupleKey
import PyProof.DictKinds
import PyProof.P3Eq
import PyProof.DictWalks
import PyProof.Rows.DictUnroll
import PyProof.Rows.SumAny
import PyProof.AttrMiss
import KE.KDictOf
import PySem.Challenge.RW_ringwords_k35_points_and_crossings
set_option Elab.async false
set_option linter.all false
set_option maxRecDepth 100000
set_option maxHeartbeats 0
set_option maxHeartbeats 400000
noncomputable section
def fu:=@List.length_map
def wD:=@PySem.wpAny_bind
def wF:=@List.getElem?_eq_getElem
def wG:=@List.getElem?_eq_some_iff
def wH:=@List.mem_singleton
def wI:=@PySem.wpAny_pure
def wJ:=@Nat.le_refl
def wK:=@PySem.Heap.get?_push_of_some
def wL:=@List.getElem?_map
def wM:=@List.map_append
def wN:=@Array.length_toList
def wO:=@Option.some.inj
def wQ:=@List.length_append
def wR:=@List.mem_of_getElem?
def wU:=@List.mem_append_right
def wV:=@PySem.Heap.get?_push_size
def wW:=@PyProof.Rows.wpS_bind
def wX:=@List.size_toArray
def wY:=@List.append_assoc
def wZ:=@PySem.Heap.lt_size
def w4:=@List.mem_cons_self
def w5:=@PyProof.Rows.wpS_pure
def w6:=@decide_eq_false
def w9:=@List.length_take
def w_:=@List.mem_cons_of_mem
def xf:=@List.getD_eq_getElem?_getD
def xg:=@List.mem_cons
def xh:=@PySem.F.plainAttrs_list
def xi:=@Nat.lt_of_lt_of_le
def xj:=@Bool.false_ne_true
def xk:=@Bool.false_eq_true
def xm:=@List.mem_append
def xo:=@List.take_append_drop
def xp:=@List.mem_append_left
def xq:=@Nat.le_trans
def xr:=@List.map_cons
def xt:=@PySem.boot_len
def xu:=@Int.toNat_natCast
def xv:=@List.take_of_length_le
def xw:=@PySem.F.plainAttrs_str
def xx:=@PySem.W.mg_none_of
def xy:=@List.getElem?_append_right
def xA:=@PySem.PassesOwn.never
def xB:=@decide_eq_true_iff
def xC:=@decide_eq_true
def xD:=@Nat.ne_of_lt
def xE:=@Nat.zero_le
def xF:=@congrArg
def xG:=@PySem.wpAny_callSpecial?_slot
def xH:=@List.mem_map
def xI:=@List.drop_eq_getElem_cons
def xJ:=@PySem.wpAny_call_entry
def xK:=@Bool.and_eq_true
def xM:=@List.getElem_mem
def xN:=@List.length_cons
def xO:=@List.length_drop
def xP:=@PySem.wpAny_newObj_type
def xQ:=@List.take_length
def xR:=@decide_eq_true_eq
def xS:=@List.not_mem_nil
def xT:=@Nat.lt_irrefl
def xU:=@Array.getElem?_toList
def xV:=@List.filter_cons_of_neg
def xW:=@List.getElem?_append_left
def xX:=@List.mem_of_mem_take
def xY:=@PyProof.Rows.slot_tuple_getitem
def xZ:=@List.getElem?_drop
def x5:=@PyProof.Rows.wpS_forRange
def x6:=@List.filter_cons_of_pos
def x8:=@Bool.eq_iff_iff
def x9:=@PySem.Heap.get?_update_other
def x_:=@PySem.wpAny_holding
def yd:=@PySem.F.slot_list_append
def ye:=@PyProof.Rows.callWith_type1
def yf:=@List.append_nil
def yg:=@List.mem_of_mem_drop
def yh:=@List.getElem?_of_mem
def yi:=@Int.emod_lt_of_pos
def yj:=@PyProof.Rows.KeyOrd.kle_refl
def yk:=@PySem.wpAny_field
def yl:=@List.take_add_one
def ym:=@PySem.F.slot_list_extend
def yn:=@PySem.F.type_list_extend
def yo:=@if_false
def yp:=@PySem.Obj.data_mapFields
def yq:=@List.pairwise_cons
def yr:=@Array.toList_extract
def yt:=@PySem.wpAny_mono
def yu:=@PySem.mem_of_lookup
def yw:=@Array.getElem?_eq_getElem
def yy:=@Int.emod_nonneg
def yz:=@List.getElem?_eq_none
def yA:=@List.Perm.append_left
def yB:=@List.perm_append_comm
def yC:=@List.countP_le_length
def yD:=@List.getElem?_take_of_lt
def yE:=@PySem.F.type_list_append
def yF:=@PySem.wpAny_getItem_str_slice
def yG:=@PyProof.Rows.wpS_mono
def yH:=@List.length_reverse
def yI:=@List.flatMap_append
def yJ:=@Array.getElem?_eq_some_iff
def yK:=@PySem.F.slot_tuple_iterator_next
def yL:=@Array.perm_iff_toList_perm
def yM:=@PySem.wpAny_pyIter_tuple
def yN:=@PySem.Heap.get?_update_self
def yO:=@PySem.F.slot_str_join
def yP:=@PySem.F.type_str_join
def yQ:=@List.filter_append
def yR:=@PySem.wpAny_passesOwn
def yS:=@List.length_nil
def yT:=@PySem.wpAny_specialOf
def yU:=@List.flatten_cons
def yV:=@List.flatMap_cons
def yW:=@if_true
def yX:=@PySem.Heap.SameBut.update
def yY:=@Int.eq_ofNat_of_zero_le
def yZ:=@List.length_eq_zero_iff
def y6:=@Nat.add_sub_cancel_left
def y7:=@List.flatten_append
def y8:=@PyProof.Rows.KeyOrd.kle_trans
def y9:=@List.map_reverse
def y_:=@PySem.wpAny_setField
def zd:=@Nat.mul_le_mul
def ze:=@PySem.F.slot_str_lower
def zf:=@PySem.F.type_str_lower
def zg:=@Option.toList_some
def zh:=@List.map_nil
def zi:=@List.find?_cons
def zj:=@Option.map_some
def zk:=@PySem.builtinLookup_eq_fast
def zm:=@PySem.Obj.isFreed_of_fields
def zo:=@List.getElem?_reverse
def zp:=@List.range_succ
def zq:=@Nat.zero_add
def zr:=@Int.zero_add
def zt:=@List.length_filter_le
def zu:=@List.getElem?_concat_length
def zv:=@PySem.wpAny_truthy_bool
def zw:=@PySem.wpAny_attempt
def zx:=@PySem.wpAny_rule
def zy:=@Bool.not_true
def zA:=@PyProof.Rows.KeyOrd.kle_of_klt
def zB:=@Array.toList_push
def zC:=@List.Pairwise.imp
def zD:=@List.length_range
def zF:=@List.mem_range
def zG:=@List.pairwise_iff_getElem
def zH:=@or_false
def zI:=@List.mem_reverse
def zJ:=@List.flatMap_nil
def zK:=@beq_eq_false_iff_ne
def zL:=@PySem.F.slot_list_insert
def zN:=@PyProof.Rows.wpS_modify
def zO:=@PySem.Paired.length
def zP:=@List.mem_filter
def zQ:=@List.nodup_cons
def zR:=@PySem.wpAny_newList
def zS:=@PySem.post_val_or_str
def zT:=@List.map_drop
def zU:=@PyProof.Rows.KK_mirror_equal
def zV:=@List.Perm.append_right
def zW:=@List.drop_of_length_le
def zX:=@List.flatten_singleton
def zY:=@PySem.F.slot_str_index
def zZ:=@PySem.F.type_str_index
def z4:=@PySem.call_meets
def z5:=@PySem.wpAny_of_eq
def z6:=@PySem.wpAny_pyIter_enum
def z7:=@PySem.wpAny_loadPart_at
def z8:=@List.nodup_nil
def z9:=@PySem.Heap.size_push
def z_:=@List.drop_zero
def Ab:=@List.Perm.refl
def Ac:=@List.length_singleton
def Ad:=@PySem.Txt.slice_le
def Ae:=@List.cons_prefix_cons
def Af:=@PySem.F.args_dict_keyiterator_next_1
def Ag:=@List.lookup_cons
def Ah:=@Nat.lt_succ_self
def Ai:=@PySem.wpAny_isInstance
def Aj:=@List.eq_nil_of_length_eq_zero
def Ak:=@List.mem_flatMap
def Al:=@PySem.F.entry_dict_keyiterator_next
def Am:=@PySem.wpAny_typeNameOfWhole_keyiter
def An:=@PySem.F.args_list_append_2
def Ao:=@PySem.W.mg_of
def Ap:=@List.map_take
def Aq:=@PySem.F.args_tuple_iterator_next_1
def Ar:=@PySem.F.slot_dict_keyiterator_next
def As:=@List.dropLast_concat_getLast
def Au:=@PySem.typeIs_str
def Av:=@List.filterMap_cons
def Aw:=@PySem.wpAny_execs_nil
def Ax:=@PyProof.Rows.entry_tuple_getitem
def Ay:=@PySem.F.entry_list_append
def Az:=@List.forIn_cons
def AA:=@PySem.typeLookup_type
def AB:=@List.length_pos_iff
def AC:=@List.idxOf_lt_length_of_mem
def AD:=@PySem.F.entry_tuple_iterator_next
def AE:=@Array.toList_append
def AF:=@PySem.Calls.Name_function_global
def AG:=@Array.toList_setIfInBounds
def AH:=@PySem.wpAny_Call_Name_kw
def AI:=@PyProof.Rows.args_tuple_getitem
def AJ:=@PySem.wpAny_typeOf
def AK:=@List.map_map
def AL:=@List.getElem?_take
def AM:=@PyProof.Rows.slicePart_none
def AN:=@PySem.isSubtype_type
def AO:=@PyProof.Rows.wpS_get
def AQ:=@Option.isSome_iff_exists
def AR:=@PySem.wpAny_sequenceKey
def AS:=@PyProof.Rows.Subscript_
def AU:=@PySem.list_append
def AV:=@PySem.wpAny_comprehension_free
def AW:=@PySem.Obj.cls_mapFields
def AX:=@List.ext_getElem?
def AY:=@Option.some.injEq
def AZ:=@PySem.wpAny_dictEntries
def A0:=@PySem.F.type_list_insert
def A2:=@PySem.wpAny_standAt
def A3:=@PySem.sizeLine_eq
def A4:=@PySem.evalPart_none
def A5:=@List.pairwise_singleton
def A6:=@PyProof.Rows.listUpdate_at
def A7:=@PySem.F.slot_list_index
def A8:=@PySem.F.type_list_index
def A9:=@PySem.IsL.update
def A_:=@List.drop_length
def Ba:=@List.perm_middle
def Bb:=@Nat.succ_le_succ
def Bc:=@List.getElem?_set_self
def Bd:=@PySem.W.cellsFrom_some
def Be:=@Array.getElem?_eq_none
def Bf:=@List.pairwise_lt_range
def Bg:=@List.find?_cons_of_pos
def Bh:=@List.find?_cons_of_neg
def Bi:=@Nat.le_of_lt
def Bj:=@List.of_mem_zip
def Bk:=@List.cons.injEq
def Bl:=@Array.Perm.refl
def Bm:=@PySem.wpAny_dictEpoch
def Bn:=@PyProof.Rows.wpS_lift
def Bo:=@Bool.false_and
def Bp:=@PySem.isSubtype_stop
def Bq:=@PySem.wpAny_seqItems
def Br:=@Nat.le_succ
def Bs:=@Bool.or_false
def Bu:=@List.any_cons
def Bv:=@List.cons.inj
def Bw:=@Nat.add_assoc
def Bx:=@Bool.true_and
def By:=@Nat.succ_mul
def Bz:=@Nat.sub_zero
def BA:=@Nat.sub_self
def BB:=@Prod.ext
namespace L2
open PySem PySem.Spec PyProof.Rows
abbrev Key:=Sum Int Str
def jP:Key→Value→Bool
 | .inl k,v=>Value.isInt k v
 | .inr x,v=>Value.isStrOf x v
def vM (w:World):Key→Int
 | .inl k=>hashInt k
 | .inr x=>hashStr w x
theorem aW:∀ {k:Key} {v:Value},jP k v=true→(∃ i t,k=Sum.inl i∧v=Value.int i t) ∨ (∃ x t,k=Sum.inr x∧v=Value.str x t)
 | .inl i,v,h=>by
  obtain ⟨t,e⟩:=Value.isInt_shape (k:=i) (v:=v) h
  exact .inl ⟨i,t,rfl,e⟩
 | .inr x,v,h=>by
  obtain ⟨t,e⟩:=Value.isStrOf_shape (x:=x) (v:=v) h
  exact .inr ⟨x,t,rfl,e⟩
theorem ke (i:Int)(t:Tok):jP (.inl i) (.int i t)=true:=by simp [jP,Value.isInt]
theorem kf (x:Str)(t:Tok):jP (.inr x) (.str x t)=true:=by simp [jP,Value.isStrOf]
theorem rH (a b:Int):decide ((Sum.inl a:Key)=Sum.inl b)=(a == b):=by
 by_cases e:a=b
 ·subst e;simp
 ·have h:¬ (Sum.inl a:Key)=Sum.inl b:=fun q=>e (Sum.inl.inj q)
  rw [w6 h]
  exact (zK.mpr e).symm
theorem rJ (a b:Str):decide ((Sum.inr a:Key)=Sum.inr b)=decide (a=b):=by
 by_cases e:a=b
 ·subst e;simp
 ·have h:¬ (Sum.inr a:Key)=Sum.inr b:=fun q=>e (Sum.inr.inj q)
  rw [w6 h,w6 e]
theorem rK (a:Int)(b:Str):decide ((Sum.inl a:Key)=Sum.inr b)=false:=w6 (fun q=>nomatch q)
theorem rL (a:Str)(b:Int):decide ((Sum.inr a:Key)=Sum.inl b)=false:=w6 (fun q=>nomatch q)
def bj (prog:Program)(w:World):PySem.KeyKind prog w Key where
 is:=jP
 hash:=vM w
 inj:=fun v a b ha hb=>by
  rcases aW ha with ⟨i,t,rfl,rfl⟩ | ⟨x,t,rfl,rfl⟩
  ·rcases aW hb with ⟨j,u,rfl,e⟩ | ⟨y,u,rfl,e⟩
   ·injection e with e1 _;rw [e1]
   ·exact nomatch e
  ·rcases aW hb with ⟨j,u,rfl,e⟩ | ⟨y,u,rfl,e⟩
   ·exact nomatch e
   ·injection e with e1 _;rw [e1]
 byValue:=fun k v h=>by
  rcases aW h with ⟨i,t,rfl,rfl⟩ | ⟨x,t,rfl,rfl⟩ <;> rfl
 pyHash:=fun hv h=>by
  rcases aW hv with ⟨i,t,rfl,rfl⟩ | ⟨x,t,rfl,rfl⟩
  ·exact wpAny_pyHash_int h
  ·exact wpAny_pyHash_str h
 eqBool:=fun hu hv h=>by
  rcases aW hu with ⟨i,t,rfl,rfl⟩ | ⟨x,t,rfl,rfl⟩
  ·rcases aW hv with ⟨j,u,rfl,rfl⟩ | ⟨y,u,rfl,rfl⟩
   ·rw [rH] at h;exact wpAny_eqBool_int h
   ·rw [rK] at h;exact SeqAt.EqAt.int_str i t y u _ _ _ _ h
  ·rcases aW hv with ⟨j,u,rfl,rfl⟩ | ⟨y,u,rfl,rfl⟩
   ·rw [rL] at h;exact SeqAt.EqAt.str_int x t j u _ _ _ _ h
   ·rw [rJ] at h;exact wpAny_eqBool_str h
 «strs»:=fun k x t v h=>by
  rcases aW h with ⟨i,u,rfl,e⟩ | ⟨y,u,rfl,e⟩
  ·exact nomatch e
  ·injection e with e1 _
   subst e1
   cases v <;> rfl
theorem iJ (prog:Program)(w:World)(i:Int)(t:Tok):(bj prog w).is (.inl i) (.int i t)=true:=ke i t
theorem iK (prog:Program)(w:World)(x:Str)(t:Tok):(bj prog w).is (.inr x) (.str x t)=true:=kf x t
inductive V where
 | non | bl (b:Bool) | int (i:Int) | str (x:Str) | byt (b:Array UInt8) | flt (b:UInt64) | ref (a:Addr) | ty (n:String)
 deriving DecidableEq
def bB:V→Value→Prop
 | .non,u=>u=Value.none
 | .bl b,u=>u=Value.bool b
 | .int i,u=>∃ t,u=Value.int i t
 | .str x,u=>∃ t,u=Value.str x t
 | .byt b,u=>∃ t,u=Value.bytes b t
 | .flt b,u=>∃ t,u=Value.float b t
 | .ref a,u=>u=Value.ref a
 | .ty n,u=>u=Value.type n
abbrev aZ:List V→List Value→Prop:=Paired bB
theorem aZ.length {xs:List V}{us:List Value}(r:aZ xs us):xs.length=us.length:=zO r
theorem aZ.get:∀ {xs:List V} {us:List Value} {i:Nat} {x:V},aZ xs us→xs[i]? = some x→∃ u,us[i]? = some u∧bB x u
 | _,_,_,_,.nil,e=>by simp at e
 | _,_,0,_,.cons r _,e=>by simp at e;subst e;exact ⟨_,rfl,r⟩
 | _,_,i+1,x,.cons _ t,e=>by
  obtain ⟨u,h1,h2⟩:=aZ.get (i:=i) (x:=x) t (by simpa using e)
  exact ⟨u,by simpa using h1,h2⟩
theorem aZ.set {x:V}{u:Value}(r:bB x u):∀ {xs:List V} {us:List Value} (i:Nat),aZ xs us→aZ (xs.set i x) (us.set i u)
 | _,_,_,.nil=>.nil
 | _,_,0,.cons _ t=>.cons r t
 | _,_,i+1,.cons q t=>.cons q (aZ.set r i t)
theorem aZ.append:∀ {xs ys:List V} {us ws:List Value},aZ xs us→aZ ys ws→aZ (xs++ys) (us++ws)
 | _,_,_,_,.nil,s=>s
 | _,_,_,_,.cons r t,s=>.cons r (aZ.append t s)
theorem aZ.take:∀ {xs:List V} {us:List Value} (n:Nat),aZ xs us→aZ (xs.take n) (us.take n)
 | _,_,0,_=>.nil
 | _,_,_+1,.nil=>.nil
 | _,_,n+1,.cons r t=>.cons r (aZ.take n t)
theorem aZ.drop:∀ {xs:List V} {us:List Value} (n:Nat),aZ xs us→aZ (xs.drop n) (us.drop n)
 | _,_,0,r=>r
 | _,_,_+1,.nil=>.nil
 | _,_,n+1,.cons _ t=>aZ.drop n t
def kg:Option V→Option Value→Prop
 | some v,some u=>bB v u
 | none,none=>True
 | _,_=>False
def KV {κ:Type}:List (κ × V)→List (κ × Value)→Prop:=Paired fun (p:κ × V) (q:κ × Value)=>p.1=q.1∧bB p.2 q.2
def kV:Key→V
 | .inl i=>.int i
 | .inr x=>.str x
inductive HO where
 | lst (xs:List V)
 | tup (xs:List V)
 | dK (kvs:List (Key × V)) | dT (kvs:List (List Key × V))
 | set (S:Int→Bool) (n:Nat)
 | ins (C dx:Addr) (fs:List (Str × V))
 | own (x:Addr)
 | xd (fs:List (Str × V))
 | met (f x:Addr)
 | rng (lo hi:Int)
 | frz (o:Obj) (u:HO)
 | tbl (ps:Array Value)
 | ext (φ:Heap→Prop)
abbrev Hp:=Addr→Option HO
def upd (H:Hp)(a:Addr)(o:HO):Hp:=fun b=>if b=a then some o else H b
theorem ab {H:Hp}{a:Addr}{o:HO}:upd H a o a=some o:=by unfold upd; rw [if_pos rfl]
theorem av {H:Hp}{a b:Addr}{o:HO}(h:b≠a):upd H a o b=H b:=by unfold upd; rw [if_neg h]
theorem dD {H:Hp}{a:Addr}{o u:HO}:upd (upd H a o) a u=upd H a u:=by
 funext b;unfold upd;split <;> rfl
theorem b_ {H:Hp}{a b:Addr}{o u:HO}(h:H a=some o)(h':H b=some u)(d:o≠u):a≠b:=by
 intro e;subst e;rw [h] at h';exact d (wO h')
theorem ag {H:Hp}{a b:Addr}{o:HO}(h:H a=some o)(h':H b=none):a≠b:=by
 intro e;subst e;rw [h] at h';cases h'
section
variable (P:Program) (w:World)
def NoD (h:Heap)(a:Addr):Prop:=∃ o,h.get? a=some o∧o.dict=none
theorem NoD.new (h:Heap)(o:Obj)(e:o.dict=none)(hf:o.isFreed=false:=by rfl):NoD (h.push o) h.objs.size:=⟨o,wV _ hf,e⟩
def bH (H:Hp)(h:Heap)(a:Addr):HO→Prop
 | .lst xs=>xs.length≤sizeLine∧∃ (its:List Value) (n:Nat),aZ xs its∧h.get? a=some { cls:=.type "list",data:=.seq its.toArray n }
 | .tup xs=>xs.length≤sizeLine∧∃ its:List Value,aZ xs its∧IsTup h a its.toArray∧NoD h a
 | .dK kvs=>kvs.length≤sizeLine∧(a == sysModules)=false∧∃ vs,KV kvs vs∧h.DictOf (bj P w) a vs
 | .dT kvs=>kvs.length≤sizeLine∧(a == sysModules)=false∧∃ xs:List (List Key × Addr × Value),
   Paired (fun (p:List Key × V) (q:List Key × Addr × Value)=>p.1=q.1∧H q.2.1=some (.tup (p.1.map kV))∧bB p.2 q.2.2) kvs xs ∧
   ∃ o es ep,h.get? a=some o∧o.ExactDict∧o.data = .dict es ep∧es.toList=xs.map (entryOfKey (tupleKind (bj P w)))∧(xs.map (·.1)).Nodup
 | .set S n=>h.SetOf (intKind P w) a S n
 | .ins C dx fs=>H dx=some (.own a)∧fs.length≤1000∧dx≠a∧h.get? a=some (PySem.W.instObj C dx) ∧
   ∃ mA,h.Ns1 dx mA∧(∀ f,kg (fs.lookup f) (mA f))∧PySem.Within mA (fs.map (·.1))
 | .own _=>∃ o,h.get? a=some o
 | .xd fs=>∃ mA,h.Ns1 a mA∧∀ f,kg (fs.lookup f) (mA f)
 | .rng lo hi=>∃ t u v,h.get? a=some { cls:=.type "range",data:=.fields #[.int lo t,.int hi u,.int 1 v] }
 | .frz o u=>h.get? a=some o∧bH H h a u
 | .tbl ps=>h.get? a=some { cls:=.none,data:=.fields ps }
 | .met f x=>h.get? a=some (PySem.W.methodObj (.ref f) (.ref x))
 | .ext φ=>φ h∧(∃ o,h.get? a=some o)∧∀ h1 h2:Heap,φ h1→(∀ o,h1.get? a=some o→h2.get? a=some o)→φ h2
def HOk (H:Hp)(h:Heap):Prop:=∀ a o,H a=some o→bH P w H h a o
end
section
variable {P:Program} {w:World} {H H':Hp} {h h':Heap} {a:Addr} {o:HO}
theorem bH.lt (x:bH P w H h a o):a < h.objs.size:=by
 cases o with
 | lst xs=>obtain ⟨_,_,_,_,e⟩:=x;exact wZ e
 | tup xs=>obtain ⟨_,_,_,p,_⟩:=x;exact p.lt
 | dK kvs=>obtain ⟨_,_,_,_,o,_,_,e,_⟩:=x;exact wZ e
 | dT kvs=>obtain ⟨_,_,_,_,o,_,_,e,_⟩:=x;exact wZ e
 | set S n=>obtain ⟨o,_,_,_,e,_⟩:=x;exact wZ e
 | ins C dx fs=>obtain ⟨_,_,_,e,_⟩:=x;exact wZ e
 | own y=>obtain ⟨_,e⟩:=x;exact wZ e
 | xd fs=>obtain ⟨_,⟨_,_,_,e,_⟩,_⟩:=x;exact wZ e
 | rng lo hi=>obtain ⟨_,_,_,e⟩:=x;exact wZ e
 | frz ob u=>obtain ⟨e,_⟩:=x;exact wZ e
 | tbl ps=>exact wZ (show h.get? a=some _ from x)
 | met f y=>exact wZ (show h.get? a=some _ from x)
 | ext φ=>obtain ⟨_,⟨_,e⟩,_⟩:=x;exact wZ e
theorem Paired.mapP {α β:Type}{F G:α→β→Prop}:∀ {l₁:List α} {l₂:List β},Paired F l₁ l₂→(∀ a b,F a b→G a b)→Paired G l₁ l₂
 | _,_,.nil,_=>.nil
 | _,_,.cons r t,f=>.cons (f _ _ r) (Paired.mapP t f)
theorem bH.stay (x:bH P w H h a o)(k:∀ b u,(b=a ∨ H b=some (.own a))→h.get? b=some u→h'.get? b=some u)
  (ho:∀ b,H b=some (.own a)→H' b=some (.own a)) (ht:∀ b xs,H b=some (.tup xs)→H' b=some (.tup xs)):bH P w H' h' a o:=by
 induction o with
 | lst xs=>obtain ⟨z,its,n,r,e⟩:=x;exact ⟨z,its,n,r,k _ _ (.inl rfl) e⟩
 | tup xs=>obtain ⟨z,its,r,⟨ob,e,c⟩,o2,e2,c2⟩:=x;exact ⟨z,its,r,⟨ob,k _ _ (.inl rfl) e,c⟩,o2,k _ _ (.inl rfl) e2,c2⟩
 | dK kvs=>obtain ⟨z,y,vs,r,ob,es,ep,e,c⟩:=x;exact ⟨z,y,vs,r,ob,es,ep,k _ _ (.inl rfl) e,c⟩
 | dT kvs =>
  obtain ⟨z,y,xs,r,ob,es,ep,e,c⟩:=x
  exact ⟨z,y,xs,Paired.mapP r fun p q z=>⟨z.1,ht _ _ z.2.1,z.2.2⟩,ob,es,ep,k _ _ (.inl rfl) e,c⟩
 | set S n=>obtain ⟨ob,es,ep,t,e,c⟩:=x;exact ⟨ob,es,ep,t,k _ _ (.inl rfl) e,c⟩
 | ins C dx fs =>
  obtain ⟨d,z,ne,e,mA,⟨od,es,ep,e2,c⟩,r⟩:=x
  exact ⟨ho _ d,z,ne,k _ _ (.inl rfl) e,mA,⟨od,es,ep,k _ _ (.inr d) e2,c⟩,r⟩
 | own y=>obtain ⟨ob,e⟩:=x;exact ⟨ob,k _ _ (.inl rfl) e⟩
 | xd fs=>obtain ⟨mA,⟨od,es,ep,e,c⟩,r⟩:=x;exact ⟨mA,⟨od,es,ep,k _ _ (.inl rfl) e,c⟩,r⟩
 | rng lo hi=>obtain ⟨t,u,v,e⟩:=x;exact ⟨t,u,v,k _ _ (.inl rfl) e⟩
 | frz ob u ih=>obtain ⟨e,q⟩:=x;exact ⟨k _ _ (.inl rfl) e,ih q⟩
 | tbl ps =>
  have e:h.get? a=some { cls:=.none,data:=.fields ps }:=x
  show h'.get? a=some { cls:=.none,data:=.fields ps }
  exact k a _ (.inl rfl) e
 | met f y =>
  have e:h.get? a=some (PySem.W.methodObj (.ref f) (.ref y)):=x
  show h'.get? a=some (PySem.W.methodObj (.ref f) (.ref y))
  exact k a _ (.inl rfl) e
 | ext φ=>obtain ⟨p,⟨o,e⟩,st⟩:=x;exact ⟨st _ _ p fun o q=>k _ _ (.inl rfl) q,⟨o,k _ _ (.inl rfl) e⟩,st⟩
theorem HOk.lt (x:HOk P w H h)(e:H a=some o):a < h.objs.size:=(x a o e).lt
theorem HOk.fresh (x:HOk P w H h)(e:h.objs.size≤a):H a=none:=by
 cases q:H a with
 | none=>rfl
 | some u=>exact absurd (xi (x.lt q) e) (xT _)
theorem HOk.kept (x:HOk P w H h)(k:∀ b u,h.get? b=some u→h'.get? b=some u):HOk P w H h':=fun a o e =>
 (x a o e).stay (fun b u _ q=>k b u q) (fun _ q=>q) fun _ _ q=>q
theorem HOk.laid (x:HOk P w H h)(k:∀ b u,h.get? b=some u→h'.get? b=some u)(hp:h.objs.size≤a)(new:bH P w (upd H a o) h' a o):HOk P w (upd H a o) h':=fun b u e=>by
 have hn:=x.fresh hp
 by_cases hb:b=a
 ·subst hb;rw [ab] at e;cases e;exact new
 ·rw [av hb] at e
  exact (x b u e).stay (fun c v _ q=>k c v q) (fun c q=>by rw [av (ag q hn)];exact q) fun c xs q=>by rw [av (ag q hn)];exact q
end
def Rd (H:Hp)(a:Addr)(u:HO):Prop:=H a=some u ∨ ∃ o,H a=some (.frz o u)
theorem Rd.ok {P:Program}{w:World}{H:Hp}{h:Heap}{a:Addr}{u:HO}(r:Rd H a u)(x:HOk P w H h):bH P w H h a u:=by
 rcases r with r | ⟨o,r⟩
 ·exact x a u r
 ·obtain ⟨_,q⟩:=x a _ r
  exact q
def Mut:Option HO→Prop
 | some (.lst _)=>True
 | some (.dK _)=>True
 | some (.dT _)=>True
 | some (.set _ _)=>True
 | some (.ins _ _ _)=>True
 | some (.ext _)=>True
 | _=>False
section
variable {P:Program} {w:World} {H:Hp} {h h':Heap} {x e:Addr} {o':HO}
theorem HOk.write (ok:HOk P w H h)(mu:Mut (H x))(he:e=x ∨ H e=some (.own x))(k:∀ b u,b≠e→h.get? b=some u→h'.get? b=some u)(heo:∃ u,h'.get? e=some u)
  (new:bH P w (upd H x o') h' x o'):HOk P w (upd H x o') h':=fun b u q=>by
 have nown:∀ c y,H c=some (.own y)→c≠x:=fun c y r z=>by subst z;rw [r] at mu;exact mu
 have ntup:∀ c xs,H c=some (.tup xs)→c≠x:=fun c xs r z=>by subst z;rw [r] at mu;exact mu
 by_cases hb:b=x
 ·subst hb;rw [ab] at q;cases q;exact new
 ·rw [av hb] at q
  by_cases hbe:b=e
  ·have q':H b=some (.own x):=by
    rcases he with z | z
    ·exact absurd (hbe.trans z) hb
    ·rw [hbe];exact z
   rw [q] at q';cases q'
   obtain ⟨v,hv⟩:=heo
   exact ⟨v,by rw [hbe];exact hv⟩
  ·refine (ok b u q).stay (fun c v hc r=>k c v ?_ r) (fun c r=>by rw [av (nown c b r)];exact r) fun c xs r=>by rw [av (ntup c xs r)];exact r
   rcases hc with rfl | hc
   ·exact hbe
   ·rintro rfl
    rcases he with z | z
    ·exact nown c b hc z
    ·rw [hc] at z;cases z;exact hb rfl
end
structure Un (fs ex:List Addr) (H H':Hp) (h h':Heap):Prop where
 keep:∀ b o,h.get? b=some o→H b=none→b∉fs→b∉ex→h'.get? b=some o
 slot:∀ b o,h.get? b=some o→H b=none→b∈fs→b∉ex→∃ sl,h'.get? b=some { o with slots:=sl }
 free:∀ b o,h.get? b=some o→H b=none→b∉ex→H' b=none
 there:∀ b o,h.get? b=some o→b∉ex→∃ o',h'.get? b=some o'
 tups:∀ b xs,H b=some (.tup xs)→H' b=some (.tup xs)
 frzs:∀ b o u,H b=some (.frz o u)→H' b=some (.frz o u)
 tbls:∀ b ps,H b=some (.tbl ps)→∃ more,H' b=some (.tbl (ps++more))
section
variable {fs fs' ex ex':List Addr} {H H1 H2:Hp} {h h1 h2 h':Heap} {a x e:Addr} {o:HO}
theorem Un.any (u:Un fs ex H H1 h h1){b:Addr}{ob:Obj}(q:h.get? b=some ob)(n:H b=none)(hx:b∉ex):∃ sl,h1.get? b=some { ob with slots:=sl }:=by
 by_cases hb:b∈fs
 ·exact u.slot b ob q n hb hx
 ·exact ⟨ob.slots,u.keep b ob q n hb hx⟩
theorem Un.kept (k:∀ b u,h.get? b=some u→h'.get? b=some u):Un fs ex H H h h' :=
 ⟨fun b ob q _ _ _=>k b ob q,fun b ob q _ _ _=>⟨ob.slots,k b ob q⟩,fun _ _ _ n _=>n,fun b ob q _=>⟨ob,k b ob q⟩,fun _ _ q=>q,fun _ _ _ q=>q,fun _ ps q=>⟨#[],by rw [q];simp⟩⟩
theorem Un.refl:Un fs ex H H h h:=Un.kept fun _ _ q=>q
theorem Un.laid (k:∀ b u,h.get? b=some u→h'.get? b=some u)(hp:h.objs.size≤a)(hn:H a=none):Un fs ex H (upd H a o) h h' where
 keep:=fun b u q _ _ _=>k b u q
 slot:=fun b u q _ _ _=>⟨u.slots,k b u q⟩
 free:=fun b u q n _=>by rw [av (xD (xi (wZ q) hp))];exact n
 there:=fun b u q _=>⟨u,k b u q⟩
 tups:=fun b xs q=>by rw [av (ag q hn)];exact q
 frzs:=fun b u xs q=>by rw [av (ag q hn)];exact q
 tbls:=fun b ps q=>⟨#[],by rw [av (ag q hn),q];simp⟩
theorem Un.write (mu:Mut (H x))(he:e=x ∨ H e=some (.own x))(k:∀ b u,b≠e→h.get? b=some u→h'.get? b=some u)(heo:∃ u,h'.get? e=some u):Un fs ex H (upd H x o) h h':=by
 have hx:∀ b,H b=none→b≠x:=fun b n z=>by subst z;rw [n] at mu;exact mu
 have hb:∀ b,H b=none→b≠e:=fun b n z=>by
  subst z
  rcases he with r | r
  ·exact hx b n r
  ·rw [n] at r;cases r
 have hm:∀ b u,H b=some u→¬ Mut (some u)→b≠x:=fun b u q nm z=>by subst z;rw [q] at mu;exact nm mu
 refine ⟨fun b u q n _ _=>k b u (hb b n) q,fun b u q n _ _=>⟨u.slots,k b u (hb b n) q⟩,fun b u q n _=>by rw [av (hx b n)];exact n,fun b u q _=>?_,
  fun b xs q=>by rw [av (hm b _ q fun z=>z)];exact q,fun b u xs q=>by rw [av (hm b _ q fun z=>z)];exact q,fun b ps q=>⟨#[],by rw [av (hm b _ q fun z=>z),q];simp⟩⟩
 by_cases hbe:b=e
 ·subst hbe;exact heo
 ·exact ⟨u,k b u hbe q⟩
end
def trk (h:Heap)(H:Hp):List Addr:=(List.range h.objs.size).filter fun a=>(H a).isSome
def ng (h:Heap)(H:Hp):Heap:=PySem.W.hideAll h (trk h H)
theorem kh (h:Heap)(H:Hp):(ng h H).objs.size=h.objs.size:=PySem.W.hideAll_size _ _
theorem nh {h:Heap}{H:Hp}{b:Addr}{o:Obj}(e:h.get? b=some o)(n:H b=none):(ng h H).get? b=some o :=
 PySem.W.hideAll_get _ e fun hm=>by
  have q:(H b).isSome=true:=(zP.mp hm).2
  rw [n] at q;simp at q
theorem pV {h:Heap}{H:Hp}{b:Addr}{o:Obj}(e:(ng h H).get? b=some o):h.get? b=some o∧H b=none:=by
 have e':h.get? b=some o:=PySem.W.of_hideAll (trk h H) e
 refine ⟨e',?_⟩
 cases q:H b with
 | none=>rfl
 | some x =>
  have hm:b∈trk h H:=zP.mpr ⟨zF.mpr (wZ e'),by simp [q]⟩
  have z:(ng h H).get? b=none:=PySem.W.hideAll_none (trk h H) hm
  rw [z] at e;cases e
structure Mod (K:PySem.W.Frag) (mg:Str→Option Value) (base:Heap):Prop where
 kin:K.In base
 glob:base.Ns mainGlobals mg
 blt:∃ mb,base.Ns builtinsNs mb∧∀ x:Str,x ≠ "__name__"→mb x=bootBuiltins x
 nolimit:base.NoLimit
/-- the context: a def's body (or a comprehension's block) running. base: fixed through the whole law;s₀,H₀: the entry;outer: the frames whose slots others may change (a def's callers);stack: all frames that run;
  ex: iterators that were made ahead of the entry and are walked here (a comprehension's);fn: the names whose cells were made at the entry (a def: all;a comprehension's block: its own);calm: not within an except suite;pn: pins that every state bears;xe: what is wanted of an exception that leaves the code -/
structure Cx where
 prog:Program
 w:World
 K:PySem.W.Frag
 mg:Str→Option Value
 base:Heap
 A:Around
 N:List Str
 s₀:Shared
 H₀:Hp
 env:Env
 outer:List Env
 stack:List Env
 ex:List Addr
 fn:Str→Bool
 calm:Bool
 pn:List (Addr × Obj)
 xe:Value→Shared→Prop
def frs (l:List Env):List Addr:=l.filterMap (·.frame)
abbrev Cx.fs (X:Cx):List Addr:=frs X.outer
def Vis (sc:Scope)(x:Str):Prop:=sc.names.lookup x=some .local ∨ sc.names.lookup x=some .cell ∨ sc.names.lookup x=some .free
def Loc (sc:Scope)(x:Str):Prop:=sc.names.lookup x=some .local ∨ sc.names.lookup x=some .cell
def vN (env:Env)(h:Heap)(m:Str→Option Value)(x:Str)(u:Value):Prop :=
 (env.kindOf x=some .local∧m x=some u) ∨ ((env.kindOf x=some .cell ∨ env.kindOf x=some .free)∧∃ c,env.cells.lookup x=some c∧h.IsCell c (some u))
structure Cx.Ok (X:Cx):Prop where
 mod:Mod X.K X.mg X.base
 kind:X.env.scope.kind = .function
 glob:X.env.globals=mainGlobals
 blt:X.env.builtins=builtinsNs
 above:X.s₀.heap.objs.size≤X.env.locals
 inj:∀ x y c,X.env.cells.lookup x=some c→X.env.cells.lookup y=some c→x=y
 has:∀ x,(X.env.kindOf x=some .cell ∨ X.env.kindOf x=some .free)→∃ c,X.env.cells.lookup x=some c
 cab:∀ x c,X.fn x=true→X.env.cells.lookup x=some c→X.s₀.heap.objs.size≤c
 hd:X.calm=true→X.A.handled=none
 frames:X.A.frames=some X.stack
 stk:X.stack=X.outer ∨ (X.stack=X.env::X.outer∧X.env.frame=some X.env.locals)
 exf:∀ b∈X.ex,b≠X.env.locals∧∀ x c,X.env.cells.lookup x=some c→c≠b
 bs:∀ b o,X.base.get? b=some o→X.s₀.heap.get? b=some o∧X.H₀ b=none
 bsz:X.base.objs.size≤X.s₀.heap.objs.size
 noex:∀ b o,X.base.get? b=some o→b∉X.ex
 exfs:∀ b∈X.ex,b∉X.fs
 funs:X.s₀.heap.FunFrames X.base X.outer
 frf:∀ b∈X.fs,X.H₀ b=none
structure Inv (X:Cx) (pins:List (Addr × Obj)) (σ:List (Option V)) (H:Hp) (s:Shared):Prop where
 ok:X.Ok
 os:s.os=X.s₀.os
 bare:AllBare s.gens
 base:Un X.fs X.ex X.H₀ H X.s₀.heap s.heap
 loc:∃ m,s.heap.Ns X.env.locals m∧∀ (i:Nat) (x:Str) (v:V),X.N[i]? = some x→σ[i]? = some (some v)→Vis X.env.scope x→∃ u,bB v u∧vN X.env s.heap m x u
 cell:∀ x c,X.env.cells.lookup x=some c→∃ v,s.heap.IsCell c v
 free:H X.env.locals=none
 freeC:∀ x c,X.env.cells.lookup x=some c→H c=none
 pin:∀ p∈X.pn++pins,s.heap.get? p.1=some p.2∧H p.1=none∧p.1≠X.env.locals∧p.1∉X.fs∧∀ v,p.2.data ≠ .cell v
 hok:HOk X.prog X.w H s.heap
 len:σ.length=X.N.length
section
variable {X:Cx} {pins:List (Addr × Obj)} {σ:List (Option V)} {H H':Hp} {s:Shared} {h':Heap}
theorem Cx.Ok.nofr (ok:X.Ok){b:Addr}{o:Obj}(e:X.base.get? b=some o):b∉X.fs:=fun hb=>by
 have:=(ok.funs.mem hb).1
 rw [e] at this;cases this
theorem Inv.bs (I:Inv X pins σ H s):∀ b o,X.base.get? b=some o→s.heap.get? b=some o∧H b=none:=fun b o e =>
 ⟨I.base.keep b o (I.ok.bs b o e).1 (I.ok.bs b o e).2 (I.ok.nofr e) (I.ok.noex b o e),I.base.free b o (I.ok.bs b o e).1 (I.ok.bs b o e).2 (I.ok.noex b o e)⟩
theorem Inv.bk (I:Inv X pins σ H s):∀ b o,X.base.get? b=some o→s.heap.get? b=some o:=fun b o e=>(I.bs b o e).1
theorem Inv.mod (I:Inv X pins σ H s):Mod X.K X.mg X.base:=I.ok.mod
theorem Inv.kIn (I:Inv X pins σ H s):X.K.In s.heap:=I.ok.mod.kin.keeps I.bk
theorem Inv.fr (I:Inv X pins σ H s):∃ m,Fr X.base X.env.locals s.heap m :=
 let ⟨m,hn,_⟩:=I.loc
 ⟨m,hn,I.bk,xq I.ok.bsz I.ok.above⟩
theorem Inv.lt (I:Inv X pins σ H s):X.env.locals < s.heap.objs.size:=let ⟨_,hn,_⟩:=I.loc; hn.lt
theorem Inv.sz (I:Inv X pins σ H s):X.s₀.heap.objs.size≤s.heap.objs.size:=xq I.ok.above (Bi I.lt)
theorem Inv.nofs (I:Inv X pins σ H s){a:Addr}(h:s.heap.objs.size≤a):a∉X.fs:=fun hb=>by
 obtain ⟨_,o,ho,_⟩:=I.ok.funs.mem hb
 exact absurd (xi (wZ ho) (xq I.sz h)) (xT _)
theorem Inv.cne (I:Inv X pins σ H s):∀ x c,X.env.cells.lookup x=some c→c≠X.env.locals:=fun x c e z=>by
 obtain ⟨v,o,ho,hd⟩:=I.cell x c e
 obtain ⟨m,⟨o',es,ep,ho',hd',_⟩,_⟩:=I.loc
 rw [z,ho'] at ho;cases ho;rw [hd'] at hd;cases hd
theorem Inv.funs (I:Inv X pins σ H s):s.heap.FunFrames X.base X.outer:=by
 have all:∀ (l:List Env),(∀ b∈frs l,b∈X.fs)→X.s₀.heap.FunFrames X.base l→s.heap.FunFrames X.base l:=by
  intro l
  induction l with
  | nil=>intro _ _;trivial
  | cons env r ih =>
   intro hs hl
   obtain ⟨hk,⟨L,o,hf,hn,ho,hd⟩,hr⟩:=hl
   have hL:L∈X.fs:=hs L (by unfold frs;rw [Av,hf];exact w4)
   obtain ⟨sl,e⟩:=I.base.slot L o ho (I.ok.frf L hL) hL fun z=>I.ok.exfs L z hL
   exact ⟨hk,⟨L,_,hf,hn,e,hd⟩,ih (fun b hb=>hs b (by unfold frs;rw [Av,hf];exact w_ _ hb)) hr⟩
 exact all X.outer (fun _ hb=>hb) I.ok.funs
theorem Inv.stack (I:Inv X pins σ H s):s.heap.FunFrames X.base X.stack:=by
 rcases I.ok.stk with e | ⟨e,hf⟩
 ·rw [e];exact I.funs
 ·rw [e]
  obtain ⟨m,hn,_⟩:=I.loc
  refine .cons (by rw [I.ok.kind];decide) hf hn ?_ I.funs
  exact Heap.get?_none_of_le (xq I.ok.bsz I.ok.above)
theorem Inv.stkSub (I:Inv X pins σ H s):∀ b∈frs X.stack,b∈X.env.locals::X.fs:=fun b hb=>by
 rcases I.ok.stk with e | ⟨e,hf⟩
 ·rw [e] at hb;exact w_ _ hb
 ·rw [e] at hb
  unfold frs at hb
  rw [Av,hf] at hb
  exact hb
theorem Inv.stkFree (I:Inv X pins σ H s):∀ b∈frs X.stack,H b=none:=fun b hb=>by
 rcases xg.mp (I.stkSub b hb) with e | hb
 ·rw [e];exact I.free
 ·obtain ⟨_,o,ho,_⟩:=I.ok.funs.mem hb
  exact I.base.free b o ho (I.ok.frf b hb) fun z=>I.ok.exfs b z hb
theorem Inv.step {g':Array GenState}{t':Nat}{d':Drawn}{ch:List Addr}(I:Inv X pins σ H s)
  (hch:∀ b∈ch,(b∈X.ex ∨ X.s₀.heap.objs.size≤b)∧b≠X.env.locals∧(∀ x c,X.env.cells.lookup x=some c→c≠b)∧∀ p∈X.pn++pins,p.1≠b)
  (keep:∀ b o,b≠X.env.locals→b∉X.fs→b∉ch→s.heap.get? b=some o→H b=none→h'.get? b=some o)
  (slot:∀ b o,b≠X.env.locals→b∈X.fs→b∉ch→s.heap.get? b=some o→H b=none→∃ sl,h'.get? b=some { o with slots:=sl }) (free:∀ b o,b∉ch→s.heap.get? b=some o→H b=none→H' b=none)
  (there:∀ b o,b∉ch→s.heap.get? b=some o→∃ o',h'.get? b=some o')
  (tups:∀ b xs,H b=some (.tup xs)→H' b=some (.tup xs)) (frzs:∀ b o u,H b=some (.frz o u)→H' b=some (.frz o u)) (tbls:∀ b ps,H b=some (.tbl ps)→∃ more,H' b=some (.tbl (ps++more)))
  (ns:∀ m,s.heap.Ns X.env.locals m→h'.Ns X.env.locals m) (hok:HOk X.prog X.w H' h') (hg:AllBare g') :
  Inv X pins σ H' { s with heap:=h',gens:=g',drawn:=d',toks:=t' }:=by
 have neL:∀ b o,X.s₀.heap.get? b=some o→b≠X.env.locals:=fun b o e=>xD (xi (wZ e) I.ok.above)
 have neC:∀ b o,X.s₀.heap.get? b=some o→b∉X.ex→b∉ch:=fun b o e hx hb=>by
  rcases (hch b hb).1 with z | z
  ·exact hx z
  ·exact absurd (xi (wZ e) z) (xT _)
 have cellK:∀ x c,X.env.cells.lookup x=some c→∀ v,s.heap.IsCell c v→h'.IsCell c v:=fun x c e v ⟨o,ho,hd⟩=>by
  have nch:c∉ch:=fun z=>(hch c z).2.2.1 x c e rfl
  by_cases hc:c∈X.fs
  ·obtain ⟨sl,q⟩:=slot c o (I.cne x c e) hc nch ho (I.freeC x c e)
   exact ⟨_,q,hd⟩
  ·exact ⟨o,keep c o (I.cne x c e) hc nch ho (I.freeC x c e),hd⟩
 refine ⟨I.ok,I.os,hg,⟨fun b o e n hb hx=>?_,fun b o e n hb hx=>?_,fun b o e n hx=>?_,fun b o e hx=>?_,fun b xs e=>tups b xs (I.base.tups b xs e),fun b o xs e=>frzs b o xs (I.base.frzs b o xs e),fun b ps e=>?_⟩,?_,fun x c e=>?_,?_,fun x c e=>?_,fun p hp=>?_,hok,I.len⟩
 ·exact keep b o (neL b o e) hb (neC b o e hx) (I.base.keep b o e n hb hx) (I.base.free b o e n hx)
 ·obtain ⟨sl,e1⟩:=I.base.slot b o e n hb hx
  obtain ⟨sl',e2⟩:=slot b _ (neL b o e) hb (neC b o e hx) e1 (I.base.free b o e n hx)
  exact ⟨sl',e2⟩
 ·obtain ⟨o',e1⟩:=I.base.there b o e hx
  exact free b o' (neC b o e hx) e1 (I.base.free b o e n hx)
 ·obtain ⟨o',e1⟩:=I.base.there b o e hx
  exact there b o' (neC b o e hx) e1
 ·obtain ⟨m1,e1⟩:=I.base.tbls b ps e
  obtain ⟨m2,e2⟩:=tbls b _ e1
  exact ⟨m1++m2,by rw [e2,Array.append_assoc]⟩
 ·obtain ⟨m,hn,hl⟩:=I.loc
  refine ⟨m,ns m hn,fun i x v e1 e2 e3=>?_⟩
  obtain ⟨u,r,l⟩:=hl i x v e1 e2 e3
  refine ⟨u,r,?_⟩
  rcases l with l | ⟨k,c,e,z⟩
  ·exact .inl l
  ·exact .inr ⟨k,c,e,cellK x c e _ z⟩
 ·obtain ⟨v,z⟩:=I.cell x c e
  exact ⟨v,cellK x c e v z⟩
 ·obtain ⟨m,⟨o,_,_,ho,_⟩,_⟩:=I.loc
  exact free _ o (fun z=>(hch _ z).2.1 rfl) ho I.free
 ·obtain ⟨v,o,ho,hd⟩:=I.cell x c e
  exact free c o (fun z=>(hch c z).2.2.1 x c e rfl) ho (I.freeC x c e)
 ·obtain ⟨e,n,ne,nf,d⟩:=I.pin p hp
  have nch:p.1∉ch:=fun z=>(hch p.1 z).2.2.2 p hp rfl
  exact ⟨keep p.1 p.2 ne nf nch e n,free p.1 p.2 nch e n,ne,nf,d⟩
theorem Inv.un {t':Nat}(I:Inv X pins σ H s)(u:Un X.fs [] H H' s.heap h')(hok:HOk X.prog X.w H' h'):Inv X pins σ H' { s with heap:=h',toks:=t' }:=by
 obtain ⟨m,⟨o,es,ep,ho,r⟩,_⟩:=id I.loc
 obtain ⟨sl,hL⟩:=u.any ho I.free (by simp)
 exact I.step (g':=s.gens) (d':=s.drawn) (ch:=[]) (fun _ z=>nomatch z) (fun b o _ hb _ e n=>u.keep b o e n hb (by simp)) (fun b o _ hb _ e n=>u.slot b o e n hb (by simp)) (fun b o _ e n=>u.free b o e n (by simp)) (fun b o _ e=>u.there b o e (by simp)) u.tups u.frzs u.tbls (fun m' hm=>by
  obtain ⟨o',es',ep',ho',r'⟩:=hm
  rw [ho] at ho';cases ho'
  exact ⟨_,es',ep',hL,r'⟩) hok I.bare
theorem Inv.call {g':Array GenState}{t':Nat}{d':Drawn}{ch:List Addr}(I:Inv X pins σ H s)(u:Un (frs X.stack) ch H H' s.heap h')(hok:HOk X.prog X.w H' h')(hg:AllBare g')
  (hch:∀ b∈ch,(b∈X.ex ∨ X.s₀.heap.objs.size≤b)∧b≠X.env.locals∧(∀ x c,X.env.cells.lookup x=some c→c≠b)∧∀ p∈X.pn++pins,p.1≠b) :
  Inv X pins σ H' { s with heap:=h',gens:=g',drawn:=d',toks:=t' }:=by
 obtain ⟨m,⟨o,es,ep,ho,r⟩,_⟩:=id I.loc
 obtain ⟨sl,hL⟩:=u.any ho I.free fun z=>(hch _ z).2.1 rfl
 exact I.step (ch:=ch) hch (fun b o hL hb hc e n=>u.keep b o e n (fun z=>(xg.mp (I.stkSub b z)).elim hL hb) hc) (fun b o _ _ hc e n=>u.any e n hc) (fun b o hc e n=>u.free b o e n hc) (fun b o hc e=>u.there b o e hc) u.tups u.frzs u.tbls (fun m' hm=>by
  obtain ⟨o',es',ep',ho',r'⟩:=hm
  rw [ho] at ho';cases ho'
  exact ⟨_,es',ep',hL,r'⟩) hok hg
theorem Inv.turned {t':Nat}{it:Addr}(I:Inv X pins σ H s)(k:∀ b o,b≠it→s.heap.get? b=some o→h'.get? b=some o)(hn:H it=none)(hL:it≠X.env.locals)
  (h1:it∈X.ex ∨ X.s₀.heap.objs.size≤it) (h2:∀ x c,X.env.cells.lookup x=some c→c≠it) (h3:∀ p∈X.pn++pins,p.1≠it):Inv X pins σ H { s with heap:=h',toks:=t' }:=by
 have nit:∀ b u,H b=some u→b≠it:=fun b u e z=>by rw [z,hn] at e;cases e
 refine I.step (g':=s.gens) (d':=s.drawn) (ch:=[it]) (fun b hb=>?_) (fun b o _ _ hc e _=>k b o (fun z=>hc (by simp [z])) e) (fun b o _ _ hc e _=>⟨o.slots,k b o (fun z=>hc (by simp [z])) e⟩) (fun _ _ _ _ n=>n)
  (fun b o hc e=>⟨o,k b o (fun z=>hc (by simp [z])) e⟩) (fun _ _ e=>e) (fun _ _ _ e=>e) (fun b ps e=>⟨#[],by rw [e];simp⟩) (fun m hm=>?_) (fun b u e=>?_) I.bare
 ·have e:b=it:=by simpa using hb
  subst e
  exact ⟨h1,hL,h2,h3⟩
 ·obtain ⟨o,es,ep,ho,r⟩:=hm
  exact ⟨o,es,ep,k _ o (Ne.symm hL) ho,r⟩
 ·refine (I.hok b u e).stay (fun c v hc q=>k c v ?_ q) (fun _ q=>q) fun _ _ q=>q
  rcases hc with z | z
  ·rw [z];exact nit b u e
  ·exact nit c _ z
theorem Inv.tok (I:Inv X pins σ H s)(t:Nat):Inv X pins σ H { s with toks:=t }:=I.un (h':=s.heap) (t':=t) Un.refl I.hok
theorem Inv.kept {t':Nat}(I:Inv X pins σ H s)(k:∀ b u,s.heap.get? b=some u→h'.get? b=some u):Inv X pins σ H { s with heap:=h',toks:=t' }:=I.un (Un.kept k) (I.hok.kept k)
theorem Inv.laid {a:Addr}{o:HO}{t':Nat}(I:Inv X pins σ H s)(k:∀ b u,s.heap.get? b=some u→h'.get? b=some u)(hp:s.heap.objs.size≤a)(new:bH X.prog X.w (upd H a o) h' a o) :
  Inv X pins σ (upd H a o) { s with heap:=h',toks:=t' }:=I.un (Un.laid k hp (I.hok.fresh hp)) (I.hok.laid k hp new)
theorem Inv.write {x e:Addr}{o:HO}{t':Nat}(I:Inv X pins σ H s)(mu:Mut (H x))(he:e=x ∨ H e=some (.own x))(k:∀ b u,b≠e→s.heap.get? b=some u→h'.get? b=some u)(heo:∃ u,h'.get? e=some u)
  (new:bH X.prog X.w (upd H x o) h' x o):Inv X pins σ (upd H x o) { s with heap:=h',toks:=t' }:=I.un (Un.write mu he k heo) (I.hok.write mu he k heo new)
theorem Inv.pins_of {pins':List (Addr × Obj)}(I:Inv X pins σ H s)(h:∀ p∈pins',s.heap.get? p.1=some p.2∧H p.1=none∧p.1≠X.env.locals∧p.1∉X.fs∧∀ v,p.2.data ≠ .cell v):Inv X pins' σ H s :=
 ⟨I.ok,I.os,I.bare,I.base,I.loc,I.cell,I.free,I.freeC,fun p hp=>(xm.mp hp).elim (fun z=>I.pin p (xp _ z)) (h p),I.hok,I.len⟩
theorem i_ {N:List Str}(hN:N.Nodup){i j:Nat}{x:Str}(a:N[i]? = some x)(b:N[j]? = some x):i=j:=by
 obtain ⟨h1,e1⟩:=wG.mp a
 obtain ⟨h2,e2⟩:=wG.mp b
 exact (List.getElem_inj hN).mp (e1.trans e2.symm)
theorem ki {M:Model}{A:Around}{E:Value→Shared→Prop}{i:Nat}{x:Str}{v:V}{u:Value}{Q:Unit→Shared→Prop}(I:Inv X pins σ H s)(hN:X.N.Nodup)(hi:X.N[i]? = some x)(hx:Loc X.env.scope x)(r:bB v u)
  (h:∀ s',Inv X pins (σ.set i (some v)) H s'→(∃ a,Heap.SameBut a s.heap s'.heap∧(a=X.env.locals ∨ X.env.cells.lookup x=some a))→Q () s') (hf:X.fn x=true ∨ X.env.scope.names.lookup x=some .local:=by first | exact .inl rfl | exact .inr rfl | assumption):wpAny M A (storeName X.env x u) Q E s:=by
 obtain ⟨m,hn,hl⟩:=id I.loc
 have hcls:(X.env.scope.kind == .class || (X.env.scope.kind == .module && X.env.locals != X.env.globals))=false:=by rw [I.ok.kind];rfl
 have hiσ:i < σ.length:=by rw [I.len];exact (wG.mp hi).1
 have cne:=I.cne
 have tracked:∀ {a:Addr} {h':Heap},(∃ o,s.heap.get? a=some o∧H a=none)→Heap.SameBut a s.heap h'→HOk X.prog X.w H h':=fun {a h'} ha hs b ob e=>by
  obtain ⟨_,_,hfree⟩:=ha
  refine (I.hok b ob e).stay (fun c w' hc q=>(hs.2 c ?_).trans q) (fun _ q=>q) fun _ _ q=>q
  rintro rfl
  rcases hc with rfl | hc
  ·rw [hfree] at e;cases e
  ·rw [hfree] at hc;cases hc
 rcases hx with hk | hk
 ·refine wpAny_storeName_local hk hn (fun h' hn' hs=>?_) hcls
  obtain ⟨oL,_,_,hoL,_⟩:=id hn
  refine h _ ⟨I.ok,I.os,I.bare,⟨fun b o e n hb hx=>?_,fun b o e n hb hx=>?_,I.base.free,fun b o e hx=>?_,I.base.tups,I.base.frzs,I.base.tbls⟩,⟨_,hn',fun j y v' e1 e2 e3=>?_⟩,fun y c e=>?_,I.free,I.freeC,fun p hp=>?_,tracked ⟨oL,hoL,I.free⟩ hs,by simpa using I.len⟩ ⟨_,hs,.inl rfl⟩
  ·exact (hs.2 b (xD (xi (wZ e) I.ok.above))).trans (I.base.keep b o e n hb hx)
  ·obtain ⟨sl,e1⟩:=I.base.slot b o e n hb hx
   exact ⟨sl,(hs.2 b (xD (xi (wZ e) I.ok.above))).trans e1⟩
  ·obtain ⟨o',e1⟩:=I.base.there b o e hx
   exact ⟨o',(hs.2 b (xD (xi (wZ e) I.ok.above))).trans e1⟩
  ·by_cases hj:j=i
   ·subst hj
    rw [hi] at e1;cases e1
    rw [Bc hiσ] at e2
    cases e2
    exact ⟨u,r,.inl ⟨hk,by simp⟩⟩
   ·rw [List.getElem?_set_ne (Ne.symm hj)] at e2
    obtain ⟨u',r',q⟩:=hl j y v' e1 e2 e3
    refine ⟨u',r',?_⟩
    rcases q with ⟨k,e⟩ | ⟨k,c,e,z⟩
    ·refine .inl ⟨k,?_⟩
     have:y≠x:=fun e=>hj (i_ hN e1 (e ▸ hi))
     simp [this,e]
    ·exact .inr ⟨k,c,e,z.sameBut hs (cne y c e)⟩
  ·obtain ⟨w',z⟩:=I.cell y c e
   exact ⟨w',z.sameBut hs (cne y c e)⟩
  ·obtain ⟨e,n,ne,nf,d⟩:=I.pin p hp
   exact ⟨(hs.2 p.1 ne).trans e,n,ne,nf,d⟩
 ·have hfn:X.fn x=true:=by
   rcases hf with z | z
   ·exact z
   ·rw [z] at hk;cases hk
  obtain ⟨c,hc⟩:=I.ok.has x (.inl hk)
  obtain ⟨w',z⟩:=I.cell x c hc
  refine wpAny_storeName_cell I.ok.kind hk hc z (fun h' hc' hs=>?_)
  obtain ⟨oc,hoc,hocd⟩:=id z
  refine h { s with heap:=h' } ⟨I.ok,I.os,I.bare,⟨fun b o e n hb hx=>?_,fun b o e n hb hx=>?_,I.base.free,fun b o e hx=>?_,I.base.tups,I.base.frzs,I.base.tbls⟩,⟨m,hn.sameBut hs (Ne.symm (cne x c hc)),fun j y v' e1 e2 e3=>?_⟩,fun y c' e=>?_,I.free,I.freeC,fun p hp=>?_,tracked ⟨oc,hoc,I.freeC x c hc⟩ hs,by simpa using I.len⟩ ⟨c,hs,.inr hc⟩
  ·exact (hs.2 b (xD (xi (wZ e) (I.ok.cab x c hfn hc)))).trans (I.base.keep b o e n hb hx)
  ·obtain ⟨sl,e1⟩:=I.base.slot b o e n hb hx
   exact ⟨sl,(hs.2 b (xD (xi (wZ e) (I.ok.cab x c hfn hc)))).trans e1⟩
  ·obtain ⟨o',e1⟩:=I.base.there b o e hx
   exact ⟨o',(hs.2 b (xD (xi (wZ e) (I.ok.cab x c hfn hc)))).trans e1⟩
  ·by_cases hj:j=i
   ·subst hj
    rw [hi] at e1;cases e1
    rw [Bc hiσ] at e2
    cases e2
    exact ⟨u,r,.inr ⟨.inl hk,c,hc,hc'⟩⟩
   ·rw [List.getElem?_set_ne (Ne.symm hj)] at e2
    obtain ⟨u',r',q⟩:=hl j y v' e1 e2 e3
    refine ⟨u',r',?_⟩
    rcases q with q | ⟨k,c',e,z'⟩
    ·exact .inl q
    ·refine .inr ⟨k,c',e,z'.sameBut hs ?_⟩
     rintro rfl
     exact hj (i_ hN e1 (I.ok.inj _ _ _ e hc ▸ hi))
  ·by_cases hcc:c'=c
   ·subst hcc;exact ⟨_,hc'⟩
   ·obtain ⟨w2,z2⟩:=I.cell y c' e
    exact ⟨w2,z2.sameBut hs hcc⟩
  ·obtain ⟨e,n,ne,nf,d⟩:=I.pin p hp
   refine ⟨(hs.2 p.1 ?_).trans e,n,ne,nf,d⟩
   intro q
   rw [q,hoc] at e
   have q':oc=p.2:=wO e
   exact d w' (by rw [← q'];exact hocd)
theorem ja {M:Model}{A:Around}{E:Value→Shared→Prop}{i:Nat}{x:Str}{v:V}{u:Value}{Q:Unit→Shared→Prop}(I:Inv X pins σ H s)(hN:X.N.Nodup)(hi:X.N[i]? = some x)(hx:Loc X.env.scope x)(r:bB v u)
  (h:∀ s',Inv X pins (σ.set i (some v)) H s'→Q () s') (hf:X.fn x=true ∨ X.env.scope.names.lookup x=some .local:=by first | exact .inl rfl | exact .inr rfl | assumption):wpAny M A (storeName X.env x u) Q E s :=
 ki I hN hi hx r (fun s' I' _=>h s' I') hf
theorem Inv.call' {s':Shared}{ch:List Addr}(I:Inv X pins σ H s)(ho:s'.os=s.os)(u:Un (frs X.stack) ch H H' s.heap s'.heap)(hok:HOk X.prog X.w H' s'.heap)(hg:AllBare s'.gens)
  (hch:∀ b∈ch,(b∈X.ex ∨ X.s₀.heap.objs.size≤b)∧b≠X.env.locals∧(∀ x c,X.env.cells.lookup x=some c→c≠b)∧∀ p∈X.pn++pins,p.1≠b):Inv X pins σ H' s':=by
 obtain ⟨h',g',d',t',o'⟩:=s'
 have e:o'=s.os:=ho
 subst e
 exact I.call (g':=g') (t':=t') (d':=d') u hok hg hch
end
abbrev XK:=Value→Option Addr→Hp→Prop
abbrev St:=List (Option V)
abbrev VK:=V→Hp→Prop
abbrev TE:=St→Hp→VK→Prop
abbrev TT:=St→Hp→(Bool→Hp→Prop)→Prop
abbrev TA:=St→Hp→(List V→Hp→Prop)→Prop
structure gM where
 nx:St→Hp→Prop
 rt:VK
 bk:St→Hp→Prop:=fun _ _=>False
 ct:St→Hp→Prop:=fun _ _=>False
abbrev TS:=gM→St→Hp→Prop
def EP (X:Cx)(pins:List (Addr × Obj))(σ:St)(Q:VK)(u:Value)(s':Shared):Prop:=∃ v H',Inv X pins σ H' s'∧bB v u∧Q v H'
def TP (X:Cx)(pins:List (Addr × Obj))(σ:St)(Q:Bool→Hp→Prop)(b:Bool)(s':Shared):Prop:=∃ H',Inv X pins σ H' s'∧Q b H'
def AP (X:Cx)(pins:List (Addr × Obj))(σ:St)(Q:List V→Hp→Prop)(us:List Value)(s':Shared):Prop:=∃ vs H',Inv X pins σ H' s'∧aZ vs us∧Q vs H'
def SP (X:Cx)(pins:List (Addr × Obj))(D:gM)(f:Flow)(s':Shared):Prop :=
 match f with
 | .next=>∃ σ' H',Inv X pins σ' H' s'∧D.nx σ' H'
 | .brk=>∃ σ' H',Inv X pins σ' H' s'∧D.bk σ' H'
 | .cont=>∃ σ' H',Inv X pins σ' H' s'∧D.ct σ' H'
 | .ret u=>∃ v σ' H',Inv X pins σ' H' s'∧bB v u∧D.rt v H'
def PE (X:Cx)(e:Expr)(t:TE):Prop :=
 ∀ (pins:List (Addr × Obj)) (s:Shared) (σ:St) (H:Hp) (Q:VK),Inv X pins σ H s→t σ H Q→wpAny (model X.prog X.w) X.A (eval e X.env) (EP X pins σ Q) X.xe s
def PT (X:Cx)(e:Expr)(t:TT):Prop :=
 ∀ (pins:List (Addr × Obj)) (s:Shared) (σ:St) (H:Hp) (Q:Bool→Hp→Prop),Inv X pins σ H s→t σ H Q→wpAny (model X.prog X.w) X.A (isTrue e X.env (eval e X.env)) (TP X pins σ Q) X.xe s
def PW (X:Cx)(e:Expr)(t:TT):Prop :=
 ∀ (whole:Sem Value) (pins:List (Addr × Obj)) (s:Shared) (σ:St) (H:Hp) (Q:Bool→Hp→Prop),Inv X pins σ H s→t σ H Q→wpAny (model X.prog X.w) X.A (isTrue e X.env whole) (TP X pins σ Q) X.xe s
theorem PW.pt {X:Cx}{e:Expr}{t:TT}(h:PW X e t):PT X e t:=h _
def PA (X:Cx)(es:List Expr)(t:TA):Prop :=
 ∀ (pos:Pos) (pins:List (Addr × Obj)) (s:Shared) (σ:St) (H:Hp) (Q:List V→Hp→Prop),Inv X pins σ H s→t σ H Q→wpAny (model X.prog X.w) X.A (spliced (backTo pos (starEach es X.env))) (AP X pins σ Q) X.xe s
def PS (X:Cx)(st:Stmt)(t:TS):Prop :=
 ∀ (pins:List (Addr × Obj)) (s:Shared) (σ:St) (H:Hp) (D:gM),Inv X pins σ H s→t D σ H→wpAny (model X.prog X.w) X.A (exec st X.env) (SP X pins D) X.xe s
def PSs (X:Cx)(st:List Stmt)(t:TS):Prop :=
 ∀ (pins:List (Addr × Obj)) (s:Shared) (σ:St) (H:Hp) (D:gM),Inv X pins σ H s→t D σ H→wpAny (model X.prog X.w) X.A (execs st X.env) (SP X pins D) X.xe s
theorem thn {α:Type}{t:Sem α}{Q Q':α→Shared→Prop}{M:Model}{A:Around}{E:Value→Shared→Prop}{s:Shared}(h:wpAny M A t Q E s)(hQ:∀ a s,Q a s→Q' a s):wpAny M A t Q' E s:=yt h hQ fun _ _ x=>x
section
variable {X:Cx}
inductive uA (i:Nat)(σ:St)(H:Hp)(Q:VK):Prop
 | mk:∀ v,(σ[i]? = some (some v))→(Q v H)→uA i σ H Q
def tC (v:V):TE:=fun _ H Q=>Q v H
theorem rM {i:Nat}{x:Str}{pos:Pos}(hN:X.N[i]? = some x)(hv:Vis X.env.scope x)(hd:(x == ("__debug__":Str))=false:=by decide)(hcd:(x == ("__classdict__":Str))=false:=by decide):PE X (.Name x pos) (uA i):=by
 intro pins s σ H Q I h
 obtain ⟨v,e,h⟩:=h
 obtain ⟨m,hn,hl⟩:=I.loc
 obtain ⟨u,r,l⟩:=hl i x v hN e hv
 have fin:EP X pins σ Q u s:=⟨v,H,I,r,h⟩
 rcases l with ⟨hk,hm⟩ | ⟨hk,c,hc,hcell⟩
 ·exact wpAny_Name (wpAny_loadName_local I.ok.kind hk hn hm fin) hd
 ·rcases hk with hk | hk
  ·exact wpAny_Name (wpAny_loadName_cell I.ok.kind hk hc hcell fin) hd
  ·exact wpAny_Name (wpAny_loadName_free I.ok.kind hk hc hcell fin hcd) hd
theorem ao {i j pos}:PE X (.Constant (.int i) j pos) (tC (.int i)):=fun _ _ _ H _ I h=>wpAny_Constant_int ⟨.int i,H,I.tok _,⟨_,rfl⟩,h⟩
theorem kj {b j pos}:PE X (.Constant (.bool b) j pos) (tC (.bl b)):=fun _ _ _ H _ I h=>Constant_bool ⟨.bl b,H,I,rfl,h⟩
theorem pg {j pos}:PE X (.Constant .none j pos) (tC .non):=fun _ _ _ H _ I h=>Constant_none ⟨.non,H,I,rfl,h⟩
theorem bW {x j pos}:PE X (.Constant (.str x) j pos) (tC (.str x)):=fun _ _ _ H _ I h=>Calls.Constant_str ⟨.str x,H,I.tok _,⟨_,rfl⟩,h⟩
def Gl (X:Cx)(x:Str):Prop:=X.env.kindOf x=some .globalImplicit
theorem iL {E:Value→Shared→Prop}{pins:List (Addr × Obj)}{s:Shared}{σ:St}{H:Hp}{x:Str}{u:Value}{pos:Pos}{Q:Value→Shared→Prop}(I:Inv X pins σ H s)(hg:Gl X x)(hm:X.mg x=some u)(h:Q u s)
  (hd:(x == ("__debug__":Str))=false:=by decide):wpAny (model X.prog X.w) X.A (eval (.Name x pos) X.env) Q E s :=
 AF I.ok.kind hg (Calls.loadGlobal_global (by rw [I.ok.glob];exact I.mod.glob.keeps I.bk) hm h) hd
theorem eI {E:Value→Shared→Prop}{pins:List (Addr × Obj)}{s:Shared}{σ:St}{H:Hp}{x:Str}{u:Value}{pos:Pos}{Q:Value→Shared→Prop}(I:Inv X pins σ H s)(hg:Gl X x)(hm:X.mg x=none)(hv:bootBuiltins x=some u)(h:Q u s)
  (hn:x ≠ "__name__":=by decide) (hd:(x == ("__debug__":Str))=false:=by decide):wpAny (model X.prog X.w) X.A (eval (.Name x pos) X.env) Q E s:=by
 obtain ⟨mb,h1,h2⟩:=I.mod.blt
 exact AF I.ok.kind hg (Calls.loadGlobal_builtin (by rw [I.ok.glob];exact I.mod.glob.keeps I.bk) hm (by rw [I.ok.blt];exact h1.keeps I.bk) ((h2 x hn).trans hv) h) hd
theorem pX {x:Str}{v:V}{u:Value}{pos:Pos}(hg:Gl X x)(hm:X.mg x=some u)(r:bB v u)(hd:(x == ("__debug__":Str))=false:=by decide):PE X (.Name x pos) (tC v) :=
 fun _ _ _ H _ I h=>iL I hg hm ⟨v,H,I,r,h⟩ hd
variable {a b:Expr} {ta tb:TE} {pos:Pos}
inductive IsB (x:V)(H:Hp)(Q:Bool→Hp→Prop):Prop
 | mk:∀ c,(x = .bl c)→(Q c H)→IsB x H Q
variable {tA tB':TT} {rest:List Expr}
def iM (u:TT)(σ:St)(Q:(Bool→Hp→Prop)):Bool→Hp→Prop:=fun c H1=>if c=true then u σ H1 Q else Q false H1
def vO (t u:TT):TT:=fun σ H Q=>t σ H (iM u σ Q)
def rN (u:TT)(σ:St)(Q:(Bool→Hp→Prop)):Bool→Hp→Prop:=fun c H1=>if c=true then Q true H1 else u σ H1 Q
def tOr (t u:TT):TT:=fun σ H Q=>t σ H (rN u σ Q)
def km (Q:(Bool→Hp→Prop)):Bool→Hp→Prop:=fun c H1=>Q (!c) H1
def vP (t:TT):TT:=fun σ H Q=>t σ H (km Q)
theorem fT (ha:PT X a tA):PW X (.BoolOp .And [a] pos) tA:=by
 intro wh pins s σ H Q I h
 refine isTrue_and (thn (ha pins s σ H Q I h) fun c s1 e=>?_)
 cases c with
 | true=>exact isTrue_and_nil e
 | false=>exact e
theorem ph (ha:PT X a tA):PW X (.BoolOp .Or [a] pos) tA:=by
 intro wh pins s σ H Q I h
 refine isTrue_or (thn (ha pins s σ H Q I h) fun c s1 e=>?_)
 cases c with
 | false=>exact isTrue_or_nil e
 | true=>exact e
theorem jb (ha:PT X a tA)(hb:PW X (.BoolOp .And (b::rest) pos) tB'):PW X (.BoolOp .And (a::b::rest) pos) (vO tA tB'):=by
 intro wh pins s σ H Q I h
 refine isTrue_and (thn (ha pins s σ H _ I h) fun c s1 zq7=>?_)
 obtain ⟨H1,I1,q1⟩:=zq7
 cases c with
 | true=>exact hb wh pins s1 σ H1 Q I1 q1
 | false=>exact ⟨H1,I1,q1⟩
theorem rO (ha:PT X a tA)(hb:PW X (.BoolOp .Or (b::rest) pos) tB'):PW X (.BoolOp .Or (a::b::rest) pos) (tOr tA tB'):=by
 intro wh pins s σ H Q I h
 refine isTrue_or (thn (ha pins s σ H _ I h) fun c s1 zq8=>?_)
 obtain ⟨H1,I1,q1⟩:=zq8
 cases c with
 | true=>exact ⟨H1,I1,q1⟩
 | false=>exact hb wh pins s1 σ H1 Q I1 q1
theorem rP (ha:PT X a tA):PT X (.UnaryOp .Not a pos) (vP tA):=by
 intro pins s σ H Q I h
 exact isTrue_not (ha pins s σ H (fun c H1=>Q (!c) H1) I h)
theorem rQ {op}{t:TE}(h:PE X a t):PE X (.BoolOp op [a] pos) t:=fun pins s σ H Q I hw=>BoolOp_one (h pins s σ H Q I hw)
def rR (ta:TE)(tb:TE)(σ:St)(Q:VK):Bool→Hp→Prop:=fun c H1=>if c=true then ta σ H1 Q else tb σ H1 Q
def tIf (t:TT)(ta tb:TE):TE:=fun σ H Q=>t σ H (rR ta tb σ Q)
theorem fU {c:Expr}(hc:PT X c tA)(ha:PE X a ta)(hb:PE X b tb):PE X (.IfExp c a b pos) (tIf tA ta tb):=by
 intro pins s σ H Q I h
 refine wpAny_IfExp (thn (hc pins s σ H _ I h) fun d s1 zq12=>?_)
 obtain ⟨H1,I1,q1⟩:=zq12
 cases d with
 | true=>exact ha pins s1 σ H1 Q I1 q1
 | false=>exact hb pins s1 σ H1 Q I1 q1
end
def SqL (K:PySem.W.Frag)(H:Hp)(a:Addr)(xs:List V):Prop :=
 Rd H a (.lst xs) ∨
  ∃ (o:Obj) (its:Array Value) (n:Nat),K.lookup a=some o∧o.cls = .type "list"∧o.dict=none∧o.data = .seq its n∧its.size≤sizeLine∧aZ xs its.toList
def SqT (K:PySem.W.Frag)(H:Hp)(a:Addr)(xs:List V):Prop :=
 Rd H a (.tup xs) ∨
  ∃ (o:Obj) (its:Array Value) (n:Nat),K.lookup a=some o∧o.cls = .type "tuple"∧o.data = .seq its n∧its.size≤sizeLine∧aZ xs its.toList
def vQ:Value→Option V
 | .none=>some .non
 | .bool b=>some (.bl b)
 | .int i _=>some (.int i)
 | .str x _=>some (.str x)
 | .bytes b _=>some (.byt b)
 | .float b _=>some (.flt b)
 | .ref a=>some (.ref a)
 | .type n=>some (.ty n)
 | _=>none
theorem bB.abs {x:V}{u:Value}(r:bB x u):vQ u=some x:=by
 cases x with
 | non=>cases r;rfl
 | bl _=>cases r;rfl
 | int _=>obtain ⟨t,rfl⟩:=r;rfl
 | str _=>obtain ⟨t,rfl⟩:=r;rfl
 | byt _=>obtain ⟨t,rfl⟩:=r;rfl
 | flt _=>obtain ⟨t,rfl⟩:=r;rfl
 | ref _=>cases r;rfl
 | ty _=>cases r;rfl
theorem bB.inj {x y:V}{u:Value}(r:bB x u)(q:bB y u):x=y:=wO (r.abs.symm.trans q.abs)
theorem aZ.inj:∀ {xs ys:List V} {us:List Value},aZ xs us→aZ ys us→xs=ys
 | _,_,_,.nil,.nil=>rfl
 | _,_,_,.cons r t,.cons r' t'=>by rw [r.inj r',aZ.inj t t']
section
variable {X:Cx} {pins:List (Addr × Obj)} {σ:St} {H:Hp} {s:Shared} {a:Addr} {xs ys:List V}
theorem SqL.of {K:PySem.W.Frag}(h:H a=some (.lst xs)):SqL K H a xs:=.inl (.inl h)
theorem SqT.of {K:PySem.W.Frag}(h:H a=some (.tup xs)):SqT K H a xs:=.inl (.inl h)
theorem Inv.list (I:Inv X pins σ H s)(h:SqL X.K H a xs):∃ its:List Value,aZ xs its∧PlainL s.heap a its.toArray∧xs.length≤sizeLine:=by
 rcases h with h | ⟨o,its,n,hk,hc,hd,hs,hz,r⟩
 ·obtain ⟨z,its,n,r,e⟩:=h.ok I.hok
  exact ⟨its,r,⟨_,n,e,rfl,rfl,rfl⟩,z⟩
 ·refine ⟨its.toList,r,⟨o,n,I.kIn a o hk,hc,hd,by simpa using hs⟩,?_⟩
  have e:=r.length
  simp only [wN] at e
  omega
theorem Inv.tuple (I:Inv X pins σ H s)(h:SqT X.K H a xs):∃ its:List Value,aZ xs its∧IsTup s.heap a its.toArray∧xs.length≤sizeLine:=by
 rcases h with h | ⟨o,its,n,hk,hc,hs,hz,r⟩
 ·obtain ⟨z,its,r,p,_⟩:=h.ok I.hok
  exact ⟨its,r,p,z⟩
 ·refine ⟨its.toList,r,⟨o,I.kIn a o hk,hc,n,by simpa using hs⟩,?_⟩
  have e:=r.length
  simp only [wN] at e
  omega
theorem Inv.list_inj (I:Inv X pins σ H s)(h:SqL X.K H a xs)(h':SqL X.K H a ys):xs=ys:=by
 obtain ⟨its,r,⟨o,n,e,_,_,d⟩,_⟩:=I.list h
 obtain ⟨its',r',⟨o',n',e',_,_,d'⟩,_⟩:=I.list h'
 rw [e] at e';cases e'
 rw [d] at d'
 injection d' with d1 _
 have:its=its':=by simpa using xF Array.toList d1
 subst this
 exact r.inj r'
theorem Inv.tuple_inj (I:Inv X pins σ H s)(h:SqT X.K H a xs)(h':SqT X.K H a ys):xs=ys:=by
 obtain ⟨its,r,⟨o,e,_,n,d⟩,_⟩:=I.tuple h
 obtain ⟨its',r',⟨o',e',_,n',d'⟩,_⟩:=I.tuple h'
 rw [e] at e';cases e'
 rw [d] at d'
 injection d' with d1 _
 have:its=its':=by simpa using xF Array.toList d1
 subst this
 exact r.inj r'
end
abbrev Cx.wish (X:Cx)(E:Value→Shared→Prop):Cx:={ X with xe:=E }
abbrev Cx.nox (X:Cx):Cx:=X.wish fun _ _=>False
theorem Cx.Ok.wish {X:Cx}(ok:X.Ok)(E:Value→Shared→Prop):(X.wish E).Ok :=
 ⟨ok.mod,ok.kind,ok.glob,ok.blt,ok.above,ok.inj,ok.has,ok.cab,ok.hd,ok.frames,ok.stk,ok.exf,ok.bs,ok.bsz,ok.noex,ok.exfs,ok.funs,ok.frf⟩
theorem Cx.Ok.unwish {X:Cx}{E:Value→Shared→Prop}(ok:(X.wish E).Ok):X.Ok :=
 ⟨ok.mod,ok.kind,ok.glob,ok.blt,ok.above,ok.inj,ok.has,ok.cab,ok.hd,ok.frames,ok.stk,ok.exf,ok.bs,ok.bsz,ok.noex,ok.exfs,ok.funs,ok.frf⟩
section
variable {X:Cx} {pins:List (Addr × Obj)} {σ:St} {H:Hp} {s:Shared} {E:Value→Shared→Prop}
theorem Inv.wish (I:Inv X pins σ H s)(E:Value→Shared→Prop):Inv (X.wish E) pins σ H s:=⟨I.ok.wish E,I.os,I.bare,I.base,I.loc,I.cell,I.free,I.freeC,I.pin,I.hok,I.len⟩
theorem Inv.unwish (I:Inv (X.wish E) pins σ H s):Inv X pins σ H s:=⟨I.ok.unwish,I.os,I.bare,I.base,I.loc,I.cell,I.free,I.freeC,I.pin,I.hok,I.len⟩
theorem SP.unwish {D:gM}{f:Flow}{s':Shared}(h:SP (X.wish E) pins D f s'):SP X pins D f s':=by
 cases f with
 | next=>obtain ⟨σ',H',I,q⟩:=h;exact ⟨σ',H',I.unwish,q⟩
 | brk=>obtain ⟨σ',H',I,q⟩:=h;exact ⟨σ',H',I.unwish,q⟩
 | cont=>obtain ⟨σ',H',I,q⟩:=h;exact ⟨σ',H',I.unwish,q⟩
 | ret u=>obtain ⟨v,σ',H',I,r,q⟩:=h;exact ⟨v,σ',H',I.unwish,r,q⟩
theorem PSs.nox {st:List Stmt}{t:TS}(h:PSs X.nox st t):PSs X st t:=fun pins s σ H D I hw =>
 yt (h pins s σ H D (I.wish _) hw) (fun _ _ q=>q.unwish) fun _ _ z=>False.elim z
end
section
variable {X:Cx} {st:Stmt} {rest:List Stmt} {t u:TS} {e:Expr} {te:TE} {pos:Pos}
def uB:TS:=fun D σ H=>D.nx σ H
def vA (t u:TS):TS:=fun D σ H=>t { D with nx:=u D } σ H
theorem bP:PSs X [] uB:=fun _ _ σ H _ I h=>Aw ⟨σ,H,I,h⟩
theorem ah (h1:PS X st t)(h2:PSs X rest u):PSs X (st::rest) (vA t u):=by
 intro pins s σ H D I h
 refine wpAny_execs_cons (thn (h1 pins s σ H { D with nx:=u D } I h) fun f s1 q=>?_)
 cases f with
 | next =>
  obtain ⟨σ',H',I',q⟩:=q
  exact h2 pins s1 σ' H' D I' q
 | ret v=>exact q
 | brk=>exact q
 | cont=>exact q
theorem au (h1:PS X st t):PSs X [st] t:=by
 intro pins s σ H D I h
 refine wpAny_execs_cons (thn (h1 pins s σ H D I h) fun f s1 q=>?_)
 cases f with
 | next=>exact Aw q
 | ret v=>exact q
 | brk=>exact q
 | cont=>exact q
theorem Inv.quiet {pins:List (Addr × Obj)}{σ:St}{H:Hp}{s:Shared}(I:Inv X pins σ H s):interactive X.env=false:=by simp [interactive,I.ok.kind]
def ni (D:gM)(σ:St):V→Hp→Prop:=fun _ H1=>D.nx σ H1
def uC (te:TE):TS:=fun D σ H=>te σ H (ni D σ)
theorem bq (he:PE X e te)(hs:swapsWith e none pos.line X.env=pure false:=by rfl):PS X (.Expr e pos) (uC te):=by
 intro pins s σ H D I h
 exact wpAny_Expr_any (thn (he pins s σ H _ I h) fun v s1 zq15=>(by obtain ⟨x,H1,I1,r1,q1⟩:=zq15;exact ⟨σ,H1,I1,q1⟩)) I.quiet hs
def vR (te:TE):TS:=fun D σ H=>te σ H D.rt
theorem aN (he:PE X e te):PS X (.Return (some e) pos) (vR te):=by
 intro pins s σ H D I h
 exact wpAny_Return_some (thn (he pins s σ H _ I h) fun v s1 zq16=>(by obtain ⟨x,H1,I1,r1,q1⟩:=zq16;exact ⟨x,σ,H1,I1,r1,q1⟩))
def iN (t:TS)(u:TS)(D:gM)(σ:St):Bool→Hp→Prop:=fun b H1=>if b=true then t D σ H1 else u D σ H1
def vS (c:TT)(t u:TS):TS:=fun D σ H=>c σ H (iN t u D σ)
theorem d8 {c:Expr}{a b:List Stmt}{tc:TT}(hc:PT X c tc)(ha:PSs X a t)(hb:PSs X b u):PS X (.If c a b pos) (vS tc t u):=by
 intro pins s σ H D I h
 refine wpAny_If (thn (hc pins s σ H _ I h) fun d s1 zq17=>?_)
 obtain ⟨H1,I1,q1⟩:=zq17
 cases d with
 | true=>exact ha pins s1 σ H1 D I1 q1
 | false=>exact hb pins s1 σ H1 D I1 q1
end
abbrev TG:=V→St→Hp→(St→Hp→Prop)→Prop
abbrev TGs:=List V→St→Hp→(St→Hp→Prop)→Prop
def PG (X:Cx)(target:Expr)(t:TG):Prop :=
 ∀ (pins:List (Addr × Obj)) (s:Shared) (σ:St) (H:Hp) (v:V) (u:Value) (Q:St→Hp→Prop),Inv X pins σ H s→bB v u→t v σ H Q →
  wpAny (model X.prog X.w) X.A (assign target X.env u) (fun _ s'=>∃ σ' H',Inv X pins σ' H' s'∧Q σ' H') X.xe s
def PGs (X:Cx)(ts:List Expr)(t:TGs):Prop :=
 ∀ (pins:List (Addr × Obj)) (s:Shared) (σ:St) (H:Hp) (vs:List V) (us:List Value) (Q:St→Hp→Prop),Inv X pins σ H s→aZ vs us→t vs σ H Q →
  wpAny (model X.prog X.w) X.A (assignInOrder ((assignEach ts X.env).map (·.2)) us) (fun _ s'=>∃ σ' H',Inv X pins σ' H' s'∧Q σ' H') X.xe s
abbrev uD:=V→V→V→Hp→(Hp→Prop)→Prop
def vB (X:Cx)(t:uD):Prop :=
 ∀ (pins:List (Addr × Obj)) (s:Shared) (σ:St) (H:Hp) (o i v:V) (ov iv u:Value) (Q:Hp→Prop),Inv X pins σ H s→bB o ov→bB i iv→bB v u→t o i v H Q →
  wpAny (model X.prog X.w) X.A (setItem ov iv u) (fun _ s'=>∃ H',Inv X pins σ H' s'∧Q H') X.xe s
section
variable {X:Cx} {pos:Pos}
def iO (i:Nat):TG:=fun v σ H Q=>Q (σ.set i (some v)) H
theorem aE {i:Nat}{x:Str}(hN:X.N.Nodup)(hi:X.N[i]? = some x)(hx:Loc X.env.scope x)(hf:X.fn x=true ∨ X.env.scope.names.lookup x=some .local:=by first | exact .inl rfl | exact .inr rfl | assumption):PG X (.Name x pos) (iO i):=by
 intro pins s σ H v u Q I r h
 exact wpAny_assign_Name (ja I hN hi hx r (fun s' I'=>⟨_,H,I',h⟩) hf)
def vT:TGs:=fun vs σ H Q=>vs=[]∧Q σ H
def uE (t:TG)(u:TGs):TGs:=fun vs σ H Q=>∃ v r,vs=v::r∧t v σ H fun σ' H'=>u r σ' H' Q
theorem dE:PGs X [] vT:=by
 intro pins s σ H vs us Q I r h
 obtain ⟨e,h⟩:=h
 subst e
 cases r
 exact assignInOrder_nil ⟨σ,H,I,h⟩
theorem bp {e:Expr}{es:List Expr}{t:TG}{u:TGs}(h1:PG X e t)(h2:PGs X es u)
  (hs:(assignEach (e::es) X.env).map (·.2)=assign e X.env::(assignEach es X.env).map (·.2):=by rfl):PGs X (e::es) (uE t u):=by
 intro pins s σ H vs us Q I r h
 obtain ⟨v,vr,e1,h⟩:=h
 subst e1
 cases r with
 | cons r rr =>
  rw [hs]
  refine assignInOrder_cons (thn (h1 pins s σ H _ _ _ I r h) fun _ s1 zq18=>?_)
  obtain ⟨σ1,H1,I1,q1⟩:=zq18
  exact h2 pins s1 σ1 H1 _ _ Q I1 rr q1
def vC (K:PySem.W.Frag)(n:Nat)(t:TGs):TG:=fun v σ H Q=>∃ a xs,v = .ref a∧SqT K H a xs∧xs.length=n∧t xs σ H Q
theorem gP {es:List Expr}{k:Nat}{t:TGs}{n:Nat}(hc:X.calm=true)(h:PGs X es t)
  (hn:(assignEach es X.env).length=n:=by rfl) (hst:(assignEach es X.env).findIdx? (·.1)=none:=by rfl):PG X (.Tuple es k pos) (vC X.K n t):=by
 intro pins s σ H v u Q I r hw
 obtain ⟨a,xs,e1,hq,hl,hw⟩:=hw
 subst e1
 cases r
 obtain ⟨its,rv,ht,hz⟩:=I.tuple hq
 refine assign_Tuple_tuple (I.ok.hd hc) ht (by simp [hn,← hl,rv.length]) hst fun h' hx=>?_
 have I1:Inv X pins σ H { s with heap:=h' }:=I.kept (t':=s.toks) fun b o e=>hx b o (xD (wZ e)) e
 exact h pins _ σ H xs _ Q I1 (by simpa using rv) hw
def vU (to ti:TE)(t:uD):TG:=fun v σ H Q=>to σ H fun o H1=>ti σ H1 fun i H2=>t o i v H2 fun H3=>Q σ H3
theorem jc {o i:Expr}{to ti:TE}{t:uD}(ho:PE X o to)(hi:PE X i ti)(hs:vB X t)
  (ha:∀ v,assign (.Subscript o i pos) X.env v=(do
   let ov ← holding [v] (eval o X.env)
   let iv ← holding [v,ov] (eval i X.env)
   standAt pos
   holding [v,ov,iv] (setItem ov iv v)
   release [v,ov,iv] []):=by intro _;rfl):PG X (.Subscript o i pos) (vU to ti t):=by
 intro pins s σ H v u Q I r h
 rw [ha]
 refine wD (x_ (thn (ho pins s σ H _ I h) fun ov s1 zq19=>?_))
 obtain ⟨x,H1,I1,r1,q1⟩:=zq19
 refine wD (x_ (thn (hi pins s1 σ H1 _ I1 q1) fun iv s2 zq20=>?_))
 obtain ⟨y,H2,I2,r2,q2⟩:=zq20
 refine wD (A2 (wD (x_ (thn (hs pins s2 σ H2 x y v ov iv u _ I2 r1 r2 r q2) fun _ s3 zq21=>?_))))
 obtain ⟨H3,I3,q3⟩:=zq21
 exact wpAny_release ⟨σ,H3,I3,q3⟩
def eJ (g:TG)(D:gM)(σ:St):V→Hp→Prop:=fun x H1=>g x σ H1 D.nx
def uF (te:TE)(g:TG):TS:=fun D σ H=>te σ H (eJ g D σ)
theorem gQ {tg e:Expr}{te:TE}{g:TG}(he:PE X e te)(hg:PG X tg g)(hs:swapsWithSole [tg] e pos.line X.env=pure false:=by rfl)(hw:swappedStores [tg] e X.env=pure none:=by rfl)
  (h1:(assignEach [tg] X.env).map (·.2)=[assign tg X.env]:=by rfl):PS X (.Assign [tg] e pos) (uF te g):=by
 intro pins s σ H D I h
 refine wpAny_Assign_stores (thn (he pins s σ H _ I h) fun v s1 zq22=>?_) hs hw
 obtain ⟨x,H1,I1,r1,q1⟩:=zq22
 rw [h1]
 exact thn (hg pins s1 σ H1 x v _ I1 r1 q1) fun _ s2 q=>q
theorem aF {i:Nat}{x:Str}{e:Expr}{te:TE}{pos':Pos}(hN:X.N.Nodup)(hi:X.N[i]? = some x)(hx:Loc X.env.scope x)(he:PE X e te)(hs:swapsWith e (some (.Name x pos')) pos.line X.env=pure false:=by rfl)(hf:X.fn x=true ∨ X.env.scope.names.lookup x=some .local:=by first | exact .inl rfl | exact .inr rfl | assumption) :
  PS X (.Assign [.Name x pos'] e pos) (uF te (iO i)):=by
 intro pins s σ H D I h
 refine wpAny_Assign_Name (thn (he pins s σ H _ I h) fun v s1 zq23=>?_) hs
 obtain ⟨y,H1,I1,r1,q1⟩:=zq23
 exact ja I1 hN hi hx r1 (fun s2 I2=>⟨_,H1,I2,q1⟩) hf
def rS (c:TT)(tb:TS):TS:=fun D σ H=>∃ W:Nat→St→Hp→Prop,(∃ m,W m σ H)∧∀ m σ H,W m σ H →
 c σ H fun b H1=>if b=true then ∃ N:St→Hp→Prop,(∀ σ' H',N σ' H'→∃ m',m' < m∧W m' σ' H')∧tb { D with nx:=N,ct:=N,bk:=D.nx } σ H1 else D.nx σ H1
theorem nj {c:Expr}{body:List Stmt}{tc:TT}{tb:TS}(hp:PassesOwn (model X.prog X.w) X.A X.env X.xe)(hc:PT X c tc)(hb:PSs X body tb):PS X (.While c body [] pos) (rS tc tb):=by
 intro pins s σ H D I h
 obtain ⟨W,⟨m0,w0⟩,turn⟩:=h
 refine wpAny_While (codeAny_whileLoop (fun n s'=>∃ σ' H',Inv X pins σ' H' s'∧W n σ' H') ?_ m0 ⟨σ,H,I,w0⟩)
 rintro n s1 ⟨σ1,H1,I1,w1⟩
 refine yR hp (thn (hc pins s1 σ1 H1 _ I1 (turn n σ1 H1 w1)) fun b s2 zq33=>?_)
 obtain ⟨H2,I2,q2⟩:=zq33
 cases b with
 | true =>
  obtain ⟨N,hN,q2⟩:=q2
  rw [if_pos rfl]
  refine yR hp (thn (hb pins s2 σ1 H2 _ I2 q2) fun f s3 q3=>?_)
  cases f with
  | next =>
   obtain ⟨σ3,H3,I3,n3⟩:=q3
   obtain ⟨m',hm,w3⟩:=hN σ3 H3 n3
   exact ⟨m',hm,σ3,H3,I3,w3⟩
  | cont =>
   obtain ⟨σ3,H3,I3,n3⟩:=q3
   obtain ⟨m',hm,w3⟩:=hN σ3 H3 n3
   exact ⟨m',hm,σ3,H3,I3,w3⟩
  | brk=>exact q3
  | ret v=>exact q3
 | false =>
  rw [if_neg xj]
  exact Aw ⟨σ1,H2,I2,q2⟩
end
structure It where
 go:Nat→Hp→Prop
 yld:Nat→Hp→V→Hp→Prop
 stop:Nat→Hp→Prop
def jd (X:Cx)(pins:List (Addr × Obj))(H:Hp)(b:Addr):Prop :=
 H b=none∧b≠X.env.locals∧b∉X.fs∧(b∈X.ex ∨ X.s₀.heap.objs.size≤b)∧(∀ x c,X.env.cells.lookup x=some c→c≠b)∧∀ p∈X.pn++pins,p.1≠b
theorem Inv.fpOk {X:Cx}{pins:List (Addr × Obj)}{σ:St}{H H':Hp}{s:Shared}{b:Addr}(I:Inv X pins σ H s)(hb:s.heap.objs.size≤b)(hn:H' b=none):jd X pins H' b:=by
 refine ⟨hn,Nat.ne_of_gt (xi I.lt hb),I.nofs hb,.inr (xq I.sz hb),fun x c e z=>?_,fun p hp z=>?_⟩
 ·obtain ⟨v,q⟩:=I.cell x c e
  exact absurd (xi q.lt (by rw [z];exact hb)) (xT _)
 ·exact absurd (xi (wZ (I.pin p hp).1) (by rw [z];exact hb)) (xT _)
structure pj (P:Program) (w:World) (K:PySem.W.Frag) (tg:Expr) (J:It) (fp:List Addr) (it:Addr) (tn:Nat→Heap→Prop):Prop where
 mem:it∈fp
 obj:∀ i h,tn i h→∀ b∈fp,∃ o,h.get? b=some o∧∀ v,o.data ≠ .cell v
 keep:∀ i h h',tn i h→(∀ b∈fp,∀ o,h.get? b=some o→h'.get? b=some o)→tn i h'
 item:∀ (X:Cx),X.prog=P→X.w=w→X.K=K→X.calm=true→∀ (i:Nat) (pins:List (Addr × Obj)) (s:Shared) (σ:St) (H:Hp) (E:Value→Shared→Prop),Inv X pins σ H s→(∀ b∈fp,jd X pins H b)→tn i s.heap→J.go i H →
  wpAny (model P w) X.A (pyNext (.ref it)) (fun r s1=>∃ u,r=some u ∧
   wpAny (model P w) X.A (letOwnedTupleGo tg (.ref it) u) (fun _ s2=>∃ x H',Inv X pins σ H' s2∧bB x u∧J.yld i H x H'∧tn (i+1) s2.heap∧∀ b∈fp,H' b=none) E s1) E s
 done:∀ (X:Cx),X.prog=P→X.w=w→X.K=K→X.calm=true→∀ (i:Nat) (pins:List (Addr × Obj)) (s:Shared) (σ:St) (H:Hp) (E:Value→Shared→Prop),Inv X pins σ H s→(∀ b∈fp,jd X pins H b)→tn i s.heap→J.stop i H →
  wpAny (model P w) X.A (pyNext (.ref it)) (fun r s1=>r=none∧Inv X pins σ H s1) E s
 self:∀ (A:Around) (i:Nat) (s:Shared) (Q:Value→Shared→Prop) (E:Value→Shared→Prop),tn i s.heap→Q (.ref it) s→wpAny (model P w) A (pyIter (.ref it)) Q E s
abbrev TI:=St→Hp→(It→Hp→Prop)→Prop
def PIE (X:Cx)(pins:List (Addr × Obj))(σ:St)(tg:Expr)(R:It→Hp→Prop)(itv:Value)(s2:Shared):Prop :=
 ∃ (it:Addr) (fp:List Addr) (tn:Nat→Heap→Prop) (J:It) (H':Hp),itv = .ref it∧Inv X pins σ H' s2∧pj X.prog X.w X.K tg J fp it tn∧tn 0 s2.heap∧(∀ b∈fp,jd X pins H' b)∧R J H'
def PI (X:Cx)(tg iter:Expr)(wi:TI):Prop :=
 ∀ (pins:List (Addr × Obj)) (s:Shared) (σ:St) (H:Hp) (R:It→Hp→Prop),Inv X pins σ H s→wi σ H R →
  wpAny (model X.prog X.w) X.A (eval iter X.env) (fun v s1=>wpAny (model X.prog X.w) X.A (pyIter v) (PIE X pins σ tg R) X.xe s1) X.xe s
theorem nq {M:Model}{A:Around}{E:Value→Shared→Prop}{s:Shared}{tg:Expr}{it:Addr}{u:Value}{o:Obj}{n:String}{vs:Array Value}{Q:Unit→Shared→Prop}(ho:s.heap.get? it=some o)(hc:o.cls = .type n)(hd:o.data = .fields vs)
  (hn:["enumerate","zip","dict_itemiterator","dict_reverseitemiterator","odict_iterator","itertools.zip_longest","itertools.pairwise"].contains n=false) (hQ:Q () s):wpAny M A (letOwnedTupleGo tg (.ref it) u) Q E s:=by
 unfold letOwnedTupleGo
 cases tg <;> first
  | exact wI hQ
  | (cases u <;> first
    | exact wI hQ
    | (
      refine wD (wpAny_load ho ?_)
      rw [hc,hd]
      show wpAny M A (if (["enumerate","zip","dict_itemiterator","dict_reverseitemiterator","odict_iterator","itertools.zip_longest","itertools.pairwise"].contains n && vs[0]? == some (rawInt _))=true then _ else _) Q E s
      rw [if_neg (by intro h;rw [hn,Bo] at h;cases h)]
      exact wI hQ))
def Itl (K:PySem.W.Frag)(a:Addr):It :=
 ⟨fun i H=>∃ xs x,SqL K H a xs∧xs[i]? = some x,fun i H x H'=>H'=H∧∀ xs,SqL K H a xs→xs[i]? = some x,fun i H=>∃ xs,SqL K H a xs∧xs.length≤i⟩
def Itt (K:PySem.W.Frag)(a:Addr):It :=
 ⟨fun i H=>∃ xs x,SqT K H a xs∧xs[i]? = some x,fun i H x H'=>H'=H∧∀ xs,SqT K H a xs→xs[i]? = some x,fun i H=>∃ xs,SqT K H a xs∧xs.length≤i⟩
def Itr (lo:Int)(n:Nat):It:=⟨fun i _=>i < n,fun i H x H'=>H'=H∧x = .int (lo+i),fun i _=>n≤i⟩
theorem kn {P:Program}{w:World}{K:PySem.W.Frag}{tg:Expr}(a it:Addr):pj P w K tg (Itl K a) [it] it (fun i h=>h.IsListIter it a i) where
 mem:=by simp
 obj:=fun i h st b hb=>by
  have e:b=it:=by simpa using hb
  subst e
  obtain ⟨o,e,c,d⟩:=st
  exact ⟨o,e,fun v z=>by rw [d] at z;cases z⟩
 keep:=fun i h h' st k=>st.at fun o e=>k it (by simp) o e
 item:=by
  intro X hP hw hK hc i pins s σ H E I hf st hg
  subst hP hw hK
  obtain ⟨xs,x,hq,hx⟩:=hg
  obtain ⟨its,rv,p,hz⟩:=I.list hq
  obtain ⟨u,hu,ru⟩:=rv.get hx
  obtain ⟨f0,f1,f2,f3,f4,f5⟩:=hf it (by simp)
  refine wpAny_pyNext_list_item st p.isList (x:=u) (by simpa using hu) fun h' st' sb=>?_
  have I1:Inv X pins σ H { s with heap:=h' }:=I.turned (t':=s.toks) (fun b o hb e=>(sb.2 b hb).trans e) f0 f1 f3 f4 f5
  obtain ⟨o,e,c,d⟩:=id st'
  exact ⟨u,rfl,nq (s:={ s with heap:=h' }) e c d (by decide) ⟨x,H,I1,ru,⟨rfl,fun ys hy=>by rw [I.list_inj hy hq];exact hx⟩,st',fun b hb=>(hf b hb).1⟩⟩
 done:=by
  intro X hP hw hK hc i pins s σ H E I hf st hg
  subst hP hw hK
  obtain ⟨xs,hq,hx⟩:=hg
  obtain ⟨its,rv,p,hz⟩:=I.list hq
  obtain ⟨f0,f1,f2,f3,f4,f5⟩:=hf it (by simp)
  have hl:=rv.length
  exact wpAny_pyNext_list_end (I.ok.hd hc) st p.isList (by simp;omega) fun h' eb=>⟨rfl,I.turned (t':=s.toks) (fun b o hb e=>eb b o hb e) f0 f1 f3 f4 f5⟩
 self:=fun _ _ _ _ _ st h=>wpAny_pyIter_listiter st h
theorem jQ {P:Program}{w:World}{K:PySem.W.Frag}{tg:Expr}(a it:Addr):pj P w K tg (Itt K a) [it] it (fun i h=>h.IsTupleIter it a i) where
 mem:=by simp
 obj:=fun i h st b hb=>by
  have e:b=it:=by simpa using hb
  subst e
  obtain ⟨o,e,c,d⟩:=st
  exact ⟨o,e,fun v z=>by rw [d] at z;cases z⟩
 keep:=fun i h h' st k=>st.at fun o e=>k it (by simp) o e
 item:=by
  intro X hP hw hK hc i pins s σ H E I hf st hg
  subst hP hw hK
  obtain ⟨xs,x,hq,hx⟩:=hg
  obtain ⟨its,rv,p,hz⟩:=I.tuple hq
  obtain ⟨u,hu,ru⟩:=rv.get hx
  obtain ⟨f0,f1,f2,f3,f4,f5⟩:=hf it (by simp)
  refine wpAny_pyNext_tuple_item st (show s.heap.IsTuple a its.toArray from p) (x:=u) (by simpa using hu) fun h' st' sb=>?_
  have I1:Inv X pins σ H { s with heap:=h' }:=I.turned (t':=s.toks) (fun b o hb e=>(sb.2 b hb).trans e) f0 f1 f3 f4 f5
  obtain ⟨o,e,c,d⟩:=id st'
  exact ⟨u,rfl,nq (s:={ s with heap:=h' }) e c d (by decide) ⟨x,H,I1,ru,⟨rfl,fun ys hy=>by rw [I.tuple_inj hy hq];exact hx⟩,st',fun b hb=>(hf b hb).1⟩⟩
 done:=by
  intro X hP hw hK hc i pins s σ H E I hf st hg
  subst hP hw hK
  obtain ⟨xs,hq,hx⟩:=hg
  obtain ⟨its,rv,p,hz⟩:=I.tuple hq
  obtain ⟨f0,f1,f2,f3,f4,f5⟩:=hf it (by simp)
  have hl:=rv.length
  exact wpAny_pyNext_tuple_end (I.ok.hd hc) st (show s.heap.IsTuple a its.toArray from p) (by simp;omega) fun h' eb=>⟨rfl,I.turned (t':=s.toks) (fun b o hb e=>eb b o hb e) f0 f1 f3 f4 f5⟩
 self:=fun _ _ _ _ _ st h=>wpAny_pyIter_tupleiter st h
theorem jR {P:Program}{w:World}{K:PySem.W.Frag}{tg:Expr}(it:Addr)(lo:Int)(n:Nat):pj P w K tg (Itr lo n) [it] it (fun i h=>IsRangeIter h it (lo+(i:Nat)*1) ((n:Int) - (i:Nat)) 1) where
 mem:=by simp
 obj:=fun i h st b hb=>by
  have e:b=it:=by simpa using hb
  subst e
  exact ⟨_,st,fun v z=>by
   have z':Data.fields _=Data.cell v:=z
   cases z'⟩
 keep:=fun i h h' st k=>k it (by simp) _ st
 item:=by
  intro X hP hw hK hc i pins s σ H E I hf st hg
  subst hP hw hK
  obtain ⟨f0,f1,f2,f3,f4,f5⟩:=hf it (by simp)
  have W:=Walks.range (prog:=X.prog) (w:=X.w) (I.ok.hd hc) it lo 1 n
  refine W.item i s _ _ hg st fun v h' tk hv st' kk=>?_
  obtain ⟨t,rfl⟩:=hv
  have I1:Inv X pins σ H { s with heap:=h',toks:=tk }:=I.turned (fun b o hb e=>kk b o (by simpa using hb) e) f0 f1 f3 f4 f5
  refine ⟨_,rfl,nq (s:={ s with heap:=h',toks:=tk }) (n:="range_iterator") st' rfl rfl (by decide) ⟨.int (lo+i),H,I1,⟨t,?_⟩,⟨rfl,rfl⟩,st',fun b hb=>(hf b hb).1⟩⟩
  rw [Int.mul_one]
 done:=by
  intro X hP hw hK hc i pins s σ H E I hf st hg
  subst hP hw hK
  obtain ⟨f0,f1,f2,f3,f4,f5⟩:=hf it (by simp)
  exact wpAny_pyNext_range_end (I.ok.hd hc) st (by have:n≤i:=hg;omega) fun h' eb=>⟨rfl,I.turned (t':=s.toks) (fun b o hb e=>eb b o hb e) f0 f1 f3 f4 f5⟩
 self:=fun _ _ _ _ _ st h=>wpAny_pyIter_rangeiter st h
section
variable {X:Cx} {tg:Expr}
def uG (K:PySem.W.Frag)(tl:TE):TI:=fun σ H R=>tl σ H fun x H1=>∃ a,x = .ref a∧(∃ xs,SqL K H1 a xs)∧R (Itl K a) H1
def vV (K:PySem.W.Frag)(tl:TE):TI:=fun σ H R=>tl σ H fun x H1=>∃ a,x = .ref a∧(∃ xs,SqT K H1 a xs)∧R (Itt K a) H1
theorem cb {l:Expr}{tl:TE}(hl:PE X l tl):PI X tg l (uG X.K tl):=by
 intro pins s σ H R I h
 refine thn (hl pins s σ H _ I h) fun v s1 zq34=>?_
 obtain ⟨x,H1,I1,r1,q1⟩:=zq34
 obtain ⟨a,e,⟨xs,hq⟩,q⟩:=q1
 subst e
 cases r1
 obtain ⟨its,rv,p,hz⟩:=I1.list hq
 refine wpAny_pyIter_list p.isList ?_
 refine ⟨s1.heap.objs.size,[s1.heap.objs.size],_,_,H1,rfl,I1.kept (t':=s1.toks) fun b o e=>wK _ e,kn a _,⟨_,wV _ rfl,rfl,rfl⟩,fun b hb=>?_,q⟩
 have e:b=s1.heap.objs.size:=by simpa using hb
 subst e
 exact I1.fpOk (wJ _) (I1.hok.fresh (wJ _))
theorem je {l:Expr}{tl:TE}(hl:PE X l tl):PI X tg l (vV X.K tl):=by
 intro pins s σ H R I h
 refine thn (hl pins s σ H _ I h) fun v s1 zq35=>?_
 obtain ⟨x,H1,I1,r1,q1⟩:=zq35
 obtain ⟨a,e,⟨xs,hq⟩,q⟩:=q1
 subst e
 cases r1
 obtain ⟨its,rv,p,hz⟩:=I1.tuple hq
 refine yM (show s1.heap.IsTuple a its.toArray from p) ?_
 refine ⟨s1.heap.objs.size,[s1.heap.objs.size],_,_,H1,rfl,I1.kept (t':=s1.toks) fun b o e=>wK _ e,jQ a _,⟨_,wV _ rfl,rfl,rfl⟩,fun b hb=>?_,q⟩
 have e:b=s1.heap.objs.size:=by simpa using hb
 subst e
 exact I1.fpOk (wJ _) (I1.hok.fresh (wJ _))
theorem jf {pins:List (Addr × Obj)}{σ:St}{H:Hp}{s:Shared}{R:It→Hp→Prop}{E:Value→Shared→Prop}{lo hi:Int}{t u v:Tok}{tk:Nat}(I:Inv X pins σ H s)(h1:-(2 ^ 62)≤lo)(h2:lo < 2 ^ 62)(h3:-(2 ^ 62)≤hi)(h4:hi < 2 ^ 62)
  (q:R (Itr lo (hi - lo).toNat) H):wpAny (model X.prog X.w) X.A (pyIter (.ref s.heap.objs.size)) (PIE X pins σ tg R) E { s with heap:=s.heap.push { cls:=.type "range",data:=.fields #[.int lo t,.int hi u,.int 1 v] },toks:=tk }:=by
 refine wpAny_pyIter_range (IsRange.new ..) (small_one h1 h2 h3 h4) ?_
 have I1:Inv X pins σ H { s with heap:=s.heap.push { cls:=.type "range",data:=.fields #[.int lo t,.int hi u,.int 1 v] },toks:=tk }:=I.kept fun b o e=>wK _ e
 refine ⟨(s.heap.push { cls:=.type "range",data:=.fields #[.int lo t,.int hi u,.int 1 v] }).objs.size,[(s.heap.push { cls:=.type "range",data:=.fields #[.int lo t,.int hi u,.int 1 v] }).objs.size],_,_,H,rfl,
  I1.kept (t':=tk) fun b o e=>wK _ e,jR _ lo (hi - lo).toNat,?_,fun b hb=>?_,q⟩
 ·have e1:lo+((0:Nat):Int)*1=lo:=by simp
  have e2:(((hi - lo).toNat:Nat):Int) - ((0:Nat):Int)=Builtin.Range.rangeSize lo hi 1:=by rw [rangeSize_one];split <;> omega
  show IsRangeIter _ _ (lo+((0:Nat):Int)*1) ((((hi - lo).toNat:Nat):Int) - ((0:Nat):Int)) 1
  rw [e1,e2]
  exact wV _ rfl
 ·have e:b=(s.heap.push { cls:=.type "range",data:=.fields #[.int lo t,.int hi u,.int 1 v] }).objs.size:=by simpa using hb
  subst e
  exact I1.fpOk (wJ _) (I1.hok.fresh (wJ _))
def uH (ta:TA):TI:=fun σ H R=>ta σ H fun vs H1=>∃ j:Int,vs=[.int j]∧-(2 ^ 62)≤j∧j < 2 ^ 62∧R (Itr 0 j.toNat) H1
def uI (ta:TA):TI:=fun σ H R=>ta σ H fun vs H1=>∃ i j:Int,vs=[.int i,.int j]∧(-(2 ^ 62)≤i∧i < 2 ^ 62∧-(2 ^ 62)≤j∧j < 2 ^ 62)∧R (Itr i (j - i).toNat) H1
theorem aT {a:Expr}{ta:TA}{p pos:Pos}(hg:Gl X "range")(hm:X.mg "range" = none)(ha:PA X [a] ta)(hs:starEach [a] X.env=[(false,eval a X.env)]:=by rfl):PI X tg (.Call (.Name "range" p) [a] [] pos) (uH ta):=by
 intro pins s σ H R I h
 refine Call_ (eI I hg hm boot_range (ye (thn (ha pos pins s σ H _ I h) fun us s1 zq36=>?_) hs rfl))
 obtain ⟨vs,H1,I1,r1,q1⟩:=zq36
 obtain ⟨j,e,q1,q2,q⟩:=q1
 subst e
 cases r1 with
 | cons r rr =>
  cases rr
  obtain ⟨t,rfl⟩:=r
  exact call_range_1 (jf I1 (by omega) (by omega) q1 q2 (by simpa using q))
theorem ko {a b:Expr}{ta:TA}{p pos:Pos}(hg:Gl X "range")(hm:X.mg "range" = none)(ha:PA X [a,b] ta)(hs:starEach [a,b] X.env=[(false,eval a X.env),(false,eval b X.env)]:=by rfl)(hs2:starEach [b] X.env=[(false,eval b X.env)]:=by rfl) :
  PI X tg (.Call (.Name "range" p) [a,b] [] pos) (uI ta):=by
 intro pins s σ H R I h
 refine Call_ (eI I hg hm boot_range (ye (thn (ha pos pins s σ H _ I h) fun us s1 zq37=>?_) (by rw [hs,hs2]) (by rw [hs2];rfl)))
 obtain ⟨vs,H1,I1,r1,q1⟩:=zq37
 obtain ⟨i,j,e,⟨q1,q2,q3,q4⟩,q⟩:=q1
 subst e
 cases r1 with
 | cons r rr =>
  cases rr with
  | cons r' rr =>
   cases rr
   obtain ⟨t,rfl⟩:=r
   obtain ⟨t',rfl⟩:=r'
   exact call_range_2 (jf I1 q1 q2 q3 q4 q)
def vW (wi:TI)(g:TG)(tb:TS):TS:=fun D σ H=>wi σ H fun J H1=>∃ W:Nat→Nat→St→Hp→Prop,(∃ m,W 0 m σ H1)∧∀ i m σ H,W i m σ H →
 (J.stop i H∧D.nx σ H) ∨ (J.go i H∧∃ N:St→Hp→Prop,(∀ σ' H',N σ' H'→∃ m',m' < m∧W (i+1) m' σ' H')∧∀ x H',J.yld i H x H'→g x σ H' fun σ2 H2=>tb { D with nx:=N,ct:=N,bk:=D.nx } σ2 H2)
def fz (fp:List Addr)(h:Heap):List (Addr × Obj):=fp.filterMap fun b=>(h.get? b).map fun o=>(b,o)
theorem bO {fp:List Addr}{h:Heap}{b:Addr}{o:Obj}(hb:b∈fp)(e:h.get? b=some o):(b,o)∈fz fp h:=List.mem_filterMap.mpr ⟨b,hb,by rw [e]; rfl⟩
theorem kq {fp:List Addr}{h:Heap}{p:Addr × Obj}(hp:p∈fz fp h):p.1∈fp∧h.get? p.1=some p.2:=by
 obtain ⟨b,hb,e⟩:=List.mem_filterMap.mp hp
 cases q:h.get? b with
 | none=>rw [q] at e;cases e
 | some o =>
  rw [q] at e
  have e':(b,o)=p:=wO e
  subst e'
  exact ⟨hb,q⟩
theorem Inv.pinned {pins:List (Addr × Obj)}{σ:St}{H:Hp}{s:Shared}{fp:List Addr}(I:Inv X pins σ H s)(hf:∀ b∈fp,jd X pins H b)(ho:∀ b∈fp,∃ o,s.heap.get? b=some o∧∀ v,o.data ≠ .cell v):Inv X (pins++fz fp s.heap) σ H s :=
 I.pins_of fun p hp=>(xm.mp hp).elim (fun z=>I.pin p (wU _ z)) fun z=>by
  obtain ⟨hb,e⟩:=kq z
  obtain ⟨f0,f1,f2,_⟩:=hf p.1 hb
  obtain ⟨o,e',d⟩:=ho p.1 hb
  rw [e] at e';cases e'
  exact ⟨e,f0,f1,f2,d⟩
theorem Inv.unpinned {pins pl:List (Addr × Obj)}{σ:St}{H:Hp}{s:Shared}(I:Inv X (pins++pl) σ H s):Inv X pins σ H s:=I.pins_of fun p hp=>I.pin p (wU _ (xp _ hp))
theorem bt {iter:Expr}{body:List Stmt}{wi:TI}{g:TG}{tb:TS}{pos:Pos}(hp:PassesOwn (model X.prog X.w) X.A X.env X.xe)(hc:X.calm=true)(hi:PI X tg iter wi)(hg:PG X tg g)(hb:PSs X body tb)
  (hs:∀ x,foldedSetIterable iter X.env x=pure x:=by intro _;rfl):PS X (.For tg iter body [] pos) (vW wi g tb):=by
 intro pins s σ H D I h
 refine wpAny_For (thn (hi pins s σ H _ I h) fun v s1 h1=>thn h1 fun itv s2 h2=>?_) hs
 obtain ⟨it,fp,tn,J,H2,e,I2,T,st2,f2,W,⟨m0,w0⟩,turn⟩:=h2
 subst e
 -- what stays true of the iterator's objects through the loop
 have stat:∀ {H':Hp},(∀ b∈fp,H' b=none)→∀ b∈fp,jd X pins H' b:=fun hn b hb=>⟨hn b hb,(f2 b hb).2⟩
 refine codeAny_forLoop_any (fun n s'=>∃ i σ' H',Inv X pins σ' H' s'∧tn i s'.heap∧(∀ b∈fp,H' b=none)∧W i n σ' H') ?_ m0 ⟨0,σ,H2,I2,st2,fun b hb=>(f2 b hb).1,w0⟩
 rintro n s3 ⟨i,σ3,H3,I3,st3,fr3,w3⟩
 rcases turn i n σ3 H3 w3 with ⟨stop,qn⟩ | ⟨go,N,hN,step⟩
 ·refine yR hp (thn (T.done X rfl rfl rfl hc i pins s3 σ3 H3 X.xe I3 (stat fr3) st3 stop) fun r s4 zq38=>?_)
  obtain ⟨hr,I4⟩:=zq38
  subst hr
  exact Aw ⟨σ3,H3,I4,qn⟩
 ·refine yR hp (thn (T.item X rfl rfl rfl hc i pins s3 σ3 H3 X.xe I3 (stat fr3) st3 go) fun r s4 zq39=>?_)
  obtain ⟨u,hr,h4⟩:=zq39
  subst hr
  refine yR hp (thn h4 fun _ s5 zq40=>?_)
  obtain ⟨x,H5,I5,r5,y5,st5,fr5⟩:=zq40
  have I5':=I5.pinned (stat fr5) (T.obj _ _ st5)
  refine yR hp (thn (hg _ s5 σ3 H5 x u _ I5' r5 (step x H5 y5)) fun _ s6 zq41=>?_)
  obtain ⟨σ6,H6,I6,q6⟩:=zq41
  refine yR hp (thn (hb _ s6 σ6 H6 _ I6 q6) fun f s7 q7=>?_)
  have again:∀ {σ7:St} {H7:Hp},Inv X (pins++fz fp s5.heap) σ7 H7 s7→N σ7 H7→∃ m,m < n∧∃ i σ' H',Inv X pins σ' H' s7∧tn i s7.heap∧(∀ b∈fp,H' b=none)∧W i m σ' H':=fun {σ7 H7} I7 n7=>by
   obtain ⟨m',hm,w7⟩:=hN σ7 H7 n7
   refine ⟨m',hm,i+1,σ7,H7,I7.unpinned,T.keep _ _ _ st5 fun b hb o e=>(I7.pin (b,o) (wU _ (wU _ (bO hb e)))).1,fun b hb=>?_,w7⟩
   obtain ⟨o,e,d⟩:=T.obj _ _ st5 b hb
   exact (I7.pin (b,o) (wU _ (wU _ (bO hb e)))).2.1
  cases f with
  | next=>obtain ⟨σ7,H7,I7,n7⟩:=q7;exact again I7 n7
  | cont=>obtain ⟨σ7,H7,I7,n7⟩:=q7;exact again I7 n7
  | brk=>obtain ⟨σ7,H7,I7,q7⟩:=q7;exact ⟨σ7,H7,I7.unpinned,q7⟩
  | ret v=>obtain ⟨x7,σ7,H7,I7,r7,q7⟩:=q7;exact ⟨x7,σ7,H7,I7.unpinned,r7,q7⟩
end
theorem ef {K:PySem.W.Frag}{a:Addr}{xs:List V}{g:TG}{tb:TS}{D:gM}{σ:St}{H:Hp}(Pv:Nat→St→Hp→Prop)(h0:Pv 0 σ H)(hl:∀ i σ H,i≤xs.length→Pv i σ H→SqL K H a xs)
  (hs:∀ i x σ H,xs[i]? = some x→Pv i σ H→g x σ H fun σ2 H2=>tb { D with nx:=Pv (i+1),ct:=Pv (i+1),bk:=D.nx } σ2 H2) (hd:∀ σ H,Pv xs.length σ H→D.nx σ H) :
  ∃ W:Nat→Nat→St→Hp→Prop,(∃ m,W 0 m σ H)∧∀ i m σ H,W i m σ H →
   ((Itl K a).stop i H∧D.nx σ H) ∨ ((Itl K a).go i H∧∃ N:St→Hp→Prop,(∀ σ' H',N σ' H'→∃ m',m' < m∧W (i+1) m' σ' H')∧∀ x H',(Itl K a).yld i H x H'→g x σ H' fun σ2 H2=>tb { D with nx:=N,ct:=N,bk:=D.nx } σ2 H2):=by
 refine ⟨fun i m σ H=>m=xs.length - i∧i≤xs.length∧Pv i σ H,⟨xs.length,by simp,xE _,h0⟩,?_⟩
 rintro i m σ H ⟨rfl,hi,p⟩
 have q:=hl i σ H hi p
 by_cases hlt:i < xs.length
 ·refine .inr ⟨⟨xs,xs[i],q,by simp [hlt]⟩,Pv (i+1),fun σ' H' p'=>⟨xs.length - (i+1),by omega,rfl,hlt,p'⟩,fun x H' y=>?_⟩
  obtain ⟨e,y⟩:=y
  subst e
  exact hs i x σ _ (y xs q) p
 ·have e:i=xs.length:=by omega
  subst e
  exact .inl ⟨⟨xs,q,wJ _⟩,hd σ H p⟩
theorem pY {K:PySem.W.Frag}{a:Addr}{xs:List V}{g:TG}{tb:TS}{D:gM}{σ:St}{H:Hp}(Pv:Nat→St→Hp→Prop)(h0:Pv 0 σ H)(hl:∀ i σ H,i≤xs.length→Pv i σ H→SqT K H a xs)
  (hs:∀ i x σ H,xs[i]? = some x→Pv i σ H→g x σ H fun σ2 H2=>tb { D with nx:=Pv (i+1),ct:=Pv (i+1),bk:=D.nx } σ2 H2) (hd:∀ σ H,Pv xs.length σ H→D.nx σ H) :
  ∃ W:Nat→Nat→St→Hp→Prop,(∃ m,W 0 m σ H)∧∀ i m σ H,W i m σ H →
   ((Itt K a).stop i H∧D.nx σ H) ∨ ((Itt K a).go i H∧∃ N:St→Hp→Prop,(∀ σ' H',N σ' H'→∃ m',m' < m∧W (i+1) m' σ' H')∧∀ x H',(Itt K a).yld i H x H'→g x σ H' fun σ2 H2=>tb { D with nx:=N,ct:=N,bk:=D.nx } σ2 H2):=by
 refine ⟨fun i m σ H=>m=xs.length - i∧i≤xs.length∧Pv i σ H,⟨xs.length,by simp,xE _,h0⟩,?_⟩
 rintro i m σ H ⟨rfl,hi,p⟩
 have q:=hl i σ H hi p
 by_cases hlt:i < xs.length
 ·refine .inr ⟨⟨xs,xs[i],q,by simp [hlt]⟩,Pv (i+1),fun σ' H' p'=>⟨xs.length - (i+1),by omega,rfl,hlt,p'⟩,fun x H' y=>?_⟩
  obtain ⟨e,y⟩:=y
  subst e
  exact hs i x σ _ (y xs q) p
 ·have e:i=xs.length:=by omega
  subst e
  exact .inl ⟨⟨xs,q,wJ _⟩,hd σ H p⟩
theorem bg {lo:Int}{n:Nat}{g:TG}{tb:TS}{D:gM}{σ:St}{H:Hp}(Pv:Nat→St→Hp→Prop)(h0:Pv 0 σ H)
  (hs:∀ i σ H,i < n→Pv i σ H→g (.int (lo+i)) σ H fun σ2 H2=>tb { D with nx:=Pv (i+1),ct:=Pv (i+1),bk:=D.nx } σ2 H2) (hd:∀ σ H,Pv n σ H→D.nx σ H) :
  ∃ W:Nat→Nat→St→Hp→Prop,(∃ m,W 0 m σ H)∧∀ i m σ H,W i m σ H →
   ((Itr lo n).stop i H∧D.nx σ H) ∨ ((Itr lo n).go i H∧∃ N:St→Hp→Prop,(∀ σ' H',N σ' H'→∃ m',m' < m∧W (i+1) m' σ' H')∧∀ x H',(Itr lo n).yld i H x H'→g x σ H' fun σ2 H2=>tb { D with nx:=N,ct:=N,bk:=D.nx } σ2 H2):=by
 refine ⟨fun i m σ H=>m=n - i∧i≤n∧Pv i σ H,⟨n,by simp,xE _,h0⟩,?_⟩
 rintro i m σ H ⟨rfl,hi,p⟩
 by_cases hlt:i < n
 ·refine .inr ⟨hlt,Pv (i+1),fun σ' H' p'=>⟨n - (i+1),by omega,rfl,hlt,p'⟩,fun x H' y=>?_⟩
  obtain ⟨e,y⟩:=y
  subst e y
  exact hs i σ _ hlt p
 ·have e:i=n:=by omega
  subst e
  exact .inl ⟨wJ _,hd σ H p⟩
abbrev R2:=V→V→Hp→VK→Prop
def OpR (X:Cx)(f:Value→Value→Sem Value)(r:R2):Prop :=
 ∀ (pins:List (Addr × Obj)) (s:Shared) (σ:St) (H:Hp) (x y:V) (v u:Value) (Q:VK),Inv X pins σ H s→bB x v→bB y u→r x y H Q →
  wpAny (model X.prog X.w) X.A (f v u) (EP X pins σ Q) X.xe s
def UnR (X:Cx)(f:Value→Sem Value)(r:V→Hp→VK→Prop):Prop :=
 ∀ (pins:List (Addr × Obj)) (s:Shared) (σ:St) (H:Hp) (x:V) (v:Value) (Q:VK),Inv X pins σ H s→bB x v→r x H Q →
  wpAny (model X.prog X.w) X.A (f v) (EP X pins σ Q) X.xe s
def cP (X:Cx)(f:Value)(r:List V→Hp→VK→Prop):Prop :=
 ∀ (pins:List (Addr × Obj)) (s:Shared) (σ:St) (H:Hp) (xs:List V) (us:List Value) (Q:VK),Inv X pins σ H s→aZ xs us→r xs H Q →
  wpAny (model X.prog X.w) X.A (call f us) (EP X pins σ Q) X.xe s
def vX (X:Cx)(r:V→Hp→(Bool→Hp→Prop)→Prop):Prop :=
 ∀ (pins:List (Addr × Obj)) (s:Shared) (σ:St) (H:Hp) (x:V) (v:Value) (Q:Bool→Hp→Prop),Inv X pins σ H s→bB x v→r x H Q →
  wpAny (model X.prog X.w) X.A (truthy v) (TP X pins σ Q) X.xe s
def rT (r:R2)(Q:VK)(x:V):V→Hp→Prop:=fun y H2=>r x y H2 Q
def rV (r:R2)(tb:TE)(σ:St)(Q:VK):V→Hp→Prop:=fun x H1=>tb σ H1 (rT r Q x)
def tOp (r:R2)(ta tb:TE):TE:=fun σ H Q=>ta σ H (rV r tb σ Q)
def rW (r:V→Hp→VK→Prop)(Q:VK):V→Hp→Prop:=fun x H1=>r x H1 Q
def tUn (r:V→Hp→VK→Prop)(ta:TE):TE:=fun σ H Q=>ta σ H (rW r Q)
inductive rI (C:Int→Int→Prop)(g:Int→Int→V)(x:V)(y:V)(H:Hp)(Q:VK):Prop
 | mk:∀ i j,(x = .int i)→(y = .int j)→(C i j)→(Q (g i j) H)→rI C g x y H Q
inductive rI0 (g:Int→Int→V)(x:V)(y:V)(H:Hp)(Q:VK):Prop
 | mk:∀ i j,(x = .int i)→(y = .int j)→(Q (g i j) H)→rI0 g x y H Q
inductive rU (g:Int→V)(x:V)(H:Hp)(Q:VK):Prop
 | mk:∀ i,(x = .int i)→(Q (g i) H)→rU g x H Q
section
variable {X:Cx} {a b c:Expr} {ta tb tc:TE} {pos:Pos}
theorem uJ (ha:PE X a ta)(hb:PE X b tb){pins:List (Addr × Obj)}{s:Shared}{σ:St}{H:Hp}{R:V→V→Hp→Prop}(I:Inv X pins σ H s)
  (h:ta σ H fun x H1=>tb σ H1 fun y H2=>R x y H2) {Q:Value→Shared→Prop} {f:Value→Value→Sem Value}
  (hf:∀ v u s2 x y H2,Inv X pins σ H2 s2→bB x v→bB y u→R x y H2→wpAny (model X.prog X.w) X.A (f v u) Q X.xe s2) :
  wpAny (model X.prog X.w) X.A (eval a X.env) (fun v s₁=>wpAny (model X.prog X.w) X.A (eval b X.env) (fun u s₂=>wpAny (model X.prog X.w) X.A (f v u) Q X.xe s₂) X.xe s₁) X.xe s:=by
 refine thn (ha pins s σ H _ I h) fun v s1 zq42=>?_
 obtain ⟨x,H1,I1,r1,q1⟩:=zq42
 refine thn (hb pins s1 σ H1 _ I1 q1) fun u s2 zq43=>?_
 obtain ⟨y,H2,I2,r2,q2⟩:=zq43
 exact hf v u s2 x y H2 I2 r1 r2 q2
theorem aX {op:Operator}{r:R2}(ho:OpR X (binaryOp op) r)(ha:PE X a ta)(hb:PE X b tb):PE X (.BinOp a op b pos) (tOp r ta tb):=by
 intro pins s σ H Q I h
 exact wpAny_BinOp (uJ ha hb I h fun v u s2 x y H2 I2 rx ry q=>ho pins s2 σ H2 x y v u Q I2 rx ry q)
theorem kr {op:UnaryOp}{r:V→Hp→VK→Prop}(ho:UnR X (unaryOp op) r)(ha:PE X a ta):PE X (.UnaryOp op a pos) (tUn r ta):=by
 intro pins s σ H Q I h
 exact UnaryOp_ (thn (ha pins s σ H _ I h) fun v s1 zq44=>(by obtain ⟨x,H1,I1,r1,q1⟩:=zq44;exact ho pins s1 σ H1 x v Q I1 r1 q1))
theorem opI {f:Value→Value→Sem Value}{C:Int→Int→Prop}{g:Int→Int→Int}
  (rule:∀ (i j:Int) (t u:Tok) (s:Shared) (Q:Value→Shared→Prop) (E:Value→Shared→Prop),C i j→Q (.int (g i j) s.toks) { s with toks:=s.toks+1 }→wpAny (model X.prog X.w) X.A (f (.int i t) (.int j u)) Q E s) :
  OpR X f (rI C fun i j=>.int (g i j)):=by
 intro pins s σ H x y v u Q I rx ry h
 obtain ⟨i,j,rfl,rfl,hc,q⟩:=h
 obtain ⟨t,rfl⟩:=rx
 obtain ⟨t',rfl⟩:=ry
 exact rule i j t t' s _ _ hc ⟨.int (g i j),H,I.tok _,⟨_,rfl⟩,q⟩
theorem vY {f:Value→Value→Sem Value}{g:Int→Int→Int}
  (rule:∀ (i j:Int) (t u:Tok) (s:Shared) (Q:Value→Shared→Prop) (E:Value→Shared→Prop),Q (.int (g i j) s.toks) { s with toks:=s.toks+1 }→wpAny (model X.prog X.w) X.A (f (.int i t) (.int j u)) Q E s) :
  OpR X f (rI0 fun i j=>.int (g i j)):=by
 intro pins s σ H x y v u Q I rx ry h
 obtain ⟨i,j,rfl,rfl,q⟩:=h
 obtain ⟨t,rfl⟩:=rx
 obtain ⟨t',rfl⟩:=ry
 exact rule i j t t' s _ _ ⟨.int (g i j),H,I.tok _,⟨_,rfl⟩,q⟩
theorem uK {f:Value→Value→Sem Value}{g:Int→Int→Bool}
  (rule:∀ (i j:Int) (t u:Tok) (s:Shared) (Q:Value→Shared→Prop) (E:Value→Shared→Prop),Q (.bool (g i j)) s→wpAny (model X.prog X.w) X.A (f (.int i t) (.int j u)) Q E s) :
  OpR X f (rI0 fun i j=>.bl (g i j)):=by
 intro pins s σ H x y v u Q I rx ry h
 obtain ⟨i,j,rfl,rfl,q⟩:=h
 obtain ⟨t,rfl⟩:=rx
 obtain ⟨t',rfl⟩:=ry
 exact rule i j t t' s _ _ ⟨.bl (g i j),H,I,rfl,q⟩
def vZ (i j:Int):Prop:=0 < j∧j < 1073741824
def v_ (i j:Int):Prop:=0≤j∧j≤1000000∧i.natAbs < 2 ^ 64
def uL (i j:Int):Prop:=(-(2 ^ 64) < i∧i < 2 ^ 64) ∨ (-(2 ^ 64) < j∧j < 2 ^ 64)
theorem uL.ok {i j:Int}(h:uL i j):IntMulOk i j:=by
 rcases h with ⟨h1,h2⟩ | ⟨h1,h2⟩
 ·exact .of_left (intBits_le_64 h1 h2)
 ·exact .of_right (intBits_le_64 h1 h2)
theorem bU:OpR X (binaryOp .Add) (rI0 fun i j=>.int (i+j)):=vY fun _ _ _ _ _ _ _ q=>add_int q
theorem gS:OpR X (binaryOp .Mult) (rI uL fun i j=>.int (i*j)):=opI fun _ _ _ _ _ _ _ hc q=>mul_int q hc.ok
theorem dF:OpR X (binaryOp .FloorDiv) (rI vZ fun i j=>.int (i / j)):=opI fun i j _ _ _ _ _ hc q=>by
 have h1:(0:Int) < j:=hc.1
 have h2:j < 1073741824:=hc.2
 exact floordiv_int (by omega) (by rw [Int.fdiv_eq_ediv_of_nonneg i (by omega)];exact q) (.inl (PyProof.noPylong_small (by omega)))
theorem dU:OpR X (binaryOp .Mod) (rI (fun _ j=>0 < j) fun i j=>.int (i % j)):=opI fun i j _ _ _ _ _ hc q=>by
 have h1:(0:Int) < j:=hc
 exact mod_int' (by omega) (by rw [Int.fmod_eq_emod_of_nonneg i (by omega)];exact q)
theorem rX:OpR X (binaryOp .Pow) (rI v_ fun i j=>.int (i ^ j.toNat)):=opI fun _ _ _ _ _ _ _ hc q=>pow_int_small hc.1 hc.2.1 hc.2.2 q
theorem unI {f:Value→Sem Value}{g:Int→Int}
  (rule:∀ (i:Int) (t:Tok) (s:Shared) (Q:Value→Shared→Prop) (E:Value→Shared→Prop),Q (.int (g i) s.toks) { s with toks:=s.toks+1 }→wpAny (model X.prog X.w) X.A (f (.int i t)) Q E s) :
  UnR X f (rU fun i=>.int (g i)):=by
 intro pins s σ H x v Q I rx h
 obtain ⟨i,rfl,q⟩:=h
 obtain ⟨t,rfl⟩:=rx
 exact rule i t s _ _ ⟨.int (g i),H,I.tok _,⟨_,rfl⟩,q⟩
theorem gT:UnR X (unaryOp .USub) (rU fun i=>.int (-i)):=unI fun _ _ _ _ _ q=>neg_int q
end
def vD:V→V→Bool
 | .non,.non=>true | .non,.int _=>true | .int _,.non=>true | .non,.bl _=>true | .bl _,.non=>true | .non,.str _=>true | .str _,.non=>true
 | .int _,.int _=>true | .bl _,.bl _=>true | .str _,.str _=>true | .byt _,.byt _=>true
 | .int _,.str _=>true | .str _,.int _=>true | .bl _,.str _=>true | .str _,.bl _=>true
 | _,_=>false
def rEq:R2:=fun x y H Q=>vD x y=true∧Q (.bl (decide (x=y))) H
def rNe:R2:=fun x y H Q=>vD x y=true∧Q (.bl (!decide (x=y))) H
theorem dec_int {i j:Int}:decide (V.int i=V.int j)=(i == j):=by
 rw [x8]
 simp
theorem pk {i j:Bool}:decide (V.bl i=V.bl j)=(i == j):=by
 rw [x8]
 simp
theorem ku {i j:Str}:decide (V.str i=V.str j)=(i == j):=by
 rw [x8]
 simp
theorem ky {i j:Array UInt8}:decide (V.byt i=V.byt j)=(i.toList == j.toList):=by
 rw [x8]
 cases i
 cases j
 simp
section
variable {X:Cx} {a b c:Expr} {ta tb tc:TE} {pos:Pos}
theorem aQ {pins:List (Addr × Obj)}{σ:St}{H:Hp}{s:Shared}{Q:VK}{k k':Bool}(I:Inv X pins σ H s)(q:Q (.bl k) H)(e:k=k'):EP X pins σ Q (.bool k') s:=by
 subst e
 exact ⟨.bl k,H,I,rfl,q⟩
theorem fV:OpR X (compareOp .Eq) rEq:=by
 intro pins s σ H x y v u Q I rx ry h
 obtain ⟨hs,q⟩:=h
 cases x with
 | non =>
  cases rx
  cases y with
  | non=>cases ry;exact PySem.EqNone.eq_none_none (aQ I q (by simp))
  | bl j=>cases ry;exact PySem.EqNone.eq_none_bool (aQ I q (by simp))
  | int j=>obtain ⟨t',rfl⟩:=ry;exact PySem.EqNone.eq_none_int (aQ I q (by simp))
  | str j=>obtain ⟨t',rfl⟩:=ry;exact PySem.EqNone.eq_none_str (aQ I q (by simp))
  | _=>exact absurd (show false=true from hs) xj
 | bl i =>
  cases rx
  cases y with
  | non=>cases ry;exact PySem.EqNone.eq_bool_none (aQ I q (by simp))
  | bl j=>cases ry;exact eq_bool (aQ I q pk)
  | str j=>obtain ⟨t',rfl⟩:=ry;exact PySem.EqMixed.eq_bool_str (aQ I q (by simp))
  | _=>exact absurd (show false=true from hs) xj
 | int i =>
  obtain ⟨t,rfl⟩:=rx
  cases y with
  | non=>cases ry;exact PySem.EqNone.eq_int_none (aQ I q (by simp))
  | int j=>obtain ⟨t',rfl⟩:=ry;exact eq_int (aQ I q dec_int)
  | str j=>obtain ⟨t',rfl⟩:=ry;exact PySem.EqMixed.eq_int_str (aQ I q (by simp))
  | _=>exact absurd (show false=true from hs) xj
 | str i =>
  obtain ⟨t,rfl⟩:=rx
  cases y with
  | non=>cases ry;exact PySem.EqNone.eq_str_none (aQ I q (by simp))
  | bl j=>cases ry;exact PySem.EqMixed.eq_str_bool (aQ I q (by simp))
  | int j=>obtain ⟨t',rfl⟩:=ry;exact PySem.EqMixed.eq_str_int (aQ I q (by simp))
  | str j=>obtain ⟨t',rfl⟩:=ry;exact eq_str (aQ I q ku)
  | _=>exact absurd (show false=true from hs) xj
 | byt i =>
  obtain ⟨t,rfl⟩:=rx
  cases y with
  | byt j=>obtain ⟨t',rfl⟩:=ry;exact PySem.W.eq_bytes (aQ I q ky)
  | _=>exact absurd (show false=true from hs) xj
 | _=>cases y <;> exact absurd (show false=true from hs) xj
theorem nu:OpR X (compareOp .NotEq) rNe:=by
 intro pins s σ H x y v u Q I rx ry h
 obtain ⟨hs,q⟩:=h
 cases x with
 | non =>
  cases rx
  cases y with
  | non=>cases ry;exact PySem.EqNone.ne_none_none (aQ I q (by simp))
  | bl j=>cases ry;exact PySem.EqNone.ne_none_bool (aQ I q (by simp))
  | int j=>obtain ⟨t',rfl⟩:=ry;exact PySem.EqNone.ne_none_int (aQ I q (by simp))
  | str j=>obtain ⟨t',rfl⟩:=ry;exact PySem.EqNone.ne_none_str (aQ I q (by simp))
  | _=>exact absurd (show false=true from hs) xj
 | bl i =>
  cases rx
  cases y with
  | non=>cases ry;exact PySem.EqNone.ne_bool_none (aQ I q (by simp))
  | bl j=>cases ry;exact ne_bool (aQ I q (xF not pk))
  | str j=>obtain ⟨t',rfl⟩:=ry;exact PySem.EqMixed.ne_bool_str (aQ I q (by simp))
  | _=>exact absurd (show false=true from hs) xj
 | int i =>
  obtain ⟨t,rfl⟩:=rx
  cases y with
  | non=>cases ry;exact PySem.EqNone.ne_int_none (aQ I q (by simp))
  | int j=>obtain ⟨t',rfl⟩:=ry;exact ne_int (aQ I q (xF not dec_int))
  | str j=>obtain ⟨t',rfl⟩:=ry;exact PySem.EqMixed.ne_int_str (aQ I q (by simp))
  | _=>exact absurd (show false=true from hs) xj
 | str i =>
  obtain ⟨t,rfl⟩:=rx
  cases y with
  | non=>cases ry;exact PySem.EqNone.ne_str_none (aQ I q (by simp))
  | bl j=>cases ry;exact PySem.EqMixed.ne_str_bool (aQ I q (by simp))
  | int j=>obtain ⟨t',rfl⟩:=ry;exact PySem.EqMixed.ne_str_int (aQ I q (by simp))
  | str j=>obtain ⟨t',rfl⟩:=ry;exact ne_str (aQ I q (xF not ku))
  | _=>exact absurd (show false=true from hs) xj
 | byt i =>
  obtain ⟨t,rfl⟩:=rx
  cases y with
  | byt j=>obtain ⟨t',rfl⟩:=ry;exact PySem.W.ne_bytes (aQ I q (xF not ky))
  | _=>exact absurd (show false=true from hs) xj
 | _=>cases y <;> exact absurd (show false=true from hs) xj
theorem gU:OpR X (compareOp .Lt) (rI0 fun i j=>.bl (decide (i < j))):=uK fun _ _ _ _ _ _ _ q=>lt_int q
theorem pZ:OpR X (compareOp .Gt) (rI0 fun i j=>.bl (decide (j < i))):=uK fun _ _ _ _ _ _ _ q=>gt_int q
theorem uM:OpR X (compareOp .GtE) (rI0 fun i j=>.bl (decide (j≤i))):=uK fun _ _ _ _ _ _ _ q=>ge_int q
inductive eK  (x:V)(y:V)(H:Hp)(Q:VK):Prop
 | mk:∀ i j,(x = .str i)→(y = .str j)→(Q (.bl (!(Builtin.Str.occurrences j i 0 j.length 1).isEmpty)) H)→eK x y H Q
theorem gX:OpR X (compareOp .In) eK:=by
 intro pins s σ H x y v u Q I rx ry h
 obtain ⟨i,j,rfl,rfl,q⟩:=h
 obtain ⟨t,rfl⟩:=rx
 obtain ⟨t',rfl⟩:=ry
 exact in_str (aQ I q rfl)
theorem bh (b:Expr){op:CmpOp}(h:op ≠ .In:=by decide)(h2:op ≠ .NotIn:=by decide):behindInMarks op b=false:=by
 have e1:(op == CmpOp.In)=false:=by cases op <;> first | rfl | exact absurd rfl h
 have e2:(op == CmpOp.NotIn)=false:=by cases op <;> first | rfl | exact absurd rfl h2
 cases b <;> simp [behindInMarks,e1,e2]
theorem iP {op:CmpOp}{r:R2}(ho:OpR X (compareOp op) r)(ha:PE X a ta)(hb:PE X b tb)(hm:behindInMarks op b=false):PE X (.Compare a [op] [b] pos) (tOp r ta tb):=by
 intro pins s σ H Q I h
 exact wpAny_Compare1 (uJ ha hb I h fun v u s2 x y H2 I2 rx ry q=>ho pins s2 σ H2 x y v u Q I2 rx ry q) hm
def nv (Q:(Bool→Hp→Prop)):V→Hp→Prop:=fun x H'=>IsB x H' Q
def p0 (t:TE):TT:=fun σ H Q=>t σ H (nv Q)
theorem aR {op:CmpOp}{r:R2}(ho:OpR X (compareOp op) r)(ha:PE X a ta)(hb:PE X b tb)(hm:behindInMarks op b=false):PT X (.Compare a [op] [b] pos) (p0 (tOp r ta tb)):=by
 intro pins s σ H Q I h
 refine wpAny_isTrue_Compare1 (thn (ha pins s σ H _ I h) fun v s1 ⟨x,H1,I1,r1,q1⟩=>thn (hb pins s1 σ H1 _ I1 q1) fun u s2 ⟨y,H2,I2,r2,q2⟩ =>
  thn (ho pins s2 σ H2 x y v u _ I2 r1 r2 q2) fun c s3 ⟨z,H3,I3,r3,k,e,q3⟩=>?_) hm
 subst e
 cases r3
 exact zv ⟨H3,I3,q3⟩
def pq (r r':R2)(ta tb tc:TE):TE:=fun σ H Q=>ta σ H fun x H1=>tb σ H1 fun y H2=>r x y H2 fun z H3=>∃ k,z = .bl k ∧
 (if k=true then tc σ H3 fun w' H4=>r' y w' H4 Q else Q (.bl false) H3)
theorem jg {op op':CmpOp}{r r':R2}(ho:OpR X (compareOp op) r)(ho':OpR X (compareOp op') r')(ha:PE X a ta)(hb:PE X b tb)(hc:PE X c tc)
  (hm:lastMarks [op,op'] [b,c]=false:=by with_unfolding_all rfl):PE X (.Compare a [op,op'] [b,c] pos) (pq r r' ta tb tc):=by
 intro pins s σ H Q I h
 refine Compare_chain (thn (ha pins s σ H _ I h) fun v s1 ⟨x,H1,I1,r1,q1⟩=>chain_link (thn (hb pins s1 σ H1 _ I1 q1) fun u s2 ⟨y,H2,I2,r2,q2⟩ =>
  thn (ho pins s2 σ H2 x y v u _ I2 r1 r2 q2) fun d s3 ⟨z,H3,I3,r3,k,e,q3⟩=>?_)) hm
 subst e
 cases r3
 refine zv ?_
 cases k with
 | false=>exact ite_ff ⟨.bl false,H3,I3,rfl,q3⟩
 | true=>exact ite_tt (chain_last (thn (hc pins s3 σ H3 _ I3 q3) fun w' s4 zq45=>(by obtain ⟨z',H4,I4,r4,q4⟩:=zq45;exact ho' pins s4 σ H4 y z' u w' Q I4 r2 r4 q4)))
theorem ny {op op':CmpOp}{r r':R2}(ho:OpR X (compareOp op) r)(ho':OpR X (compareOp op') r')(ha:PE X a ta)(hb:PE X b tb)(hc:PE X c tc)
  (hm:lastMarks [op,op'] [b,c]=false:=by with_unfolding_all rfl):PT X (.Compare a [op,op'] [b,c] pos) (p0 (pq r r' ta tb tc)):=by
 intro pins s σ H Q I h
 refine isTrue_chain (thn (ha pins s σ H _ I h) fun v s1 ⟨x,H1,I1,r1,q1⟩=>test_link (thn (hb pins s1 σ H1 _ I1 q1) fun u s2 ⟨y,H2,I2,r2,q2⟩ =>
  thn (ho pins s2 σ H2 x y v u _ I2 r1 r2 q2) fun d s3 ⟨z,H3,I3,r3,k,e,q3⟩=>?_)) hm
 subst e
 cases r3
 refine zv ?_
 cases k with
 | false =>
  obtain ⟨k',e',q'⟩:=q3
  cases e'
  exact ite_ff ⟨H3,I3,q'⟩
 | true =>
  refine ite_tt (test_last (thn (hc pins s3 σ H3 _ I3 q3) fun w' s4 ⟨z',H4,I4,r4,q4⟩=>thn (ho' pins s4 σ H4 y z' u w' _ I4 r2 r4 q4) fun d' s5 zq46=>?_))
  obtain ⟨z2,H5,I5,r5,k2,e2,q5⟩:=zq46
  subst e2
  cases r5
  exact zv ⟨H5,I5,q5⟩
def wa (K:PySem.W.Frag)(x:V)(H:Hp)(k:Bool):Prop :=
 match x with
 | .non=>k=false
 | .bl b=>k=b
 | .int i=>k=(i != 0)
 | .str y=>y.length≤sizeLine∧k=((y.length:Int) != 0)
 | .byt y=>y.size≤sizeLine∧k=((y.size:Int) != 0)
 | .ref p=>(∃ xs,SqL K H p xs∧k=!xs.isEmpty) ∨ (∃ xs,SqT K H p xs∧k=!xs.isEmpty) ∨ ∃ kvs,H p=some (.dK kvs)∧k=!kvs.isEmpty
 | _=>False
theorem jS {κ:Type}{kvs:List (κ × V)}{vs:List (κ × Value)}(r:KV kvs vs):(!vs.isEmpty)=!kvs.isEmpty:=by
 cases r <;> rfl
theorem fA {xs:List V}{its:List Value}(r:aZ xs its):(!its.toArray.isEmpty)=!xs.isEmpty:=by
 cases r <;> simp
theorem cT:(sizeLine:Nat) < 2 ^ 63:=by rw [A3]; decide
inductive p5 (K:PySem.W.Frag)(x:V)(H:Hp)(Q:Bool→Hp→Prop):Prop
 | mk:∀ k,(wa K x H k)→(Q k H)→p5 K x H Q
theorem kz:vX X (p5 X.K):=by
 intro pins s σ H x v Q I rx h
 obtain ⟨k,e,q⟩:=h
 have hl:=cT
 have hs:sizeLine=16777216:=A3
 cases x with
 | non =>
  cases rx
  have e':k=false:=e
  subst e'
  exact truthy_none ⟨H,I,q⟩
 | bl b =>
  cases rx
  have e':k=b:=e
  subst e'
  exact zv ⟨H,I,q⟩
 | int i =>
  obtain ⟨t,rfl⟩:=rx
  have e':k=(i != 0):=e
  subst e'
  exact PySem.P.truthy_int ⟨H,I,q⟩
 | str y =>
  obtain ⟨t,rfl⟩:=rx
  obtain ⟨hy,e'⟩:y.length≤sizeLine∧k=((y.length:Int) != 0):=e
  subst e'
  exact PySem.P.truthy_str (by omega) ⟨H,I.tok _,q⟩
 | byt y =>
  obtain ⟨t,rfl⟩:=rx
  obtain ⟨hy,e'⟩:y.size≤sizeLine∧k=((y.size:Int) != 0):=e
  subst e'
  exact PySem.W.truthy_bytes (by omega) ⟨H,I.tok _,q⟩
 | ref p =>
  cases rx
  have e':(∃ xs,SqL X.K H p xs∧k=!xs.isEmpty) ∨ (∃ xs,SqT X.K H p xs∧k=!xs.isEmpty) ∨ ∃ kvs,H p=some (.dK kvs)∧k=!kvs.isEmpty:=e
  rcases e' with ⟨xs,hx,e'⟩ | ⟨xs,hx,e'⟩ | ⟨kvs,hx,e'⟩
  ·subst e'
   obtain ⟨its,r,pl,hz⟩:=I.list hx
   have hlen:=r.length
   exact wpAny_truthy_list pl.isList (by simp only [wX];omega) ⟨H,I.tok _,by rw [fA r];exact q⟩
  ·subst e'
   obtain ⟨its,r,pl,hz⟩:=I.tuple hx
   have hlen:=r.length
   exact truthy_tuple pl (by simp only [wX];omega) ⟨H,I.tok _,by rw [fA r];exact q⟩
  ·subst e'
   obtain ⟨hz,hS,vs,r,m⟩:kvs.length≤sizeLine∧(p == sysModules)=false∧∃ vs,KV kvs vs∧s.heap.DictOf (bj X.prog X.w) p vs:=I.hok p _ hx
   have hlen:kvs.length=vs.length:=zO r
   exact wpAny_truthy_dict hS m (by omega) ⟨H,I.tok _,by rw [jS r];exact q⟩
 | _=>exact (show False from e).elim
def p6 (K:PySem.W.Frag)(Q:(Bool→Hp→Prop)):V→Hp→Prop:=fun x H'=>p5 K x H' Q
def wb (K:PySem.W.Frag)(ta:TE):TT:=fun σ H Q=>ta σ H (p6 K Q)
theorem fW (ha:PE X a ta)(he:∀ whole,isTrue a X.env whole=(do let v ← whole; standAt a.pos; holding [v] (truthy v))) :
  PT X a (wb X.K ta):=by
 intro pins s σ H Q I h
 exact isTrue_plain (thn (ha pins s σ H _ I h) fun v s1 zq47=>(by obtain ⟨x,H1,I1,r1,q1⟩:=zq47;exact kz pins s1 σ H1 x v Q I1 r1 q1)) (he _)
inductive dW  (x:V)(y:V)(H:Hp)(Q:VK):Prop
 | mk:∀ i j,(x = .str i)→(y = .str j)→(i.length+j.length≤sizeLine)→(Q (.str (i++j)) H)→dW x y H Q
theorem dG:OpR X (binaryOp .Add) dW:=by
 intro pins s σ H x y v u Q I rx ry h
 obtain ⟨i,j,rfl,rfl,hz,q⟩:=h
 obtain ⟨t,rfl⟩:=rx
 obtain ⟨t',rfl⟩:=ry
 exact add_str (fun t' tk=>⟨.str (i++j),H,I.tok _,⟨_,rfl⟩,q⟩) hz
theorem cI {x:V}{us:List Value}(r:aZ [x] us):∃ u,us=[u]∧bB x u:=by
 cases r with
 | cons r1 r2=>cases r2;exact ⟨_,rfl,r1⟩
theorem nz {x y:V}{us:List Value}(r:aZ [x,y] us):∃ u w',us=[u,w']∧bB x u∧bB y w':=by
 cases r with
 | cons r1 r2 =>
  cases r2 with
  | cons r3 r4=>cases r4;exact ⟨_,_,rfl,r1,r3⟩
inductive eL  (xs:List V)(H:Hp)(Q:VK):Prop
 | mk:∀ i j,(xs=[.int i,.int j])→(Q (.int (if j > i then j else i)) H)→eL xs H Q
theorem kA (hc:X.calm=true):cP X (.builtin "max") eL:=by
 intro pins s σ H xs us Q I r h
 obtain ⟨i,j,rfl,q⟩:=h
 obtain ⟨u,w',rfl,⟨t,rfl⟩,⟨t',rfl⟩⟩:=nz r
 refine max_two_ints (I.ok.hd hc) fun h' tk k=>⟨_,H,I.kept k,?_,q⟩
 by_cases hj:j > i
 ·rw [if_pos hj,if_pos hj];exact ⟨_,rfl⟩
 ·rw [if_neg hj,if_neg hj];exact ⟨_,rfl⟩
inductive eM  (xs:List V)(H:Hp)(Q:VK):Prop
 | mk:∀ i j,(xs=[.int i,.int j])→(Q (.int (if j < i then j else i)) H)→eM xs H Q
theorem kC (hc:X.calm=true):cP X (.builtin "min") eM:=by
 intro pins s σ H xs us Q I r h
 obtain ⟨i,j,rfl,q⟩:=h
 obtain ⟨u,w',rfl,⟨t,rfl⟩,⟨t',rfl⟩⟩:=nz r
 refine min_two_ints (I.ok.hd hc) fun h' tk k=>⟨_,H,I.kept k,?_,q⟩
 by_cases hj:j < i
 ·rw [if_pos hj,if_pos hj];exact ⟨_,rfl⟩
 ·rw [if_neg hj,if_neg hj];exact ⟨_,rfl⟩
end
section
variable {prog:Program} {w:World} {A:Around} {E:Value→Shared→Prop} {s:Shared} {K:PySem.W.Frag} {x dx C f:Addr} {mA:Str→Option Value} {name:Str} {v:Value}
end
theorem kg.some_of {v:V}{o:Option Value}(r:kg (some v) o):∃ u,o=some u∧bB v u:=by
 cases o with
 | none=>exact (show False from r).elim
 | some u=>exact ⟨u,rfl,r⟩
section
variable {P:Program} {w:World} {H H':Hp} {h h':Heap} {a C dx:Addr} {fs fs':List (Str × V)}
end
section
variable {X:Cx} {pins:List (Addr × Obj)} {σ:St} {H:Hp} {s:Shared} {a C dx:Addr} {fs:List (Str × V)} {f:Str} {v:V} {A:Around} {E:Value→Shared→Prop}
end
section
variable {X:Cx} {o e value:Expr} {f:Str} {pos pos' tpos:Pos} {ta tv:TE}
end
section
variable {X:Cx} {pins:List (Addr × Obj)} {σ:St} {H:Hp} {s:Shared} {A:Around} {E:Value→Shared→Prop} {Q:Value→Shared→Prop} {c:Value} {b:Bool}
end
structure fB (k:Nat) (A:Around):Prop where
 hd:A.handled=none
 dp:A.depth+3*k+5 < recursionLimit
 un:A.units+16*k+200 < cLine
 gd:A.guards=some []
theorem fB.mono {j k:Nat}{A:Around}(r:fB k A)(h:j≤k):fB j A:=⟨r.hd,by have:=r.dp; omega,by have:=r.un; omega,r.gd⟩
theorem fB.deeper {k:Nat}{A:Around}(r:fB (k+1) A)(env:Env):fB k (A.deeper env) :=
 ⟨r.hd,by have:=r.dp;show A.depth+1+3*k+5 < _;omega,by have:=r.un;show A.units+3+16*k+200 < _;omega,r.gd⟩
theorem fB.depth {k:Nat}{A:Around}(r:fB k A):A.depth < recursionLimit:=by have:=r.dp; omega
theorem fB.units {k:Nat}{A:Around}(r:fB k A):A.units+64 < cLine:=by have:=r.un; omega
def wc:TA:=fun _ H Q=>Q [] H
def nA (Q:(List V→Hp→Prop))(x:V):List V→Hp→Prop:=fun xs H2=>Q (x::xs) H2
def nB (tr:TA)(σ:St)(Q:(List V→Hp→Prop)):V→Hp→Prop:=fun x H1=>tr σ H1 (nA Q x)
def rY (ta:TE)(tr:TA):TA:=fun σ H Q=>ta σ H (nB tr σ Q)
section
variable {X:Cx} {e:Expr} {es:List Expr} {te:TE} {t:TA} {pos:Pos}
theorem ae:PA X [] wc:=fun _ _ _ _ H Q I h=>Calls.spliced_nil ⟨[],H,I,.nil,h⟩
theorem aa (ha:PE X e te)(hr:PA X es t)(hs:starEach (e::es) X.env=(false,eval e X.env)::starEach es X.env:=by rfl):PA X (e::es) (rY te t):=by
 intro pos pins s σ H Q I h
 rw [hs]
 show wpAny _ _ (spliced ((false,eval e X.env)::backTo pos (starEach es X.env))) _ _ s
 refine Calls.spliced_cons (thn (ha pins s σ H _ I h) fun u s1 zq54=>?_)
 obtain ⟨x,H1,I1,r1,q1⟩:=zq54
 exact thn (hr pos pins s1 σ H1 _ I1 q1) fun us s2 zq55=>(by obtain ⟨xs,H2,I2,r2,q2⟩:=zq55;exact ⟨x::xs,H2,I2,.cons r1 r2,q2⟩)
def p7 (Q:VK):List V→Hp→Prop:=fun xs H1=>xs.length≤sizeLine∧∀ p,H1 p=none→Q (.ref p) (upd H1 p (.tup xs))
def wd (t:TA):TE:=fun σ H Q=>t σ H (p7 Q)
def p8 (Q:VK):List V→Hp→Prop:=fun xs H1=>xs.length≤sizeLine∧∀ p,H1 p=none→Q (.ref p) (upd H1 p (.lst xs))
def we (t:TA):TE:=fun σ H Q=>t σ H (p8 Q)
theorem bu {x1}(h:PA X es t):PE X (.Tuple es x1 pos) (wd t):=by
 intro pins s σ H Q I hq
 refine wpAny_Tuple_spliced (thn (h pos pins s σ H _ I hq) fun us s1 ⟨xs,H1,I1,r,z,q⟩=>⟨by rw [← r.length];exact z,?_⟩)
 have hf:H1 s1.heap.objs.size=none:=I1.hok.fresh (wJ _)
 refine ⟨.ref s1.heap.objs.size,upd H1 s1.heap.objs.size (.tup xs),I1.laid (t':=s1.toks) (fun b u e=>wK _ e) (wJ _) ?_,rfl,q _ hf⟩
 exact ⟨z,us,r,⟨_,wV _ rfl,rfl,_,rfl⟩,.new _ _ rfl⟩
theorem bM (h:PA X es t):PE X (.List es pos) (we t):=by
 intro pins s σ H Q I hq
 refine wpAny_List_spliced (thn (h pos pins s σ H _ I hq) fun us s1 ⟨xs,H1,I1,r,z,q⟩=>⟨by rw [← r.length];exact z,?_⟩)
 have hf:H1 s1.heap.objs.size=none:=I1.hok.fresh (wJ _)
 refine ⟨.ref s1.heap.objs.size,upd H1 s1.heap.objs.size (.lst xs),I1.laid (t':=s1.toks) (fun b u e=>wK _ e) (wJ _) ?_,rfl,q _ hf⟩
 exact ⟨z,us,0,r,wV _ rfl⟩
end
abbrev Sp:=List V→Hp→VK→XK→Prop
abbrev CXT:=List Env→Hp→Shared→XK→Value→Shared→Prop
structure uw (P:Program) (w:World) (K:PySem.W.Frag) (mg:Str→Option Value) (base:Heap) (A:Around) (outer:List Env) (s:Shared) (H:Hp):Prop where
 frames:A.frames=some outer
 mod:Mod K mg base
 bs:∀ b o,base.get? b=some o→s.heap.get? b=some o∧H b=none
 bsz:base.objs.size≤s.heap.objs.size
 funs:s.heap.FunFrames base outer
 frf:∀ b∈frs outer,H b=none
 hok:HOk P w H s.heap
 bare:AllBare s.gens
def CE (outer:List Env)(P:Program)(w:World)(H:Hp)(s:Shared)(Q:VK)(u:Value)(s':Shared):Prop :=
 ∃ v H',s'.os=s.os∧AllBare s'.gens∧Un (frs outer) [] H H' s.heap s'.heap∧HOk P w H' s'.heap∧bB v u∧Q v H'
def CR (CX:CXT)(outer:List Env)(P:Program)(w:World)(H:Hp)(s:Shared)(Q:VK)(E:XK)(r:Result)(s':Shared):Prop :=
 match r with
 | .ok (.ret u)=>CE outer P w H s Q u s'
 | .ok _=>False
 | .error e=>CX outer H s E e s'
structure m9 (P:Program) (w:World) (K:PySem.W.Frag) (mg:Str→Option Value) (base:Heap) (CX:CXT) (k:Nat) (f:Addr) (fd:FuncData) (ps:List Str) (sp:Sp):Prop where
 len:∀ vs H Q E,sp vs H Q E→vs.length=ps.length
 run:∀ (A:Around) (outer:List Env) (s:Shared) (H:Hp) (args:Args) (us:List Value) (vs:List V) (Q:VK) (E:XK),fB k A→uw P w K mg base A outer s H→BindsTo s fd args (ps.zip us)→aZ vs us→sp vs H Q E →
  codeAny (model P w) A (.call (.ref f) args) (CR CX outer P w H s Q E) s
section
variable {X:Cx} {pins:List (Addr × Obj)} {σ:St} {H:Hp} {s s':Shared}
theorem Inv.env0 (I:Inv X pins σ H s):uw X.prog X.w X.K X.mg X.base X.A X.stack s H :=
 ⟨I.ok.frames,I.ok.mod,I.bs,xq I.ok.bsz I.sz,I.stack,I.stkFree,I.hok,I.bare⟩
theorem Inv.after {Q:VK}{u:Value}(I:Inv X pins σ H s)(h:CE X.stack X.prog X.w H s Q u s'):EP X pins σ Q u s':=by
 obtain ⟨v,H',os,bare,un,hok,r,q⟩:=h
 obtain ⟨hh,g,d,t,os'⟩:=s'
 obtain rfl:os'=s.os:=os
 exact ⟨v,H',I.call (h':=hh) (g':=g) (d':=d) (t':=t) (ch:=[]) un hok bare (fun b z=>absurd z (by simp)),r,q⟩
end
def nC (sp:Sp)(dvs:List V)(E:XK)(Q:VK):List V→Hp→Prop:=fun vs H1=>sp (vs++dvs) H1 Q E
def rZ (sp:Sp)(dvs:List V)(E:XK)(t:TA):TE:=fun σ H Q=>t σ H (nC sp dvs E Q)
def jT (K:PySem.W.Frag)(fd:FuncData)(ps:List Str)(ds:List Value):Prop :=
 ∀ (s:Shared) (us:List Value),K.In s.heap→(us++ds).length=ps.length→BindsTo s fd ⟨us,[]⟩ (ps.zip (us++ds))
theorem jT.all {K:PySem.W.Frag}{fd:FuncData}{ps:List Str}(h:∀ us:List Value,us.length=ps.length→bindArgs fd ⟨us,[]⟩=pure (ps.zip us)):jT K fd ps []:=fun s us _ hl=>by
 rw [yf] at hl ⊢
 exact .of_eq (h us hl)
def kD (CX:CXT)(X:Cx)(E:XK):Prop:=∀ (pins:List (Addr × Obj)) (σ:St) (H:Hp) (s:Shared) (e:Value) (s':Shared),Inv X pins σ H s→CX X.stack H s E e s'→X.xe e s'
section
variable {X:Cx} {CX:CXT} {k:Nat} {f C:Addr} {fd:FuncData} {ps:List Str} {sp:Sp} {dvs:List V} {ds:List Value} {E:XK} {x m:Str} {p pos apos:Pos} {e o:Expr} {es:List Expr} {ta:TE} {t:TA}
theorem r6 {pins:List (Addr × Obj)}{σ:St}{H:Hp}{s:Shared}{Q:VK}{us:List Value}{vs:List V}(F:m9 X.prog X.w X.K X.mg X.base CX k f fd ps sp)(hr:fB k X.A)(hb:jT X.K fd ps ds)(hd:aZ dvs ds)(hx:kD CX X E)
  (I:Inv X pins σ H s) (r:aZ vs us) (h:sp (vs++dvs) H Q E):wpAny (model X.prog X.w) X.A (call (.ref f) us) (EP X pins σ Q) X.xe s:=by
 have r2:aZ (vs++dvs) (us++ds):=r.append hd
 have hl:(us++ds).length=ps.length:=by rw [← r2.length];exact F.len _ _ _ _ h
 refine wpAny_call (codeAny_mono (F.run X.A X.stack s H ⟨us,[]⟩ (us++ds) (vs++dvs) Q E hr I.env0 (hb s us I.kIn hl) r2 h) fun r s' hq=>?_)
 cases r with
 | error e=>exact hx pins σ H s e s' I hq
 | ok fl =>
  cases fl with
  | ret u=>exact I.after hq
  | next=>exact False.elim hq
  | brk=>exact False.elim hq
  | cont=>exact False.elim hq
theorem p9 (F:m9 X.prog X.w X.K X.mg X.base CX k f fd ps sp)(hr:fB k X.A)(hg:Gl X x)(hm:X.mg x=some (.ref f))(hk:PySem.W.keepIn X.K (.ref f)=true)(hb:jT X.K fd ps ds)(hd:aZ dvs ds)(hx:kD CX X E)
  (ha:PA X (e::es) t) (hdb:(x == ("__debug__":Str))=false:=by decide) (he:starEach (e::es) X.env=(false,eval e X.env)::starEach es X.env:=by rfl) (hpl:(backTo pos (starEach es X.env)).any (·.1)=false:=by rfl) :
  PE X (.Call (.Name x p) (e::es) [] pos) (rZ sp dvs E t):=by
 intro pins s σ H Q I h
 refine AH (iL I hg hm ?_ hdb)
 refine PySem.W.callWith_K (h₀:=X.base) I.ok.mod.kin hk (thn (ha pos pins s σ H _ I h) fun us s1 ⟨vs,H1,I1,r,q⟩=>⟨I1.kIn,?_⟩) he hpl
 exact r6 F hr hb hd hx I1 r q
end
section
variable {X:Cx} {CX:CXT} {k:Nat} {f C:Addr} {fd:FuncData} {ps ks:List Str} {sp:Sp} {E:XK} {x m:Str} {p pos apos kpos:Pos} {e o:Expr} {es:List Expr} {kws:List Keyword} {te ta:TE} {t tk:TA} {nm:Option Str}
variable {g:List Value→List Value→List Value} {gV:List V→List V→List V}
end
structure aJ (N P:List Str) (sc:Scope):Prop where
 kind:sc.kind = .function
 co:sc.isCoroutine=false
 gen:sc.isGenerator=false
 nd:N.Nodup
 pre:N.take P.length=P
 par:∀ x∈P,sc.names.lookup x=some .local ∨ sc.names.lookup x=some .cell
 nofree:∀ y∈sc.names,y.2 ≠ .free
theorem gY {kindOf:Str→Option NameKind}{x:Str}:∀ {binds:List (Str × Value)} {m:Str→Option Value},(∀ v,(x,v)∉binds)→bindL kindOf binds m x=m x
 | [],_,_=>rfl
 | (n,v)::r,m,h=>by
  unfold bindL
  rw [gY fun w hw=>h w (w_ _ hw)]
  split
  ·have:x≠n:=by rintro rfl;exact h v w4
   simp [this]
  ·rfl
theorem gZ {kindOf:Str→Option NameKind}{x:Str}:∀ {binds:List (Str × Value)} {m:Str→Option Value},(∀ v,(x,v)∉binds)→bindC kindOf binds m x=m x
 | [],_,_=>rfl
 | (n,v)::r,m,h=>by
  unfold bindC
  rw [gZ fun w hw=>h w (w_ _ hw)]
  split
  ·rfl
  ·have:x≠n:=by rintro rfl;exact h v w4
   simp [this]
theorem g0 {kindOf:Str→Option NameKind}{x:Str}{v:Value}:∀ {P:List Str} {vs:List Value} {i:Nat} {m:Str→Option Value},P.Nodup→P[i]? = some x→vs[i]? = some v→kindOf x=some .local →
  bindL kindOf (P.zip vs) m x=some v
 | [],_,_,_,_,h,_,_=>by simp at h
 | _::_,[],_,_,_,_,h,_=>by simp at h
 | p::P,w::vs,0,m,nd,h1,h2,hk=>by
  simp at h1 h2;subst h1;subst h2
  show bindL kindOf ((p,w)::P.zip vs) m p=_
  unfold bindL
  rw [gY fun v hv=>(zQ.mp nd).1 (Bj hv).1,if_pos hk]
  simp
 | p::P,w::vs,i+1,m,nd,h1,h2,hk=>by
  show bindL kindOf ((p,w)::P.zip vs) m x=_
  unfold bindL
  exact g0 (i:=i) (zQ.mp nd).2 (by simpa using h1) (by simpa using h2) hk
theorem g_ {kindOf:Str→Option NameKind}{x:Str}{v:Value}:∀ {P:List Str} {vs:List Value} {i:Nat} {m:Str→Option Value},P.Nodup→P[i]? = some x→vs[i]? = some v→kindOf x≠some .local →
  bindC kindOf (P.zip vs) m x=some v
 | [],_,_,_,_,h,_,_=>by simp at h
 | _::_,[],_,_,_,_,h,_=>by simp at h
 | p::P,w::vs,0,m,nd,h1,h2,hk=>by
  simp at h1 h2;subst h1;subst h2
  show bindC kindOf ((p,w)::P.zip vs) m p=_
  unfold bindC
  rw [gZ fun v hv=>(zQ.mp nd).1 (Bj hv).1,if_neg hk]
  simp
 | p::P,w::vs,i+1,m,nd,h1,h2,hk=>by
  show bindC kindOf ((p,w)::P.zip vs) m x=_
  unfold bindC
  exact g_ (i:=i) (zQ.mp nd).2 (by simpa using h1) (by simpa using h2) hk
def start (N:List Str)(vs:List V):St:=vs.map some++List.replicate (N.length - vs.length) none
def p_ (CX:CXT)(P:Program)(w:World)(K:PySem.W.Frag)(mg:Str→Option Value)(base:Heap)(N:List Str)(qual:Str)(scope:Scope)(f:Addr)(cd:Value)(A:Around)(outer:List Env)(s:Shared)(H:Hp)(E:XK):Cx where
 prog:=P
 w:=w
 K:=K
 mg:=mg
 base:=base
 A:=A.deeper (envOfC qual scope s.heap.objs.size f cd)
 N:=N
 s₀:=s
 H₀:=H
 env:=envOfC qual scope s.heap.objs.size f cd
 outer:=outer
 stack:=envOfC qual scope s.heap.objs.size f cd::outer
 ex:=[]
 calm:=true
 fn:=fun _=>true
 pn:=[]
 xe:=fun e s'=>wpAny (model P w) (A.deeper (envOfC qual scope s.heap.objs.size f cd)) (leaving (envOfC qual scope s.heap.objs.size f cd) e) (fun _ s''=>CX outer H s E e s'') (fun e' s''=>CX outer H s E e' s'') s'
theorem jh {sc:Scope}{n:Nat}{x:Str}(h:sc.names.lookup x=some .cell):∃ c,(cellsFrom n sc.names []).lookup x=some c:=by
 have q:=Bd sc.names n [] (.inl h)
 exact AQ.mp q
theorem kE {CX:CXT}{P:Program}{w:World}{K:PySem.W.Frag}{mg:Str→Option Value}{base:Heap}{N ps:List Str}{qual:Str}{scope:Scope}{f:Addr}{cd:Value}{A:Around}{outer:List Env}{s s1:Shared}{H:Hp}{E:XK}{us:List Value}{vs:List V}
  (S:aJ N ps scope) (hd:A.handled=none) (e0:uw P w K mg base A outer s H) (hl:vs.length=ps.length) (r:aZ vs us)
  (x:InCallC s s.heap.objs.size (bindL (envOfC qual scope s.heap.objs.size f cd).kindOf (ps.zip us) fun _=>none) (cellsFrom (s.heap.objs.size+1) scope.names []) (bindC (envOfC qual scope s.heap.objs.size f cd).kindOf (ps.zip us) fun _=>none) s1) :
  Inv (p_ CX P w K mg base N qual scope f cd A outer s H E) [] (start N vs) H s1:=by
 have hpl:ps.length≤N.length:=by have:=xF List.length S.pre;rw [w9] at this;omega
 obtain ⟨h1,tk,rfl,hk⟩:=x.done
 have noA:∀ b:Addr,b∉(p_ CX P w K mg base N qual scope f cd A outer s H E).ex:=fun b z=>absurd (show b∈([]:List Addr) from z) (by simp)
 refine ⟨⟨e0.mod,S.kind,rfl,rfl,wJ _,fun y z c h1 h2=>?_,fun y hy=>?_,fun y c _ h=>?_,fun _=>hd,Around.frames_deeper e0.frames,.inr ⟨rfl,rfl⟩,fun b z=>absurd z (noA b),e0.bs,e0.bsz,fun b _ _=>noA b,fun b z=>absurd z (noA b),e0.funs,e0.frf⟩,
  rfl,e0.bare,Un.kept hk,⟨_,x.toInCall.ns,fun i y v h1 h2 h3=>?_⟩,fun y c h=>⟨_,x.cell y c h⟩,e0.hok.fresh (wJ _),fun y c h=>?_,fun p hp=>absurd (show p∈([]:List (Addr × Obj)) from hp) (by simp),e0.hok.kept hk,?_⟩
 ·exact name_of_addr x.apart (yu h1) (yu h2)
 ·have hy:scope.names.lookup y=some .cell ∨ scope.names.lookup y=some .free:=hy
  rcases hy with hy | hy
  ·exact jh hy
  ·exact absurd rfl (S.nofree _ (yu hy))
 ·exact Bi (x.above y c (yu h))
 ·have hi:i < vs.length:=by
   unfold start at h2
   by_cases hi:i < vs.length
   ·exact hi
   ·rw [xy (by simpa using hi)] at h2
    rw [List.getElem?_replicate] at h2
    split at h2 <;> cases h2
  have ha:vs[i]? = some v:=by
   unfold start at h2
   rw [xW (by simpa using hi),wL] at h2
   cases e:vs[i]? with
   | none=>rw [e] at h2;cases h2
   | some a=>rw [e] at h2;cases h2;rfl
  obtain ⟨u,hu,rv⟩:=r.get ha
  have hp:ps[i]? = some y:=by
   rw [← S.pre,yD (by omega)];exact h1
  have ndP:ps.Nodup:=by rw [← S.pre];exact S.nd.sublist (List.take_sublist _ _)
  refine ⟨u,rv,?_⟩
  rcases S.par y (wR hp) with k | k
  ·exact .inl ⟨k,g0 ndP hp hu k⟩
  ·obtain ⟨c,e⟩:=jh (n:=s.heap.objs.size+1) k
   refine .inr ⟨.inl k,c,e,?_⟩
   have q:=x.cell y c e
   rw [g_ ndP hp hu (by show scope.names.lookup y≠_;rw [k];decide)] at q
   exact q
 ·exact e0.hok.fresh (Bi (x.above y c (yu h)))
 ·unfold start
  show _=N.length
  rw [wQ,fu,List.length_replicate]
  omega
theorem uN {CX:CXT}{P:Program}{w:World}{K:PySem.W.Frag}{mg:Str→Option Value}{base:Heap}{k:Nat}{f:Addr}{name qual:Str}{params:Arguments}{body:List Stmt}{scope:Scope}{dV kV doc pm cdv ct oc:Value}{an od:Option Addr}
  {osl:Array (Option Value)} {N ps:List Str} {sp:Sp} (lk:K.lookup f=some ⟨oc,od,.func (PySem.W.fnOf name qual params body scope dV kV doc pm an cdv ct),osl⟩) (hcd:PySem.W.codeIn K cdv qual=true) (S:aJ N ps scope)
  (len:∀ vs H Q E,sp vs H Q E→vs.length=ps.length)
  (hbody:∀ (A:Around) (outer:List Env) (s:Shared) (H:Hp) (vs:List V) (Q:VK) (E:XK),fB k (A.deeper (envOfC qual scope s.heap.objs.size f cdv))→sp vs H Q E →
   ∃ t,PSs (p_ CX P w K mg base N qual scope f cdv A outer s H E) body t∧t { nx:=fun _ H'=>Q .non H',rt:=Q } (start N vs) H) :
  m9 P w K mg base CX (k+1) f (PySem.W.fnOf name qual params body scope dV kV doc pm an cdv ct) ps sp:=by
 refine ⟨len,fun A outer s H args us vs Q E hr e0 hb r hsp=>?_⟩
 have hl:=len _ _ _ _ hsp
 have KX:K.In s.heap:=e0.mod.kin.keeps fun b o e=>(e0.bs b o e).1
 have lim:s.heap.NoLimit:=e0.mod.nolimit.keeps fun b o e=>(e0.bs b o e).1
 have hkind:∀ y∈ps.zip us,scope.names.lookup y.1=some .local ∨ (scope.names.lookup y.1=some .cell∧((cellsFrom (s.heap.objs.size+1) scope.names []).lookup y.1).isSome=true):=fun ⟨n,v⟩ hy=>by
  rcases S.par n (Bj hy).1 with q | q
  ·exact .inl q
  ·exact .inr ⟨q,Bd _ _ _ (.inl q)⟩
 refine codeAny_call_function hr.depth (KX _ _ lk) rfl S.co S.gen rfl (PySem.W.codeRec_of KX hcd) (hb _ _ _ _ ?_)
 refine wpAny_newFunctionEnv_cells S.kind hkind fun env he s1 x=>?_
 subst he
 refine ⟨lim.keeps x.toInCall.keep,codeAny_func ?_⟩
 obtain ⟨t,ht,hq⟩:=hbody A outer s H vs Q E (hr.deeper _) hsp
 have I:Inv (p_ CX P w K mg base N qual scope f cdv A outer s H E) [] (start N vs) H s1:=kE S hr.hd e0 hl r x
 refine yt (ht [] s1 (start N vs) H _ I hq) (fun fl s' hs=>?_) fun e s' hs=>hs
 have fin:∀ {σ':St} {H':Hp} {v:V} {u:Value},Inv (p_ CX P w K mg base N qual scope f cdv A outer s H E) [] σ' H' s'→bB v u→Q v H'→CE outer P w H s Q u s' :=
  fun {σ' H' v u} J rv q=>⟨v,H',J.os,J.bare,J.base,J.hok,rv,q⟩
 cases fl with
 | ret u =>
  obtain ⟨v,σ',H',J,rv,q⟩:=hs
  exact fin J rv q
 | next =>
  obtain ⟨σ',H',J,q⟩:=hs
  exact fin (v:=V.non) (u:=Value.none) J rfl q
 | brk =>
  obtain ⟨_,_,_,q⟩:=hs
  exact False.elim q
 | cont =>
  obtain ⟨_,_,_,q⟩:=hs
  exact False.elim q
section
variable {X:Cx} {x:Str} {p pos:Pos} {e:Expr} {es:List Expr} {t:TA} {id T:String} {r:List V→Hp→VK→Prop}
def r9 (r:List V→Hp→VK→Prop)(Q:VK):List V→Hp→Prop:=fun vs H1=>r vs H1 Q
def tCB (r:List V→Hp→VK→Prop)(t:TA):TE:=fun σ H Q=>t σ H (r9 r Q)
theorem az (hc:cP X (.builtin id) r)(hg:Gl X x)(hm:X.mg x=none)(hv:bootBuiltins x=some (.builtin id))(ha:PA X (e::es) t)(hn:x ≠ "__name__":=by decide)(hdb:(x == ("__debug__":Str))=false:=by decide)
  (he:starEach (e::es) X.env=(false,eval e X.env)::starEach es X.env:=by rfl) (hpl:(backTo pos (starEach es X.env)).any (·.1)=false:=by rfl):PE X (.Call (.Name x p) (e::es) [] pos) (tCB r t):=by
 intro pins s σ H Q I h
 refine AH (eI I hg hm hv ?_ hn hdb)
 exact PyProof.Rows.callWith_builtin1 (thn (ha pos pins s σ H _ I h) fun us s1 zq60=>(by obtain ⟨vs,H1,I1,r1,q1⟩:=zq60;exact hc pins s1 σ H1 vs us Q I1 r1 q1)) he hpl
theorem cn (hc:cP X (.type T) r)(hg:Gl X x)(hm:X.mg x=none)(hv:bootBuiltins x=some (.type T))(ha:PA X (e::es) t)(hn:x ≠ "__name__":=by decide)(hdb:(x == ("__debug__":Str))=false:=by decide)
  (he:starEach (e::es) X.env=(false,eval e X.env)::starEach es X.env:=by rfl) (hpl:(backTo pos (starEach es X.env)).any (·.1)=false:=by rfl):PE X (.Call (.Name x p) (e::es) [] pos) (tCB r t):=by
 intro pins s σ H Q I h
 refine AH (eI I hg hm hv ?_ hn hdb)
 exact ye (thn (ha pos pins s σ H _ I h) fun us s1 zq61=>(by obtain ⟨vs,H1,I1,r1,q1⟩:=zq61;exact hc pins s1 σ H1 vs us Q I1 r1 q1)) he hpl
end
end L2
namespace HT
open PySem PyProof.Rows
def bI:List Int→List Int→Bool
 | [],[]=>false
 | [],_::_=>true
 | _::_,[]=>false
 | x::xs,y::ys=>if x=y then bI xs ys else decide (x < y)
theorem dH (x y:Int)(xs ys:List Int):bI (x::xs) (y::ys)=if x=y then bI xs ys else decide (x < y):=rfl
theorem cU:bI [] []=false:=rfl
theorem fw (y:Int)(ys:List Int):bI [] (y::ys)=true:=rfl
theorem fx (x:Int)(xs:List Int):bI (x::xs) []=false:=rfl
theorem nD (A:Around)(s:Shared)(a:Int)(t:Tok)(c:Int)(u:Tok):∃ e,SeqAt.EqAt A s (.int a t) (.int c u) e∧(e=true ↔ a=c) :=
 ⟨(a == c),SeqAt.EqAt.int_int a t c u,by simp⟩
theorem nE (A:Around)(s:Shared)(a:Int)(t:Tok)(c:Int)(u:Tok)(prog:Program)(w:World)(E:Value→Shared→Prop)(Q:Value→Shared→Prop)(h:Q (.bool (decide (a < c))) s) :
  wpAny (model prog w) A (richCompare .Lt (.int a t) (.int c u)) Q E s :=
 (PyProof.Rows.lt_int h:wpAny (model prog w) A (compareOp .Lt (.int a t) (.int c u)) Q E s)
section
open PySem.SeqAt
open PySem.AutoSeq1 (wpAny_loadPart')
open PySem.MeetsSeq PySem.MeetsSeq2 PySem.MeetsSeq3
theorem fX (l b:Addr)(items items2:Array Value)(n n2:Nat)(dd dd2:Option Addr)(sl sl2:Array (Option Value))(ns ms:List Int)(hi:IntsAre items.toList ns)(hj:IntsAre items2.toList ms) :
  Meets (Builtin.«tuple.__lt__» ⟨[.ref l,.ref b],[]⟩)
   (fun _ R s=>s.heap.get? l=some { cls:=.type "tuple",dict:=dd,data:=.seq items n,slots:=sl }∧s.heap.get? b=some { cls:=.type "tuple",dict:=dd2,data:=.seq items2 n2,slots:=sl2 } ∧
    R (.ok (.ret (.bool (bI ns ms)))) s) :=
 .of_wp fun prog w A R s h=>by
  obtain ⟨hp,g,d,tk,os⟩:=s;obtain ⟨hl,hb,h⟩:=h
  have f2:=AutoSeq1.sub_tuple_tuple
  have z1:items.size=ns.length:=by rw [← hi.length];simp
  have z2:items2.size=ms.length:=by rw [← hj.length];simp
  wp_walk using wpAny_loadPart' hl,wpAny_loadPart' hb,wpAny_forIn_list _ (fun rest b s'=>b.1=none∧s'=⟨hp,g,d,tk,os⟩∧∃ (vs ws:List Value) (ns' ms':List Int),rest=vs.zip ws ∧
   IntsAre vs ns'∧IntsAre ws ms'∧ns'.length+items2.size=ms'.length+items.size∧R (.ok (.ret (.bool (bI ns' ms')))) ⟨hp,g,d,tk,os⟩) _
  case turn =>
   rintro ⟨y,x⟩ rest b s' ⟨hb',rfl,vs,ws,ns',ms',hz,hvi,hwi,hlen,hR⟩
   cases hvi with
   | nil=>rw [List.zip_nil_left] at hz;cases hz
   | cons a t hvi' =>
    cases hwi with
    | nil=>rw [List.zip_nil_right] at hz;cases hz
    | cons c u hwi' =>
     rw [List.zip_cons_cons] at hz
     injection hz with hyx hrest
     injection hyx with hy hx
     subst hy hx
     rw [dH] at hR
     simp only [xN] at hlen
     obtain ⟨e,he,hiff⟩:=nD A.in1 ⟨hp,g,d,tk,os⟩ a t c u
     refine wD (he prog w _ _ ?_)
     cases e with
     | true =>
      rw [if_pos (hiff.mp rfl)] at hR
      wp_walk
      exact ⟨rfl,rfl,_,_,_,_,hrest,hvi',hwi',by omega,hR⟩
     | false =>
      rw [if_neg (fun q=>absurd (hiff.mpr q) xj)] at hR
      have hri:=nE A.in1 ⟨hp,g,d,tk,os⟩ a t c u prog w
      wp_walk using hri
      exact ⟨_,rfl,by simpa using hR⟩
  case fin =>
   rintro ⟨b1,b2⟩ s' ⟨hb',rfl,vs,ws,ns',ms',hz,hvi,hwi,hlen,hR⟩
   simp only at hb'
   subst hb'
   have hv:bI ns' ms'=decide (items.size < items2.size):=by
    cases hvi with
    | nil =>
     cases hwi with
     | nil =>
      simp only [yS] at hlen
      rw [cU]
      exact (w6 (by omega)).symm
     | cons c u hw =>
      simp only [yS,xN] at hlen
      rw [fw]
      exact (xC (by omega)).symm
    | cons a t hv =>
     cases hwi with
     | nil =>
      simp only [yS,xN] at hlen
      rw [fx]
      exact (w6 (by omega)).symm
     | cons c u hw =>
      rw [List.zip_cons_cons] at hz
      cases hz
   rw [hv] at hR
   wp_walk
   exact ⟨_,rfl,by simpa [Builtin.Tuple.tupleCompareSizes] using hR⟩
  case h =>
   exact ⟨rfl,rfl,items.toList,items2.toList,ns,ms,rfl,hi,hj,by omega,h⟩
end
section
variable {prog:Program} {w:World} {A:Around} {E:Value→Shared→Prop} {s:Shared}
theorem jU {l b:Addr}{items items2:Array Value}{ns ms:List Int}{Q:Value→Shared→Prop}(hl:IsTup s.heap l items)(hb:IsTup s.heap b items2)(hi:IntsAre items.toList ns)(hj:IntsAre items2.toList ms)
  (hu:A.units < cLine) (h:Q (.bool (bI ns ms)) s):wpAny (model prog w) A (compareOp .Lt (.ref l) (.ref b)) Q E s:=by
 obtain ⟨⟨cls,dd,data,sl⟩,ho,hc,n,hd⟩:=id hl
 obtain ⟨⟨cls2,dd2,data2,sl2⟩,ho2,hc2,n2,hd2⟩:=id hb
 simp only at hc hd hc2 hd2
 subst hc hd hc2 hd2
 exact richCompare_meets_room (op:=.Lt) ⟨_,ho,rfl⟩ ⟨_,ho2,rfl⟩ PySem.F.slot_tuple_lt PySem.F.entry_tuple_lt (PySem.F.args_tuple_lt_2 _ _) (fX l b items items2 n n2 dd dd2 sl sl2 ns ms hi hj)
  ⟨ho,ho2,show Value.bool (bI ns ms)≠Value.notImplemented∧Q (.bool (bI ns ms)) s from ⟨(fun x=>nomatch x),h⟩⟩ hu
def sIx (n d:Nat):Option Int→Nat
 | none=>d
 | some v=>if v < 0 then (v+(n:Int)).toNat else min v.toNat n
theorem fY (n d:Nat):sIx n d none=d:=rfl
theorem fZ (n d k:Nat):sIx n d (some (k:Int))=min k n:=by
 show (if (k:Int) < 0 then ((k:Int)+(n:Int)).toNat else min (k:Int).toNat n)=min k n
 rw [if_neg (by omega),xu]
theorem kF (n d:Nat)(hd:d≤n)(o:Option Int):sIx n d o≤n:=by
 cases o with
 | none=>exact hd
 | some v =>
  show (if v < 0 then (v+(n:Int)).toNat else min v.toNat n)≤n
  by_cases hv:v < 0
  ·rw [if_pos hv];omega
  ·rw [if_neg hv];exact Nat.min_le_right _ _
theorem kG (v:Int)(n d:Nat):(if v < 0 then max (v+(n:Int)) 0 else min v (n:Int))=((sIx n d (some v):Nat):Int):=by
 show (if v < 0 then max (v+(n:Int)) 0 else min v (n:Int))=(((if v < 0 then (v+(n:Int)).toNat else min v.toNat n):Nat):Int)
 by_cases hv:v < 0
 ·simp only [if_pos hv];omega
 ·simp only [if_neg hv];omega
theorem jV (lo hi:Option Int)(n:Nat):Builtin.Slice.sliceAdjust lo hi 1 (n:Int)=(((sIx n 0 lo:Nat):Int),((sIx n n hi:Nat):Int)):=by
 have h1:¬ ((1:Int) < 0):=by omega
 unfold Builtin.Slice.sliceAdjust
 simp only [h1,yo]
 refine BB ?_ ?_
 ·cases lo with
  | none=>rfl
  | some v=>exact kG v n 0
 ·cases hi with
  | none=>rfl
  | some v=>exact kG v n n
theorem jW (i j:Nat):Builtin.Slice.slicePlaces (i:Int) (j:Int) 1=j - i:=by
 unfold Builtin.Slice.slicePlaces
 have h1:(1:Int) > 0:=by omega
 simp only [h1,yW,Int.ediv_one]
 split <;> omega
theorem fC {v:Value}{o:Option Int}{Q:Option Int→Shared→Prop}(p:IsPart v o)(h:Q o s):wpAny (model prog w) A (Builtin.Slice.slicePartIndex v) Q E s:=by
 cases p with
 | none=>exact AM h
 | int i t=>exact slicePart_int h
theorem cm {sl:Addr}{vl vu:Value}{lo hi:Option Int}{n:Nat}{Q:Int × Int × Nat→Shared→Prop}(hs:s.heap.IsSliceOf sl vl vu .none)(pl:IsPart vl lo)(pu:IsPart vu hi)
  (h:Q (((sIx n 0 lo:Nat):Int),1,sIx n n hi - sIx n 0 lo) s):wpAny (model prog w) A (Builtin.Slice.sliceApplied (.ref sl) (pure (n:Int))) Q E s:=by
 obtain ⟨os,hos,hcs,hds⟩:=id hs
 unfold Builtin.Slice.sliceApplied Builtin.Slice.sliceFields
 refine wD (wD (yk hos hds (x:=vl) rfl (wD (yk hos hds (x:=vu) rfl (wD (yk hos hds (x:=.none) rfl (wI ?_)))))))
 refine wD (AM ?_)
 show wpAny _ _ (if ((1:Int) == 0)=true then _ else _) _ _ s
 rw [if_neg (by decide)]
 refine wD (fC pl (wD (fC pu (wD (wI ?_)))))
 show wpAny _ _ (match Builtin.Slice.sliceAdjust lo hi 1 (n:Int) with | (lo,hi)=>pure (lo,(1:Int),Builtin.Slice.slicePlaces lo hi 1)) _ _ s
 rw [jV lo hi n]
 show wpAny _ _ (pure (((sIx n 0 lo:Nat):Int),(1:Int),Builtin.Slice.slicePlaces ((sIx n 0 lo:Nat):Int) ((sIx n n hi:Nat):Int) 1)) _ _ s
 rw [jW]
 exact wI h
theorem nF (xs:Array Value)(i k:Nat):((List.range k).filterMap fun (m:Nat)=>xs[((i:Int)+(m:Int)*1).toNat]?).toArray=((xs.toList.drop i).take k).toArray:=by
 have e:(fun (m:Nat)=>xs[((i:Int)+(m:Int)*1).toNat]?)=fun m=>xs[i+m]?:=by
  funext m
  have:((i:Int)+(m:Int)*1).toNat=i+m:=by omega
  rw [this]
 rw [e]
 have:=pick_run xs i k
 rw [List.filterMap_map] at this
 have e2:((fun x=>xs[x]?) ∘ fun x=>i+x)=fun m=>xs[i+m]?:=rfl
 rw [e2] at this
 rw [this]
theorem dI {t sl:Addr}{items:Array Value}{vl vu:Value}{lo hi:Option Int}{Q:Value→Shared→Prop}(ht:IsTup s.heap t items)(hs:s.heap.IsSliceOf sl vl vu .none)(pl:IsPart vl lo)(pu:IsPart vu hi)
  (hw:¬ (sIx items.size 0 lo=0∧sIx items.size items.size hi=items.size))
  (h:Q (.ref s.heap.objs.size) { s with heap:=s.heap.push { cls:=.type "tuple",data:=.seq ((items.toList.drop (sIx items.size 0 lo)).take (sIx items.size items.size hi - sIx items.size 0 lo)).toArray } })
  (hsz:items.size≤sizeLine):wpAny (model prog w) A (getItem (.ref t) (.ref sl)) Q E s:=by
 have htake:sizeOk (.seq ((items.toList.drop (sIx items.size 0 lo)).take (sIx items.size items.size hi - sIx items.size 0 lo)).toArray):=by
  show ((items.toList.drop (sIx items.size 0 lo)).take (sIx items.size items.size hi - sIx items.size 0 lo)).toArray.size≤sizeLine
  rw [wX,w9,xO,wN]
  omega
 have hj:sIx items.size items.size hi≤items.size:=kF _ _ (wJ _) hi
 obtain ⟨os,hos,hcs,hds⟩:=id hs
 have hTs:s.TypeIs (.ref sl) "slice":=⟨os,hos,hcs⟩
 unfold getItem
 try with_reducible refine x_ ?_
 first | refine wD (wI ?_) | skip
 refine wD (AR ht.typeIs (by decide) ?_)
 refine wD (xG (name:=Str.ofString "__getitem__") ht.typeIs xY
  (xJ xY ht.typeIs Ax ?_ (AI _ _)))
 show wpAny _ _ (Builtin.Tuple.tupleItemsOf (.ref t) >>= _) _ _ s
 refine wD (tupleItemsOf_ ht ?_)
 refine wD (AJ hTs ?_)
 rw [if_pos (by decide)]
 refine wD (cm hs pl pu ?_)
 have hno:¬ ((((sIx items.size 0 lo:Nat):Int) == 0 && (1:Int) == 1 && (sIx items.size items.size hi - sIx items.size 0 lo) == items.size)=true):=by
  intro q
  rw [xK,xK] at q
  have q1:((sIx items.size 0 lo:Nat):Int)=0:=eq_of_beq q.1.1
  have q2:sIx items.size items.size hi - sIx items.size 0 lo=items.size:=eq_of_beq q.2
  exact hw ⟨by omega,by omega⟩
 show wpAny _ _ (if (((sIx items.size 0 lo:Nat):Int) == 0 && (1:Int) == 1 && (sIx items.size items.size hi - sIx items.size 0 lo) == items.size)=true then _ else _) _ _ s
 rw [if_neg hno,nF]
 first
  | exact wD (m:=Builtin.Tuple.tupleExact _) (xP (wI ⟨_,rfl,wI h⟩) htake)
  | exact wD (m:=Builtin.Tuple.tupleExact _) (xP (wD (wI (wI ⟨_,rfl,wI h⟩))) htake)
  | exact wD (wD (m:=Builtin.Tuple.tupleExact _) (xP (wI (wI ⟨_,rfl,wI h⟩)) htake))
  | exact wD (wD (m:=Builtin.Tuple.tupleExact _) (xP (wI ⟨_,rfl,wI h⟩) htake))
end
end HT
namespace L2
open PySem PySem.Spec PyProof.Rows
abbrev TO:=St→Hp→(Option Int→Hp→Prop)→Prop
def PO (X:Cx)(e:Option Expr)(t:TO):Prop :=
 ∀ (pins:List (Addr × Obj)) (s:Shared) (σ:St) (H:Hp) (Q:Option Int→Hp→Prop),Inv X pins σ H s→t σ H Q →
  wpAny (model X.prog X.w) X.A (evalPart e X.env) (fun u s'=>∃ o H',Inv X pins σ H' s'∧IsPart u o∧Q o H') X.xe s
def qa:TO:=fun _ H Q=>Q none H
inductive IsI (x:V)(H:Hp)(Q:Option Int→Hp→Prop):Prop
 | mk:∀ i,(x = .int i)→(Q (some i) H)→IsI x H Q
def nG (Q:(Option Int→Hp→Prop)):V→Hp→Prop:=fun x H1=>IsI x H1 Q
def uO (t:TE):TO:=fun σ H Q=>t σ H (nG Q)
theorem fD {ns:List Int}:∀ {us:List Value},aZ (ns.map V.int) us→IntsAre us ns:=by
 induction ns with
 | nil=>intro us r;rw [zh] at r;cases r;exact .nil
 | cons n ns ih =>
  intro us r
  rw [xr] at r
  cases r with
  | cons r1 r2 =>
   obtain ⟨t,e⟩:=r1
   subst e
   exact .cons n t (ih r2)
section
variable {X:Cx} {e:Expr} {te:TE} {lo hi:Option Expr} {tl th:TO} {pos p2:Pos}
theorem bF:PO X none qa:=by
 intro pins s σ H Q I h
 rw [A4]
 exact wI ⟨none,H,I,.none,h⟩
theorem br (h:PE X e te):PO X (some e) (uO te):=by
 intro pins s σ H Q I hw
 rw [evalPart_some]
 refine thn (h pins s σ H _ I hw) fun u s1 zq62=>?_
 obtain ⟨x,H1,I1,r1,q1⟩:=zq62
 obtain ⟨i,rfl,q⟩:=q1
 obtain ⟨t,rfl⟩:=r1
 exact ⟨some i,H1,I1,.int i t,q⟩
def SlR (X:Cx)(r:V→Option Int→Option Int→Hp→VK→Prop):Prop :=
 ∀ (pins:List (Addr × Obj)) (s:Shared) (σ:St) (H:Hp) (x:V) (v vl vu:Value) (lo hi:Option Int) (sl:Addr) (Q:VK),Inv X pins σ H s→bB x v→s.heap.IsSliceOf sl vl vu .none→IsPart vl lo→IsPart vu hi→r x lo hi H Q →
  ∃ T id,typeLookup (.type T) "__getitem__" = pure (some (.builtin id))∧s.TypeIs v T∧wpAny (model X.prog X.w) X.A (getItem v (.ref sl)) (EP X pins σ Q) X.xe s
def r_ (r:V→Option Int→Option Int→Hp→VK→Prop)(Q:VK)(x:V)(l:Option Int):Option Int→Hp→Prop:=fun u H3=>r x l u H3 Q
def se (r:V→Option Int→Option Int→Hp→VK→Prop)(th:TO)(σ:St)(Q:VK)(x:V):Option Int→Hp→Prop:=fun l H2=>th σ H2 (r_ r Q x l)
def sf (r:V→Option Int→Option Int→Hp→VK→Prop)(tl:TO)(th:TO)(σ:St)(Q:VK):V→Hp→Prop:=fun x H1=>tl σ H1 (se r th σ Q x)
def tSl (r:V→Option Int→Option Int→Hp→VK→Prop)(te:TE)(tl th:TO):TE:=fun σ H Q=>te σ H (sf r tl th σ Q)
theorem bb {r:V→Option Int→Option Int→Hp→VK→Prop}(hr:SlR X r)(he:PE X e te)(hl:PO X lo tl)(hu:PO X hi th):PE X (.Subscript e (.Slice lo hi none p2) pos) (tSl r te tl th):=by
 intro pins s σ H Q I h
 refine AS (thn (he pins s σ H _ I h) fun v s1 zq63=>?_)
 obtain ⟨x,H1,I1,r1,q1⟩:=zq63
 refine wpAny_Slice (thn (hl pins s1 σ H1 _ I1 q1) fun vl s2 ⟨l,H2,I2,pl,q2⟩=>thn (hu pins s2 σ H2 _ I2 q2) fun vu s3 zq64=>?_)
 obtain ⟨u,H3,I3,pu,q3⟩:=zq64
 rw [A4]
 refine wI ?_
 have I4:Inv X pins σ H3 { s3 with heap:=s3.heap.push { cls:=.type "slice",data:=.fields #[vl,vu,.none] } }:=I3.kept (t':=s3.toks) fun b ob q=>wK _ q
 obtain ⟨T,id,hT,ht,hg⟩:=hr pins { s3 with heap:=s3.heap.push { cls:=.type "slice",data:=.fields #[vl,vu,.none] } } σ H3 x v vl vu l u s3.heap.objs.size Q I4 r1 (Heap.IsSliceOf.new ..) pl pu q3
 show wpAny (model X.prog X.w) X.A (subscriptTail e (.Slice lo hi none p2) v (.ref s3.heap.objs.size)) (EP X pins σ Q) X.xe { s3 with heap:=s3.heap.push { cls:=.type "slice",data:=.fields #[vl,vu,.none] } }
 exact tail_any (ops:=[.ref s3.heap.objs.size,v]) ht hT hg (by with_unfolding_all rfl)
def gN (xs:List V)(lo hi:Option Int):List V:=(xs.drop (HT.sIx xs.length 0 lo)).take (HT.sIx xs.length xs.length hi - HT.sIx xs.length 0 lo)
theorem eN (xs:List V)(lo hi:Option Int):(gN xs lo hi).length≤xs.length:=by
 unfold gN
 rw [w9,xO]
 omega
inductive vE (K:PySem.W.Frag)(x:V)(lo:Option Int)(hi:Option Int)(H:Hp)(Q:VK):Prop
 | mk:∀ a xs,(x = .ref a)→(SqT K H a xs)→(¬ (HT.sIx xs.length 0 lo=0∧HT.sIx xs.length xs.length hi=xs.length))→(∀ p,H p=none→Q (.ref p) (upd H p (.tup (gN xs lo hi))))→vE K x lo hi H Q
theorem si:SlR X (vE X.K):=by
 intro pins s σ H x v vl vu lo hi sl Q I rx hs pl pu h
 obtain ⟨a,xs,rfl,hx,hw,q⟩:=h
 cases rx
 obtain ⟨its,r,ht,hz⟩:=I.tuple hx
 have hlen:its.toArray.size=xs.length:=by rw [wX];exact r.length.symm
 refine ⟨"tuple",_,xY.lookup,ht.typeIs,?_⟩
 refine HT.dI ht hs pl pu (by rw [hlen];exact hw) ?_ (by rw [hlen];exact hz)
 rw [hlen]
 refine ⟨.ref s.heap.objs.size,_,I.laid (t':=s.toks) (o:=.tup (gN xs lo hi)) (fun b ob q=>wK _ q) (wJ _) ?_,rfl,q _ (I.hok.fresh (wJ _))⟩
 exact ⟨xq (eN xs lo hi) hz,_,(r.drop (HT.sIx xs.length 0 lo)).take (HT.sIx xs.length xs.length hi - HT.sIx xs.length 0 lo),IsTup.new _ _,.new _ _ rfl⟩
inductive uP (K:PySem.W.Frag)(x:V)(y:V)(H:Hp)(Q:VK):Prop
 | mk:∀ a b ns ms,(x = .ref a)→(y = .ref b)→(SqT K H a (ns.map V.int))→(SqT K H b (ms.map V.int))→(Q (.bl (HT.bI ns ms)) H)→uP K x y H Q
theorem sj (hu:X.A.units < cLine):OpR X (compareOp .Lt) (uP X.K):=by
 intro pins s σ H x y v u Q I rx ry h
 obtain ⟨a,b,ns,ms,rfl,rfl,ha,hb,q⟩:=h
 cases rx
 cases ry
 obtain ⟨its,r1,p1,_⟩:=I.tuple ha
 obtain ⟨its2,r2,p2,_⟩:=I.tuple hb
 have i1:IntsAre its.toArray.toList ns:=fD r1
 have i2:IntsAre its2.toArray.toList ms:=fD r2
 exact HT.jU p1 p2 i1 i2 hu ⟨.bl (HT.bI ns ms),H,I,rfl,q⟩
end
def ixN (n:Nat)(i:Int):Option Nat:=if 0≤i then (if i < n then some i.toNat else none) else if -(n:Int)≤i then some (i+n).toNat else none
def atI {α:Type}(xs:List α)(i:Int):Option α:=(ixN xs.length i).bind fun j=>xs[j]?
theorem kH {n:Nat}{i:Int}{j:Nat}(h:ixN n i=some j):seqIndex? i n=some j∧j < n∧-(n:Int)≤i∧i < n:=by
 unfold ixN at h
 by_cases h0:0≤i
 ·rw [if_pos h0] at h
  by_cases h1:i < n
  ·rw [if_pos h1] at h
   have e:i.toNat=j:=wO h
   exact ⟨by rw [seqIndex_of h0 h1,e],by omega,by omega,h1⟩
  ·rw [if_neg h1] at h;cases h
 ·rw [if_neg h0] at h
  by_cases h1:-(n:Int)≤i
  ·rw [if_pos h1] at h
   have e:(i+n).toNat=j:=wO h
   exact ⟨by rw [seqIndex_neg (by omega) h1,e],by omega,h1,by omega⟩
  ·rw [if_neg h1] at h;cases h
theorem iQ {α:Type}{xs:List α}{i:Int}{v:α}(h:atI xs i=some v):∃ j,seqIndex? i xs.length=some j∧xs[j]? = some v∧j < xs.length∧-(xs.length:Int)≤i∧i < xs.length:=by
 unfold atI at h
 cases e:ixN xs.length i with
 | none=>rw [e] at h;cases h
 | some j =>
  rw [e] at h
  obtain ⟨h1,h2,h3,h4⟩:=kH e
  exact ⟨j,h1,h,h2,h3,h4⟩
theorem cq {α:Type}{xs:List α}{j:Nat}{v:α}(h:xs[j]? = some v):atI xs (j:Int)=some v:=by
 have hj:j < xs.length:=(wG.mp h).1
 have e:ixN xs.length (j:Int)=some j:=by
  unfold ixN
  rw [if_pos (by omega),if_pos (by omega)];simp
 unfold atI;rw [e];exact h
theorem ji {α:Type}(xs:List α)(v:α):atI (xs++[v]) (-1)=some v:=by
 have hl:(xs++[v]).length=xs.length+1:=by simp
 have e:ixN (xs++[v]).length (-1)=some xs.length:=by
  unfold ixN
  rw [hl,if_neg (by decide),if_pos (by omega)]
  congr 1
  omega
 unfold atI
 rw [e]
 show (xs++[v])[xs.length]? = some v
 simp
def kI (b:Expr):Prop:=∀ o i,subscripted b false o i=operate [o,i] (getItem o i)
def IxR (X:Cx)(r:R2):Prop :=
 ∀ (value slice:Expr) (pins:List (Addr × Obj)) (s:Shared) (σ:St) (H:Hp) (x y:V) (v u:Value) (Q:VK),Inv X pins σ H s→bB x v→bB y u→r x y H Q →
  subscripted slice false v u=operate [v,u] (getItem v u)→wpAny (model X.prog X.w) X.A (subscriptTail value slice v u) (EP X pins σ Q) X.xe s
def MtR (X:Cx)(id:String)(r:V→List V→Hp→VK→Prop):Prop :=
 ∀ (pins:List (Addr × Obj)) (s:Shared) (σ:St) (H:Hp) (x:V) (xs:List V) (v:Value) (us:List Value) (Q:VK),Inv X pins σ H s→bB x v→aZ xs us→r x xs H Q →
  wpAny (model X.prog X.w) X.A (call (.builtin id) (v::us)) (EP X pins σ Q) X.xe s
section
variable {X:Cx} {a b:Expr} {ta tb:TE} {pos:Pos}
theorem aK {r:R2}(hr:IxR X r)(ha:PE X a ta)(hb:PE X b tb)(hs:kI b):PE X (.Subscript a b pos) (tOp r ta tb):=by
 intro pins s σ H Q I h
 exact AS (uJ ha hb I h fun v u s2 x y H2 I2 rx ry q=>hr a b pins s2 σ H2 x y v u Q I2 rx ry q (hs _ _))
inductive uQ (K:PySem.W.Frag)(x:V)(y:V)(H:Hp)(Q:VK):Prop
 | mk:∀ p xs i v,(x = .ref p)→(y = .int i)→(SqL K H p xs)→(atI xs i=some v)→(Q v H)→uQ K x y H Q
inductive uR (K:PySem.W.Frag)(x:V)(y:V)(H:Hp)(Q:VK):Prop
 | mk:∀ p xs i v,(x = .ref p)→(y = .int i)→(SqT K H p xs)→(atI xs i=some v)→(Q v H)→uR K x y H Q
inductive vF (x:V)(y:V)(H:Hp)(Q:VK):Prop
 | mk:∀ z i c,(x = .str z)→(y = .int i)→(z.length≤sizeLine)→(atI z.cps.toList i=some c)→(Q (.str ⟨#[c]⟩) H)→vF x y H Q
theorem aU:IxR X (uQ X.K):=by
 intro value slice pins s σ H x y v u Q I rx ry h hs
 obtain ⟨p,xs,i,z,rfl,rfl,hq,he,q⟩:=h
 cases rx
 obtain ⟨t,rfl⟩:=ry
 obtain ⟨its,r,pl,hz⟩:=I.list hq
 obtain ⟨j,h1,h2,h3,h4,h5⟩:=iQ he
 obtain ⟨w,ew,rw'⟩:=r.get h2
 have hl:=r.length
 have hn:=cT
 have fin:EP X pins σ Q w s:=⟨z,H,I,rw',q⟩
 by_cases h0:0≤i
 ·have hj:i.toNat=j:=by
   rw [seqIndex_of h0 h5] at h1
   exact wO h1
  exact item_listR pl.isList h0 (by omega) (by rw [hj];simpa using ew) fin hs
 ·have hj:(i+(its.toArray.size:Int)).toNat=j:=by
   rw [seqIndex_neg (by omega) h4] at h1
   rw [wX,← hl]
   exact wO h1
  exact subscriptTail_builtinR (x:=w) pl.isList.typeIs slot_list_getitem.lookup
   (wpAny_getItem_list_neg (Q:=fun r s'=>r=w∧EP X pins σ Q r s') pl.isList (by omega) (by rw [wX] <;> omega) (by omega) (by rw [hj];simpa using ew) ⟨rfl,fin⟩) hs
theorem bJ:IxR X (uR X.K):=by
 intro value slice pins s σ H x y v u Q I rx ry h hs
 obtain ⟨p,xs,i,z,rfl,rfl,hq,he,q⟩:=h
 cases rx
 obtain ⟨t,rfl⟩:=ry
 obtain ⟨its,r,pl,hz⟩:=I.tuple hq
 obtain ⟨j,h1,h2,h3,h4,h5⟩:=iQ he
 obtain ⟨w,ew,rw'⟩:=r.get h2
 have hl:=r.length
 have hn:=cT
 have fin:EP X pins σ Q w s:=⟨z,H,I,rw',q⟩
 exact subscriptTail_builtinR (x:=w) pl.typeIs slot_tuple_getitem.lookup
  (getItem_tuple (j:=j) (Q:=fun r s'=>r=w∧EP X pins σ Q r s') pl (by omega) (by omega) (by rw [wX,← hl];exact h1) (by simpa using ew) ⟨rfl,fin⟩) hs
theorem dX:IxR X vF:=by
 intro value slice pins s σ H x y v u Q I rx ry h hs
 obtain ⟨z,i,c,rfl,rfl,hz,he,q⟩:=h
 obtain ⟨t,rfl⟩:=rx
 obtain ⟨t',rfl⟩:=ry
 obtain ⟨j,h1,h2,h3,h4,h5⟩:=iQ he
 have hl:z.cps.toList.length=z.length:=by simp [Str.length]
 rw [hl] at h1 h4 h5
 have hn:=cT
 exact tail_any (Au s z t) slot_str_getitem.lookup (getItem_str (c:=c) (by
  have e1:decide (i < -(2 ^ 63:Int))=false:=w6 (by omega)
  have e2:decide (i≥2 ^ 63)=false:=w6 (by omega)
  rw [e1,e2,Bs]) (by rw [h1];simpa using h2) ⟨.str ⟨#[c]⟩,H,I.tok _,⟨_,rfl⟩,q⟩) hs
theorem jX (its:List Value)(n j:Nat)(u:Value):Obj.mapSeq (·.setIfInBounds j u) { cls:=.type "list",data:=.seq its.toArray n }={ cls:=.type "list",data:=.seq (its.set j u).toArray n }:=by
 simp [Obj.mapSeq]
theorem Inv.lst {pins:List (Addr × Obj)}{σ:St}{H:Hp}{s:Shared}{p:Addr}{xs:List V}(I:Inv X pins σ H s)(h:H p=some (.lst xs)) :
  ∃ (its:List Value) (n:Nat),aZ xs its∧s.heap.get? p=some { cls:=.type "list",data:=.seq its.toArray n }∧xs.length≤sizeLine:=by
 obtain ⟨z,its,n,r,e⟩:=I.hok p _ h
 exact ⟨its,n,r,e,z⟩
theorem Inv.lstUpd {pins:List (Addr × Obj)}{σ:St}{H:Hp}{s:Shared}{p:Addr}{xs ys:List V}{its its':List Value}{n n':Nat}{f:Obj→Obj}(I:Inv X pins σ H s)(h:H p=some (.lst xs))
  (ho:s.heap.get? p=some { cls:=.type "list",data:=.seq its.toArray n }) (hf:f { cls:=.type "list",data:=.seq its.toArray n }={ cls:=.type "list",data:=.seq its'.toArray n' }) (r:aZ ys its') (hz:ys.length≤sizeLine) (t:Nat) :
  Inv X pins σ (upd H p (.lst ys)) { s with heap:=s.heap.update p f,toks:=t }:=by
 have e:(s.heap.update p f).get? p=some { cls:=.type "list",data:=.seq its'.toArray n' }:=by
  rw [yN f ho (by rw [hf] <;> rfl),hf]
 refine I.write (x:=p) (e:=p) (by rw [h];trivial) (.inl rfl) (fun b u hb q=>(x9 _ _ (Ne.symm hb)).trans q) ⟨_,e⟩ ?_
 exact ⟨hz,its',n',r,e⟩
inductive sk (o:V)(i:V)(v:V)(H:Hp)(Q:(Hp→Prop)):Prop
 | mk:∀ p xs k j,(o = .ref p)→(i = .int k)→(H p=some (.lst xs))→(ixN xs.length k=some j)→(Q (upd H p (.lst (xs.set j v))))→sk o i v H Q
theorem eg:vB X sk:=by
 intro pins s σ H o i v ov iv u Q I ro ri rv h
 obtain ⟨p,xs,k,j,rfl,rfl,hp,hj,q⟩:=h
 cases ro
 obtain ⟨t,rfl⟩:=ri
 obtain ⟨its,n,r,ho,hz⟩:=I.lst hp
 obtain ⟨h1,h2,h3,h4⟩:=kH hj
 have hl:=r.length
 have hn:=cT
 have I':Inv X pins σ (upd H p (.lst (xs.set j v))) { s with heap:=s.heap.update p (Obj.mapSeq (·.setIfInBounds j u)) } :=
  I.lstUpd hp ho (jX its n j u) (r.set rv j) (by rw [List.length_set];exact hz) s.toks
 by_cases h0:0≤k
 ·have hk:k.toNat=j:=by
   rw [seqIndex_of h0 h4] at h1
   exact wO h1
  exact PySem.W.ki_setAt ho h0 (by omega) (by rw [wX,← hl];exact h4) (by rw [hk];exact ⟨_,I',q⟩)
 ·have hk:(k+(its.toArray.size:Int)).toNat=j:=by
   rw [seqIndex_neg (by omega) h3] at h1
   rw [wX,← hl]
   exact wO h1
  exact PySem.W.ki_setBack ho (by omega) (by rw [wX,← hl];exact h3) (by omega) (by rw [hk];exact ⟨_,I',q⟩)
theorem hG (lo hi:Option Int)(n:Nat):(sliceBounds lo hi none n).1=((HT.sIx n 0 lo:Nat):Int)∧(sliceBounds lo hi none n).2.1=((HT.sIx n n hi:Nat):Int)∧(sliceBounds lo hi none n).2.2=1:=by
 refine ⟨?_,?_,rfl⟩
 ·cases lo with
  | none=>simp [sliceBounds,HT.sIx]
  | some i =>
   simp only [sliceBounds,HT.sIx,Option.getD_none,show (1:Int) > 0 by decide,yW]
   by_cases h:i < 0
   ·simp only [h,yW] <;> omega
   ·simp only [h,yo] <;> omega
 ·cases hi with
  | none=>simp [sliceBounds,HT.sIx]
  | some i =>
   simp only [sliceBounds,HT.sIx,Option.getD_none,show (1:Int) > 0 by decide,yW]
   by_cases h:i < 0
   ·simp only [h,yW] <;> omega
   ·simp only [h,yo] <;> omega
theorem f_ (its:List Value)(lo hi:Option Int):slicePick its.toArray lo hi none=((its.drop (HT.sIx its.length 0 lo)).take (HT.sIx its.length its.length hi - HT.sIx its.length 0 lo)).toArray:=by
 obtain ⟨h1,h2,h3⟩:=hG lo hi its.toArray.size
 unfold slicePick
 rw [h1,h2,h3]
 simp only [sliceRange_one,pick_run,wX] <;> rfl
inductive vG (K:PySem.W.Frag)(x:V)(lo:Option Int)(hi:Option Int)(H:Hp)(Q:VK):Prop
 | mk:∀ a xs,(x = .ref a)→(SqL K H a xs)→(∀ p,H p=none→Q (.ref p) (upd H p (.lst (gN xs lo hi))))→vG K x lo hi H Q
theorem iR:SlR X (vG X.K):=by
 intro pins s σ H x v vl vu lo hi sl Q I rx hs pl pu h
 obtain ⟨a,xs,rfl,hx,q⟩:=h
 cases rx
 obtain ⟨its,r,ht,hz⟩:=I.list hx
 have hlen:=r.length
 refine ⟨"list",_,slot_list_getitem.lookup,ht.isList.typeIs,?_⟩
 refine wpAny_getItem_list_slice ht.isList hs pl pu .none (by simp) ?_ (by rw [wX] <;> omega)
 rw [f_,← hlen]
 refine ⟨.ref s.heap.objs.size,_,I.laid (t':=s.toks) (o:=.lst (gN xs lo hi)) (fun b ob q=>wK _ q) (wJ _) ?_,rfl,q _ (I.hok.fresh (wJ _))⟩
 exact ⟨xq (eN xs lo hi) hz,_,0,(r.drop (HT.sIx xs.length 0 lo)).take (HT.sIx xs.length xs.length hi - HT.sIx xs.length 0 lo),wV _ rfl⟩
inductive cL (K:PySem.W.Frag)(xs:List V)(H:Hp)(Q:VK):Prop
 | mk:∀ p ys,(xs=[.ref p])→((SqL K H p ys ∨ SqT K H p ys))→(Q (.int ys.length) H)→cL K xs H Q
theorem aI:cP X (.builtin "len") (cL X.K):=by
 intro pins s σ H xs us Q I r h
 obtain ⟨p,ys,rfl,hq,q⟩:=h
 obtain ⟨u,rfl,rx⟩:=cI r
 cases rx
 have hn:=cT
 rcases hq with hq | hq
 ·obtain ⟨its,r',pl,hz⟩:=I.list hq
  have hlen:=r'.length
  exact Calls.call_len_list pl.isList (by simp only [wX] <;> omega) ⟨.int ys.length,H,I.tok _,⟨s.toks+1,by rw [wX,hlen]⟩,q⟩
 ·obtain ⟨its,r',pl,hz⟩:=I.tuple hq
  have hlen:=r'.length
  exact len_tuple pl (by simp only [wX] <;> omega) ⟨.int ys.length,H,I.tok _,⟨s.toks+1,by rw [wX,hlen]⟩,q⟩
inductive cM  (xs:List V)(H:Hp)(Q:VK):Prop
 | mk:∀ z,(xs=[.str z])→(z.length≤sizeLine)→(Q (.int z.length) H)→cM xs H Q
theorem aP:cP X (.builtin "len") cM:=by
 intro pins s σ H xs us Q I r h
 obtain ⟨z,rfl,hz,q⟩:=h
 obtain ⟨u,rfl,t,rfl⟩:=cI r
 have hn:=cT
 exact len_str (by omega) ⟨.int z.length,H,I.tok _,⟨_,rfl⟩,q⟩
inductive cN (K:PySem.W.Frag)(xs:List V)(H:Hp)(Q:VK):Prop
 | mk:∀ p ys,(xs=[.ref p])→((SqL K H p ys ∨ SqT K H p ys))→(∀ l,H l=none→Q (.ref l) (upd H l (.lst ys)))→cN K xs H Q
theorem dY:cP X (.type "list") (cN X.K):=by
 intro pins s σ H xs us Q I r h
 obtain ⟨p,ys,rfl,hq,q⟩:=h
 obtain ⟨u,rfl,rx⟩:=cI r
 cases rx
 have fin:∀ (its:List Value),aZ ys its→ys.length≤sizeLine→∀ (h':Heap) (c':Nat),(∀ b o',s.heap.get? b=some o'→h'.get? b=some o') →
   h'.get? s.heap.objs.size=some { cls:=.type "list",dict:=none,data:=.seq its.toArray c',slots:=#[] }→EP X pins σ Q (.ref s.heap.objs.size) { s with heap:=h' }:=fun its r' hz h' c' kp e =>
  ⟨.ref s.heap.objs.size,_,I.laid (t':=s.toks) kp (wJ _) (show bH X.prog X.w _ h' _ (.lst ys) from ⟨hz,its,c',r',e⟩),rfl,q _ (I.hok.fresh (wJ _))⟩
 rcases hq with hq | hq
 ·obtain ⟨its,r',pl,hz⟩:=I.list hq
  have hlen:=r'.length
  obtain ⟨o,ho,hc,n,hd⟩:=pl.isList
  exact call_list_seq p (.inl rfl) ho hc hd (fun h' c' kp e=>fin its r' hz h' c' kp e) (by simp only [wX] <;> omega)
 ·obtain ⟨its,r',pl,hz⟩:=I.tuple hq
  have hlen:=r'.length
  obtain ⟨o,ho,hc,n,hd⟩:=pl
  exact call_list_seq p (.inr rfl) ho hc hd (fun h' c' kp e=>fin its r' hz h' c' kp e) (by simp only [wX] <;> omega)
inductive bQ (K:PySem.W.Frag)(xs:List V)(H:Hp)(Q:VK):Prop
 | mk:∀ p ys,(xs=[.ref p])→(((SqL K H p ys∧∀ l,H l=none→Q (.ref l) (upd H l (.tup ys))) ∨ (SqT K H p ys∧Q (.ref p) H)))→bQ K xs H Q
theorem cf:cP X (.type "tuple") (bQ X.K):=by
 intro pins s σ H xs us Q I r h
 obtain ⟨p,ys,rfl,h⟩:=h
 obtain ⟨u,rfl,rx⟩:=cI r
 cases rx
 rcases h with ⟨hq,q⟩ | ⟨hq,q⟩
 ·obtain ⟨its,r',pl,hz⟩:=I.list hq
  have hlen:=r'.length
  refine call_tuple_list pl.isList (fun h' kp=>?_) (by simp only [wX] <;> omega)
  have I1:Inv X pins σ H { s with heap:=h' }:=I.kept (t':=s.toks) kp
  have I2:Inv X pins σ (upd H h'.objs.size (.tup ys)) { s with heap:=h'.push { cls:=.type "tuple",data:=.seq its.toArray } } :=
   I1.laid (t':=s.toks) (fun b o e=>wK _ e) (wJ _) (show bH X.prog X.w _ _ _ (.tup ys) from ⟨hz,its,r',IsTup.new _ _,.new _ _ rfl⟩)
  exact ⟨.ref h'.objs.size,_,I2,rfl,q _ (I1.hok.fresh (wJ _))⟩
 ·obtain ⟨its,r',pl,hz⟩:=I.tuple hq
  exact call_tuple_same pl ⟨.ref p,H,I,rfl,q⟩
def tyV (K:PySem.W.Frag)(T:String)(x:V)(H:Hp):Prop:=match x with
 | .str _=>T = "str"
 | .int _=>T = "int"
 | .ref p=>(T = "list"∧∃ xs,SqL K H p xs) ∨ (T = "tuple"∧((∃ o,K.lookup p=some o∧o.cls = .type "tuple"∧o.dict=none) ∨ ∃ xs,H p=some (.tup xs))) ∨
   (T = "dict"∧((∃ kvs,H p=some (.dK kvs)) ∨ ∃ kvs,H p=some (.dT kvs))) ∨ (T = "set"∧∃ S n,H p=some (.set S n))
 | _=>False
theorem px {pins:List (Addr × Obj)}{σ:St}{H:Hp}{s:Shared}{T:String}{x:V}{v:Value}(I:Inv X pins σ H s)(r:bB x v)(ty:tyV X.K T x H) :
  s.TypeIs v T∧∀ a,v = .ref a→∃ ob,s.heap.get? a=some ob∧ob.dict=none:=by
 cases x with
 | str z =>
  obtain ⟨t,rfl⟩:=r
  cases (show T = "str" from ty)
  exact ⟨Au s z t,fun _ e=>nomatch e⟩
 | int i =>
  obtain ⟨t,rfl⟩:=r
  cases (show T = "int" from ty)
  exact ⟨typeIs_int s i t,fun _ e=>nomatch e⟩
 | ref p =>
  cases r
  rcases ty with ⟨rfl,xs,hq⟩ | ⟨rfl,⟨o,hk,hc,hd⟩ | ⟨xs,hk⟩⟩ | ⟨rfl,hk⟩ | ⟨rfl,S,n,hk⟩
  ·obtain ⟨its,_,pl,_⟩:=I.list hq
   refine ⟨pl.isList.typeIs,fun a e=>?_⟩
   cases e
   obtain ⟨o,n,e,c,hd,_⟩:=pl
   exact ⟨o,e,hd⟩
  ·refine ⟨⟨o,I.kIn p o hk,hc⟩,fun a e=>?_⟩
   cases e
   exact ⟨o,I.kIn _ o hk,hd⟩
  ·obtain ⟨_,_,_,⟨o,e,hc,_⟩,hn⟩:=I.hok p _ hk
   refine ⟨⟨o,e,hc⟩,fun a e=>?_⟩
   cases e
   exact hn
  ·have z:∃ o,s.heap.get? p=some o∧o.ExactDict:=by
    rcases hk with ⟨kvs,hk⟩ | ⟨kvs,hk⟩
    ·obtain ⟨_,_,_,_,o,_,_,e,ex,_⟩:=I.hok p _ hk
     exact ⟨o,e,ex⟩
    ·obtain ⟨_,_,_,_,o,_,_,e,ex,_⟩:=I.hok p _ hk
     exact ⟨o,e,ex⟩
   obtain ⟨o,e,ex⟩:=z
   refine ⟨⟨o,e,ex.1⟩,fun a e2=>?_⟩
   cases e2
   exact ⟨o,e,ex.2.1⟩
  ·obtain ⟨o,_,_,_,e,ex,_⟩:=I.hok p _ hk
   refine ⟨⟨o,e,ex.1⟩,fun a e2=>?_⟩
   cases e2
   exact ⟨o,e,ex.2.1⟩
 | _=>exact False.elim ty
def qb (K:PySem.W.Frag)(T:String)(r:V→List V→Hp→VK→Prop)(Q:VK):V→Hp→Prop:=fun x H1=>tyV K T x H1∧r x [] H1 Q
def vH (K:PySem.W.Frag)(T:String)(r:V→List V→Hp→VK→Prop)(to:TE):TE:=fun σ H Q=>to σ H (qb K T r Q)
def sq (r:V→List V→Hp→VK→Prop)(Q:VK)(x:V):List V→Hp→Prop:=fun xs H2=>r x xs H2 Q
def su (K:PySem.W.Frag)(T:String)(r:V→List V→Hp→VK→Prop)(t:TA)(σ:St)(Q:VK):V→Hp→Prop:=fun x H1=>tyV K T x H1∧t σ H1 (sq r Q x)
def tBM (K:PySem.W.Frag)(T:String)(r:V→List V→Hp→VK→Prop)(to:TE)(t:TA):TE:=fun σ H Q=>to σ H (su K T r t σ Q)
variable {o e:Expr} {es:List Expr} {to:TE} {t:TA} {name:Str} {apos cpos:Pos} {T id:String} {r:V→List V→Hp→VK→Prop}
theorem eO (pa:PlainAttrs T)(slot:Slot T name id)(hty:typeOf (.builtin id)=pure (.type "method_descriptor"))(hm:MtR X id r)(ho:PE X o to)
  (hbase:attributeBase o name X.env (eval o X.env)=eval o X.env:=by rfl) (hline:(apos.endLine == cpos.line)=true:=by rfl):PE X (.Call (.Attribute o name apos) [] [] cpos) (vH X.K T r to):=by
 intro pins s σ H Q I h
 refine wpAny_Call_method0_late hbase hline (thn (ho pins s σ H _ I h) fun v s1 zq65=>?_)
 obtain ⟨x,H1,I1,r1,ty,q1⟩:=zq65
 obtain ⟨h1,h2⟩:=px I1 r1 ty
 exact ⟨T,id,pa,slot,hty,h1,h2,Calls.callWith_builtin rfl (PySem.evalArgs_none (hm pins s1 σ H1 x [] v [] Q I1 r1 .nil q1))⟩
theorem bR (pa:PlainAttrs T)(slot:Slot T name id)(hty:typeOf (.builtin id)=pure (.type "method_descriptor"))(hm:MtR X id r)(ho:PE X o to)(ha:PA X (e::es) t)
  (hbase:attributeBase o name X.env (eval o X.env)=eval o X.env:=by rfl)
  (hfew:((backTo cpos (starEach (e::es) X.env)).all (fun x=>!x.1) && (backToKw cpos (keywordEach [] X.env)).all (fun x=>x.1.isSome)
   && decide ((e::es).length+([]:List Keyword).length+(if ([]:List Keyword).isEmpty then 0 else 1) < 30))=true:=by rfl)
  (hline:(apos.endLine == cpos.line)=true:=by rfl) (hs:starEach (e::es) X.env=(false,eval e X.env)::starEach es X.env:=by rfl) (hplain:(backTo cpos (starEach es X.env)).any (·.1)=false:=by rfl) :
  PE X (.Call (.Attribute o name apos) (e::es) [] cpos) (tBM X.K T r to t):=by
 intro pins s σ H Q I h
 refine wpAny_Call_method_late hbase hfew hline rfl (thn (ho pins s σ H _ I h) fun v s1 zq66=>?_)
 obtain ⟨x,H1,I1,r1,ty,q1⟩:=zq66
 obtain ⟨h1,h2⟩:=px I1 r1 ty
 refine ⟨T,id,pa,slot,hty,h1,h2,?_⟩
 have hA:=ha cpos pins s1 σ H1 _ I1 q1
 rw [hs] at hA ⊢
 refine Calls.callWith_builtin (by show (false || (backTo cpos (starEach es X.env)).any (·.1))=false;rw [hplain] <;> rfl) (Calls.evalArgs_plain ?_)
 exact thn hA fun us s2 zq67=>(by obtain ⟨vs,H2,I2,r2,q2⟩:=zq67;exact hm pins s2 σ H2 x vs v us Q I2 r1 r2 q2)
/- xs.append(e),list.index on a module's tuple .. are MtR facts of 06m -/
end
def MtM (X:Cx)(id:String)(r:V→List V→Hp→VK→Prop):Prop :=
 ∀ (pins:List (Addr × Obj)) (s:Shared) (σ:St) (H:Hp) (x:V) (xs:List V) (v:Value) (us:List Value) (Q:VK),Inv X pins σ H s→bB x v→aZ xs us→r x xs H Q →
  wpAny (model X.prog X.w) X.A (call (.builtin id) (v::us)) (EP X pins σ Q) X.xe s
theorem aZ.one:∀ {x:V} {us:List Value},aZ [x] us→∃ u,us=[u]∧bB x u
 | _,_,.cons r .nil=>⟨_,rfl,r⟩
theorem aZ.zero:∀ {us:List Value},aZ [] us→us=[]
 | _,.nil=>rfl
theorem aZ.dropLast {xs:List V}{us:List Value}(h:aZ xs us):aZ xs.dropLast us.dropLast:=by
 induction h with
 | nil=>exact .nil
 | cons r t ih =>
  cases t with
  | nil=>exact .nil
  | cons q t'=>exact .cons r ih
theorem aZ.reverse {xs:List V}{us:List Value}(h:aZ xs us):aZ xs.reverse us.reverse:=by
 induction h with
 | nil=>exact .nil
 | cons r t ih=>rw [List.reverse_cons,List.reverse_cons];exact aZ.append ih (.cons r .nil)
theorem jY {α:Type}(l:List α):l.eraseIdx (l.length - 1)=l.dropLast:=by
 induction l with
 | nil=>rfl
 | cons a r ih =>
  cases r with
  | nil=>rfl
  | cons b r =>
   have e:(a::b::r).length - 1=((b::r).length - 1)+1:=by
    have h1:(a::b::r).length=r.length+2:=rfl
    have h2:(b::r).length=r.length+1:=rfl
    omega
   rw [e,List.eraseIdx_cons_succ,ih]
   all_goals rfl
section
variable {X:Cx} {pins:List (Addr × Obj)} {σ:St} {H:Hp} {s:Shared} {l b:Addr} {xs ys zs:List V}
theorem Inv.lset {its its':List Value}{n:Nat}{f:Array Value→Array Value}{t':Nat}(I:Inv X pins σ H s)(hH:H l=some (.lst xs))
  (e:s.heap.get? l=some { cls:=.type "list",data:=.seq its.toArray n }) (hf:f its.toArray=its'.toArray) (hv:aZ ys its') (hz:ys.length≤sizeLine) :
  Inv X pins σ (upd H l (.lst ys)) { s with heap:=s.heap.update l (Obj.mapSeq f),toks:=t' }:=by
 have q:=A9 e f
 rw [hf] at q
 refine I.write (x:=l) (e:=l) (by rw [hH];exact trivial) (.inl rfl) (fun b' u hb hu=>(x9 s.heap (Obj.mapSeq f) (Ne.symm hb)).trans hu) ⟨_,q⟩ ?_
 exact ⟨hz,its',_,hv,q⟩
theorem Inv.lstM (I:Inv X pins σ H s)(hH:H l=some (.lst xs)):xs.length≤sizeLine∧∃ (its:List Value) (n:Nat),aZ xs its∧xs.length=its.length∧s.heap.get? l=some { cls:=.type "list",data:=.seq its.toArray n }:=by
 obtain ⟨z,its,n,r,e⟩:=I.hok l _ hH
 exact ⟨z,its,n,r,r.length,e⟩
theorem nH {n:Nat}(h:n≤sizeLine):Builtin.List.listTooLong n=false:=by
 unfold Builtin.List.listTooLong
 exact w6 (by omega)
end
section
variable {X:Cx}
inductive kJ (x:V)(vs:List V)(H:Hp)(Q:VK):Prop
 | mk:∀ l xs y,(x = .ref l)→(vs=[y])→(H l=some (.lst xs))→(xs.length < sizeLine)→(Q .non (upd H l (.lst (xs++[y]))))→kJ x vs H Q
theorem cu:MtM X "list.append" kJ:=by
 intro pins s σ H x vs v us Q I rx rv h
 obtain ⟨l,xs,y,rfl,rfl,hH,hz,q⟩:=h
 cases rx
 obtain ⟨u,rfl,ru⟩:=rv.one
 obtain ⟨z,its,n,r,hl,e⟩:=I.lstM hH
 refine z4 yd ⟨_,e,rfl⟩ Ay (An _ _) (AU l its.toArray n u (by rw [wX];omega)) ⟨e,?_⟩
 refine ⟨.non,_,I.lset (its':=its++[u]) hH e (by simp) (r.append (.cons ru .nil)) ?_,rfl,q⟩
 rw [wQ,Ac]
 omega
inductive kK (x:V)(vs:List V)(H:Hp)(Q:VK):Prop
 | mk:∀ l b xs zs,(x = .ref l)→(vs=[.ref b])→(H l=some (.lst xs))→(H b=some (.lst zs))→(xs.length+zs.length≤sizeLine)→(Q .non (upd H l (.lst (xs++zs))))→kK x vs H Q
theorem bX:MtM X "list.extend" kK:=by
 intro pins s σ H x vs v us Q I rx rv h
 obtain ⟨l,b,xs,zs,rfl,rfl,hH,hB,hz,q⟩:=h
 cases rx
 obtain ⟨u,rfl,ru⟩:=rv.one
 cases ru
 obtain ⟨z,its,n,r,hl,e⟩:=I.lstM hH
 obtain ⟨z2,its2,n2,r2,hl2,e2⟩:=I.lstM hB
 have hsz:its.toArray.size+its2.toArray.size≤sizeLine:=by rw [wX,wX];omega
 have hlong:¬ (!its.toArray.isEmpty && Builtin.List.listTooLong (its.toArray.size+its2.toArray.size))=true:=by
  rw [nH hsz,Bool.and_false]
  exact xj
 refine z4 F.slot_list_extend ⟨_,e,rfl⟩ F.entry_list_extend (F.args_list_extend_2 _ _)
  (AutoSeq1.list_extend_list_list_0 l its.toArray n b its2.toArray n2 hlong (by rw [wX];omega) (by omega)) ⟨e,e2,?_⟩
 refine ⟨.non,_,I.lset (its':=its++its2) hH e (by simp) (r.append r2) ?_,rfl,q⟩
 rw [wQ]
 omega
inductive vI (x:V)(vs:List V)(H:Hp)(Q:VK):Prop
 | mk:∀ l xs y,(x = .ref l)→(vs=[])→(H l=some (.lst xs))→(xs[xs.length - 1]? = some y)→(Q y (upd H l (.lst xs.dropLast)))→vI x vs H Q
theorem sv:MtM X "list.pop" vI:=by
 intro pins s σ H x vs v us Q I rx rv h
 obtain ⟨l,xs,y,rfl,rfl,hH,hy,q⟩:=h
 cases rx
 have hus:=rv.zero
 subst hus
 obtain ⟨z,its,n,r,hl,e⟩:=I.lstM hH
 obtain ⟨u,hu,ru⟩:=r.get hy
 have hy':its.toArray[its.toArray.size - 1]? = some u:=by
  show its.toArray[its.length - 1]? = some u
  rw [← xU,← hl]
  exact hu
 refine z4 F.slot_list_pop ⟨_,e,rfl⟩ F.entry_list_pop (F.args_list_pop_1 _) (MeetsSeq.list_pop_last l its.toArray n u hy' (by rw [wX];omega)) ⟨e,?_⟩
 refine ⟨y,_,I.lset (its':=its.dropLast) hH e ?_ r.dropLast ?_,ru,q⟩
 ·show its.toArray.eraseIdxIfInBounds (its.toArray.size - 1)=its.dropLast.toArray
  rw [wX,List.eraseIdxIfInBounds_toArray,jY]
 ·rw [List.length_dropLast]
  omega
inductive jj (x:V)(vs:List V)(H:Hp)(Q:VK):Prop
 | mk:∀ l xs,(x = .ref l)→(vs=[])→(H l=some (.lst xs))→(Q .non (upd H l (.lst xs.reverse)))→jj x vs H Q
theorem jZ:MtM X "list.reverse" jj:=by
 intro pins s σ H x vs v us Q I rx rv h
 obtain ⟨l,xs,rfl,rfl,hH,q⟩:=h
 cases rx
 have hus:=rv.zero
 subst hus
 obtain ⟨z,its,n,r,hl,e⟩:=I.lstM hH
 refine z4 F.slot_list_reverse ⟨_,e,rfl⟩ F.entry_list_reverse (F.args_list_reverse_1 _) (AutoSeq1.list_reverse_list_0 l its.toArray n (by rw [wX];omega)) ⟨e,?_⟩
 refine ⟨.non,_,I.lset (its':=its.reverse) hH e (by simp) r.reverse ?_,rfl,q⟩
 rw [yH]
 omega
end
section
variable {prog:Program} {w:World} {A:Around} {E:Value→Shared→Prop} {s:Shared}
end
section
variable {X:Cx}
end
section
variable {κ:Type} [DecidableEq κ]
def eP (kvs:List (κ × V))(k:κ):Option V:=(kvs.find? fun kv=>decide (kv.1=k)).map (·.2)
def gO (kvs:List (κ × V))(k:κ)(v:V):List (κ × V) :=
 if (kvs.any fun kv=>decide (kv.1=k))=true then kvs.map (fun kv=>if kv.1=k then (kv.1,v) else kv) else kvs++[(k,v)]
theorem bw {p:κ × V}{r:List (κ × V)}{k:κ}(e:p.1=k):eP (p::r) k=some p.2:=by simp [eP,zi,e]
theorem bx {p:κ × V}{r:List (κ × V)}{k:κ}(e:¬ p.1=k):eP (p::r) k=eP r k:=by simp [eP,zi,e]
theorem cV (k:κ):∀ kvs:List (κ × V),(kvs.any fun kv=>decide (kv.1=k))=(eP kvs k).isSome
 | []=>rfl
 | p::r=>by
  rw [Bu]
  by_cases e:p.1=k
  ·simp only [bw e,xC e,Bool.true_or,Option.isSome_some]
  ·rw [bx e,w6 e,Bool.false_or];exact cV k r
theorem jk (k j:κ)(y:V):∀ kvs:List (κ × V),eP (kvs.map fun kv=>if kv.1=k then (kv.1,y) else kv) j=(eP kvs j).map fun x=>if j=k then y else x
 | []=>rfl
 | p::r=>by
  have ih:=jk k j y r
  rw [xr]
  by_cases h:p.1=k
  ·rw [if_pos h]
   by_cases e:p.1=j
   ·rw [bw (p:=(p.1,y)) e,bw e,zj,if_pos (e.symm.trans h)]
   ·rw [bx (p:=(p.1,y)) e,bx e,ih]
  ·rw [if_neg h]
   by_cases e:p.1=j
   ·rw [bw (p:=p) e,bw e,zj,if_neg (fun z=>h (e.trans z))]
   ·rw [bx (p:=p) e,bx e,ih]
theorem hJ (k j:κ)(y:V):∀ kvs:List (κ × V),eP kvs k=none→eP (kvs++[(k,y)]) j=if j=k then some y else eP kvs j
 | [],_=>by
  by_cases e:k=j
  ·rw [if_pos e.symm];exact bw (p:=(k,y)) e
  ·rw [if_neg (fun z=>e z.symm)];exact bx (p:=(k,y)) e
 | p::r,hn=>by
  rw [List.cons_append]
  have hk:¬ p.1=k:=fun z=>by rw [bw z] at hn;cases hn
  rw [bx hk] at hn
  have ih:=hJ k j y r hn
  by_cases e:p.1=j
  ·rw [bw e,bw e,if_neg (fun z=>hk (e.trans z))]
  ·rw [bx e,bx e,ih]
theorem nI (kvs:List (κ × V))(k j:κ)(y:V):eP (gO kvs k y) j=if j=k then some y else eP kvs j:=by
 unfold gO
 by_cases a:(kvs.any fun kv=>decide (kv.1=k))=true
 ·rw [if_pos a,jk]
  rw [cV] at a
  by_cases e:j=k
  ·obtain ⟨x,hx⟩:=AQ.mp a
   rw [if_pos e,e,hx,zj,if_pos rfl]
  ·rw [if_neg e]
   cases eP kvs j with
   | none=>rfl
   | some x=>rw [zj,if_neg e]
 ·rw [if_neg a]
  refine hJ k j y kvs ?_
  rw [cV] at a
  cases q:eP kvs k with
  | none=>rfl
  | some x=>rw [q] at a;exact (a rfl).elim
theorem eQ (kvs:List (κ × V))(k:κ)(v:V):(gO kvs k v).length≤kvs.length+1:=by
 unfold gO
 split
 ·rw [fu];omega
 ·rw [wQ,xN,yS];omega
theorem nJ {kvs:List (κ × V)}{k:κ}(v:V)(h:eP kvs k=none):gO kvs k v=kvs++[(k,v)]:=by
 unfold gO
 rw [cV,h]
 exact if_neg (by decide)
theorem kg.isSome_eq {o:Option V}{u:Option Value}(r:kg o u):o.isSome=u.isSome:=by
 cases o with
 | none=>cases u with
  | none=>rfl
  | some _=>exact (show False from r).elim
 | some _=>cases u with
  | none=>exact (show False from r).elim
  | some _=>rfl
theorem KV.val {kvs:List (κ × V)}{vs:List (κ × Value)}(r:KV kvs vs)(k:κ):kg (eP kvs k) (valueAt vs k):=by
 unfold KV at r
 induction r with
 | nil=>exact True.intro
 | @cons p q ps qs h t ih =>
  obtain ⟨h1,h2⟩:=h
  by_cases e:p.1=k
  ·have e':q.1=k:=h1.symm.trans e
   have b:valueAt (q::qs) k=some q.2:=by simp [valueAt,zi,e']
   rw [bw e,b];exact h2
  ·have e':¬ q.1=k:=fun z=>e (h1.trans z)
   have b:valueAt (q::qs) k=valueAt qs k:=by simp [valueAt,zi,e']
   rw [bx e,b];exact ih
theorem KV.any {kvs:List (κ × V)}{vs:List (κ × Value)}(r:KV kvs vs)(k:κ):(kvs.any fun kv=>decide (kv.1=k))=vs.any fun kv=>decide (kv.1=k):=by
 unfold KV at r
 induction r with
 | nil=>rfl
 | cons h t ih=>rw [Bu,Bu,ih,h.1]
theorem KV.repl {kvs:List (κ × V)}{vs:List (κ × Value)}(r:KV kvs vs)(k:κ){y:V}{u:Value}(ry:bB y u) :
  KV (kvs.map fun kv=>if kv.1=k then (kv.1,y) else kv) (vs.map fun kv=>if kv.1=k then (kv.1,u) else kv):=by
 unfold KV at r ⊢
 induction r with
 | nil=>exact .nil
 | @cons p q ps qs h t ih =>
  rw [xr,xr]
  refine .cons ?_ ih
  obtain ⟨h1,h2⟩:=h
  by_cases e:p.1=k
  ·rw [if_pos e,if_pos (h1.symm.trans e)];exact ⟨h1,ry⟩
  ·rw [if_neg e,if_neg (fun z=>e (h1.trans z))];exact ⟨h1,h2⟩
theorem KV.put {kvs:List (κ × V)}{vs:List (κ × Value)}(r:KV kvs vs)(k:κ){y:V}{u:Value}(ry:bB y u):KV (gO kvs k y) (stored vs k u):=by
 unfold gO stored
 rw [r.any k]
 by_cases e:(vs.any fun kv=>decide (kv.1=k))=true
 ·rw [if_pos e,if_pos e];exact r.repl k ry
 ·rw [if_neg e,if_neg e];exact Paired.snoc r ⟨rfl,ry⟩
theorem KV.length {kvs:List (κ × V)}{vs:List (κ × Value)}(r:KV kvs vs):kvs.length=vs.length:=zO r
end
theorem qc {P:Program}{w:World}{k:Key}{u:Value}(r:bB (kV k) u):(bj P w).is k u=true:=by
 cases k with
 | inl i=>obtain ⟨t,e⟩:=(show ∃ t,u=Value.int i t from r);subst e;exact iJ P w i t
 | inr x=>obtain ⟨t,e⟩:=(show ∃ t,u=Value.str x t from r);subst e;exact iK P w x t
theorem hU {P:Program}{w:World}:∀ {ks:List Key} {us:List Value},aZ (ks.map kV) us→ItemsAre (bj P w) ks us
 | [],_,r=>by rw [zh] at r;cases r;exact .nil
 | k::ks,_,r=>by
  rw [xr] at r
  cases r with
  | cons h t=>exact .cons (qc h) (hU t)
abbrev KT (H:Hp):List (List Key × V)→List (List Key × Addr × Value)→Prop:=Paired fun p q=>p.1=q.1∧H q.2.1=some (.tup (p.1.map kV))∧bB p.2 q.2.2
theorem KT.val {H:Hp}{kvs:List (List Key × V)}{xs:List (List Key × Addr × Value)}(r:KT H kvs xs)(k:List Key):kg (eP kvs k) ((atKey xs k).map (·.2)):=by
 induction r with
 | nil=>exact True.intro
 | @cons p q ps qs h t ih =>
  obtain ⟨h1,_,h2⟩:=h
  by_cases e:p.1=k
  ·have e':q.1=k:=h1.symm.trans e
   have b:atKey (q::qs) k=some q.2:=by simp [atKey,zi,e']
   rw [bw e,b];exact h2
  ·have e':¬ q.1=k:=fun z=>e (h1.trans z)
   have b:atKey (q::qs) k=atKey qs k:=by simp [atKey,zi,e']
   rw [bx e,b];exact ih
theorem KT.repl {H:Hp}{kvs:List (List Key × V)}{xs:List (List Key × Addr × Value)}(r:KT H kvs xs)(k:List Key){y:V}{u:Value}(ry:bB y u) :
  KT H (kvs.map fun kv=>if kv.1=k then (kv.1,y) else kv) (xs.map (putAt k u)):=by
 induction r with
 | nil=>exact .nil
 | @cons p q ps qs h t ih =>
  rw [xr,xr]
  refine .cons ?_ ih
  obtain ⟨h1,h2,h3⟩:=h
  unfold putAt
  by_cases e:p.1=k
  ·rw [if_pos e,if_pos (h1.symm.trans e)];exact ⟨h1,h2,ry⟩
  ·rw [if_neg e,if_neg (fun z=>e (h1.trans z))];exact ⟨h1,h2,h3⟩
theorem KT.put {H:Hp}{kvs:List (List Key × V)}{xs:List (List Key × Addr × Value)}(r:KT H kvs xs)(k:List Key){b:Addr}{y:V}{u:Value}(hb:H b=some (.tup (k.map kV)))(ry:bB y u) :
  KT H (gO kvs k y) (storedH xs k b u):=by
 have e:(kvs.any fun kv=>decide (kv.1=k))=(atKey xs k).isSome:=by
  rw [cV,(r.val k).isSome_eq,Option.isSome_map]
 unfold gO storedH
 rw [e]
 by_cases q:(atKey xs k).isSome=true
 ·rw [if_pos q,if_pos q];exact r.repl k ry
 ·rw [if_neg q,if_neg q];exact Paired.snoc r ⟨rfl,hb,ry⟩
theorem KT.keeps {H H':Hp}{kvs:List (List Key × V)}{xs:List (List Key × Addr × Value)}(r:KT H kvs xs)(ht:∀ b ys,H b=some (.tup ys)→H' b=some (.tup ys)):KT H' kvs xs :=
 Paired.mapP r fun _ _ z=>⟨z.1,ht _ _ z.2.1,z.2.2⟩
section
variable {P:Program} {w:World} {H:Hp} {h:Heap} {a:Addr}
theorem sC {u:HO}(ok:HOk P w H h)(e:Rd H a u):bH P w H h a u:=e.ok ok
theorem qd {kvs:List (Key × V)}(ok:HOk P w H h)(e:Rd H a (.dK kvs)):kvs.length≤sizeLine∧(a == sysModules)=false∧∃ vs,KV kvs vs∧h.DictOf (bj P w) a vs :=
 show bH P w H h a (.dK kvs) from sC ok e
theorem uS {kvs:List (Key × V)}(ok:HOk P w H h)(e:H a=some (.dK kvs)):kvs.length≤sizeLine∧(a == sysModules)=false∧∃ vs,KV kvs vs∧h.DictOf (bj P w) a vs:=qd ok (.inl e)
theorem kL {ks:List Key}(ok:HOk P w H h)(e:H a=some (.tup (ks.map kV))):(tupleKind (bj P w)).is h ks a:=by
 obtain ⟨_,its,r,⟨o,h1,h2,n,h3⟩,_⟩:=(show bH P w H h a (.tup (ks.map kV)) from ok a _ e)
 exact ⟨o,its.toArray,n,h1,h2,h3,by simpa using hU r⟩
theorem qe {kvs:List (List Key × V)}(ok:HOk P w H h)(e:Rd H a (.dT kvs)):kvs.length≤sizeLine∧(a == sysModules)=false ∧
  ∃ xs,KT H kvs xs∧h.DictOfH (tupleKind (bj P w)) a xs:=by
 obtain ⟨z,y,xs,r,o,es,ep,h1,h2,h3,h4,h5⟩:=(show bH P w H h a (.dT kvs) from sC ok e)
 refine ⟨z,y,xs,r,o,es,ep,h1,h2,h3,h4,fun x hx=>?_,h5⟩
 have all:∀ {l:List (List Key × V)} {m:List (List Key × Addr × Value)},KT H l m→∀ x∈m,(tupleKind (bj P w)).is h x.1 x.2.1:=by
  intro l m q
  induction q with
  | nil=>intro x hx;exact nomatch hx
  | @cons p q ps qs hq t ih =>
   intro x hx
   rcases xg.mp hx with e | hx
   ·subst e
    exact kL ok (by rw [← hq.1];exact hq.2.1)
   ·exact ih x hx
 exact all r x hx
theorem uT {kvs:List (List Key × V)}(ok:HOk P w H h)(e:H a=some (.dT kvs)):kvs.length≤sizeLine∧(a == sysModules)=false ∧
  ∃ xs,KT H kvs xs∧h.DictOfH (tupleKind (bj P w)) a xs:=qe ok (.inl e)
end
def uU (H:Hp)(a:Addr)(y:V)(r:Option V):Prop :=
 (∃ kvs k,Rd H a (.dK kvs)∧y=kV k∧r=eP kvs k) ∨ ∃ kvs k b,Rd H a (.dT kvs)∧y = .ref b∧H b=some (.tup (k.map kV))∧r=eP kvs k
def nK (H:Hp)(a:Addr)(y v:V)(H':Hp):Prop :=
 (∃ kvs k,H a=some (.dK kvs)∧y=kV k∧kvs.length < sizeLine∧H'=upd H a (.dK (gO kvs k v))) ∨
 ∃ kvs k b,H a=some (.dT kvs)∧y = .ref b∧H b=some (.tup (k.map kV))∧kvs.length < sizeLine∧H'=upd H a (.dT (gO kvs k v))
theorem nK.k {H:Hp}{a:Addr}{kvs:List (Key × V)}{k:Key}{v:V}(e:H a=some (.dK kvs))(hl:kvs.length < sizeLine):nK H a (kV k) v (upd H a (.dK (gO kvs k v))):=.inl ⟨kvs,k,e,rfl,hl,rfl⟩
theorem nK.t {H:Hp}{a b:Addr}{kvs:List (List Key × V)}{k:List Key}{v:V}(e:H a=some (.dT kvs))(eb:H b=some (.tup (k.map kV)))(hl:kvs.length < sizeLine) :
  nK H a (.ref b) v (upd H a (.dT (gO kvs k v))):=.inr ⟨kvs,k,b,e,rfl,eb,hl,rfl⟩
section
variable {X:Cx} {pins:List (Addr × Obj)} {σ:St} {H:Hp} {s:Shared} {a:Addr} {y v:V} {u r:Value} {o:Option V} {A:Around} {E:Value→Shared→Prop}
theorem Inv.big (I:Inv X pins σ H s):sysModules < s.heap.objs.size:=by
 have h:mainGlobals < s.heap.objs.size:=(I.mod.glob.keeps I.bk).lt
 exact Nat.lt_trans (by decide) h
theorem kM {Q:Value→Shared→Prop}(hu:A.units+1 < cLine)(I:Inv X pins σ H s)(g:uU H a y (some v))(ry:bB y u)(h:∀ w' s',Inv X pins σ H s'→bB v w'→Q w' s') :
  wpAny (model X.prog X.w) A (getItem (.ref a) u) Q E s:=by
 rcases g with ⟨kvs,k,e,ey,l⟩ | ⟨kvs,k,b,e,ey,eb,l⟩
 ·subst ey
  obtain ⟨z,hd,vs,rel,dd⟩:=qd I.hok e
  obtain ⟨w',hw,rw'⟩:=kg.some_of (v:=v) (o:=valueAt vs k) (by rw [l];exact rel.val k)
  exact wpAny_getItem_of (qc ry) dd.mapOf hw (h w' _ (I.tok _) rw')
 ·subst ey
  cases (show u=Value.ref b from ry)
  obtain ⟨z,hd,xs,rel,dd⟩:=qe I.hok e
  obtain ⟨w',hw,rw'⟩:=kg.some_of (v:=v) (o:=(atKey xs k).map (·.2)) (by rw [l];exact rel.val k)
  obtain ⟨p,hp,hp2⟩:=Option.map_eq_some_iff.mp hw
  refine wpAny_getItem_heap (tupleKind_room_in1 hu) (kL I.hok eb) dd hp ?_
  rw [hp2]
  exact h w' _ (I.tok _) rw'
theorem gc {h':Heap}{t':Nat}{ob:HO}(I:Inv X pins σ H s)(mu:Mut (H a))(hs:Heap.SameBut a s.heap h')(he:∃ q,h'.get? a=some q)(new:bH X.prog X.w (upd H a ob) h' a ob) :
  Inv X pins σ (upd H a ob) { s with heap:=h',toks:=t' } :=
 I.write (x:=a) (e:=a) mu (.inl rfl) (fun b q hb z=>(hs.2 b hb).trans z) he new
theorem sD {P:Program}{w:World}{H':Hp}{h':Heap}{kvs:List (Key × V)}{vs:List (Key × Value)}(z:kvs.length≤sizeLine)(hd:(a == sysModules)=false)(rel:KV kvs vs)(dd:h'.DictOf (bj P w) a vs) :
  bH P w H' h' a (.dK kvs):=⟨z,hd,vs,rel,dd⟩
theorem kN {H':Hp}{Q:Unit→Shared→Prop}(hu:A.units+1 < cLine)(I:Inv X pins σ H s)(g:nK H a y v H')(ry:bB y u)(rv:bB v r)(h:∀ s',Inv X pins σ H' s'→Q () s') :
  wpAny (model X.prog X.w) A (setItem (.ref a) u r) Q E s:=by
 rcases g with ⟨kvs,k,e,ey,l,eH⟩ | ⟨kvs,k,b,e,ey,eb,l,eH⟩
 ·subst ey eH
  obtain ⟨z,hd,vs,rel,dd⟩:=uS I.hok e
  have hz:vs.length≤sizeLine:=by rw [← rel.length];exact z
  have hl:(gO kvs k v).length≤sizeLine:=by have:=eQ kvs k v;omega
  refine wpAny_setItem_pairs (hsz:=hz) (qc ry) dd fun h' dd' hs=>h _ ?_
  have he:∃ q,h'.get? a=some q:=let ⟨q,_,_,hq,_⟩:=dd';⟨q,hq⟩
  exact gc I (by rw [e];exact True.intro) hs he (sD hl hd (rel.put k rv) dd')
 ·subst ey eH
  cases (show u=Value.ref b from ry)
  obtain ⟨z,hd,xs,rel,dd⟩:=uT I.hok e
  have hz:xs.length≤sizeLine:=by rw [← zO rel];exact z
  have hl:(gO kvs k v).length≤sizeLine:=by have:=eQ kvs k v;omega
  refine wpAny_setItem_heap (hsz:=hz) (tupleKind_room_in1 hu) (kL I.hok eb) dd fun h' dd' hs=>h _ ?_
  obtain ⟨q,es,ep,hq,h2,h3,h4,_,h5⟩:=dd'
  refine gc I (by rw [e];exact True.intro) hs ⟨q,hq⟩ ⟨hl,hd,_,(rel.put k eb rv).keeps fun c ys ec=>?_,q,es,ep,hq,h2,h3,h4,h5⟩
  rw [av (b_ ec e (fun z=>nomatch z))]
  exact ec
end
section
variable {X:Cx} {pins:List (Addr × Obj)} {σ:St} {H:Hp} {s:Shared} {a:Addr} {kvs:List (Key × V)} {k:Key} {u:Value} {A:Around} {E:Value→Shared→Prop}
end
def uV (i:Expr):Prop:=∀ ov iv,subscripted i false ov iv=operate [ov,iv] (getItem ov iv)
theorem kO {prog:Program}{w:World}{A:Around}{E:Value→Shared→Prop}{s:Shared}{env:Env}{value slice:Expr}{pos:Pos}{T id:String}{Q:Value→Shared→Prop}
  (hl:typeLookup (.type T) "__getitem__" = pure (some (.builtin id))) (hs:uV slice)
  (h:wpAny (model prog w) A (eval value env) (fun o s₁=>wpAny (model prog w) A (eval slice env) (fun i s₂=>s₂.TypeIs o T∧wpAny (model prog w) A (getItem o i) Q E s₂) E s₁) E s) :
  wpAny (model prog w) A (eval (.Subscript value slice pos) env) Q E s:=by
 refine AS (yt h (fun o s₁ h₁=>yt h₁ (fun i s₂ h₂=>?_) fun _ _ x=>x) fun _ _ x=>x)
 obtain ⟨hT,h₂⟩:=h₂
 unfold subscriptTail
 refine wD ?_
 rw [getitemInPython_of_ne hT.not_modules]
 refine wD (yT hT hl ?_)
 have fin:wpAny (model prog w) A (subscripted slice false o i) (fun r s₃=>wpAny (model prog w) A (letTemporaryGo value o r >>= fun _=>pure r) Q E s₃) E s₂:=by
  rw [hs o i]
  exact wpAny_operating (yt h₂ (fun r s₃ h₃=>wD (wpAny_letTemporaryGo (wI h₃))) fun _ _ x=>x)
 first
  | exact wI (wD fin)
  | exact wD (wI (wD fin))
  | exact wD fin
theorem iS {X:Cx}{pins:List (Addr × Obj)}{σ:St}{H:Hp}{s:Shared}{a:Addr}{y:V}{o:Option V}(I:Inv X pins σ H s)(g:uU H a y o):s.TypeIs (.ref a) "dict":=by
 rcases g with ⟨kvs,k,e,_,_⟩ | ⟨kvs,k,b,e,_,_,_⟩
 ·obtain ⟨_,_,vs,_,dd⟩:=qd I.hok e
  exact dd.typeIs
 ·obtain ⟨_,_,xs,_,dd⟩:=qe I.hok e
  exact dd.typeIs
def uW (td ty:TE):TE:=fun σ H Q=>td σ H fun x H1=>ty σ H1 fun y H2=>∃ a v,x = .ref a∧uU H2 a y (some v)∧Q v H2
def uX (td ty tv:TE):TS:=fun D σ H=>tv σ H fun v H1=>td σ H1 fun x H2=>ty σ H2 fun y H3=>∃ a H4,x = .ref a∧nK H3 a y v H4∧D.nx σ H4
section
variable {X:Cx} {o i e value:Expr} {pos pos' tpos:Pos} {td ty tv:TE}
theorem kP (hu:X.A.units+1 < cLine)(ho:PE X o td)(hi:PE X i ty)(hs:uV i):PE X (.Subscript o i pos) (uW td ty):=by
 intro pins s σ H Q I h
 refine kO PySem.F.slot_dict_getitem.lookup hs (thn (ho pins s σ H _ I h) fun u s1 ⟨x,H1,I1,rx,q1⟩=>thn (hi pins s1 σ H1 _ I1 q1) fun iv s2 zq68=>?_)
 obtain ⟨y,H2,I2,ry,a,v,ex,g,q2⟩:=zq68
 subst ex
 obtain rfl:u=Value.ref a:=rx
 exact ⟨iS I2 g,kM hu I2 g ry fun w' s3 I3 rw'=>⟨v,H2,I3,rw',q2⟩⟩
theorem qf (hu:X.A.units+1 < cLine)(ho:PE X o td)(hi:PE X i ty)(hv:PE X value tv)(hs:swapsWith value (some (.Subscript o i pos')) pos.line X.env=pure false) :
  PS X (.Assign [.Subscript o i pos'] value pos) (uX td ty tv):=by
 intro pins s σ H D I h
 refine wpAny_Assign_Subscript (thn (hv pins s σ H _ I h) fun r s1 ⟨v,H1,I1,rv,q1⟩=>thn (ho pins s1 σ H1 _ I1 q1) fun u s2 ⟨x,H2,I2,rx,q2⟩=>thn (hi pins s2 σ H2 _ I2 q2) fun iv s3 zq71=>?_) hs
 obtain ⟨y,H3,I3,ry,a,H4,ex,g,q3⟩:=zq71
 subst ex
 obtain rfl:u=Value.ref a:=rx
 exact kN hu I3 g ry rv fun s4 I4=>⟨σ,H4,I4,q3⟩
end
theorem nM {P:Program}{w:World}{H:Hp}(h:Heap)(hb:sysModules < h.objs.size):bH P w H (h.push { cls:=.type "dict",data:=.dict #[] }) h.objs.size (.dT []) :=
 ⟨xE _,zK.mpr (Ne.symm (xD hb)),[],.nil,_,#[],0,wV _ rfl,⟨rfl,rfl,rfl⟩,rfl,rfl,z8⟩
def sE:TE:=fun _ H Q=>∀ p,H p=none→Q (.ref p) (upd H p (.dT []))
section
variable {X:Cx} {pos:Pos}
theorem nN:PE X (.Dict [] [] pos) sE:=fun pins s σ H Q I h =>
 wpAny_Dict_empty ⟨.ref s.heap.objs.size,_,I.laid (a:=s.heap.objs.size) (o:=.dT []) (t':=s.toks) (fun _ _ q=>wK _ q) (wJ _) (nM s.heap I.big),rfl,h _ (I.hok.fresh (wJ _))⟩
end
section
variable {X:Cx} {pins:List (Addr × Obj)} {σ:St} {H:Hp} {s:Shared} {a:Addr} {y d:V} {u r:Value} {o:Option V} {A:Around} {E:Value→Shared→Prop}
end
section
variable {X:Cx} {o e f:Expr} {apos cpos:Pos} {td ty tx:TE}
end
section
variable {X:Cx} {pins:List (Addr × Obj)} {σ:St} {H:Hp} {s:Shared} {a:Addr} {kvs:List (Key × V)} {A:Around} {E:Value→Shared→Prop}
end
section
variable {X:Cx} {pins:List (Addr × Obj)} {σ:St} {H:Hp} {s:Shared} {a:Addr} {y:V} {u:Value} {A:Around} {E:Value→Shared→Prop}
end
end L2
namespace Att
open PySem PySem.W PySem.Calls PyProof.Rows
theorem eR {P:Params}{h:Heap}:∀ (ns:List Int) (vs:List Value),WellAll P h vs (ns.map WData.int)→IntsAre vs ns:=by
 intro ns
 induction ns with
 | nil =>
  intro vs w
  rw [zh] at w
  cases w
  exact .nil
 | cons n ns ih =>
  intro vs w
  rw [xr] at w
  cases w with
  | cons a b =>
   cases a
   exact .cons _ _ (ih _ b)
theorem kQ {l:OpenLaw}{n:Nat}(hn:l.most=some n){P:Params}{h:Heap}{args:List WData}{vals:List Value}
  (hpre:l.row.toRowW.claim.pre args=true) (hwl:WellAll P h vals args) :
  ∃ a vs ns,vals=[Value.ref a]∧args=[WData.list (ns.map WData.int)]∧h.get? a=some { cls:=.type "list",data:=.seq vs.toArray }∧IntsAre vs ns∧ns.length≤n:=by
 have hsh:WShape.hasAll [] args [.list .int]=true:=(pre_splitW hpre).1
 have hc:l.pre.holds [] { args:=args }=true:=(pre_splitW hpre).2
 obtain ⟨d,r,rfl,h1,h2⟩:=hasAllW_cons hsh
 obtain rfl:=hasAllW_nil h2
 obtain ⟨xs,rfl,h3⟩:=hasW_list h1
 obtain ⟨ns,rfl⟩:=items_int h3
 have hlen:ns.length≤n:=by
  unfold OpenLaw.pre at hc
  have h4:(WTm.not (.lt (.lit (.int (n:Int))) (.len (.arg 0)))).holds [] { args:=[.list (ns.map .int)] }=true:=by
   have h4:=(holds_andW hc).1
   rw [hn] at h4
   exact h4
  have h5:=condW_of h4 (w_not (w_lt w_lit (w_len_list (w_arg rfl))))
  rw [fu] at h5
  refine Nat.le_of_not_lt fun q=>?_
  have q':(n:Int) < ((ns.length:Nat):Int):=by omega
  first
   | (rw [xC q'] at h5;exact absurd h5 (by decide))
   | (simp at h5;omega)
 cases hwl with
 | cons w1 w2 =>
  cases w2
  cases w1 with
  | list ho hall=>exact ⟨_,_,ns,rfl,rfl,ho,eR ns _ hall,hlen⟩
theorem kR (l:OpenLaw)(args:List WData):l.row.toRowW.claim.post args (.bool true) args=true :=
 postW_of (r:=l.row.toRowW) (X:=(true == true))
  (show WShape.has [] (.bool true) .bool=true by first | rfl | decide | simp [WShape.has,WShape.arms,WShape.armsAll])
  (show (WTm.eq .res (.lit (.bool true))).value [] { args:=args,res:=some (.bool true),after:=args }=some (.bool (true == true)) from w_eq_bool (w_res rfl) w_lit) rfl
theorem attach_call {l:OpenLaw}{n:Nat}{q:Program}{loose:List Str}{XP:(Str→Option Value)→Heap→Prop}{YP:World→Heap→Prop}{d:DefRec}
  (hn:l.most=some n) (hdf:d.params.defaults=[])
  (call:∀ (w:World) (s₀ s₁:Shared) (mg mb:Str→Option Value) (fa:Addr) (o:Obj) (pm cd doc:Value) (a:Addr) (vs:List Value) (ns:List Int),
   Ground q loose [] XP w s₀ mg mb s₁.heap→YP w s₁.heap →
   s₁.heap.get? fa=some o→o.data = .func (docDef d.name d.params d.body d.scope pm cd doc)→s₁.heap.CodeRec cd d.name→mg d.name=some (.ref fa) →
   s₁.heap.get? a=some { cls:=.type "list",data:=.seq vs.toArray }→IntsAre vs ns→ns.length≤n→s₁.gens=#[] →
   codeAny (model l.prog w) callerA (.call (.ref fa) ⟨[.ref a],[]⟩) (fun r s'=>r = .ok (.ret (.bool true))∧OldK s₁.heap s'.heap∧s'.os=s₁.os∧AllBare s'.gens) s₁) :
  WalkO q loose XP YP l.row.toRowW d [] (fun f vs=>PySem.call f vs):=by
 intro w s₀ s₁ mg mb G Y fa o pm cd doc dV kV ho hd hcd hD hmg hg args vals as hpre hlay hrd hwl hlo
 obtain rfl:dV = .none:=Dflts.none hD hdf
 obtain rfl:kV = .none:=Dflts.noKw hD
 obtain ⟨a,vs,ns,rfl,rfl,hobj,hints,hlen⟩:=kQ hn hpre hwl
 refine enter_call (codeAny_mono (call w s₀ s₁ mg mb fa o pm cd doc a vs ns G Y ho (fd_plain hd) hcd hmg hobj hints hlen hg) fun r s' hq=>?_)
 obtain ⟨rfl,h2,h3,h4⟩:=hq
 exact ⟨.inl ⟨.bool true,.bool true,[],rfl,fun _=>rfl,.bool true,kR l _,fun _=>⟨List.Pairwise.nil,fun _ hm=>(nomatch hm)⟩⟩,h2,h3,h4⟩
section
variable {prog:Program} {w:World} {A:Around} {E:Value→Shared→Prop} {s:Shared} {K:Frag}
end
end Att
namespace L2
open PySem PySem.Spec PyProof.Rows
theorem hV:∀ {vs:List Value} {ns:List Int},IntsAre vs ns→aZ (ns.map V.int) vs
 | _,_,.nil=>.nil
 | _,_,.cons n t h=>.cons ⟨t,rfl⟩ (hV h)
def uY (H:Hp):Prop:=∀ b,H b=none ∨ ∃ o xs,H b=some (.frz o (.lst xs))
theorem nO {P:Program}{w:World}{K:PySem.W.Frag}{mg mb:Str→Option Value}{CX:CXT}{k:Nat}{fa a:Addr}{fd:FuncData}{x:Str}{sp:Sp}{s₁:Shared}{vs:List Value}{ns:List Int}
  (KX:K.In s₁.heap) (hns:s₁.heap.Ns mainGlobals mg) (hb:s₁.heap.Ns builtinsNs mb) (hbb:∀ x:Str,x ≠ "__name__"→mb x=bootBuiltins x) (hlim:s₁.heap.NoLimit) (hg:s₁.gens=#[])
  (ha:s₁.heap.get? a=some { cls:=.type "list",data:=.seq vs.toArray }) (hi:IntsAre vs ns) (hl:ns.length≤sizeLine) (hr:fB k callerA)
  (F:∀ base:Heap,K.In base→base.Ns mainGlobals mg→m9 P w K mg base CX k fa fd [x] sp) (hbind:∀ (s:Shared) (u:Value),BindsTo s fd ⟨[u],[]⟩ [(x,u)])
  (hsp:∀ H:Hp,uY H→SqL K H a (ns.map V.int)→sp [.ref a] H (fun v _=>v = .bl true) fun _ _ _=>False)
  (hCX:∀ H e s',CX [] H s₁ (fun _ _ _=>False) e s'→False) :
  codeAny (model P w) callerA (.call (.ref fa) ⟨[.ref a],[]⟩) (fun r s'=>r = .ok (.ret (.bool true))∧OldK s₁.heap s'.heap∧s'.os=s₁.os∧AllBare s'.gens) s₁:=by
 have rv:=hV hi
 have lenV:=hi.length
 -- from an abstract heap in which nothing but the script may be tracked
 have core:∀ H:Hp,uY H→SqL K H a (ns.map V.int)→HOk P w H s₁.heap→(∀ b,H b≠none→b=a)→(H a≠none→K.lookup a=none) →
   codeAny (model P w) callerA (.call (.ref fa) ⟨[.ref a],[]⟩) (fun r s'=>r = .ok (.ret (.bool true))∧OldK s₁.heap s'.heap∧s'.os=s₁.os∧AllBare s'.gens) s₁:=by
  intro H hO hS hok hA hK
  have base_of:∀ {b:Addr} {o:Obj},s₁.heap.get? b=some o→H b=none→(ng s₁.heap H).get? b=some o:=fun e n=>nh e n
  have noA:∀ {b:Addr} {o:Obj} {es:Array DictEntry} {ep:Nat},s₁.heap.get? b=some o→o.data = .dict es ep→H b=none:=fun {b o es ep} e d=>by
   cases q:H b with
   | none=>rfl
   | some u =>
    have e':b=a:=hA b (by rw [q];simp)
    subst e'
    rw [ha] at e;cases e
    have d':Data.seq vs.toArray _=Data.dict es ep:=d
    cases d'
  have nsK:∀ {b:Addr} {m:Str→Option Value},s₁.heap.Ns b m→(ng s₁.heap H).Ns b m:=fun {b m} ⟨o,es,ep,e,d,r⟩=>⟨o,es,ep,base_of e (noA e d),d,r⟩
  have hKb:K.In (ng s₁.heap H):=fun b o e=>base_of (KX b o e) (by
   cases q:H b with
   | none=>rfl
   | some u =>
    have e':b=a:=hA b (by rw [q];simp)
    subst e'
    rw [hK (by rw [q];simp)] at e;cases e)
  have hM:Mod K mg (ng s₁.heap H):=⟨hKb,nsK hns,⟨mb,nsK hb,hbb⟩,let ⟨mc,h1,h2⟩:=hlim;⟨mc,nsK h1,h2⟩⟩
  have e0:uw P w K mg (ng s₁.heap H) callerA [] s₁ H:=⟨rfl,hM,fun b o e=>pV e,Nat.le_of_eq (kh _ _),trivial,fun b hb=>absurd (show b∈([]:List Addr) from hb) (by simp),hok,.of_eq hg⟩
  refine codeAny_mono ((F _ hKb (nsK hns)).run callerA [] s₁ H ⟨[.ref a],[]⟩ [.ref a] [.ref a] _ _ hr e0 (hbind s₁ (.ref a)) (.cons rfl .nil) (hsp H hO hS)) fun r s' h=>?_
  cases r with
  | error e=>exact (hCX H e s' h).elim
  | ok fl =>
   cases fl with
   | next=>exact False.elim h
   | brk=>exact False.elim h
   | cont=>exact False.elim h
   | ret u =>
    obtain ⟨v,H',os,bare,un,hok',r',q⟩:=h
    have q':v = .bl true:=q
    subst q'
    obtain rfl:u=Value.bool true:=r'
    refine ⟨rfl,OldK.of_keep fun b o e=>?_,os,bare⟩
    cases q:H b with
    | none=>exact un.keep b o e q (by intro z;exact absurd (show b∈([]:List Addr) from z) (by simp)) (by simp)
    | some u =>
     rcases hO b with z | ⟨ob,xs,z⟩
     ·rw [q] at z;cases z
     ·have z2:=un.frzs b ob _ z
      obtain ⟨e1,_⟩:=hok b _ z
      obtain ⟨e2,_⟩:=hok' b _ z2
      rw [e] at e1;cases e1
      exact e2
 cases hk:K.lookup a with
 | some o =>
  -- the script is one of the module's own objects
  have e:=KX a o hk
  rw [ha] at e
  cases e
  refine core (fun _=>none) (fun _=>.inl rfl) (.inr ⟨_,vs.toArray,_,hk,rfl,rfl,rfl,by rw [wX,lenV];exact hl,by simpa using rv⟩) (fun b u z=>by have z':(none:Option HO)=some u:=z;cases z') (fun b z=>absurd rfl z) fun z=>absurd rfl z
 | none =>
  refine core (fun b=>if b=a then some (.frz { cls:=.type "list",data:=.seq vs.toArray } (.lst (ns.map V.int))) else none) (fun b=>?_) (.inl (.inr ⟨{ cls:=.type "list",data:=.seq vs.toArray },if_pos rfl⟩)) (fun b u z=>?_) (fun b z=>?_) fun _=>hk
  ·by_cases hb:b=a
   ·exact .inr ⟨_,_,if_pos hb⟩
   ·exact .inl (if_neg hb)
  ·by_cases hb:b=a
   ·have z':=(if_pos hb).symm.trans z
    cases z'
    subst hb
    exact ⟨ha,by rw [fu];exact hl,vs,_,rv,ha⟩
   ·have z':=(if_neg hb).symm.trans z
    cases z'
  ·by_cases hb:b=a
   ·exact hb
   ·exact absurd (if_neg hb) z
theorem kT {l:PySem.W.OpenLaw}{n k:Nat}{q:Program}{loose:List Str}{XP:(Str→Option Value)→Heap→Prop}{YP:World→Heap→Prop}{d:DefRec}{K:Params→PySem.W.Frag}{CX:World→CXT}{sp:World→Sp}{x:Str}
  (hn:l.most=some n) (hn2:n≤sizeLine) (hdf:d.params.defaults=[]) (hr:fB k callerA)
  (hY:∀ (w:World) (h:Heap),YP w h→(K w.params).In h)
  (F:∀ (w:World) (mg:Str→Option Value) (fa:Addr) (h:Heap),(K w.params).In h→h.Ns mainGlobals mg→mg d.name=some (.ref fa) →
   ∃ fd:FuncData,(∀ (s:Shared) (u:Value),BindsTo s fd ⟨[u],[]⟩ [(x,u)]) ∧
    ∀ base:Heap,(K w.params).In base→base.Ns mainGlobals mg→m9 l.prog w (K w.params) mg base (CX w) k fa fd [x] (sp w))
  (hsp:∀ (w:World) (H:Hp) (a:Addr) (ns:List Int),ns.length≤n→uY H→SqL (K w.params) H a (ns.map V.int)→sp w [.ref a] H (fun v _=>v = .bl true) fun _ _ _=>False)
  (hCX:∀ (w:World) (H:Hp) (s:Shared) (e:Value) (s':Shared),CX w [] H s (fun _ _ _=>False) e s'→False) :
  PySem.W.WalkO q loose XP YP l.row.toRowW d [] (fun f vs=>PySem.call f vs):=by
 refine Att.attach_call hn hdf fun w s₀ s₁ mg mb fa o pm cd doc a vs ns G Y ho hd hcd hmg hobj hints hlen hg=>?_
 have KX:=hY w _ Y
 obtain ⟨fd,hb,hF⟩:=F w mg fa _ KX G.T.g hmg
 exact nO KX G.T.g G.T.b G.T.builtins G.T.nolimit hg hobj hints (xq hlen hn2) hr hF hb (fun H hO hS=>hsp w H a ns hlen hO hS) fun H e s'=>hCX w H s₁ e s'
end L2
/- THE LAST THEOREM (shape;LID,My.* are yours):
  My.Adr: a structure of the addresses that your layer names (classes,functions);My.Txt K t: a structure (Prop) of the equations over K;
  My.txt_mk:{K} {implicit addresses ..} (e1:nsIn K mainGlobals "law" = some (some (.ref f))) (e2:K.lookup f=some ⟨oc,od,.func (fnOf "law" "law" params body scope dV kV doc pm an cdv ct),sl⟩) (e3:codeIn K cdv "law" = true) ..:∃ t,My.Txt K t
set_option maxRecDepth 100000 in
set_option maxHeartbeats 0 in
theorem PySem.Challenge.cw_LID_holds : PySem.Challenge.rw_LID.Holds := by
 w_on;o_law;k_head;(case hw=>w_witness2)
 k_fill
 refine L2.kT (l:=PySem.Challenge.rw_LID) (n:=63) (k:=40) (x:="script") (CX:=fun w=>..) (sp:=fun _=>My.sp_law) rfl (by decide) rfl ⟨rfl,by decide,by decide⟩ (fun w h Y=>PySem.W.kIn_of Y) ?F ?S ?C
 case F =>
  intro w mg fa h KX G hmg
  have T:∃ t,My.Txt (L2.KOf KX) t:=by
   dsimp only [L2.KOf]                          -- K must stand as «<heap const> w.params» for k_is
   refine' My.txt_mk ?e1 ?e2 ?e3 ..
   (case e1=>PySem.W.k_is)                    -- in the order: a name -> its address -> its object -> its parts
   (case e2=>PySem.W.k_is)
   ..
  obtain ⟨t,T⟩:=T
  have e0:=hmg.symm.trans (Ao KX G T.law)
  cases e0                                       -- fa is the law's own address
  exact ⟨_,fun s u=>.of_eq rfl,fun base kb nb=>My.law_fn T kb nb⟩     -- if «.of_eq rfl» comes too early: refine' ⟨_,?b,fun base kb nb=>My.law_fn T kb nb⟩;exact fun s u=>.of_eq rfl
 case S=>exact fun w H a ns hl hO hS=>..
 case C=>exact ..
(the tactic k_is has no namespace: write k_is) -/
namespace L2
open PySem PySem.Spec PyProof.Rows
def aH (s:Stmt):Arguments:=match s with
 | .FunctionDef _ a _ _ _ _ _ _ _ _=>a
 | _=>{ posonlyargs:=[],args:=[],vararg:=none,kwonlyargs:=[],kw_defaults:=[],kwarg:=none,defaults:=[] }
def aG (s:Stmt):List Stmt:=match s with
 | .FunctionDef _ _ b _ _ _ _ _ _ _=>b
 | _=>[]
def ak (s:Stmt):Scope:=match s with
 | .FunctionDef _ _ _ _ _ _ sc _ _ _=>sc
 | _=>{ kind:=.function,names:=[],isGenerator:=false,isCoroutine:=false }
abbrev CX0:CXT:=fun _ _ _ _ _ _=>False
abbrev E0:XK:=fun _ _ _=>False
theorem uZ {X:Cx}:kD CX0 X E0:=fun _ _ _ _ _ _ _ h=>h.elim
structure Fun (K:PySem.W.Frag) (x qual:Str) (st:Stmt) (f:Addr) (fd:FuncData):Prop where
 ex:∃ (oc:Value) (od:Option Addr) (kV doc pm:Value) (an:Option Addr) (cdv ct:Value) (osl:Array (Option Value)),
  fd=PySem.W.fnOf x qual (aH st) (aG st) (ak st) .none kV doc pm an cdv ct∧K.lookup f=some ⟨oc,od,.func fd,osl⟩∧PySem.W.codeIn K cdv qual=true
 kp:PySem.W.keepIn K (.ref f)=true
section
variable {P:Program} {w:World} {K:PySem.W.Frag} {mg:Str→Option Value} {base:Heap}
theorem Fun.ok {x qual:Str}{st:Stmt}{f:Addr}{fd:FuncData}{N ps:List Str}{k:Nat}{sp:Sp}(F:Fun K x qual st f fd)(S:aJ N ps (ak st))(len:∀ vs H Q E,sp vs H Q E→vs.length=ps.length)
  (hbody:∀ (cdv:Value) (A:Around) (outer:List Env) (s:Shared) (H:Hp) (vs:List V) (Q:VK) (E:XK),fB k (A.deeper (envOfC qual (ak st) s.heap.objs.size f cdv))→sp vs H Q E →
   ∃ t,PSs (p_ CX0 P w K mg base N qual (ak st) f cdv A outer s H E).nox (aG st) t∧t { nx:=fun _ H'=>Q .non H',rt:=Q } (start N vs) H):m9 P w K mg base CX0 (k+1) f fd ps sp:=by
 obtain ⟨oc,od,kV,doc,pm,an,cdv,ct,osl,rfl,lk,hcd⟩:=F.ex
 refine uN lk hcd S len fun A outer s H vs Q E hr hsp=>?_
 obtain ⟨t,h,q⟩:=hbody cdv A outer s H vs Q E hr hsp
 exact ⟨t,h.nox,q⟩
theorem Fun.binds {x qual:Str}{st:Stmt}{f:Addr}{fd:FuncData}{ps:List Str}(F:Fun K x qual st f fd)
  (h:∀ (kV doc pm:Value) (an:Option Addr) (cdv ct:Value) (us:List Value),us.length=ps.length→bindArgs (PySem.W.fnOf x qual (aH st) (aG st) (ak st) .none kV doc pm an cdv ct) ⟨us,[]⟩=pure (ps.zip us)):jT K fd ps []:=by
 obtain ⟨oc,od,kV,doc,pm,an,cdv,ct,osl,rfl,lk,hcd⟩:=F.ex
 exact .all (h kV doc pm an cdv ct)
theorem pz {x qual:Str}{st:Stmt}{f:Addr}{oc:Value}{od an:Option Addr}{osl:Array (Option Value)}{kV doc pm cdv ct:Value}(l:K.lookup f=some ⟨oc,od,.func (PySem.W.fnOf x qual (aH st) (aG st) (ak st) .none kV doc pm an cdv ct),osl⟩)
  (c:PySem.W.codeIn K cdv qual=true) (k:PySem.W.keepIn K (.ref f)=true):Fun K x qual st f (PySem.W.fnOf x qual (aH st) (aG st) (ak st) .none kV doc pm an cdv ct):=⟨⟨oc,od,kV,doc,pm,an,cdv,ct,osl,rfl,l,c⟩,k⟩
end
theorem qg {A:Around}{k:Nat}(hr:fB k A):A.units+1 < cLine:=Nat.lt_of_le_of_lt (Nat.add_le_add_left (by decide:1≤64) _) hr.units
section
variable {X:Cx}
theorem pv (i:Nat){x:Str}{pos:Pos}(hN:X.N[i]? = some x:=by rfl)(hv:Vis X.env.scope x:=by first | exact Or.inl rfl | exact Or.inr (Or.inl rfl) | exact Or.inr (Or.inr rfl))(hd:(x == ("__debug__":Str))=false:=by decide)
  (hcd:(x == ("__classdict__":Str))=false:=by decide):PE X (.Name x pos) (uA i):=rM hN hv hd hcd
end
theorem m_ {A B:Prop}(h:B):if false=true then A else B:=by
 rw [if_neg xj]
 exact h
theorem ux {A B:Prop}(h:A):if true=true then A else B:=by
 rw [if_pos rfl]
 exact h
theorem iI {c A B:Prop}[Decidable c](h1:c→A)(h2:¬ c→B):if c then A else B:=by
 by_cases h:c
 ·rw [if_pos h]
  exact h1 h
 ·rw [if_neg h]
  exact h2 h
theorem nP {c A B:Prop}[Decidable c](hc:c)(h:B):if (!decide c)=true then A else B:=by
 rw [xC hc]
 exact m_ h
def aA (H H':Hp):Prop:=∀ b o,H b=some o→H' b=some o
theorem aA.refl (H:Hp):aA H H:=fun _ _ h=>h
theorem aA.trans {H H1 H2:Hp}(a:aA H H1)(b:aA H1 H2):aA H H2:=fun c o h=>b c o (a c o h)
section
variable {κ:Type} [DecidableEq κ]
end
def jl (cells:List (Str × Addr)):List (Str × NameKind)→List (Str × Addr)→List (Str × Addr)
 | [],acc=>acc
 | (x,k)::r,acc=>if k == NameKind.free then jl cells r ((x,(cells.lookup x).getD 0)::acc) else jl cells r acc
theorem gf {cells:List (Str × Addr)}{p:Str × Addr}:∀ {names:List (Str × NameKind)} {acc:List (Str × Addr)},p∈jl cells names acc→p∈acc ∨ ((p.1,NameKind.free)∈names∧p.2=(cells.lookup p.1).getD 0)
 | [],_,h=>.inl h
 | (x,k)::r,acc,h=>by
  unfold jl at h
  by_cases hk:(k == NameKind.free)=true
  ·rw [if_pos hk] at h
   have ek:k=NameKind.free:=by simpa using hk
   subst ek
   rcases gf h with h | ⟨h,e⟩
   ·rcases xg.mp h with h | h
    ·subst h
     exact .inr ⟨w4,rfl⟩
    ·exact .inl h
   ·exact .inr ⟨w_ _ h,e⟩
  ·rw [if_neg hk] at h
   rcases gf h with h | ⟨h,e⟩
   ·exact .inl h
   ·exact .inr ⟨w_ _ h,e⟩
theorem gh {cells:List (Str × Addr)}{p:Str × Addr}:∀ {names:List (Str × NameKind)} {acc:List (Str × Addr)},p∈acc→p∈jl cells names acc
 | [],_,h=>h
 | (x,k)::r,acc,h=>by
  unfold jl
  split
  ·exact gh (w_ _ h)
  ·exact gh h
theorem gj {cells:List (Str × Addr)}{x:Str}:∀ {names:List (Str × NameKind)} {acc:List (Str × Addr)},(x,NameKind.free)∈names→(x,(cells.lookup x).getD 0)∈jl cells names acc
 | [],_,h=>by simp at h
 | (y,k)::r,acc,h=>by
  unfold jl
  rcases xg.mp h with h | h
  ·have e1:x=y:=xF Prod.fst h
   have e2:NameKind.free=k:=xF Prod.snd h
   subst e1 e2
   rw [if_pos (by simp)]
   exact gh w4
  ·split
   ·exact gj h
   ·exact gj h
theorem cW {x:Str}{c:Addr}:∀ {l:List (Str × Addr)},(x,c)∈l→∃ d,l.lookup x=some d
 | [],h=>by simp at h
 | (y,d)::r,h=>by
  rw [Ag]
  by_cases e:(x == y)=true
  ·rw [e];exact ⟨d,rfl⟩
  ·have e':(x == y)=false:=by simpa using e
   rw [e']
   rcases xg.mp h with h | h
   ·have:x=y:=xF Prod.fst h
    exact absurd (by simpa using this) e
   ·exact cW h
theorem cX {env:Env}{scope:Scope}(h:∀ y∈scope.names,y.2=NameKind.free→∃ c,env.cells.lookup y.1=some c):closureFor scope env=pure (jl env.cells scope.names []):=by
 have all:∀ (names:List (Str × NameKind)) (acc:List (Str × Addr)),(∀ y∈names,y.2=NameKind.free→∃ c,env.cells.lookup y.1=some c) →
   (forIn names acc (fun (p:Str × NameKind) (r:List (Str × Addr))=>(if (p.2 == NameKind.free)=true then (do let a ← cellOf env p.1;pure (ForInStep.yield ((p.1,a)::r))) else pure (ForInStep.yield r):Sem (ForInStep (List (Str × Addr))))))=(pure (jl env.cells names acc):Sem (List (Str × Addr))):=by
  intro names
  induction names with
  | nil=>intro acc _;rfl
  | cons p r ih =>
   intro acc hh
   obtain ⟨x,k⟩:=p
   have hr:∀ y∈r,y.2=NameKind.free→∃ c,env.cells.lookup y.1=some c:=fun y hy=>hh y (w_ _ hy)
   rw [Az]
   unfold jl
   by_cases hk:(k == NameKind.free)=true
   ·obtain ⟨c,hc⟩:=hh (x,k) w4 (by simpa using hk)
    have hc:env.cells.lookup x=some c:=hc
    have ec:cellOf env x=pure c:=by
     unfold cellOf
     rw [hc]
    simp only [hk,yW,ec,pure_bind,hc,Option.getD_some]
    exact ih _ hr
   ·simp only [hk,yo,pure_bind]
    exact ih _ hr
 have e:=all scope.names [] h
 unfold closureFor
 simp only [bind_pure]
 exact e
def sF (scope sc:Scope)(NB own:List Str)(cap:List Nat)(N:List Str):Bool :=
 (scope.kind == .function) && (sc.kind == .function) &&
 (scope.names.all fun y=>match y.2 with
  | .cell=>false
  | .free=>sc.names.lookup y.1 == some NameKind.cell
  | .local=>scope.names.lookup y.1 == some NameKind.local
  | _=>true) &&
 (own.all fun x=>scope.names.lookup x == some NameKind.local && scope.names.all fun y=>!(y.1 == x) || y.2 == NameKind.local) &&
 (NB == own++cap.map fun i=>N.getD i "") && (cap.all fun i=>decide (i < N.length) && scope.names.lookup (N.getD i "") == some NameKind.free)
structure Blk (X:Cx) (scope:Scope) (NB own:List Str) (cap:List Nat):Prop where
 kind:scope.kind = .function
 outk:X.env.scope.kind = .function
 nocell:∀ y∈scope.names,y.2 ≠ .cell
 free:∀ y∈scope.names,y.2 = .free→X.env.kindOf y.1=some .cell
 names:∀ y∈scope.names,y.2 = .local→scope.names.lookup y.1=some .local
 owns:∀ x∈own,∀ y∈scope.names,y.1=x→y.2 = .local
 nb:NB=own++cap.map fun i=>X.N.getD i ""
 caps:∀ i∈cap,i < X.N.length∧scope.names.lookup (X.N.getD i "")=some .free
theorem bS {X:Cx}{scope sc:Scope}{NB own:List Str}{cap:List Nat}(hs:X.env.scope=sc)(h:sF scope sc NB own cap X.N=true):Blk X scope NB own cap:=by
 unfold sF at h
 simp only [xK] at h
 obtain ⟨⟨⟨⟨⟨h1,h2⟩,h3⟩,h4⟩,h5⟩,h6⟩:=h
 rw [List.all_eq_true] at h3 h4 h6
 subst hs
 refine ⟨by simpa using h1,by simpa using h2,fun y hy e=>?_,fun y hy e=>?_,fun y hy e=>?_,fun x hx y hy e=>?_,by simpa using h5,fun i hi=>?_⟩
 ·have:=h3 y hy
  rw [e] at this
  exact absurd this (by simp)
 ·have:=h3 y hy
  rw [e] at this
  show X.env.scope.names.lookup y.1=some .cell
  simpa using this
 ·have:=h3 y hy
  rw [e] at this
  simpa using this
 ·have:=h4 x hx
  simp only [xK,List.all_eq_true] at this
  have q:=this.2 y hy
  subst e
  simpa using q
 ·have:=h6 i hi
  simp only [xK] at this
  exact ⟨of_decide_eq_true this.1,by simpa using this.2⟩
def cxB (X:Cx)(NB own:List Str)(scope:Scope)(C:Addr)(fp:List Addr)(s₀:Shared)(H₀:Hp):Cx where
 prog:=X.prog
 w:=X.w
 K:=X.K
 mg:=X.mg
 base:=X.base
 A:=X.A
 N:=NB
 s₀:=s₀
 H₀:=H₀
 env:=compEnvC scope (jl X.env.cells scope.names []) C X.env
 outer:=X.stack
 stack:=X.stack
 ex:=fp
 fn:=fun x=>own.contains x
 calm:=X.calm
 pn:=[]
 xe:=fun _ _=>False
theorem cv {env:Env}{x:Str}{k:NameKind}(hk:k = .cell ∨ k = .free):∀ {names:List (Str × NameKind)},(∀ y∈names,y.2 ≠ .cell) →
  (names.map fun (n,k)=>if (k == NameKind.free && env.scope.kind == .function && env.kindOf n == some .cell) then (n,NameKind.cell) else (n,k)).lookup x=some k→(x,NameKind.free)∈names
 | [],_,h=>by simp at h
 | (n,q)::r,hn,h=>by
  have ih:=@cv env x k hk r fun y hy=>hn y (w_ _ hy)
  rw [xr,Ag] at h
  have key:(if (q == NameKind.free && env.scope.kind == .function && env.kindOf n == some .cell)=true then (n,NameKind.cell) else (n,q)).1=n:=by split <;> rfl
  by_cases e:(x == n)=true
  ·have en:x=n:=by simpa using e
   subst en
   by_cases hq:q = .free
   ·subst hq;exact w4
   ·have hqf:(q == NameKind.free)=false:=by simpa using hq
    simp only [hqf,Bo,xk,yo,beq_self_eq_true] at h
    have h':q=k:=wO h
    rcases hk with z | z
    ·exact absurd (h'.trans z) (hn (x,q) w4)
    ·exact absurd (h'.trans z) hq
  ·have e':(x == n)=false:=by simpa using e
   refine w_ _ (ih ?_)
   have e2:(x == (if (q == NameKind.free && env.scope.kind == .function && env.kindOf n == some .cell)=true then (n,NameKind.cell) else (n,q)).1)=false:=by rw [key];exact e'
   rw [e2] at h
   exact h
theorem eS {env:Env}{x:Str}(hk:env.scope.kind = .function)(hc:env.kindOf x=some .cell):∀ {names:List (Str × NameKind)},names.lookup x=some .free →
  (names.map fun (n,k)=>if (k == NameKind.free && env.scope.kind == .function && env.kindOf n == some .cell) then (n,NameKind.cell) else (n,k)).lookup x=some .cell
 | [],h=>by simp at h
 | (n,q)::r,h=>by
  have ih:=@eS env x hk hc r
  rw [Ag] at h
  rw [xr,Ag]
  by_cases e:(x == n)=true
  ·have en:x=n:=by simpa using e
   subst en
   rw [e] at h
   have hq:q = .free:=wO h
   subst hq
   simp [hk,hc]
  ·have e':(x == n)=false:=by simpa using e
   rw [e'] at h
   have key:(if (q == NameKind.free && env.scope.kind == .function && env.kindOf n == some .cell)=true then (n,NameKind.cell) else (n,q)).1=n:=by split <;> rfl
   have e2:(x == (if (q == NameKind.free && env.scope.kind == .function && env.kindOf n == some .cell)=true then (n,NameKind.cell) else (n,q)).1)=false:=by rw [key];exact e'
   rw [e2]
   exact ih h
def stB (own:List Str)(cap:List Nat)(σ:St):St:=(own.map fun _=>none)++cap.map fun i=>(σ[i]?).getD none
section
variable {X:Cx} {pins:List (Addr × Obj)} {σ:St} {H:Hp} {s:Shared} {scope:Scope} {NB own:List Str} {cap:List Nat} {fp:List Addr} {C:Addr}
theorem Blk.cells (B:Blk X scope NB own cap)(ok:X.Ok){x:Str}{c:Addr}(h:(jl X.env.cells scope.names []).lookup x=some c):X.env.cells.lookup x=some c∧(x,NameKind.free)∈scope.names:=by
 rcases gf (yu h) with q | ⟨q,e⟩
 ·simp at q
 ·obtain ⟨d,hd⟩:=ok.has x (.inl (B.free (x,.free) q rfl))
  have e:c=(X.env.cells.lookup x).getD 0:=e
  rw [hd] at e
  refine ⟨?_,q⟩
  rw [hd,e];rfl
theorem Blk.cell (B:Blk X scope NB own cap)(ok:X.Ok){x:Str}(h:(x,NameKind.free)∈scope.names):∃ c,(jl X.env.cells scope.names []).lookup x=some c:=cW (gj h)
theorem Blk.start (B:Blk X scope NB own cap)(I:Inv X pins σ H s)(hf:∀ b∈fp,jd X pins H b)(hfs:∀ b∈fp,∃ o,s.heap.get? b=some o){h':Heap}{tk:Nat}{m:Str→Option Value}(hC:s.heap.objs.size≤C)
  (k:∀ b o,s.heap.get? b=some o→h'.get? b=some o) (hn:h'.Ns C m) :
  Inv (cxB X NB own scope C fp s H) [] (stB own cap σ) H { s with heap:=h',toks:=tk }:=by
 have hlen:NB.length=own.length+cap.length:=by rw [B.nb];simp
 have okB:(cxB X NB own scope C fp s H).Ok:=by
  refine ⟨I.ok.mod,B.kind,I.ok.glob,I.ok.blt,hC,fun x y c h1 h2=>I.ok.inj x y c (B.cells I.ok h1).1 (B.cells I.ok h2).1,fun x hx=>?_,fun x c h1 h2=>?_,I.ok.hd,I.ok.frames,.inl rfl,fun b hb=>⟨?_,fun x c h=>?_⟩,I.bs,xq I.ok.bsz I.sz,fun b o e hb=>?_,fun b hb z=>?_,I.stack,I.stkFree⟩
  ·have:(x,NameKind.free)∈scope.names:=by
    rcases hx with z | z
    ·exact cv (.inl rfl) B.nocell z
    ·exact cv (.inr rfl) B.nocell z
   exact B.cell I.ok this
  ·have hx:x∈own:=by simpa [cxB] using h1
   have q:=B.owns x hx _ (B.cells I.ok h2).2 rfl
   exact absurd q (by simp)
  ·obtain ⟨o,e⟩:=hfs b hb
   exact xD (xi (wZ e) hC)
  ·exact (hf b hb).2.2.2.2.1 x c (B.cells I.ok h).1
  ·have hb:b∈fp:=hb
   rcases (hf b hb).2.2.2.1 with z | z
   ·exact I.ok.noex b o e z
   ·exact absurd (xi (wZ e) (xq I.ok.bsz z)) (xT _)
  ·rcases xg.mp (I.stkSub b z) with z | z
   ·exact (hf b hb).2.1 z
   ·exact (hf b hb).2.2.1 z
 refine ⟨okB,rfl,I.bare,Un.kept k,⟨m,hn,fun i x v e1 e2 e3=>?_⟩,fun x c h=>?_,I.hok.fresh hC,fun x c h=>I.freeC x c (B.cells I.ok h).1,fun p hp=>absurd (show p∈([]:List (Addr × Obj)) from hp) (by simp),I.hok.kept k,?_⟩
 ·have e1:NB[i]? = some x:=e1
  have hi:¬ i < own.length:=fun hi=>by
   unfold stB at e2
   rw [xW (by simpa using hi),wL] at e2
   cases q:own[i]? <;> rw [q] at e2 <;> cases e2
  unfold stB at e2
  rw [xy (by simpa using hi),wL] at e2
  rw [B.nb,xy (by omega),wL] at e1
  simp only [fu] at e2
  cases q:cap[i - own.length]? with
  | none=>rw [q] at e1;cases e1
  | some j =>
   rw [q] at e1 e2
   have ex:X.N.getD j "" = x:=wO e1
   have ev:(σ[j]?).getD none=some v:=wO e2
   obtain ⟨hj,hjf⟩:=B.caps j (wR q)
   rw [ex] at hjf
   have hN:X.N[j]? = some x:=by rw [← ex,xf,wF hj];rfl
   have hσ:σ[j]? = some (some v):=by
    cases z:σ[j]? with
    | none=>rw [z] at ev;cases ev
    | some u=>rw [z] at ev;exact xF some ev
   have hmem:(x,NameKind.free)∈scope.names:=yu hjf
   have hkc:=B.free _ hmem rfl
   obtain ⟨m0,hn0,hl⟩:=I.loc
   obtain ⟨u,r,l⟩:=hl j x v hN hσ (.inr (.inl hkc))
   refine ⟨u,r,.inr ⟨.inl (eS B.outk hkc hjf),?_⟩⟩
   obtain ⟨c,hc⟩:=B.cell I.ok hmem
   refine ⟨c,hc,?_⟩
   rcases l with ⟨z,_⟩ | ⟨_,c',hc',⟨oc,hoc,hd⟩⟩
   ·rw [show X.env.kindOf x=some .cell from hkc] at z;cases z
   ·have:=(B.cells I.ok hc).1
    rw [hc'] at this
    have:c'=c:=wO this
    subst this
    exact ⟨oc,k _ _ hoc,hd⟩
 ·obtain ⟨v,oc,hoc,hd⟩:=I.cell x c (B.cells I.ok h).1
  exact ⟨v,oc,k _ _ hoc,hd⟩
 ·show (stB own cap σ).length=NB.length
  unfold stB
  rw [hlen];simp
theorem Blk.done (B:Blk X scope NB own cap)(I:Inv X pins σ H s)(hf:∀ b∈fp,jd X pins H b){σB:St}{H':Hp}{s':Shared}{h'':Heap}{D:Addr}{ys:List V}{its:List Value}{n:Nat}(hC:s.heap.objs.size≤C)(hD:s.heap.objs.size≤D)(hDC:D≠C)
  (J:Inv (cxB X NB own scope C fp s H) [] σB H' s') (hn:H' D=none) (e:s'.heap.get? D=some { cls:=.type "list",data:=.seq its.toArray n }) (hv:aZ ys its) (hz:ys.length≤sizeLine)
  (sb:Heap.SameBut C s'.heap h''):Inv X pins σ (upd H' D (.lst ys)) { s' with heap:=h'' }:=by
 have un:Un (frs X.stack) fp H H' s.heap s'.heap:=J.base
 have neC:∀ {b o},s.heap.get? b=some o→b≠C:=fun q=>xD (xi (wZ q) hC)
 have neD:∀ {b o},s.heap.get? b=some o→b≠D:=fun q=>xD (xi (wZ q) hD)
 have hCn:H' C=none:=J.free
 refine I.call' (s':={ s' with heap:=h'' }) (ch:=fp) J.os ⟨fun b o q n hb hx=>?_,fun b o q n hb hx=>?_,fun b o q n hx=>?_,fun b o q hx=>?_,fun b xs q=>?_,fun b o u q=>?_,fun b ps q=>?_⟩ (fun b u q=>?_) J.bare fun b hb=>?_
 ·exact (sb.2 b (neC q)).trans (un.keep b o q n hb hx)
 ·obtain ⟨sl,r⟩:=un.slot b o q n hb hx
  exact ⟨sl,(sb.2 b (neC q)).trans r⟩
 ·rw [av (neD q)]
  exact un.free b o q n hx
 ·obtain ⟨o',r⟩:=un.there b o q hx
  exact ⟨o',(sb.2 b (neC q)).trans r⟩
 ·have r:=un.tups b xs q
  rw [av (ag r hn)]
  exact r
 ·have r:=un.frzs b o u q
  rw [av (ag r hn)]
  exact r
 ·obtain ⟨more,r⟩:=un.tbls b ps q
  exact ⟨more,by rw [av (ag r hn)];exact r⟩
 ·by_cases hb:b=D
  ·subst hb
   rw [ab] at q
   cases q
   exact ⟨hz,its,n,hv,(sb.2 b hDC).trans e⟩
  ·rw [av hb] at q
   refine (J.hok b u q).stay (fun c v hc r=>(sb.2 c ?_).trans r) (fun c r=>?_) fun c xs r=>?_
   ·rcases hc with z | z
    ·rw [z];exact ag q hCn
    ·exact ag z hCn
   ·rw [av (ag r hn)];exact r
   ·rw [av (ag r hn)];exact r
 ·obtain ⟨_,f1,_,f3,f4,f5⟩:=hf b hb
  exact ⟨f3,f1,f4,f5⟩
end
def PIf (X:Cx)(ifs:List Expr)(t:TT):Prop :=
 ∀ (pins:List (Addr × Obj)) (s:Shared) (σ:St) (H:Hp) (Q:Bool→Hp→Prop),Inv X pins σ H s→t σ H Q →
  wpAny (model X.prog X.w) X.A (forIn ifs true fun c r=>if r=true then do let ok ← isTrue c X.env (eval c X.env);pure (ForInStep.yield ok) else pure (ForInStep.yield r)) (TP X pins σ Q) X.xe s
def wg:TT:=fun _ H Q=>Q true H
theorem bG {X:Cx}:PIf X [] wg:=fun _ _ _ H _ I h=>wpAny_tests_nil ⟨H,I,h⟩
theorem cY {X:Cx}{c:Expr}{t:TT}(h:PT X c t):PIf X [c] t:=fun pins s σ H Q I q=>wpAny_tests_one (h pins s σ H Q I q)
section
variable {prog:Program} {w:World} {A:Around} {R:Result→Shared→Prop} {s:Shared}
abbrev noE:Value→Shared→Prop:=fun _ _=>False
theorem hX {elt tg iter:Expr}{ifs:List Expr}{scope:Scope}{pos:Pos}{it acc:Value}{env:Env}(I:Nat→Shared→Prop)
  (turn:∀ n s,I n s→wpAny (model prog w) A (pyNext it) (fun r s₁=>match r with
   | none=>R (.ok .next) s₁
   | some v=>wpAny (model prog w) A (letOwnedTupleGo tg it v) (fun _ s₀=>wpAny (model prog w) A (assign tg env v) (fun _ s₂ =>
     wpAny (model prog w) A (forIn ifs true fun c r=>if r=true then do let ok ← isTrue c env (eval c env);pure (ForInStep.yield ok) else pure (ForInStep.yield r)) (fun ok s₃ =>
      if ok=true then wpAny (model prog w) A (eval elt env) (fun x s₄=>wpAny (model prog w) A (call (.builtin "list.append") [acc,x]) (fun _ s₅=>∃ m,m < n∧I m s₅) noE s₄) noE s₃
      else ∃ m,m < n∧I m s₃) noE s₂) noE s₀) noE s₁) noE s)
  (n:Nat) (h:I n s):codeAny (model prog w) A (.compLoop (.ListComp elt [⟨tg,iter,ifs,0⟩] scope pos) 0 it acc env) R s:=by
 refine codeAny_loop rfl I (fun n s hI=>?_) n h
 show wpAny _ A ((compTurn (.ListComp elt [⟨tg,iter,ifs,0⟩] scope pos) 0 it acc env).onRaise (fun x=>do noteFrame x env;theTreesLotGoes x)) _ _ s
 refine wpAny_noted ?_
 rw [compTurn_list]
 refine wD (A2 (wD (yt (turn n s hI) (fun r s₁ h₁=>?_) fun _ _ z=>False.elim z)))
 cases r with
 | none=>exact wI h₁
 | some v =>
  refine wD (yt h₁ (fun _ s₀ h₀=>wD (yt h₀ (fun _ s₂ h₂=>wD (yt h₂ (fun ok s₃ h₃=>?_) fun _ _ z=>False.elim z)) fun _ _ z=>False.elim z)) fun _ _ z=>False.elim z)
  cases ok with
  | false=>exact wI ⟨rfl,h₃⟩
  | true=>exact wD (wD (yt h₃ (fun x s₄ h₄=>wD (yt h₄ (fun _ s₅ h₅=>wI (wI ⟨rfl,h₅⟩)) fun _ _ z=>False.elim z)) fun _ _ z=>False.elim z))
end
def nQ (own:List Str)(cap:List Nat)(g:TG)(ti:TT)(te:TE)(Q:VK)(σ:St)(J:It)(H1:Hp):Prop:=∃ W:Nat→Nat→List V→St→Hp→Prop,(∃ m,W 0 m [] (stB own cap σ) H1)∧∀ i m ys σ H,W i m ys σ H →
 (J.stop i H∧ys.length≤sizeLine∧∀ D,H D=none→Q (.ref D) (upd H D (.lst ys))) ∨
 (J.go i H∧ys.length < sizeLine∧∀ x H',J.yld i H x H'→g x σ H' fun σ2 H2=>ti σ2 H2 fun b H3=>if b=true then te σ2 H3 fun y H4=>∃ m',m' < m∧W (i+1) m' (ys++[y]) σ2 H4 else ∃ m',m' < m∧W (i+1) m' ys σ2 H3)
def sG (own:List Str)(cap:List Nat)(wi:TI)(g:TG)(ti:TT)(te:TE):TE:=fun σ H Q=>wi σ H fun J H1=>nQ own cap g ti te Q σ J H1
theorem bz {X:Cx}{elt iter tg:Expr}{ifs:List Expr}{scope:Scope}{pos:Pos}{NB own:List Str}{cap:List Nat}{wi:TI}{g:TG}{ti:TT}{te:TE}(B:Blk X scope NB own cap)(hc:X.calm=true)(hi:PI X tg iter wi)
  (hg:∀ C fp s₀ H₀,PG (cxB X NB own scope C fp s₀ H₀) tg g) (ht:∀ C fp s₀ H₀,PIf (cxB X NB own scope C fp s₀ H₀) ifs ti) (he:∀ C fp s₀ H₀,PE (cxB X NB own scope C fp s₀ H₀) elt te)
  (hs:∀ x,foldedSetIterable iter X.env x=pure x:=by intro _;rfl):PE X (.ListComp elt [⟨tg,iter,ifs,0⟩] scope pos) (sG own cap wi g ti te):=by
 intro pins s σ H Q I0 h
 rw [eval_ListComp]
 have hclos:=cX (env:=X.env) (scope:=scope) fun y hy e=>I0.ok.has y.1 (.inl (B.free y hy e))
 refine AV (use:=none) rfl hs hclos B.kind B.names (thn (hi pins s σ H _ I0 h) fun v s1 h1=>thn h1 fun itv s2 h2=>?_)
 obtain ⟨it,fp,tn,J,H2,rfl,I,T,st2,f2,W,⟨m0,w0⟩,turn⟩:=h2
 refine zR ?_
 refine wpAny_newFunctionEnv B.nocell (by intro y hy;simp at hy) (fun h₁ hns₁ hsb₁=>?_) B.kind
 dsimp only at hns₁ hsb₁ ⊢
 generalize hP:s2.heap.push { cls:=.type "list",dict:=none,data:=.seq ([]:List Value).toArray }=P at hns₁ hsb₁ ⊢
 have hC:P.objs.size=s2.heap.objs.size+1:=by rw [← hP,z9]
 have hDC:s2.heap.objs.size≠P.objs.size:=by rw [hC];exact xD (Ah _)
 have hCle:s2.heap.objs.size≤P.objs.size:=by rw [hC];exact Br _
 have old:∀ b o,s2.heap.get? b=some o→h₁.get? b=some o:=fun b o e=>by
  refine (hsb₁.2 b ?_).trans (wK _ (hP ▸ wK _ e))
  exact xD (xi (wZ e) hCle)
 have hD:h₁.get? s2.heap.objs.size=some { cls:=.type "list",data:=.seq ([]:List Value).toArray 0 }:=by
  refine (hsb₁.2 _ hDC).trans (wK _ ?_)
  rw [← hP]
  exact wV _ rfl
 have hfs:∀ b∈fp,∃ o,s2.heap.get? b=some o:=fun b hb=>let ⟨o,e,_⟩:=T.obj _ _ st2 b hb;⟨o,e⟩
 have st4:tn 0 h₁:=T.keep _ _ _ st2 fun b _ o e=>old b o e
 generalize htk:s2.toks+([]:List (Str × Value)).length=tk4
 have I4:=B.start (C:=P.objs.size) (tk:=tk4) I f2 hfs hCle old hns₁
 have fOk:∀ {H':Hp} {b:Addr} {ob:Obj},b∈fp→H' b=none→jd (cxB X NB own scope P.objs.size fp s2 H2) [(s2.heap.objs.size,ob)] H' b:=fun {H' b ob} hb hn=>by
  obtain ⟨o,e⟩:=hfs b hb
  refine ⟨hn,(I4.ok.exf b hb).1,I4.ok.exfs b hb,.inl hb,(I4.ok.exf b hb).2,fun p hp=>?_⟩
  have ep:p=(s2.heap.objs.size,ob):=wH.mp (show p∈[(s2.heap.objs.size,ob)] from hp)
  rw [ep]
  exact fun z=>absurd (wZ e) (by rw [← z];exact xT _)
 have dnf:s2.heap.objs.size∉frs X.stack:=fun z=>by
  rcases xg.mp (I.stkSub _ z) with z | z
  ·exact absurd I.lt (by rw [← z];exact xT _)
  ·exact I.nofs (wJ _) z
 have I3D:∀ {σ3:St} {H3:Hp} {s3:Shared} {its:List Value} {k:Nat},Inv (cxB X NB own scope P.objs.size fp s2 H2) [] σ3 H3 s3→s3.heap.get? s2.heap.objs.size=some { cls:=.type "list",data:=.seq its.toArray k }→H3 s2.heap.objs.size=none →
   Inv (cxB X NB own scope P.objs.size fp s2 H2) [(s2.heap.objs.size,{ cls:=.type "list",data:=.seq its.toArray k })] σ3 H3 s3:=fun I3 e n=>I3.pins_of fun p hp=>by
  have ep:=wH.mp hp
  subst ep
  exact ⟨e,n,hDC,dnf,fun v z=>by cases z⟩
 have ndf:s2.heap.objs.size∉fp:=fun z=>by
  obtain ⟨o,e⟩:=hfs _ z
  exact absurd (wZ e) (xT _)
 have nCD:∀ x c,(cxB X NB own scope P.objs.size fp s2 H2).env.cells.lookup x=some c→c≠s2.heap.objs.size:=fun x c e z=>by
  obtain ⟨v,o,ho,_⟩:=I.cell x c (B.cells I.ok e).1
  rw [z] at ho
  exact absurd (wZ ho) (xT _)
 have loop:∀ s₃:Shared,s₃ = { s2 with heap:=h₁,toks:=tk4 }→codeAny (model X.prog X.w) X.A (.compLoop (.ListComp elt [⟨tg,iter,ifs,0⟩] scope pos) 0 (.ref it) (.ref s2.heap.objs.size) (cxB X NB own scope P.objs.size fp s2 H2).env)
   (compPost (model X.prog X.w) X.A X.xe none (EP X pins σ Q) (.ref s2.heap.objs.size) P.objs.size) s₃:=by
  rintro s₃ rfl
  refine hX (fun n s'=>∃ i σB H' ys its k,Inv (cxB X NB own scope P.objs.size fp s2 H2) [] σB H' s'∧tn i s'.heap∧(∀ b∈fp,H' b=none)∧s'.heap.get? s2.heap.objs.size=some { cls:=.type "list",data:=.seq (its:List Value).toArray k }∧aZ ys its∧H' s2.heap.objs.size=none∧W i n ys σB H') ?_ m0
   ⟨0,stB own cap σ,H2,[],[],0,I4,st4,fun b hb=>(f2 b hb).1,hD,.nil,I.hok.fresh (wJ _),w0⟩
  rintro n s3 ⟨i,σ3,H3,ys,its,k,I3,st3,fr3,hD3,rv,hn3,w3⟩
  rcases turn i n ys σ3 H3 w3 with ⟨stop,hz,q⟩ | ⟨go,hz,step⟩
  ·refine thn (T.done (cxB X NB own scope P.objs.size fp s2 H2) rfl rfl rfl hc i _ s3 σ3 H3 noE (I3D I3 hD3 hn3) (fun b hb=>fOk hb (fr3 b hb)) st3 stop) fun r s4 zq1=>?_
   obtain ⟨hr,I4'⟩:=zq1
   subst hr
   have hD4:s4.heap.get? s2.heap.objs.size=some { cls:=.type "list",data:=.seq (its:List Value).toArray k }:=(I4'.pin (s2.heap.objs.size,_) (wU _ (wH.mpr rfl))).1
   have I5:Inv (cxB X NB own scope P.objs.size fp s2 H2) [] σ3 H3 s4:=I4'.pins_of fun p hp=>absurd (show p∈([]:List (Addr × Obj)) from hp) (by simp)
   obtain ⟨mC,hnC,_⟩:=I5.loc
   exact ⟨mC,hnC,fun h'' sb=>⟨.ref s2.heap.objs.size,_,B.done I f2 hCle (wJ _) hDC I5 hn3 hD4 rv hz sb,rfl,q _ hn3⟩⟩
  ·refine thn (T.item (cxB X NB own scope P.objs.size fp s2 H2) rfl rfl rfl hc i _ s3 σ3 H3 noE (I3D I3 hD3 hn3) (fun b hb=>fOk hb (fr3 b hb)) st3 go) fun r s4 zq2=>?_
   obtain ⟨u,hr,h4⟩:=zq2
   subst hr
   refine thn h4 fun _ s5 zq3=>?_
   obtain ⟨x,H5,I5,r5,y5,st5,fr5⟩:=zq3
   have I5':=I5.pinned (fun b hb=>fOk hb (fr5 b hb)) (T.obj _ _ st5)
   refine thn (hg _ fp s2 H2 _ s5 σ3 H5 x u _ I5' r5 (step x H5 y5)) fun _ s6 zq4=>?_
   obtain ⟨σ6,H6,I6,q6⟩:=zq4
   refine thn (ht _ fp s2 H2 _ s6 σ6 H6 _ I6 q6) fun b s7 zq5=>?_
   obtain ⟨H7,I7,q7⟩:=zq5
   have pinned:∀ {σ8:St} {H8:Hp} {s8:Shared},Inv (cxB X NB own scope P.objs.size fp s2 H2) ([(s2.heap.objs.size,{ cls:=.type "list",data:=.seq (its:List Value).toArray k })]++fz fp s5.heap) σ8 H8 s8 →
     tn (i+1) s8.heap∧(∀ b∈fp,H8 b=none)∧s8.heap.get? s2.heap.objs.size=some { cls:=.type "list",data:=.seq (its:List Value).toArray k }∧H8 s2.heap.objs.size=none:=fun {σ8 H8 s8} I8=>by
    refine ⟨T.keep _ _ _ st5 fun b hb o e=>(I8.pin (b,o) (wU _ (wU _ (bO hb e)))).1,fun b hb=>?_,?_,?_⟩
    ·obtain ⟨o,e,d⟩:=T.obj _ _ st5 b hb
     exact (I8.pin (b,o) (wU _ (wU _ (bO hb e)))).2.1
    ·exact (I8.pin (s2.heap.objs.size,_) (wU _ (xp _ (wH.mpr rfl)))).1
    ·exact (I8.pin (s2.heap.objs.size,_) (wU _ (xp _ (wH.mpr rfl)))).2.1
   have nopin:∀ {pp:List (Addr × Obj)} {σ8:St} {H8:Hp} {s8:Shared},Inv (cxB X NB own scope P.objs.size fp s2 H2) pp σ8 H8 s8→Inv (cxB X NB own scope P.objs.size fp s2 H2) [] σ8 H8 s8:=fun I8=>I8.pins_of fun p hp=>absurd (show p∈([]:List (Addr × Obj)) from hp) (by simp)
   cases b with
   | false =>
    rw [if_neg xj] at q7 ⊢
    obtain ⟨m',hm,w7⟩:=q7
    obtain ⟨p1,p2,p3,p4⟩:=pinned I7
    exact ⟨m',hm,i+1,σ6,H7,ys,its,k,nopin I7,p1,p2,p3,rv,p4,w7⟩
   | true =>
    rw [if_pos rfl] at q7 ⊢
    refine thn (he _ fp s2 H2 _ s7 σ6 H7 _ I7 q7) fun yv s8 zq6=>?_
    obtain ⟨y,H8,I8,r8,m',hm,w8⟩:=zq6
    obtain ⟨p1,p2,p3,p4⟩:=pinned I8
    refine z4 yd ⟨_,p3,rfl⟩ Ay (An _ _) (AU s2.heap.objs.size its.toArray k yv (by rw [wX,← rv.length];omega)) ⟨p3,?_⟩
    have q:=A9 p3 fun a=>a.push yv
    have ea:its.toArray.push yv=(its++[yv]).toArray:=by simp
    rw [ea] at q
    have I9:Inv (cxB X NB own scope P.objs.size fp s2 H2) [] σ6 H8 { s8 with heap:=s8.heap.update s2.heap.objs.size (Obj.mapSeq fun a=>a.push yv),toks:=s8.toks } :=
     (nopin I8).turned (it:=s2.heap.objs.size) (fun b o hb e=>(x9 s8.heap _ (Ne.symm hb)).trans e) p4 hDC (.inr (wJ _)) (fun x c e=>nCD x c e) fun p hp=>absurd (show p∈([]:List (Addr × Obj)) from hp) (by simp)
    refine ⟨m',hm,i+1,σ6,H8,ys++[y],its++[yv],_,I9,?_,p2,q,rv.append (.cons r8 .nil),p4,w8⟩
    refine T.keep _ _ _ p1 fun b hb o e=>(x9 s8.heap _ ?_).trans e
    intro z
    rw [z] at ndf
    exact ndf hb
 exact codeAny_compStart_list (loop _ rfl) (T.self X.A 0 _ _ _ st4 (loop _ rfl))
theorem cg {own:List Str}{cap:List Nat}{J:It}{g:TG}{ti:TT}{te:TE}{σ:St}{H:Hp}{Q:VK}(n:Nat)(Pv:Nat→List V→St→Hp→Prop)(h0:Pv 0 [] (stB own cap σ) H)(hz:∀ i ys σ H,i≤n→Pv i ys σ H→ys.length≤i)(hn:n≤sizeLine)
  (hgo:∀ i ys σ H,i < n→Pv i ys σ H→J.go i H) (hst:∀ ys σ H,Pv n ys σ H→J.stop n H)
  (hs:∀ i ys σ H x H' (N:List V→St→Hp→Prop),i < n→Pv i ys σ H→J.yld i H x H'→(∀ ys' σ' H'',Pv (i+1) ys' σ' H''→N ys' σ' H'')→g x σ H' fun σ2 H2=>ti σ2 H2 fun b H3=>if b=true then te σ2 H3 fun y H4=>N (ys++[y]) σ2 H4 else N ys σ2 H3)
  (hd:∀ ys σ H D,Pv n ys σ H→H D=none→Q (.ref D) (upd H D (.lst ys))) :
  nQ own cap g ti te Q σ J H:=by
 refine ⟨fun i m ys σ H=>m=n - i∧i≤n∧Pv i ys σ H,⟨n,by simp,xE _,h0⟩,?_⟩
 rintro i m ys σ H ⟨rfl,hi,p⟩
 have hl:=hz i ys σ H hi p
 by_cases hlt:i < n
 ·refine .inr ⟨hgo i ys σ H hlt p,by omega,fun x H' y=>?_⟩
  exact hs i ys σ H x H' (fun ys' σ' H''=>∃ m',m' < n - i∧m'=n - (i+1)∧i+1≤n∧Pv (i+1) ys' σ' H'') hlt p y fun ys' σ' H'' q=>⟨n - (i+1),by omega,rfl,hlt,q⟩
 ·have e:i=n:=by omega
  subst e
  exact .inl ⟨hst ys σ H p,by omega,fun D hD=>hd ys σ H D p hD⟩
def Its (z:Str):It:=⟨fun i _=>i < z.cps.size,fun i H x H'=>H'=H∧∃ c,z.cps[i]? = some c∧x = .str ⟨#[c]⟩,fun i _=>i=z.cps.size⟩
theorem cj {P:Program}{w:World}{K:PySem.W.Frag}{tg:Expr}{it n:Nat}{Pv:Nat→Value→Prop}{st:Nat→Heap→Prop}{J:It}{T:String}{fl:Nat→Array Value}
  (W:∀ A:Around,A.handled=none→Walks P w A it [it] [it] n Pv st) (hst:∀ i h,st i h→∃ o,h.get? it=some o∧o.cls = .type T∧o.data = .fields (fl i))
  (hT:["enumerate","zip","dict_itemiterator","dict_reverseitemiterator","odict_iterator","itertools.zip_longest","itertools.pairwise"].contains T=false)
  (hgo:∀ i H,J.go i H→i < n) (hstop:∀ i H,J.stop i H→i=n) (hy:∀ i H u,J.go i H→Pv i u→∃ x,bB x u∧J.yld i H x H)
  (hself:∀ (A:Around) (i:Nat) (s:Shared) (Q:Value→Shared→Prop) (E:Value→Shared→Prop),st i s.heap→Q (.ref it) s→wpAny (model P w) A (pyIter (.ref it)) Q E s):pj P w K tg J [it] it st where
 mem:=by simp
 obj:=fun i h s b hb=>by
  have e:b=it:=by simpa using hb
  subst e
  obtain ⟨o,e,c,d⟩:=hst i h s
  exact ⟨o,e,fun v z=>by rw [d] at z;cases z⟩
 keep:=fun i h h' s k=>(W {} rfl).frame i h h' s k
 item:=by
  intro X hP hw hK hc i pins s σ H E I hf s0 hg
  subst hP hw hK
  obtain ⟨f0,f1,f2,f3,f4,f5⟩:=hf it (by simp)
  refine (W X.A (I.ok.hd hc)).item i s _ _ (hgo i H hg) s0 fun v h' tk hv st' kk=>?_
  have I1:Inv X pins σ H { s with heap:=h',toks:=tk }:=I.turned (fun b o hb e=>kk b o (by simpa using hb) e) f0 f1 f3 f4 f5
  obtain ⟨o,e,c,d⟩:=hst _ _ st'
  obtain ⟨x,rx,yx⟩:=hy i H v hg hv
  exact ⟨v,rfl,nq (s:={ s with heap:=h',toks:=tk }) e c d hT ⟨x,H,I1,rx,yx,st',fun b hb=>(hf b hb).1⟩⟩
 done:=by
  intro X hP hw hK hc i pins s σ H E I hf s0 hg
  subst hP hw hK
  obtain ⟨f0,f1,f2,f3,f4,f5⟩:=hf it (by simp)
  have e:=hstop i H hg
  subst e
  exact (W X.A (I.ok.hd hc)).done s _ _ s0 fun h' tk kk=>⟨rfl,I.turned (fun b o hb e=>kk b o (by simpa using hb) e) f0 f1 f3 f4 f5⟩
 self:=hself
section
variable {X:Cx} {tg:Expr}
def wj (tl:TE):TI:=fun σ H R=>tl σ H fun x H1=>∃ z,x = .str z∧R (Its z) H1
theorem kU {z:Str}{i:Nat}{H:Hp}{u:Value}(h:SignAt z i u):∃ x,bB x u∧(Its z).yld i H x H:=by
 obtain ⟨c,t,e,rfl⟩:=h
 exact ⟨.str ⟨#[c]⟩,⟨t,rfl⟩,rfl,c,e,rfl⟩
theorem jm {l:Expr}{tl:TE}(hl:PE X l tl):PI X tg l (wj tl):=by
 intro pins s σ H R I h
 refine thn (hl pins s σ H _ I h) fun v s1 zq1=>?_
 obtain ⟨x,H1,I1,r1,q1⟩:=zq1
 obtain ⟨z,rfl,q⟩:=q1
 obtain ⟨t,rfl⟩:=r1
 have fp:∀ b∈[s1.heap.objs.size],jd X pins H1 b:=fun b hb=>by
  have e:b=s1.heap.objs.size:=by simpa using hb
  subst e
  exact I1.fpOk (wJ _) (I1.hok.fresh (wJ _))
 cases ha:z.cps.all (· < 128)
 ·refine wpAny_pyIter_wide ha ⟨s1.heap.objs.size,[s1.heap.objs.size],_,Its z,H1,rfl,I1.kept (t':=s1.toks) fun b o e=>wK _ e,
   cj (T:="str_iterator") (fl:=fun i=>#[.str z t,.int i 0]) (fun A hh=>Walks.strWide hh _ z t) (fun i h st=>st) (by decide) (fun i H g=>g) (fun i H g=>g) (fun i H u _ hu=>kU hu) (fun A i s Q E st h=>wpAny_pyIter_striter_wide st h),⟨_,wV _ rfl,rfl,rfl⟩,fp,q⟩
 ·refine wpAny_pyIter_ascii ha ⟨s1.heap.objs.size,[s1.heap.objs.size],_,Its z,H1,rfl,I1.kept (t':=s1.toks) fun b o e=>wK _ e,
   cj (T:="str_ascii_iterator") (fl:=fun i=>#[.str z t,.int i 0]) (fun A hh=>Walks.strAscii hh _ z t) (fun i h st=>st) (by decide) (fun i H g=>g) (fun i H g=>g) (fun i H u _ hu=>kU hu) (fun A i s Q E st h=>wpAny_pyIter_striter_ascii st h),⟨_,wV _ rfl,rfl,rfl⟩,fp,q⟩
inductive vJ (x:V)(lo:Option Int)(hi:Option Int)(H:Hp)(Q:VK):Prop
 | mk:∀ z,(x = .str z)→(z.length≤sizeLine)→(Q (.str (Txt.slice z lo hi)) H)→vJ x lo hi H Q
theorem cZ:SlR X vJ:=by
 intro pins s σ H x v vl vu lo hi sl Q I rx hs pl pu h
 obtain ⟨z,rfl,hz,q⟩:=h
 obtain ⟨t,rfl⟩:=rx
 have fin:∀ (lo hi:Option Int),Q (.str (Txt.slice z lo hi)) H→∀ t' k,EP X pins σ Q (.str (Txt.slice z lo hi) t') { s with toks:=k }:=fun lo hi q t' k=>⟨.str _,H,I.tok _,⟨_,rfl⟩,q⟩
 refine ⟨"str",_,F.slot_str_getitem.lookup,Au _ _ _,?_⟩
 cases pl with
 | none =>
  cases pu with
  | none=>exact yF (l:=none) (u:=none) (st:=none) hs rfl (zS ⟨xq (Ad z _ _) hz,fun t' k=>fin _ _ q t' k⟩)
  | int j uj=>exact yF (l:=none) (u:=some (j,uj)) (st:=none) hs rfl (zS ⟨xq (Ad z _ _) hz,fun t' k=>fin _ _ q t' k⟩)
 | int i ui =>
  cases pu with
  | none=>exact yF (l:=some (i,ui)) (u:=none) (st:=none) hs rfl (zS ⟨xq (Ad z _ _) hz,fun t' k=>fin _ _ q t' k⟩)
  | int j uj=>exact yF (l:=some (i,ui)) (u:=some (j,uj)) (st:=none) hs rfl (zS ⟨xq (Ad z _ _) hz,fun t' k=>fin _ _ q t' k⟩)
inductive pA (x:V)(vs:List V)(H:Hp)(Q:VK):Prop
 | mk:∀ z,(x = .str z)→(vs=[])→(z.length≤5592405)→(Q (.str (Txt.upper z)) H)→pA x vs H Q
inductive pB (x:V)(vs:List V)(H:Hp)(Q:VK):Prop
 | mk:∀ z,(x = .str z)→(vs=[])→(z.length≤5592405)→(Q (.str (Txt.lower z)) H)→pB x vs H Q
theorem nS:MtR X "str.upper" pA:=by
 intro pins s σ H x vs v us Q I rx rv h
 obtain ⟨z,rfl,rfl,hz,q⟩:=h
 obtain ⟨t,rfl⟩:=rx
 cases rv
 exact SCL.upper hz fun _=>⟨.str _,H,I.tok _,⟨_,rfl⟩,q⟩
theorem eA:MtR X "str.lower" pB:=by
 intro pins s σ H x vs v us Q I rx rv h
 obtain ⟨z,rfl,rfl,hz,q⟩:=h
 obtain ⟨t,rfl⟩:=rx
 cases rv
 exact SCL.lower hz fun _=>⟨.str _,H,I.tok _,⟨_,rfl⟩,q⟩
theorem fE:∀ {ys:List Str} {us:List Value},aZ (ys.map V.str) us→StrsAre us ys
 | [],_,r=>by
  rw [zh] at r
  cases r
  exact .nil
 | y::ys,us,r=>by
  rw [xr] at r
  cases r with
  | cons r1 r2 =>
   obtain ⟨t,e⟩:=r1
   subst e
   exact .cons y t (fE r2)
inductive sH (K:PySem.W.Frag)(x:V)(vs:List V)(H:Hp)(Q:VK):Prop
 | mk:∀ z p ys,(x = .str z)→(vs=[.ref p])→(SqL K H p (ys.map V.str))→((ys.map (·.length)).sum+ys.length*z.length≤16777216)→(Q (.str (Txt.join z ys)) H)→sH K x vs H Q
theorem eU:MtR X "str.join" (sH X.K):=by
 intro pins s σ H x vs v us Q I rx rv h
 obtain ⟨z,p,ys,rfl,rfl,hq,hz,q⟩:=h
 obtain ⟨t,rfl⟩:=rx
 obtain ⟨u,rfl,ru⟩:=cI rv
 cases ru
 obtain ⟨its,r,pl,_⟩:=I.list hq
 exact join_list pl.isList (by simpa using fE r) hz fun t' k=>⟨.str _,H,I.tok _,⟨_,rfl⟩,q⟩
inductive dZ  (x:V)(y:V)(H:Hp)(Q:VK):Prop
 | mk:∀ z n,(x = .str z)→(y = .int n)→(MulOk z n)→(Q (.str (Txt.mul z n)) H)→dZ x y H Q
theorem fF:OpR X (binaryOp .Mult) dZ:=by
 intro pins s σ H x y v u Q I rx ry h
 obtain ⟨z,n,rfl,rfl,hz,q⟩:=h
 obtain ⟨t,rfl⟩:=rx
 obtain ⟨t',rfl⟩:=ry
 exact SB.mul hz fun t' k=>⟨.str _,H,I.tok _,⟨_,rfl⟩,q⟩
end
theorem iT {z:Str}{g:TG}{tb:TS}{D:gM}{σ:St}{H:Hp}(Pv:Nat→St→Hp→Prop)(h0:Pv 0 σ H)
  (hs:∀ i c σ H,z.cps[i]? = some c→Pv i σ H→g (.str ⟨#[c]⟩) σ H fun σ2 H2=>tb { D with nx:=Pv (i+1),ct:=Pv (i+1),bk:=D.nx } σ2 H2) (hd:∀ σ H,Pv z.cps.size σ H→D.nx σ H) :
  ∃ W:Nat→Nat→St→Hp→Prop,(∃ m,W 0 m σ H)∧∀ i m σ H,W i m σ H →
   ((Its z).stop i H∧D.nx σ H) ∨ ((Its z).go i H∧∃ N:St→Hp→Prop,(∀ σ' H',N σ' H'→∃ m',m' < m∧W (i+1) m' σ' H')∧∀ x H',(Its z).yld i H x H'→g x σ H' fun σ2 H2=>tb { D with nx:=N,ct:=N,bk:=D.nx } σ2 H2):=by
 refine ⟨fun i m σ H=>m=z.cps.size - i∧i≤z.cps.size∧Pv i σ H,⟨z.cps.size,by simp,xE _,h0⟩,?_⟩
 rintro i m σ H ⟨rfl,hi,p⟩
 by_cases hlt:i < z.cps.size
 ·refine .inr ⟨hlt,Pv (i+1),fun σ' H' p'=>⟨z.cps.size - (i+1),by omega,rfl,hlt,p'⟩,fun x H' y=>?_⟩
  obtain ⟨e,c,hc,ex⟩:=y
  subst e ex
  exact hs i c σ _ hc p
 ·have e:i=z.cps.size:=by omega
  subst e
  exact .inl ⟨rfl,hd σ H p⟩
end L2
namespace PySem
open Sem (wp)
open Builtin Builtin.SmallTypes
namespace F
theorem lookup_str_reversed:typeLookup (.type "str") "__reversed__" = pure none:=by rw [AA,zk]; kernel_rfl
theorem gk:Slot "reversed" "__init__" "object.__init__" :=
 .of (owner:="object") (n:="__init__") (by rw [AA,zk];kernel_rfl) (by decide +kernel) (by decide +kernel) (by decide +kernel)
  (by first | exact .inl (by decide +kernel) | exact .inr (by decide +kernel)) (by rw [AN];kernel_rfl)
theorem called_rvs:TypeCalled "reversed" "reversed.__new__" "object.__init__" :=
 ⟨by decide +kernel,create_reversed,⟨_,_,mro_reversed⟩,made_reversed,plain_reversed_new,sub_reversed_self,gk⟩
end F
set_option maxHeartbeats 1000000 in
theorem kW (x:Str)(t:Tok):Meets (Builtin.«reversed.__new__» ⟨[.type "reversed",.str x t],[]⟩) (fun _ R s=>¬ (x.length:Int)≥2 ^ 63 ∧
   ∀ tk,R (.ok (.ret (.ref s.heap.objs.size))) { s with heap:=s.heap.push { cls:=.type "reversed",data:=.fields #[.str x t,rawInt ((x.length:Int) - 1)] },toks:=tk }) :=
 .of_wp fun prog w A R s h=>by
  obtain ⟨hx,h⟩:=h
  unfold Builtin.«reversed.__new__»
  refine wD (z5 (newClass_reversed _) ?_)
  try dsimp only
  refine wD (z5 (a:=()) (by first | rfl | kernel_rfl) ?_)
  refine wD (z5 (a:=()) (by first | rfl | kernel_rfl) ?_)
  try dsimp only
  refine wD (yT (Au s x t) F.lookup_str_reversed ?_)
  try dsimp only
  refine wD ?_
  have hl:=F.slot_str_getitem.lookup
  have hT:=Au s x t
  have hD:isSubtype (.type "str") (.type "dict")=pure false:=by rw [AN];kernel_rfl
  repeat (any_goals (first | assumption | refine PySem.P.len_str hx ?_ | wp_step))
  exact ⟨_,rfl,h _⟩
def Heap.IsRvs (h:Heap)(a:Addr)(x:Str)(t:Tok)(i:Int):Prop:=∃ o,h.get? a=some o∧o.cls = .type "reversed"∧o.data = .fields #[.str x t,rawInt i]
theorem Heap.IsRvs.typeIs {s:Shared}{a:Addr}{x:Str}{t:Tok}{i:Int}(y:s.heap.IsRvs a x t i):s.TypeIs (.ref a) "reversed":=let ⟨o,ho,hc,_⟩:=y; ⟨o,ho,hc⟩
namespace F
theorem slot_rvs_next:Slot "reversed" "__next__" "reversed.__next__" :=
 .of (owner:="reversed") (n:="__next__") (by rw [AA,zk];kernel_rfl) (by decide +kernel) (by decide +kernel) (by decide +kernel)
  (by first | exact .inl (by decide +kernel) | exact .inr (by decide +kernel)) (by rw [AN];kernel_rfl)
theorem entry_rvs_next:entryFor table "reversed.__next__" = some Builtin.«reversed.__next__»:=entryFor_of_tree (by kernel_rfl)
theorem args_rvs_next (a:Value):argsOk "reversed.__next__" ⟨[a],[]⟩:=by unfold argsOk; kernel_rfl
theorem slot_rvs_iter:Slot "reversed" "__iter__" "reversed.__iter__" :=
 .of (owner:="reversed") (n:="__iter__") (by rw [AA,zk];kernel_rfl) (by decide +kernel) (by decide +kernel) (by decide +kernel)
  (by first | exact .inl (by decide +kernel) | exact .inr (by decide +kernel)) (by rw [AN];kernel_rfl)
theorem args_rvs_iter (a:Value):argsOk "reversed.__iter__" ⟨[a],[]⟩:=by unfold argsOk; kernel_rfl
theorem entry_rvs_iter:entryFor table "reversed.__iter__" = some Builtin.«dict_keyiterator.__iter__» :=
 entryFor_alias (id':="dict_keyiterator.__iter__") (by kernel_rfl) rfl (by decide +kernel) (by kernel_rfl)
end F
section
variable {prog:Program} {w:World} {A:Around} {E:Value→Shared→Prop} {s:Shared} {x:Str} {t:Tok}
theorem h7 {Q:Value→Shared→Prop}(hx:¬ (x.length:Int)≥2 ^ 63)
  (h:∀ tk,Q (.ref s.heap.objs.size) { s with heap:=s.heap.push { cls:=.type "reversed",data:=.fields #[.str x t,rawInt ((x.length:Int) - 1)] },toks:=tk }):wpAny (model prog w) A (call (.type "reversed") [.str x t]) Q E s :=
 callType_new F.called_rvs (by decide) (F.typeCall_reversed_1 _) (F.newCall_reversed_1 _) (fun obj=>F.args_object_init_2 obj _) F.entry_reversed_new (kW x t) ⟨hx,fun tk=>⟨⟨_,wV _ rfl,rfl⟩,h tk⟩⟩
theorem gp {it:Addr}{i:Int}{Q:Value→Shared→Prop}(hit:s.heap.IsRvs it x t i)(h:Q (.ref it) s):wpAny (model prog w) A (pyIter (.ref it)) Q E s:=by
 refine wpAny_pyIter_slot hit.typeIs F.slot_rvs_iter (xJ F.slot_rvs_iter hit.typeIs F.entry_rvs_iter ?_ (F.args_rvs_iter _))
 show wpAny _ _ (ret (.ref it)) _ _ s
 exact wI ⟨_,rfl,"reversed",_,hit.typeIs,F.slot_rvs_next.lookup,h⟩
theorem gq {it:Addr}{i:Nat}{c:Nat}{Q:Option Value→Shared→Prop}(hit:s.heap.IsRvs it x t (i:Int))(hx:x.cps[i]? = some c)(h63:(i:Int) < 2 ^ 63)
  (hQ:∀ h' tk u,h'.IsRvs it x t ((i:Int) - 1)→Heap.SameBut it s.heap h'→Q (some (.str ⟨#[c]⟩ u)) { s with heap:=h',toks:=tk }):wpAny (model prog w) A (pyNext (.ref it)) Q E s:=by
 obtain ⟨o,ho,hc,hd⟩:=id hit
 unfold pyNext
 refine wD (zw (xG (name:=Str.ofString "__next__") hit.typeIs F.slot_rvs_next
  (xJ F.slot_rvs_next hit.typeIs F.entry_rvs_next ?_ (F.args_rvs_next _))))
 unfold Builtin.«reversed.__next__»
 refine wD (z5 (a:=(Value.ref it,[])) rfl ?_)
 try dsimp only
 refine wD (yk ho hd (x:=.str x t) rfl ?_)
 refine wD (yk ho hd (x:=rawInt (i:Int)) rfl ?_)
 show wpAny _ _ (if (i:Int) < 0 then _ else _) _ _ s
 rw [if_neg (by omega)]
 refine wD (yT (Au s x t) F.slot_str_getitem.lookup ?_)
 show wpAny _ _ (if (some (Value.builtin "str.__getitem__")).isNone=true then _ else _) _ _ s
 rw [if_neg (by decide)]
 refine wD (wpAny_mkInt ?_)
 have hlt:i < x.length:=by
  have:=yJ.mp hx
  exact this.1
 refine wD (zw (PySem.P.getItem_str (c:=c) ?_ ?_ ?_))
 ·have e1:decide ((i:Int) < -(2 ^ 63:Int))=false:=w6 (by omega)
  have e2:decide ((i:Int)≥2 ^ 63)=false:=w6 (by omega)
  rw [e1,e2,Bs]
 ·rw [PySem.StrLaws.seqIndex_nonneg (by omega) (by omega)]
  simpa using hx
 try dsimp only
 refine wD (yk ho hd (x:=rawInt (i:Int)) rfl ?_)
 show wpAny _ _ (setField (.ref it) 1 (rawInt ((i:Int) - 1)) >>= _) _ _ _
 refine wD (y_ ho hd (by simp) ?_)
 refine wI ⟨_,rfl,wI (hQ _ _ _ ?_ (yX ..))⟩
 exact ⟨_,yN _ ho (zm (yp hd _)),(AW ..).trans hc,by
  rw [yp hd];simp⟩
theorem h8 {it:Addr}{Q:Option Value→Shared→Prop}(hh:A.handled=none)(hit:s.heap.IsRvs it x t (-1))
  (hQ:∀ h',(∀ b o,b≠it→s.heap.get? b=some o→h'.get? b=some o)→Q none { s with heap:=h' }):wpAny (model prog w) A (pyNext (.ref it)) Q E s:=by
 obtain ⟨o,ho,hc,hd⟩:=id hit
 unfold pyNext
 refine wD (zw (xG (name:=Str.ofString "__next__") hit.typeIs F.slot_rvs_next
  (xJ F.slot_rvs_next hit.typeIs F.entry_rvs_next ?_ (F.args_rvs_next _))))
 unfold Builtin.«reversed.__next__»
 refine wD (z5 (a:=(Value.ref it,[])) rfl ?_)
 try dsimp only
 refine wD (yk ho hd (x:=.str x t) rfl ?_)
 refine wD (yk ho hd (x:=rawInt (-1)) rfl ?_)
 show wpAny _ _ (if (-1:Int) < 0 then _ else _) _ _ s
 rw [if_pos (by decide)]
 refine wD (zx ?_)
 refine wD ?_
 show wpAny _ _ (setField (.ref it) 1 (rawInt (-1)) >>= fun _=>setField (.ref it) 0 .none) _ _ s
 refine wD (y_ ho hd (by simp) ?_)
 have ho2:=yN (Obj.mapFields fun a=>a.setIfInBounds 1 (rawInt (-1))) ho (zm (yp hd _))
 have hd2:=yp hd fun a=>a.setIfInBounds 1 (rawInt (-1))
 refine y_ ho2 hd2 (by simp) ?_
 generalize hh2:(s.heap.update it _).update it _=h2
 have kk:∀ b o,b≠it→s.heap.get? b=some o→h2.get? b=some o:=fun b o hb e=>by
  rw [← hh2]
  exact (x9 _ _ (Ne.symm hb)).trans ((x9 _ _ (Ne.symm hb)).trans e)
 have hz:A.in1.handled=none:=hh
 have sub:=Bp
 repeat (any_goals (first | assumption | wp_step))
 unfold raiseNew
 refine wD (wpAny_handled ?_)
 rw [hz]
 refine wD (wI (wpAny_throw ?_))
 refine wD (Ai (T:="StopIteration") (b:=true) ?_ sub (wI (hQ _ fun b o hb e=>?_)))
 ·exact ⟨_,wV _ rfl,rfl⟩
 exact wK _ (wK _ (kk b o hb e))
theorem kX (hh:A.handled=none)(it:Addr)(x:Str)(t:Tok)(h63:(x.cps.size:Int) < 2 ^ 63) :
  Walks prog w A it [it] [it] x.cps.size (fun i v=>∃ c u,x.cps[x.cps.size - 1 - i]? = some c∧v = .str ⟨#[c]⟩ u) (fun i h=>i≤x.cps.size∧h.IsRvs it x t ((x.cps.size:Int) - 1 - (i:Int))) where
 sub:=fun _ hb=>hb
 frame:=fun _ _ _ st hk=>let ⟨l,o,ho,r⟩:=st;⟨l,o,hk it (by simp) o ho,r⟩
 item:=fun i s Q E hi y hQ=>by
  have e:(x.cps.size:Int) - 1 - (i:Int)=((x.cps.size - 1 - i:Nat):Int):=by omega
  have hit:=y.2
  rw [e] at hit
  have hx:x.cps[x.cps.size - 1 - i]? = some (x.cps[x.cps.size - 1 - i]'(by omega)):=yw (by omega)
  refine gq hit hx (by omega) fun h' tk u hit' hs'=>?_
  have e2:((x.cps.size - 1 - i:Nat):Int) - 1=(x.cps.size:Int) - 1 - ((i+1:Nat):Int):=by omega
  rw [e2] at hit'
  exact hQ _ h' tk ⟨_,u,hx,rfl⟩ ⟨hi,hit'⟩ fun b o hb eo=>hs'.extBut b o (fun h=>hb (by simp [h])) eo
 done:=fun s Q E y hQ=>by
  have e:(x.cps.size:Int) - 1 - (x.cps.size:Int) = -1:=by omega
  have hit:=y.2
  rw [e] at hit
  exact h8 hh hit fun h' he'=>hQ h' s.toks fun b o hb eo=>he' b o (fun h=>hb (by simp [h])) eo
 self:=fun _ _ _ _ y hQ=>gp y.2 hQ
end
end PySem
namespace L2
open PySem PySem.Spec PyProof.Rows
def u3 (z:Str):It:=⟨fun i _=>i < z.cps.size,fun i H x H'=>H'=H∧∃ c,z.cps[z.cps.size - 1 - i]? = some c∧x = .str ⟨#[c]⟩,fun i _=>i=z.cps.size⟩
section
variable {X:Cx} {tg:Expr}
def u4 (ta:TA):TI:=fun σ H R=>ta σ H fun vs H1=>∃ z,vs=[.str z]∧z.length≤sizeLine∧R (u3 z) H1
theorem qh {a:Expr}{ta:TA}{p pos:Pos}(hg:Gl X "reversed")(hm:X.mg "reversed" = none)(hb:bootBuiltins "reversed" = some (.type "reversed"))(ha:PA X [a] ta)(hs:starEach [a] X.env=[(false,eval a X.env)]:=by rfl) :
  PI X tg (.Call (.Name "reversed" p) [a] [] pos) (u4 ta):=by
 intro pins s σ H R I h
 refine Call_ (eI I hg hm hb (ye (thn (ha pos pins s σ H _ I h) fun us s1 zq1=>?_) hs rfl))
 obtain ⟨vs,H1,I1,r1,q1⟩:=zq1
 obtain ⟨z,rfl,hz,q⟩:=q1
 obtain ⟨u,rfl,t,rfl⟩:=cI r1
 have hn:=cT
 have hsz:z.cps.size=z.length:=rfl
 refine h7 (by omega) fun tk=>?_
 have hit:Heap.IsRvs (s1.heap.push { cls:=.type "reversed",data:=.fields #[.str z t,rawInt ((z.length:Int) - 1)] }) s1.heap.objs.size z t ((z.length:Int) - 1):=⟨_,wV _ rfl,rfl,rfl⟩
 refine gp (s:={ s1 with heap:=s1.heap.push { cls:=.type "reversed",data:=.fields #[.str z t,rawInt ((z.length:Int) - 1)] },toks:=tk }) hit ?_
 refine ⟨s1.heap.objs.size,[s1.heap.objs.size],_,u3 z,H1,rfl,I1.kept (t':=tk) fun b o e=>wK _ e,
  cj (T:="reversed") (fl:=fun i=>#[.str z t,rawInt ((z.cps.size:Int) - 1 - (i:Int))]) (fun A hh=>kX hh _ z t (by omega)) (fun i h st=>st.2) (by decide) (fun i H g=>g) (fun i H g=>g)
   (fun i H u _ ⟨c,t',e,eu⟩=>⟨.str ⟨#[c]⟩,⟨t',eu⟩,rfl,c,e,rfl⟩) (fun A i s Q E st h=>gp st.2 h),⟨xE _,by simpa [hsz] using hit⟩,fun b hb=>?_,q⟩
 have e:b=s1.heap.objs.size:=by simpa using hb
 subst e
 exact I1.fpOk (wJ _) (I1.hok.fresh (wJ _))
structure DTx (K:PySem.W.Frag) (w:World) (a:Addr):Prop where
 ob:∃ (es:Array DictEntry) (n:Nat),K.lookup a=some ⟨.type "dict",none,.dict es n,#[]⟩∧PySem.W.KeysLit w.params es.toList
theorem nT {a:Addr}(D:DTx X.K X.w a):IxR X (fun x y H Q=>∃ z z' t,x = .ref a∧y = .str z∧PySem.W.nsIn X.K a z=some (some (.str z' t))∧Q (.str z') H):=by
 intro value slice pins s σ H x y v u Q I rx ry h hs
 obtain ⟨z,z',t',rfl,rfl,e,q⟩:=h
 cases rx
 obtain ⟨t,rfl⟩:=ry
 obtain ⟨es,n,hl,hk⟩:=D.ob
 obtain ⟨m,F⟩:=I.fr
 exact PySem.W.topItem_K F I.ok.mod.kin hl hk e ⟨.str z',H,I.tok _,⟨_,rfl⟩,q⟩ hs
def nU (K:PySem.W.Frag)(a:Addr)(Q:VK):V→Hp→Prop:=fun y H1=>∃ z z' t,y = .str z∧PySem.W.nsIn K a z=some (some (.str z' t))∧Q (.str z') H1
def u5 (K:PySem.W.Frag)(a:Addr)(ti:TE):TE:=fun σ H Q=>ti σ H (nU K a Q)
theorem qi {K:PySem.W.Frag}{w:World}{a:Addr}{x:Str}{i:Expr}{ti:TE}{p pos:Pos}(D:DTx K w a)(hK:X.K=K)(hw:X.w=w)(hg:Gl X x)(hm:X.mg x=some (.ref a))(hi:PE X i ti)(hs:kI i)
  (hd:(x == ("__debug__":Str))=false:=by decide):PE X (.Subscript (.Name x p) i pos) (u5 K a ti):=by
 subst hK hw
 intro pins s σ H Q I h
 refine AS (iL I hg hm (thn (hi pins s σ H _ I h) fun u s2 zq2=>?_) hd)
 obtain ⟨y,H2,I2,ry,z,z',t',e1,e2,q⟩:=zq2
 exact nT D _ _ pins s2 σ H2 (.ref a) y (.ref a) u Q I2 rfl ry ⟨z,z',t',rfl,e1,e2,q⟩ (hs _ _)
end
end L2
namespace Wd
abbrev L:=Fin 12
def inv (x:L):L:=if h:x.val < 6 then ⟨x.val+6,by omega⟩ else ⟨x.val - 6,by omega⟩
def bk (w:List L):List L:=(w.map inv).reverse
theorem bY (w:List L):(bk w).length=w.length:=by simp [bk]
theorem pD (x:L):bk [x]=[inv x]:=rfl
def push (st:List L)(x:L):List L:=match st with
 | []=>[x]
 | y::r=>if y=inv x then r else x::y::r
def Rd:List L→Prop
 | []=>True
 | [_]=>True
 | x::y::r=>y≠inv x∧Rd (y::r)
def rep:Nat→List L→List L
 | 0,_=>[]
 | n+1,w=>rep n w++w
theorem jn (w:List L):∀ n,rep n w++w=w++rep n w
 | 0=>by simp [rep]
 | n+1=>by
  show (rep n w++w)++w=w++(rep n w++w)
  rw [← wY,← jn w n]
theorem fG (w:List L):∀ n,(rep n w).length=n*w.length
 | 0=>by simp [rep]
 | n+1=>by
  show (rep n w++w).length=_
  rw [wQ,fG w n,By]
def pw (w:List L)(n:Int):List L:=rep n.natAbs (if n < 0 then bk w else w)
end Wd
namespace L2
open PySem PySem.Spec PyProof.Rows Wd
def cp (x:L):Nat:=if x.val < 6 then 97+x.val else 59+x.val
theorem sI:∀ x:L,cp x < 128:=by decide
theorem sJ:∀ x y:L,cp x=cp y→x=y:=by decide
def toS (w:List L):Str:=⟨(w.map cp).toArray⟩
def tx (w:List L):V:=.str (toS w)
theorem cw (w:List L):(toS w).cps.toList=w.map cp:=by simp [toS]
theorem af (w:List L):(toS w).length=w.length:=by simp [toS,Str.length]
theorem bV (w:List L):(toS w).cps.size=w.length:=by simp [toS]
theorem fH (u v:List L):toS u++toS v=toS (u++v):=by
 apply Str.ext'
 rw [Str.cps_append]
 simp [toS]
theorem dJ:∀ {u v:List L},u.map cp=v.map cp→u=v
 | [],[],_=>rfl
 | [],_::_,h=>by simp at h
 | _::_,[],h=>by simp at h
 | x::u,y::v,h=>by
  simp only [xr,Bk] at h
  rw [sJ x y h.1,dJ h.2]
theorem kY {u v:List L}(h:toS u=toS v):u=v:=by
 have:(toS u).cps.toList=(toS v).cps.toList:=by rw [h]
 rw [cw,cw] at this
 exact dJ this
theorem pE {u v:List L}(h:tx u=tx v):u=v:=kY (V.str.inj h)
theorem qj:toS [0,1,2,3,4,5]=("abcdef":Str):=by decide +kernel
theorem big:toS [6,7,8,9,10,11]=("ABCDEF":Str):=by decide +kernel
theorem eV {w:List L}{i c:Nat}(h:(toS w).cps[i]? = some c):∃ x,w[i]? = some x∧(⟨#[c]⟩:Str)=toS [x]:=by
 have h:((w.map cp).toArray)[i]? = some c:=h
 rw [List.getElem?_toArray,wL] at h
 cases e:w[i]? with
 | none=>rw [e] at h;cases h
 | some x =>
  rw [e] at h
  have:cp x=c:=wO h
  exact ⟨x,rfl,by rw [← this];rfl⟩
theorem dM {w:List L}{k:Nat}{x:L}{i:Int}(hk:i=(k:Int))(h:w[k]? = some x):atI (toS w).cps.toList i=some (cp x):=by
 subst hk
 rw [cw]
 obtain ⟨hl,e⟩:=wG.mp h
 unfold atI ixN
 rw [if_pos (by omega),if_pos (by rw [fu];omega)]
 show (w.map cp)[((k:Nat):Int).toNat]? = _
 rw [xu,wL,h]
 rfl
def nV (w:List L)(lo hi:Option Int):List L:=(w.drop (HT.sIx w.length 0 lo)).take (HT.sIx w.length w.length hi - HT.sIx w.length 0 lo)
theorem qk (lo hi:Option Int)(n:Nat):Builtin.Str.strSliceIndices lo hi 1 n=(List.range (HT.sIx n n hi - HT.sIx n 0 lo)).map (fun k=>HT.sIx n 0 lo+k):=by
 have cl:∀ v:Int,max (0:Int) (min (if v < 0 then v+(n:Int) else v) (n:Int))=(((if v < 0 then (v+(n:Int)).toNat else min v.toNat n):Nat):Int):=fun v=>by
  by_cases hv:v < 0
  ·simp only [if_pos hv];omega
  ·simp only [if_neg hv];omega
 have fin:∀ a b:Nat,sliceRange (a:Int) (b:Int) 1=(List.range (b - a)).map (fun k=>a+k):=fun a b=>by
  unfold sliceRange
  simp only [show ((1:Int) > 0)=True from by simp,yW]
  by_cases hlt:(a:Int) < b
  ·have e3:(((b:Int) - a+1 - 1) / 1).toNat=b - a:=by first | omega | (simp;done) | (simp;omega)
   simp only [hlt,yW,e3]
   exact List.map_congr_left fun k _=>by omega
  ·have:b - a=0:=by omega
   simp [hlt,this]
 unfold Builtin.Str.strSliceIndices
 simp only [show ((1:Int) > 0)=True from by simp,yW]
 cases lo with
 | none =>
  cases hi with
  | none=>exact fin 0 n
  | some j=>simp only [cl];exact fin 0 _
 | some i =>
  cases hi with
  | none=>simp only [cl];exact fin _ n
  | some j=>simp only [cl];exact fin _ _
theorem bA (w:List L)(lo hi:Option Int):Txt.slice (toS w) lo hi=toS (nV w lo hi):=by
 have h1:=HT.kF w.length 0 (xE _) lo
 have h2:=HT.kF w.length w.length (wJ _) hi
 unfold Txt.slice
 rw [qk,af]
 split
 ·rename_i h
  have hl:HT.sIx w.length w.length hi - HT.sIx w.length 0 lo=w.length:=by simpa using h
  have e:nV w lo hi=w:=by
   unfold nV
   rw [hl]
   have ha:HT.sIx w.length 0 lo=0 ∨ w.length=0:=by omega
   rcases ha with ha | ha
   ·rw [ha,z_,xQ]
   ·have:w=[]:=Aj ha
    subst this
    simp
  rw [e]
 ·apply Str.ext'
  show (List.filterMap _ _).toArray=_
  have e:=StrLaws.picks (w.map cp) (HT.sIx w.length w.length hi - HT.sIx w.length 0 lo) (HT.sIx w.length 0 lo)
  by_cases hle:HT.sIx w.length 0 lo≤HT.sIx w.length w.length hi
  ·have e:=e (by rw [fu];omega)
   have e2:(fun k:Nat=>(toS w).cps[k]?)=fun k:Nat=>(w.map cp)[k]?:=funext fun k=>by simp [toS]
   rw [e2,e]
   simp [toS,nV,Ap,zT]
  ·have z:HT.sIx w.length w.length hi - HT.sIx w.length 0 lo=0:=by omega
   rw [z]
   simp [toS,nV,z]
theorem eW (w:List L){n:Int}(h:0≤n):nV w none (some n)=w.take n.toNat:=by
 obtain ⟨k,rfl⟩:=yY h
 unfold nV
 rw [HT.fY,HT.fZ,z_,Bz,xu]
 by_cases hk:k≤w.length
 ·rw [Nat.min_eq_left hk]
 ·rw [Nat.min_eq_right (by omega),xQ,xv (by omega)]
theorem cut_from (w:List L){n:Int}(h:0≤n):nV w (some n) none=w.drop n.toNat:=by
 obtain ⟨k,rfl⟩:=yY h
 unfold nV
 rw [HT.fY,HT.fZ,xu]
 by_cases hk:k≤w.length
 ·rw [Nat.min_eq_left hk,xv (by rw [xO];omega)]
 ·rw [Nat.min_eq_right (by omega),A_,List.drop_eq_nil_of_le (by omega)]
  simp
theorem kZ (w:List L):Txt.upper (toS w)=⟨((w.map cp).map up1).toArray⟩:=by
 rw [upper_ascii fun c hc=>by rw [cw] at hc;obtain ⟨x,_,rfl⟩:=xH.mp hc;exact sI x]
 simp [toS]
theorem h9 (w:List L):Txt.lower (toS w)=⟨((w.map cp).map lo1).toArray⟩:=by
 rw [lower_ascii fun c hc=>by rw [cw] at hc;obtain ⟨x,_,rfl⟩:=xH.mp hc;exact sI x]
 simp [toS]
theorem u6:∀ x:L,x.val < 6→up1 (cp x)=cp (inv x):=by decide
theorem u7:∀ x:L,¬ x.val < 6→lo1 (cp x)=cp (inv x):=by decide
theorem k_ {x:L}(h:x.val < 6):Txt.upper (toS [x])=toS [inv x]:=by
 rw [kZ]
 show (⟨#[up1 (cp x)]⟩:Str)=⟨#[cp (inv x)]⟩
 rw [u6 x h]
theorem lh {x:L}(h:¬ x.val < 6):Txt.lower (toS [x])=toS [inv x]:=by
 rw [h9]
 show (⟨#[lo1 (cp x)]⟩:Str)=⟨#[cp (inv x)]⟩
 rw [u7 x h]
theorem nW:∀ w:List L,Txt.join ("":Str) (w.map fun x=>toS [x])=toS w:=by
 intro w
 have e0:("":Str)=Str.empty:=by decide +kernel
 unfold Txt.join
 rw [StrLaws.glued_eq_join,e0]
 induction w with
 | nil=>rfl
 | cons x r ih =>
  cases r with
  | nil=>rfl
  | cons y r =>
   show toS [x]++Str.empty++Str.join Str.empty ((y::r).map fun x=>toS [x])=_
   rw [ih,Str.append_empty,fH]
   rfl
theorem ql (w:List L):((w.map fun x=>toS [x]).map (·.length)).sum=w.length:=by
 induction w with
 | nil=>rfl
 | cons x r ih =>
  simp only [xr,List.sum_cons,xN]
  rw [ih,af]
  simp only [Ac]
  omega
theorem d3 (w:List L):∀ (n:Nat) (acc:Array Nat),(List.replicate n (toS w).cps).foldl (· ++ ·) acc=acc++((rep n w).map cp).toArray
 | 0,acc=>by simp [rep]
 | n+1,acc=>by
  rw [List.replicate_succ,List.foldl_cons,d3 w n]
  show _=acc++((rep n w++w).map cp).toArray
  rw [jn]
  simp [toS]
theorem lj:∀ n,rep n ([]:List L)=[]
 | 0=>rfl
 | n+1=>by show rep n []++[]=[];rw [lj n];rfl
theorem qo (w:List L)(n:Int):Txt.mul (toS w) n=toS (rep n.toNat w):=by
 unfold Txt.mul
 by_cases h1:n < 1
 ·rw [if_pos h1]
  have:n.toNat=0:=by omega
  rw [this]
  rfl
 ·rw [if_neg h1]
  split
  ·rename_i h
   rw [af] at h
   simp only [Bool.or_eq_true,beq_iff_eq] at h
   rcases h with h | h
   ·subst h
    show toS w=toS (rep 1 w)
    show toS w=toS ([]++w)
    rfl
   ·have:w=[]:=Aj h
    subst this
    rw [lj]
  ·apply Str.ext'
   show (List.replicate n.toNat (toS w).cps).foldl (· ++ ·) #[]=_
   rw [d3]
   simp [toS]
theorem h_ (w:List L){n:Int}(h1:-1000000≤n)(h2:n≤1000)(hw:w.length≤10000):MulOk (toS w) n:=by
 refine ⟨?_,fun hn _=>?_,fun hn _=>?_⟩
 ·have e1:decide (n < -(2 ^ 63:Int))=false:=w6 (by omega)
  have e2:decide (n≥2 ^ 63)=false:=w6 (by omega)
  rw [e1,e2,Bs]
 ·rw [af]
  have hn1:1≤n:=by omega
  have q:(9223372036854775:Int)≤(2 ^ 63 - 1) / n:=by
   rw [Int.le_ediv_iff_mul_le (by omega)]
   omega
  omega
 ·rw [af]
  unfold Builtin.Str.tooLong
  have e:sizeLine=16777216:=A3
  obtain ⟨k,rfl⟩:=yY (show 0≤n by omega)
  have hk:k≤1000:=by omega
  rw [xu]
  have q:w.length*k≤10000*1000:=zd hw hk
  exact w6 (by omega)
structure Fnc (P:Program) (w:World) (K:PySem.W.Frag) (mg:Str→Option Value) (base:Heap) (x:Str) (ps:List Str) (k:Nat) (sp:Sp):Prop where
 ex:∃ (f:Addr) (fd:FuncData),mg x=some (.ref f)∧PySem.W.keepIn K (.ref f)=true∧jT K fd ps []∧m9 P w K mg base CX0 k f fd ps sp
theorem aM {X:Cx}{x:Str}{ps:List Str}{k j:Nat}{sp:Sp}{e:Expr}{es:List Expr}{t:TA}{p pos:Pos}(F:Fnc X.prog X.w X.K X.mg X.base x ps j sp)(hr:fB k X.A)(hj:j≤k)(hg:Gl X x)(ha:PA X (e::es) t)
  (hdb:(x == ("__debug__":Str))=false:=by decide) (he:starEach (e::es) X.env=(false,eval e X.env)::starEach es X.env:=by rfl) (hpl:(backTo pos (starEach es X.env)).any (·.1)=false:=by rfl) :
  PE X (.Call (.Name x p) (e::es) [] pos) (rZ sp [] E0 t):=by
 obtain ⟨f,fd,hm,hk,hb,F⟩:=F.ex
 exact p9 F (hr.mono hj) hg hm hk hb .nil uZ ha hdb he hpl
structure Df (K:PySem.W.Frag) (mg:Str→Option Value) (x:Str) (st:Stmt):Prop where
 ex:∃ (f:Addr) (fd:FuncData),mg x=some (.ref f)∧Fun K x x st f fd
theorem Df.ok {P:Program}{w:World}{K:PySem.W.Frag}{mg:Str→Option Value}{base:Heap}{x:Str}{st:Stmt}{N ps:List Str}{k:Nat}{sp:Sp}(D:Df K mg x st)(S:aJ N ps (ak st))
  (hb:∀ (kV doc pm:Value) (an:Option Addr) (cdv ct:Value) (us:List Value),us.length=ps.length→bindArgs (PySem.W.fnOf x x (aH st) (aG st) (ak st) .none kV doc pm an cdv ct) ⟨us,[]⟩=pure (ps.zip us))
  (len:∀ vs H Q E,sp vs H Q E→vs.length=ps.length)
  (hbody:∀ (f:Addr) (cdv:Value) (A:Around) (outer:List Env) (s:Shared) (H:Hp) (vs:List V) (Q:VK) (E:XK),fB k (A.deeper (envOfC x (ak st) s.heap.objs.size f cdv))→sp vs H Q E →
   ∃ t,PSs (p_ CX0 P w K mg base N x (ak st) f cdv A outer s H E).nox (aG st) t∧t { nx:=fun _ H'=>Q .non H',rt:=Q } (start N vs) H):Fnc P w K mg base x ps (k+1) sp:=by
 obtain ⟨f,fd,hm,F⟩:=D.ex
 exact ⟨f,fd,hm,F.kp,F.binds hb,F.ok S len fun cdv A outer s H vs Q E hr h=>hbody f cdv A outer s H vs Q E hr h⟩
def bC (d:Addr)(H H':Hp):Prop:=∀ b o,b≠d→H b=some o→H' b=some o
theorem bC.trans {d:Addr}{H H1 H2:Hp}(a:bC d H H1)(b:bC d H1 H2):bC d H H2:=fun c o n h=>b c o n (a c o n h)
theorem aA.b {d:Addr}{H H':Hp}(a:aA H H'):bC d H H':=fun b o _ h=>a b o h
theorem aA.new {H:Hp}{a:Addr}{o:HO}(h:H a=none):aA H (upd H a o):=fun b u e=>by rw [av (ag e h)]; exact e
theorem bC.upd {d:Addr}{H:Hp}{o:HO}:bC d H (upd H d o):=fun b u n e=>by rw [av n]; exact e
theorem aA.then {H H1:Hp}{a:Addr}{o:HO}(s:aA H H1)(h:H1 a=none):aA H (L2.upd H1 a o):=s.trans (aA.new h)
def kS (x:Str):Key:=.inr x
theorem qp {ns:List Int}(h:ns≠[])(i:Int):∃ n:Int,atI (ns.map V.int) (i % ((ns.map V.int).length:Int))=some (.int n):=by
 have hl:0 < ns.length:=AB.mpr h
 rw [fu]
 have h0:=yy i (show (ns.length:Int)≠0 by omega)
 have h1:=yi i (show (0:Int) < ns.length by omega)
 obtain ⟨k,hk⟩:=yY h0
 rw [hk] at h1 ⊢
 have hk':k < ns.length:=by omega
 refine ⟨ns[k],?_⟩
 unfold atI ixN
 rw [if_pos (by omega),if_pos (by rw [fu];omega)]
 show (ns.map V.int)[((k:Nat):Int).toNat]? = _
 rw [xu,wL,wF hk']
 rfl
mutual
inductive Dt (H:Hp):V→PyData→Prop where
 | non:Dt H .non .none
 | bl (b:Bool):Dt H (.bl b) (.bool b)
 | int (i:Int):Dt H (.int i) (.int i)
 | str (x:Str):Dt H (.str x) (.str x)
 | lst {a:Addr} {xs:List V} {ds:List PyData}:H a=some (.lst xs)→Dts H xs ds→Dt H (.ref a) (.list ds)
 | tup {a:Addr} {xs:List V} {ds:List PyData}:H a=some (.tup xs)→Dts H xs ds→Dt H (.ref a) (.tuple ds)
inductive Dts (H:Hp):List V→List PyData→Prop where
 | nil:Dts H [] []
 | cons {v:V} {d:PyData} {vs:List V} {ds:List PyData}:Dt H v d→Dts H vs ds→Dts H (v::vs) (d::ds)
end
section
variable {P:Program} {w:World} {H:Hp} {h:Heap}
mutual
theorem Dt.reads (ok:HOk P w H h):∀ {v:V} {d:PyData},Dt H v d→∀ {u:Value},bB v u→∃ as,Reads h u d as
 | _,_,.non,u,r=>by cases r;exact ⟨_,.none⟩
 | _,_,.bl b,u,r=>by cases r;exact ⟨_,.bool b⟩
 | _,_,.int i,u,r=>by obtain ⟨t,rfl⟩:=r;exact ⟨_,.int i t⟩
 | _,_,.str x,u,r=>by obtain ⟨t,rfl⟩:=r;exact ⟨_,.str x t⟩
 | _,_,.lst e q,u,r=>by
  cases r
  obtain ⟨_,its,n,rv,g⟩:=ok _ _ e
  obtain ⟨as,ra⟩:=Dts.reads ok q rv
  exact ⟨_,.list g rfl rfl (by simpa using ra)⟩
 | _,_,.tup e q,u,r=>by
  cases r
  obtain ⟨_,its,rv,⟨ob,g,c,n,d⟩,_⟩:=ok _ _ e
  obtain ⟨as,ra⟩:=Dts.reads ok q rv
  exact ⟨_,.tuple g c d (by simpa using ra)⟩
theorem Dts.reads (ok:HOk P w H h):∀ {vs:List V} {ds:List PyData},Dts H vs ds→∀ {us:List Value},aZ vs us→∃ as,ReadsAll h us ds as
 | _,_,.nil,_,r=>by cases r;exact ⟨_,.nil⟩
 | _,_,.cons q qs,_,r=>by
  cases r with
  | cons r rs =>
   obtain ⟨as,a1⟩:=Dt.reads ok q r
   obtain ⟨bs,a2⟩:=Dts.reads ok qs rs
   exact ⟨_,.cons a1 a2⟩
end
end
structure Sh (d:PyData):Prop where
 sh:d.showable=true
 nd:d.hasDict=false
 dp:d.depth≤10
 sz:d.shown.length≤sizeLine
section
variable {X:Cx}
inductive cx  (xs:List V)(H:Hp)(Q:VK):Prop
 | mk:∀ a d,(xs=[.ref a])→(Dt H (.ref a) d)→(Sh d)→(Q (.str d.shown) H)→cx xs H Q
theorem bN (hg:X.A.guards=some [])(hu:X.A.units+64 < cLine):cP X (.builtin "repr") cx:=by
 intro pins s σ H xs us Q I r h
 obtain ⟨a,d,rfl,q,S,hQ⟩:=h
 obtain ⟨u,rfl,ru⟩:=cI r
 cases ru
 obtain ⟨as,rd⟩:=q.reads I.hok (u:=.ref a) rfl
 refine repr_of_reads' rd S.sh (PyData.noDict_hsm S.nd) hg (by have:=S.dp;omega) (fun _ _ e=>e) (fun h' u tk hk=>?_) S.sz
 exact ⟨.str _,H,I.kept hk,⟨_,rfl⟩,hQ⟩
end
end L2
namespace Kx
open PySem PySem.Spec PyProof.Rows L2 Wd
theorem pF:bootBuiltins "list" = some (.type "list"):=by kernel_rfl
theorem sL:bootBuiltins "max" = some (.builtin "max"):=by kernel_rfl
theorem fJ:bootBuiltins "repr" = some (.builtin "repr"):=by kernel_rfl
theorem sM:bootBuiltins "min" = some (.builtin "min"):=by kernel_rfl
theorem gr:bootBuiltins "sorted" = some (.builtin "sorted"):=by kernel_rfl
theorem iU:bootBuiltins "tuple" = some (.type "tuple"):=by kernel_rfl
theorem j2:bootBuiltins "reversed" = some (.type "reversed"):=by kernel_rfl
structure Bt (K:PySem.W.Frag) (w:World) (mg:Str→Option Value) (aB:Addr):Prop where
 len:mg "len" = none
 repr:mg "repr" = none
 abs:mg "abs" = none
 max:mg "max" = none
 int:mg "int" = none
 list:mg "list" = none
 range:mg "range" = none
 reversed:mg "reversed" = none
 min:mg "min" = none
 sorted:mg "sorted" = none
 tuple:mg "tuple" = none
 isinstance:mg "isinstance" = none
 all:mg "all" = none
 str:mg "str" = none
 zip:mg "zip" = none
 mgB:mg "BACKS" = some (.ref aB)
 dB:DTx K w aB
 gB:∀ x:L,∃ t,PySem.W.nsIn K aB (toS [x])=some (some (.str (toS [inv x]) t))
theorem dp {H:Hp}{d:Addr}{kvs kvs':List (Key × V)}{k:Str}{v:V}(h:H d=some (.dK kvs))(hl:kvs.length < sizeLine)(e:gO kvs (kS k) v=kvs'):nK H d (.str k) v (upd H d (.dK kvs')):=by
 have q:=nK.k (k:=kS k) (v:=v) h hl
 rw [e] at q
 exact q
theorem u9 {ns:List Int}(h:ns.length≤63):gN (ns.map V.int) none (some 63)=ns.map V.int:=by
 unfold gN
 have e:HT.sIx (ns.map V.int).length (ns.map V.int).length (some 63)=(ns.map V.int).length:=by
  have:=HT.fZ (ns.map V.int).length (ns.map V.int).length 63
  rw [show ((63:Nat):Int)=63 from rfl] at this
  rw [this,fu]
  omega
 rw [e,HT.fY,z_,Bz,xQ]
def bK (w:List L):List V:=w.map fun x=>tx [x]
theorem cH (w:List L):bK w=(w.map fun x=>toS [x]).map V.str:=by unfold bK; rw [AK]; rfl
theorem bZ (w:List L)(x:L):bK w++[tx [x]]=bK (w++[x]):=by unfold bK; rw [wM]; rfl
theorem aY (w:List L):(bK w).length=w.length:=by unfold bK; rw [fu]
theorem b7 (w:List L):V.str (Txt.join ("":Str) (w.map fun x=>toS [x]))=tx w:=xF V.str (nW w)
theorem b8 (w:List L)(h:w.length≤1000000):((w.map fun x=>toS [x]).map (·.length)).sum+(w.map fun x=>toS [x]).length*("":Str).length≤16777216:=by
 have e:("":Str).length=0:=by decide +kernel
 rw [e,ql]
 omega
theorem aV:sizeLine=16777216:=A3
inductive qq (vs:List V)(H:Hp)(Q:VK)(u3_:XK):Prop
 | mk:∀ w,(vs=[tx w])→(w.length≤5000)→(∀ H',aA H H'→Q (tx (bk w)) H')→qq vs H Q u3_
theorem lq (u v:List L):V.str (toS u++toS v)=tx (u++v):=xF V.str (fH u v)
def sg (m:Int):List L:=([0,1,2,3,4,5]:List L).take m.toNat++([6,7,8,9,10,11]:List L).take m.toNat
theorem lu {m:Int}(h1:1≤m)(h2:m≤6):(sg m).length=2*m.toNat:=by
 unfold sg
 rw [wQ,w9,w9]
 simp only [xN,yS]
 omega
theorem nX {m:Int}(h1:1≤m):V.str (Txt.slice ("abcdef":Str) none (some m)++Txt.slice ("ABCDEF":Str) none (some m))=tx (sg m):=by
 rw [← qj,← big,bA,bA,eW _ (by omega),eW _ (by omega),lq]
 rfl
theorem lx:("abcdef":Str).length=6:=by decide +kernel
theorem lA:("ABCDEF":Str).length=6:=by decide +kernel
theorem pG (u:List L){i:Nat}{y:L}(hi:i < u.length)(h:u[u.length - 1 - i]? = some y):(bk u)[i]? = some (inv y):=by
 unfold bk
 rw [zo (by rw [fu];exact hi),fu,wL,h]
 rfl
theorem b9 {u:List L}{i:Nat}{x:L}(h:u[i]? = some x):u.take (i+1)=u.take i++[x]:=by
 obtain ⟨hl,e⟩:=wG.mp h
 rw [yl,h]
 rfl
theorem nY {c:Bool}{A B:Prop}(hc:c=true)(h:A):if c=true then A else B:=by rw [if_pos hc]; exact h
theorem nZ {c:Bool}{A B:Prop}(hc:c=false)(h:B):if c=true then A else B:=by rw [hc]; exact m_ h
theorem sm6:∀ j:Fin 6,([0,1,2,3,4,5]:List L)[j.val]? = some ⟨j.val,Nat.lt_trans j.isLt (by decide)⟩:=by decide
end Kx
namespace Tv
open PySem PyProof.Rows
section
variable {prog:Program} {w:World} {A:Around} {E:Value→Shared→Prop} {s:Shared} {κ:KeyKind} {kd:SortKind}
end
end Tv
namespace Tv
open PySem PyProof.Rows
variable {κ:KeyKind} {kd:SortKind}
end Tv
namespace Tv
open PySem PyProof.Rows
section
variable {prog:Program} {w:World} {A:Around} {E:Value→Shared→Prop} {s:Shared} {κ:KeyKind} {kd:SortKind}
end
end Tv
namespace Tv
open PySem PyProof.Rows
variable {κ:KeyKind} {kd:SortKind}
section
variable {prog:Program} {w:World} {A:Around} {E:Value→Shared→Prop} {s:Shared}
end
end Tv
namespace Tv
open PySem PyProof.Rows
variable {κ:KeyKind} {kd:SortKind}
section
variable {prog:Program} {w:World} {A:Around} {E:Value→Shared→Prop} {s:Shared}
end
end Tv
namespace Tv
open PySem PyProof.Rows
variable {κ:KeyKind} {kd:SortKind}
section
variable {prog:Program} {w:World} {A:Around} {E:Value→Shared→Prop} {s:Shared}
end
end Tv
namespace Tv
open PySem PyProof.Rows
variable {κ:KeyKind} {kd:SortKind}
section
variable {prog:Program} {w:World} {A:Around} {E:Value→Shared→Prop} {s:Shared}
end
end Tv
namespace Tv
open PySem PyProof.Rows
variable {κ:KeyKind} {kd:SortKind}
section
variable {prog:Program} {w:World} {A:Around} {E:Value→Shared→Prop} {s:Shared}
end
end Tv
namespace Tv
open PySem PyProof.Rows
variable {κ:KeyKind} {kd:SortKind}
section
variable {prog:Program} {w:World} {A:Around} {E:Value→Shared→Prop} {s:Shared}
end
end Tv
namespace L2
open PySem PySem.Spec PyProof.Rows Wd
section
variable {X:Cx} {tg:Expr}
end
section
variable {X:Cx} {o e:Expr} {es:List Expr} {to:TE} {t:TA} {name:Str} {apos cpos:Pos} {T id:String} {r:V→List V→Hp→VK→Prop} {K:PySem.W.Frag}
theorem lC (hK:X.K=K)(pa:PlainAttrs T)(slot:Slot T name id)(hty:typeOf (.builtin id)=pure (.type "method_descriptor"))(hm:MtR X id r)(ho:PE X o to)
  (hbase:attributeBase o name X.env (eval o X.env)=eval o X.env:=by rfl) (hline:(apos.endLine == cpos.line)=true:=by rfl):PE X (.Call (.Attribute o name apos) [] [] cpos) (vH K T r to):=by
 subst hK
 exact eO pa slot hty hm ho hbase hline
end
section
variable {X:Cx}
inductive pH (x:V)(vs:List V)(H:Hp)(Q:VK):Prop
 | mk:∀ z y i rest,(x = .str z)→(vs=[.str y])→(Builtin.Str.occurrences z y 0 z.length 1=i::rest)→(Q (.int (i:Nat)) H)→pH x vs H Q
theorem gs:MtR X "str.index" pH:=by
 intro pins s σ H x vs v us Q I rx rv h
 obtain ⟨z,y,i,rest,rfl,rfl,ho,q⟩:=h
 obtain ⟨t,rfl⟩:=rx
 obtain ⟨u1,rfl,⟨t1,rfl⟩⟩:=cI rv
 exact SC.index ho ⟨.int _,H,I.tok _,⟨_,rfl⟩,q⟩
def wk (z:Str):List V:=z.cps.toList.map fun c=>.str ⟨#[c]⟩
end
end L2
namespace PySem
open Sem (wp)
section
variable {prog:Program} {w:World} {A:Around} {E:Value→Shared→Prop} {s:Shared} {z TI TO i1 i2:Addr} {x y:Str} {t u:Tok} {k c d:Nat} {a b:Value}
end
end PySem
namespace PySem
end PySem
namespace L2
open PySem PySem.Spec PyProof.Rows
theorem Inv.stepT {X:Cx}{pins:List (Addr × Obj)}{σ:St}{H:Hp}{s:Shared}{h':Heap}{t':Nat}{ch:List Addr}{T:Addr}{xs:List V}{its:List Value}(I:Inv X pins σ H s)(hf:∀ b∈ch,jd X pins H b)
  (k:∀ b o,b∉ch→s.heap.get? b=some o→h'.get? b=some o) (hT:s.heap.objs.size≤T) (hz:xs.length≤sizeLine) (rv:aZ xs its) (ht:IsTup h' T its.toArray) (hnd:NoD h' T) (there:∀ b∈ch,∃ o,s.heap.get? b=some o):Inv X pins σ (upd H T (.tup xs)) { s with heap:=h',toks:=t' }:=by
 have hn:H T=none:=I.hok.fresh hT
 have ne:∀ {b o},s.heap.get? b=some o→b≠T:=fun e=>xD (xi (wZ e) hT)
 have nch:∀ {b u},H b=some u→b∉ch:=fun e z=>by rw [(hf _ z).1] at e;cases e
 refine I.step (g':=s.gens) (d':=s.drawn) (ch:=ch) (fun b hb=>?_) (fun b o _ _ hc e _=>k b o hc e) (fun b o _ _ hc e _=>⟨o.slots,k b o hc e⟩) (fun b o _ e n=>by rw [av (ne e)];exact n) (fun b o hc e=>⟨o,k b o hc e⟩)
  (fun b ys e=>by rw [av (ag e hn)];exact e) (fun b o u e=>by rw [av (ag e hn)];exact e) (fun b ps e=>⟨#[],by rw [av (ag e hn),e];simp⟩) (fun m hm=>?_) (fun b u e=>?_) I.bare
 ·obtain ⟨_,f1,_,f3,f4,f5⟩:=hf b hb
  exact ⟨f3,f1,f4,f5⟩
 ·obtain ⟨o,es,ep,ho,r⟩:=hm
  exact ⟨o,es,ep,k _ o (fun z=>(hf _ z).2.1 rfl) ho,r⟩
 ·by_cases hb:b=T
  ·subst hb
   rw [ab] at e
   cases e
   exact ⟨hz,its,rv,ht,hnd⟩
  ·rw [av hb] at e
   refine (I.hok b u e).stay (fun c v hc q=>k c v ?_ q) (fun c q=>by rw [av (ag q hn)];exact q) fun c ys q=>by rw [av (ag q hn)];exact q
   rcases hc with z | z
   ·rw [z];exact nch e
   ·exact nch z
section
variable {X:Cx}
theorem qr {K:PySem.W.Frag}{es:List Expr}{k:Nat}{t:TGs}{n:Nat}{pos:Pos}(hK:X.K=K)(hc:X.calm=true)(h:PGs X es t)
  (hn:(assignEach es X.env).length=n:=by rfl) (hst:(assignEach es X.env).findIdx? (·.1)=none:=by rfl):PG X (.Tuple es k pos) (vC K n t):=by
 subst hK
 exact gP hc h hn hst
end
end L2
namespace L2
open PySem PySem.Spec PyProof.Rows Wd
def lD:Expr→Bool
 | .Starred _ _=>false
 | _=>true
theorem qt {e:Expr}(h:lD e=true)(es:List Expr)(env:Env):starEach (e::es) env=(false,eval e env)::starEach es env:=by
 cases e <;> first | rfl | cases h
theorem sN {X:Cx}{e:Expr}{es:List Expr}{te:TE}{t:TA}(ha:PE X e te)(hr:PA X es t)(h:lD e=true:=by rfl):PA X (e::es) (rY te t):=aa ha hr (qt h _ _)
def keyT (e:DictEntry):Str:=match e.key with
 | .str x _=>x
 | _=>""
def u_:List Str:=([0,1,2,3,4,5,6,7,8,9,10,11]:List L).map fun x=>toS [x]
end L2
namespace Kx
open PySem PySem.Spec PyProof.Rows L2 Wd
inductive qu (vs:List V)(H:Hp)(Q:VK)(u3_:XK):Prop
 | mk:∀ (x:L),(vs=[tx [x]])→(Q (.int ((x.val % 6:Nat):Int)) H)→qu vs H Q u3_
theorem sO:∀ x:L,Builtin.Str.occurrences ("abcdef":Str) (Txt.lower (toS [x])) 0 ("abcdef":Str).length 1=[x.val % 6]:=by
 have q:∀ x:L,Builtin.Str.occurrences ("abcdef":Str) (⟨(([x].map cp).map lo1).toArray⟩:Str) 0 ("abcdef":Str).length 1=[x.val % 6]:=by decide +kernel
 intro x
 rw [h9]
 exact q x
end Kx
namespace L2
open PySem PySem.Spec PyProof.Rows Wd
section
variable {X:Cx}
end
end L2
namespace Kx
open PySem PySem.Spec PyProof.Rows L2 Wd
end Kx
namespace L2
open PySem PySem.Spec PyProof.Rows Wd
theorem gu {K:PySem.W.Frag}{a:Addr}{xs:List V}{own:List Str}{cap:List Nat}{g:TG}{ti:TT}{te:TE}{σ:St}{H:Hp}{Q:VK}(Pv:Nat→List V→St→Hp→Prop)(h0:Pv 0 [] (stB own cap σ) H)(hz:∀ i ys σ H,i≤xs.length→Pv i ys σ H→ys.length≤i)(hn:xs.length≤sizeLine)
  (hl:∀ i ys σ H,Pv i ys σ H→SqT K H a xs)
  (hs:∀ i ys σ H x (N:List V→St→Hp→Prop),xs[i]? = some x→Pv i ys σ H→(∀ ys' σ' H'',Pv (i+1) ys' σ' H''→N ys' σ' H'')→g x σ H fun σ2 H2=>ti σ2 H2 fun b H3=>if b=true then te σ2 H3 fun y H4=>N (ys++[y]) σ2 H4 else N ys σ2 H3)
  (hd:∀ ys σ H D,Pv xs.length ys σ H→H D=none→Q (.ref D) (upd H D (.lst ys))) :
  nQ own cap g ti te Q σ (Itt K a) H:=by
 refine cg (J:=Itt K a) xs.length Pv h0 hz hn (fun i ys σ H hi p=>⟨xs,xs[i],hl i ys σ H p,wF hi⟩) (fun ys σ H p=>⟨xs,hl _ ys σ H p,wJ _⟩) ?_ hd
 rintro i ys σ H x H' N hi p ⟨rfl,hx⟩ hN
 exact hs i ys σ _ x N (hx xs (hl i ys σ _ p)) p hN
theorem cA {K:PySem.W.Frag}{a:Addr}{xs:List V}{own:List Str}{cap:List Nat}{g:TG}{ti:TT}{te:TE}{σ:St}{H:Hp}{Q:VK}(Pv:Nat→List V→St→Hp→Prop)(h0:Pv 0 [] (stB own cap σ) H)(hz:∀ i ys σ H,i≤xs.length→Pv i ys σ H→ys.length≤i)(hn:xs.length≤sizeLine)
  (hl:∀ i ys σ H,Pv i ys σ H→SqL K H a xs)
  (hs:∀ i ys σ H x (N:List V→St→Hp→Prop),xs[i]? = some x→Pv i ys σ H→(∀ ys' σ' H'',Pv (i+1) ys' σ' H''→N ys' σ' H'')→g x σ H fun σ2 H2=>ti σ2 H2 fun b H3=>if b=true then te σ2 H3 fun y H4=>N (ys++[y]) σ2 H4 else N ys σ2 H3)
  (hd:∀ ys σ H D,Pv xs.length ys σ H→H D=none→Q (.ref D) (upd H D (.lst ys))) :
  nQ own cap g ti te Q σ (Itl K a) H:=by
 refine cg (J:=Itl K a) xs.length Pv h0 hz hn (fun i ys σ H hi p=>⟨xs,xs[i],hl i ys σ H p,wF hi⟩) (fun ys σ H p=>⟨xs,hl _ ys σ H p,wJ _⟩) ?_ hd
 rintro i ys σ H x H' N hi p ⟨rfl,hx⟩ hN
 exact hs i ys σ _ x N (hx xs (hl i ys σ _ p)) p hN
theorem sP {X:Cx}{a:Expr}{ta:TE}(ha:PE X a ta)(he:∀ whole,isTrue a X.env whole=(do let v ← whole; standAt a.pos; holding [v] (truthy v))):PT X a (p0 ta):=by
 intro pins s σ H Q I h
 refine isTrue_plain (thn (ha pins s σ H _ I h) fun v s1 ⟨x,H1,I1,r1,q1⟩=>kz pins s1 σ H1 x v Q I1 r1 ?_) (he _)
 obtain ⟨k,e,q⟩:=q1
 subst e
 exact ⟨k,rfl,q⟩
theorem none_of {H H1:Hp}{a:Addr}(s:aA H H1)(h:H1 a=none):H a=none:=by
 cases e:H a with
 | none=>rfl
 | some o=>rw [s _ _ e] at h;cases h
end L2
namespace L2
open PySem PySem.Spec PyProof.Rows
theorem qv {X:Cx}{i:Nat}{y:Str}{py spos:Pos}{elt iter tg:Expr}{ifs:List Expr}{scope:Scope}{pos:Pos}{NB own:List Str}{cap:List Nat}{wi:TI}{g:TG}{ti:TT}{te:TE}(hN:X.N.Nodup)(hi0:X.N[i]? = some y)(hx:Loc X.env.scope y)(B:Blk X scope NB own cap)(hc:X.calm=true)(hi:PI X tg iter wi)
  (hg:∀ C fp s₀ H₀,PG (cxB X NB own scope C fp s₀ H₀) tg g) (ht:∀ C fp s₀ H₀,PIf (cxB X NB own scope C fp s₀ H₀) ifs ti) (he:∀ C fp s₀ H₀,PE (cxB X NB own scope C fp s₀ H₀) elt te)
  (hs:∀ x,foldedSetIterable iter X.env x=pure x:=by intro _;rfl) (hsw:swapsWith (.ListComp elt [⟨tg,iter,ifs,0⟩] scope pos) (some (.Name y py)) spos.line X.env=pure true:=by rfl) (hf:X.fn y=true ∨ X.env.scope.names.lookup y=some .local:=by first | exact .inl rfl | exact .inr rfl | assumption):PS X (.Assign [.Name y py] (.ListComp elt [⟨tg,iter,ifs,0⟩] scope pos) spos) (uF (sG own cap wi g ti te) (iO i)):=by
 intro pins s σ H DD I0 h
 rw [exec_Assign_Name_used _ _ _ _ hsw]
 refine wD (A2 (wD ?_))
 show wpAny _ X.A (do let _ ← comprehension (.ListComp elt [⟨tg,iter,ifs,0⟩] scope pos) scope X.env _ (newList []) false (eval iter X.env) (some (assign (.Name y py) X.env))) _ _ s
 have hclos:=cX (env:=X.env) (scope:=scope) fun y hy e=>I0.ok.has y.1 (.inl (B.free y hy e))
 refine wD (yt (AV (use:=some (assign (.Name y py) X.env)) (Q:=fun _ s'=>SP X pins DD .next s') rfl hs hclos B.kind B.names (thn (hi pins s σ H _ I0 h) fun v s1 h1=>thn h1 fun itv s2 h2=>?_)) (fun _ s' hq=>wI (wI hq)) fun _ _ e=>e)
 obtain ⟨it,fp,tn,J,H2,rfl,I,T,st2,f2,W,⟨m0,w0⟩,turn⟩:=h2
 refine zR ?_
 refine wpAny_newFunctionEnv B.nocell (by intro y hy;simp at hy) (fun h₁ hns₁ hsb₁=>?_) B.kind
 dsimp only at hns₁ hsb₁ ⊢
 generalize hP:s2.heap.push { cls:=.type "list",dict:=none,data:=.seq ([]:List Value).toArray }=P at hns₁ hsb₁ ⊢
 have hC:P.objs.size=s2.heap.objs.size+1:=by rw [← hP,z9]
 have hDC:s2.heap.objs.size≠P.objs.size:=by rw [hC];exact xD (Ah _)
 have hCle:s2.heap.objs.size≤P.objs.size:=by rw [hC];exact Br _
 have old:∀ b o,s2.heap.get? b=some o→h₁.get? b=some o:=fun b o e=>by
  refine (hsb₁.2 b ?_).trans (wK _ (hP ▸ wK _ e))
  exact xD (xi (wZ e) hCle)
 have hD:h₁.get? s2.heap.objs.size=some { cls:=.type "list",data:=.seq ([]:List Value).toArray 0 }:=by
  refine (hsb₁.2 _ hDC).trans (wK _ ?_)
  rw [← hP]
  exact wV _ rfl
 have hfs:∀ b∈fp,∃ o,s2.heap.get? b=some o:=fun b hb=>let ⟨o,e,_⟩:=T.obj _ _ st2 b hb;⟨o,e⟩
 have st4:tn 0 h₁:=T.keep _ _ _ st2 fun b _ o e=>old b o e
 generalize htk:s2.toks+([]:List (Str × Value)).length=tk4
 have I4:=B.start (C:=P.objs.size) (tk:=tk4) I f2 hfs hCle old hns₁
 have fOk:∀ {H':Hp} {b:Addr} {ob:Obj},b∈fp→H' b=none→jd (cxB X NB own scope P.objs.size fp s2 H2) [(s2.heap.objs.size,ob)] H' b:=fun {H' b ob} hb hn=>by
  obtain ⟨o,e⟩:=hfs b hb
  refine ⟨hn,(I4.ok.exf b hb).1,I4.ok.exfs b hb,.inl hb,(I4.ok.exf b hb).2,fun p hp=>?_⟩
  have ep:p=(s2.heap.objs.size,ob):=wH.mp (show p∈[(s2.heap.objs.size,ob)] from hp)
  rw [ep]
  exact fun z=>absurd (wZ e) (by rw [← z];exact xT _)
 have dnf:s2.heap.objs.size∉frs X.stack:=fun z=>by
  rcases xg.mp (I.stkSub _ z) with z | z
  ·exact absurd I.lt (by rw [← z];exact xT _)
  ·exact I.nofs (wJ _) z
 have I3D:∀ {σ3:St} {H3:Hp} {s3:Shared} {its:List Value} {k:Nat},Inv (cxB X NB own scope P.objs.size fp s2 H2) [] σ3 H3 s3→s3.heap.get? s2.heap.objs.size=some { cls:=.type "list",data:=.seq its.toArray k }→H3 s2.heap.objs.size=none →
   Inv (cxB X NB own scope P.objs.size fp s2 H2) [(s2.heap.objs.size,{ cls:=.type "list",data:=.seq its.toArray k })] σ3 H3 s3:=fun I3 e n=>I3.pins_of fun p hp=>by
  have ep:=wH.mp hp
  subst ep
  exact ⟨e,n,hDC,dnf,fun v z=>by cases z⟩
 have ndf:s2.heap.objs.size∉fp:=fun z=>by
  obtain ⟨o,e⟩:=hfs _ z
  exact absurd (wZ e) (xT _)
 have nCD:∀ x c,(cxB X NB own scope P.objs.size fp s2 H2).env.cells.lookup x=some c→c≠s2.heap.objs.size:=fun x c e z=>by
  obtain ⟨v,o,ho,_⟩:=I.cell x c (B.cells I.ok e).1
  rw [z] at ho
  exact absurd (wZ ho) (xT _)
 have loop:∀ s₃:Shared,s₃ = { s2 with heap:=h₁,toks:=tk4 }→codeAny (model X.prog X.w) X.A (.compLoop (.ListComp elt [⟨tg,iter,ifs,0⟩] scope pos) 0 (.ref it) (.ref s2.heap.objs.size) (cxB X NB own scope P.objs.size fp s2 H2).env)
   (compPost (model X.prog X.w) X.A X.xe (some (assign (.Name y py) X.env)) (fun _ s'=>SP X pins DD .next s') (.ref s2.heap.objs.size) P.objs.size) s₃:=by
  rintro s₃ rfl
  refine hX (fun n s'=>∃ i σB H' ys its k,Inv (cxB X NB own scope P.objs.size fp s2 H2) [] σB H' s'∧tn i s'.heap∧(∀ b∈fp,H' b=none)∧s'.heap.get? s2.heap.objs.size=some { cls:=.type "list",data:=.seq (its:List Value).toArray k }∧aZ ys its∧H' s2.heap.objs.size=none∧W i n ys σB H') ?_ m0
   ⟨0,stB own cap σ,H2,[],[],0,I4,st4,fun b hb=>(f2 b hb).1,hD,.nil,I.hok.fresh (wJ _),w0⟩
  rintro n s3 ⟨i,σ3,H3,ys,its,k,I3,st3,fr3,hD3,rv,hn3,w3⟩
  rcases turn i n ys σ3 H3 w3 with ⟨stop,hz,q⟩ | ⟨go,hz,step⟩
  ·refine thn (T.done (cxB X NB own scope P.objs.size fp s2 H2) rfl rfl rfl hc i _ s3 σ3 H3 noE (I3D I3 hD3 hn3) (fun b hb=>fOk hb (fr3 b hb)) st3 stop) fun r s4 zq1=>?_
   obtain ⟨hr,I4'⟩:=zq1
   subst hr
   have hD4:s4.heap.get? s2.heap.objs.size=some { cls:=.type "list",data:=.seq (its:List Value).toArray k }:=(I4'.pin (s2.heap.objs.size,_) (wU _ (wH.mpr rfl))).1
   have I5:Inv (cxB X NB own scope P.objs.size fp s2 H2) [] σ3 H3 s4:=I4'.pins_of fun p hp=>absurd (show p∈([]:List (Addr × Obj)) from hp) (by simp)
   obtain ⟨mC,hnC,_⟩:=I5.loc
   have I6:Inv X pins σ (upd H3 s2.heap.objs.size (.lst ys)) s4:=B.done (h'':=s4.heap) I f2 hCle (wJ _) hDC I5 hn3 hD4 rv hz ⟨rfl,fun _ _=>rfl⟩
   obtain ⟨oC,es,ep,hoC,hdC,rC⟩:=hnC
   have hCn:(upd H3 s2.heap.objs.size (.lst ys)) P.objs.size=none:=by rw [av hDC.symm];exact I5.free
   have nL:P.objs.size≠X.env.locals:=fun z=>absurd I.lt (by rw [← z];exact Nat.not_lt.mpr hCle)
   have I7:Inv X (pins++[(P.objs.size,oC)]) σ (upd H3 s2.heap.objs.size (.lst ys)) s4:=I6.pins_of fun p hp=>by
    rcases xm.mp hp with z | z
    ·exact I6.pin p (wU _ z)
    ·have ep:=wH.mp z
     subst ep
     exact ⟨hoC,hCn,nL,I.nofs hCle,fun v z=>by rw [hdC] at z;cases z⟩
   refine thn (aE (pos:=py) hN hi0 hx hf (pins++[(P.objs.size,oC)]) s4 σ _ (.ref s2.heap.objs.size) (.ref s2.heap.objs.size) (fun σ' H'=>DD.nx σ' H'∧H'=upd H3 s2.heap.objs.size (.lst ys)) I7 rfl ⟨q _ hn3,rfl⟩) fun _ s5 zq2=>?_
   obtain ⟨σ5,H5,I8,q5,e5⟩:=zq2
   subst e5
   have pC:=(I8.pin (P.objs.size,oC) (wU _ (wU _ (wH.mpr rfl)))).1
   refine ⟨mC,⟨oC,es,ep,pC,hdC,rC⟩,fun h'' sb=>⟨σ5,_,?_,q5⟩⟩
   have I9:Inv X pins σ5 (upd H3 s2.heap.objs.size (.lst ys)) s5:=I8.pins_of fun p hp=>I8.pin p (wU _ (xp _ hp))
   refine I9.turned (t':=s5.toks) (it:=P.objs.size) (fun b o hb e=>(sb.2 b hb).trans e) hCn nL (.inr (xq I.sz hCle)) (fun x c e z=>?_) fun p hp z=>?_
   ·obtain ⟨v,o,ho,_⟩:=I.cell x c e
    exact absurd (wZ ho) (by rw [z];exact Nat.not_lt.mpr hCle)
   ·exact absurd (wZ (I.pin p hp).1) (by rw [z];exact Nat.not_lt.mpr hCle)
  ·refine thn (T.item (cxB X NB own scope P.objs.size fp s2 H2) rfl rfl rfl hc i _ s3 σ3 H3 noE (I3D I3 hD3 hn3) (fun b hb=>fOk hb (fr3 b hb)) st3 go) fun r s4 zq3=>?_
   obtain ⟨u,hr,h4⟩:=zq3
   subst hr
   refine thn h4 fun _ s5 zq4=>?_
   obtain ⟨x,H5,I5,r5,y5,st5,fr5⟩:=zq4
   have I5':=I5.pinned (fun b hb=>fOk hb (fr5 b hb)) (T.obj _ _ st5)
   refine thn (hg _ fp s2 H2 _ s5 σ3 H5 x u _ I5' r5 (step x H5 y5)) fun _ s6 zq5=>?_
   obtain ⟨σ6,H6,I6,q6⟩:=zq5
   refine thn (ht _ fp s2 H2 _ s6 σ6 H6 _ I6 q6) fun b s7 zq6=>?_
   obtain ⟨H7,I7,q7⟩:=zq6
   have pinned:∀ {σ8:St} {H8:Hp} {s8:Shared},Inv (cxB X NB own scope P.objs.size fp s2 H2) ([(s2.heap.objs.size,{ cls:=.type "list",data:=.seq (its:List Value).toArray k })]++fz fp s5.heap) σ8 H8 s8 →
     tn (i+1) s8.heap∧(∀ b∈fp,H8 b=none)∧s8.heap.get? s2.heap.objs.size=some { cls:=.type "list",data:=.seq (its:List Value).toArray k }∧H8 s2.heap.objs.size=none:=fun {σ8 H8 s8} I8=>by
    refine ⟨T.keep _ _ _ st5 fun b hb o e=>(I8.pin (b,o) (wU _ (wU _ (bO hb e)))).1,fun b hb=>?_,?_,?_⟩
    ·obtain ⟨o,e,d⟩:=T.obj _ _ st5 b hb
     exact (I8.pin (b,o) (wU _ (wU _ (bO hb e)))).2.1
    ·exact (I8.pin (s2.heap.objs.size,_) (wU _ (xp _ (wH.mpr rfl)))).1
    ·exact (I8.pin (s2.heap.objs.size,_) (wU _ (xp _ (wH.mpr rfl)))).2.1
   have nopin:∀ {pp:List (Addr × Obj)} {σ8:St} {H8:Hp} {s8:Shared},Inv (cxB X NB own scope P.objs.size fp s2 H2) pp σ8 H8 s8→Inv (cxB X NB own scope P.objs.size fp s2 H2) [] σ8 H8 s8:=fun I8=>I8.pins_of fun p hp=>absurd (show p∈([]:List (Addr × Obj)) from hp) (by simp)
   cases b with
   | false =>
    rw [if_neg xj] at q7 ⊢
    obtain ⟨m',hm,w7⟩:=q7
    obtain ⟨p1,p2,p3,p4⟩:=pinned I7
    exact ⟨m',hm,i+1,σ6,H7,ys,its,k,nopin I7,p1,p2,p3,rv,p4,w7⟩
   | true =>
    rw [if_pos rfl] at q7 ⊢
    refine thn (he _ fp s2 H2 _ s7 σ6 H7 _ I7 q7) fun yv s8 zq7=>?_
    obtain ⟨y,H8,I8,r8,m',hm,w8⟩:=zq7
    obtain ⟨p1,p2,p3,p4⟩:=pinned I8
    refine z4 yd ⟨_,p3,rfl⟩ Ay (An _ _) (AU s2.heap.objs.size its.toArray k yv (by rw [wX,← rv.length];omega)) ⟨p3,?_⟩
    have q:=A9 p3 fun a=>a.push yv
    have ea:its.toArray.push yv=(its++[yv]).toArray:=by simp
    rw [ea] at q
    have I9:Inv (cxB X NB own scope P.objs.size fp s2 H2) [] σ6 H8 { s8 with heap:=s8.heap.update s2.heap.objs.size (Obj.mapSeq fun a=>a.push yv),toks:=s8.toks } :=
     (nopin I8).turned (it:=s2.heap.objs.size) (fun b o hb e=>(x9 s8.heap _ (Ne.symm hb)).trans e) p4 hDC (.inr (wJ _)) (fun x c e=>nCD x c e) fun p hp=>absurd (show p∈([]:List (Addr × Obj)) from hp) (by simp)
    refine ⟨m',hm,i+1,σ6,H8,ys++[y],its++[yv],_,I9,?_,p2,q,rv.append (.cons r8 .nil),p4,w8⟩
    refine T.keep _ _ _ p1 fun b hb o e=>(x9 s8.heap _ ?_).trans e
    intro z
    rw [z] at ndf
    exact ndf hb
 exact codeAny_compStart_list (loop _ rfl) (T.self X.A 0 _ _ _ st4 (loop _ rfl))
end L2
namespace L2
open PySem PySem.Spec PyProof.Rows Wd
section
variable {X:Cx}
inductive lE (x:V)(vs:List V)(H:Hp)(Q:VK):Prop
 | mk:∀ l xs i y,(x = .ref l)→(vs=[.int i,y])→(H l=some (.lst xs))→(0≤i)→(i≤xs.length)→(xs.length < sizeLine)→(Q .non (upd H l (.lst (xs.take i.toNat++y::xs.drop i.toNat))))→lE x vs H Q
theorem ia:MtM X "list.insert" lE:=by
 intro pins s σ H x vs v us Q I rx rv h
 obtain ⟨l,xs,i,y,rfl,rfl,hH,h0,h1,hz,q⟩:=h
 cases rx
 obtain ⟨u1,u2,rfl,⟨t1,rfl⟩,r2⟩:=nz rv
 obtain ⟨z,its,n,r,hl,e⟩:=I.lstM hH
 have hn:=cT
 have hfit:Builtin.List.listFitsIndex i=true:=by
  unfold Builtin.List.listFitsIndex
  rw [xK,xR,xR]
  constructor <;> omega
 refine z4 zL ⟨_,e,rfl⟩ PySem.F.entry_list_insert (PySem.F.args_list_insert_3 _ _ _) (PySem.AutoSeq1.list_insert_list_int_val_1 l its.toArray n i t1 u2 (by simp [hfit]) (by rw [wX];omega)) ⟨e,?_⟩
 refine ⟨.non,_,I.lset (its':=its.take i.toNat++u2::its.drop i.toNat) hH e ?_ ((r.take _).append (.cons r2 (r.drop _))) ?_,rfl,q⟩
 ·have hm:min i.toNat its.length=i.toNat:=by omega
  simp only [wX,if_neg (show ¬ i < 0 by omega),hm]
  apply Array.toList_inj.mp
  simp
  exact xv (by rw [xO];exact wJ _)
 ·rw [wQ,xN,w9,xO]
  omega
inductive cB  (xs:List V)(H:Hp)(Q:VK):Prop
 | mk:∀ i,(xs=[.int i])→(i.natAbs.log2 < 1920)→(Q (.str (toString i)) H)→cB xs H Q
theorem c_:cP X (.builtin "repr") cB:=by
 intro pins s σ H xs us Q I r h
 obtain ⟨i,rfl,hi,q⟩:=h
 obtain ⟨u,rfl,t,rfl⟩:=cI r
 exact P.repr_of_int hi ⟨.str _,H,I.tok _,⟨_,rfl⟩,q⟩
def sQ (z:Str):Str:=Txt.sliceBy z none none (-1,0)
def va (te ts:TE):TE:=fun σ H Q=>te σ H fun x H1=>ts σ H1 fun k H2=>∃ z,x = .str z∧k = .int (-1)∧z.length≤sizeLine∧Q (.str (sQ z)) H2
theorem qw {e st:Expr}{te ts:TE}{pos p2:Pos}(he:PE X e te)(hs:PE X st ts):PE X (.Subscript e (.Slice none none (some st) p2) pos) (va te ts):=by
 intro pins s σ H Q I h
 refine AS (thn (he pins s σ H _ I h) fun v s1 zq1=>?_)
 obtain ⟨x,H1,I1,r1,q1⟩:=zq1
 refine wpAny_Slice ?_
 rw [A4]
 refine wI ?_
 refine wI ?_
 rw [evalPart_some]
 refine thn (hs pins s1 σ H1 _ I1 q1) fun vs s3 zq2=>?_
 obtain ⟨k,H3,I3,r3,z,ez,ek,hz,q3⟩:=zq2
 subst ez ek
 obtain ⟨t,rfl⟩:=r1
 obtain ⟨tk,rfl⟩:=r3
 have I4:Inv X pins σ H3 { s3 with heap:=s3.heap.push { cls:=.type "slice",data:=.fields #[.none,.none,.int (-1) tk] } }:=I3.kept (t':=s3.toks) fun b ob q=>wK _ q
 show wpAny (model X.prog X.w) X.A (subscriptTail e (.Slice none none (some st) p2) (.str z t) (.ref s3.heap.objs.size)) (EP X pins σ Q) X.xe { s3 with heap:=s3.heap.push { cls:=.type "slice",data:=.fields #[.none,.none,.int (-1) tk] } }
 refine tail_any (ops:=[.ref s3.heap.objs.size,.str z t]) (Au _ _ _) F.slot_str_getitem.lookup ?_ (by with_unfolding_all rfl)
 exact yF (l:=none) (u:=none) (st:=some (-1,tk)) ⟨_,wV _ rfl,rfl,rfl⟩ rfl (zS ⟨xq (Txt.sliceBy_le z none none (-1,tk) (by show (-1:Int)≠0;decide)) hz,fun t' k=>⟨.str _,H3,I4.tok _,⟨_,rfl⟩,q3⟩⟩)
theorem n4 (u:List L):sQ (toS u)=toS u.reverse:=by
 have h:(sQ (toS u)).cps.toList=(toS u.reverse).cps.toList:=by
  unfold sQ
  rw [step_rev_list,cw,af]
  apply AX
  intro i
  rw [wL]
  by_cases hi:i < u.length
  ·rw [List.getElem?_range hi,wL,zo hi]
   have e:(toS u).cps.getD (u.length - 1 - i) 0=cp u[u.length - 1 - i]:=by
    simp [toS,Array.getD,show u.length - 1 - i < u.length by omega]
   rw [wF (show u.length - 1 - i < u.length by omega)]
   exact xF some e
  ·rw [yz (by simpa using hi),yz (by simp;omega)]
   rfl
 cases hr:sQ (toS u) with
 | mk c=>
  rw [hr] at h
  have:c=(toS u.reverse).cps:=Array.toList_inj.mp h
  rw [this]
end
end L2
namespace Wd
def fam (k:Nat):List L:=(List.range k).flatMap fun j=>if h:j < 6 then [⟨j,by omega⟩,⟨j+6,by omega⟩] else []
theorem ib:∀ k:Fin 7,(fam k.val).Nodup∧(∀ x∈fam k.val,inv x∈fam k.val)∧(fam k.val).length=2*k.val:=by decide
theorem n5 {k:Nat}(h:k < 6):fam (k+1)=fam k++[⟨k,by omega⟩,⟨k+6,by omega⟩]:=by
 unfold fam
 rw [zp,yI]
 simp [h]
theorem n6 {u v:List L}(x:L)(i:Nat)(p:u.Perm v):(u.take i++x::u.drop i).Perm (v++[x]):=by
 refine Ba.trans ?_
 rw [xo]
 exact ((List.Perm.cons x p).trans (List.perm_append_singleton x v).symm)
end Wd
namespace Kx
open PySem PySem.Spec PyProof.Rows L2 Wd
theorem lF (u:List L)(x:L)(i:Nat):StrLaws.At (toS u) (toS [x]) (toS u).length i ↔ u[i]? = some x:=by
 unfold StrLaws.At
 rw [af,af,StrLaws.subAt_eq,af,cw,cw,beq_iff_eq,← zT,← Ap]
 simp only [Ac]
 constructor
 ·rintro ⟨h1,h2⟩
  have h2:=dJ h2
  have:(u.drop i).take 1=[u[i]]:=by rw [xI (by omega)];rfl
  rw [this] at h2
  rw [wF (by omega)]
  exact xF some (Bv h2).1
 ·intro h
  obtain ⟨hl,e⟩:=wG.mp h
  refine ⟨by omega,?_⟩
  rw [xI hl,e]
  rfl
theorem sR {u:List L}{x:L}(h:x∈u):∃ rest,Builtin.Str.occurrences (toS u) (toS [x]) 0 (toS u).length 1=u.idxOf x::rest:=by
 have hlt:=AC h
 have hx:u[u.idxOf x]? = some x:=by rw [wF hlt];exact xF some (List.getElem_idxOf hlt)
 rcases StrLaws.occ_head (toS u) (toS [x]) 1 (wJ 1) with ⟨h0,hn⟩ | ⟨i,r,h0,hi,hn⟩
 ·exact absurd ((lF u x _).mpr hx) (hn _)
 ·refine ⟨r,?_⟩
  rw [h0]
  have hi:=(lF u x i).mp hi
  have:i=u.idxOf x:=by
   rcases Nat.lt_trichotomy i (u.idxOf x) with h1 | h1 | h1
   ·have q:=List.not_of_lt_findIdx (p:=(· == x)) h1
    obtain ⟨hl,e⟩:=wG.mp hi
    exact absurd (beq_iff_eq.mpr e) (by simpa using q)
   ·exact h1
   ·exact absurd ((lF u x _).mpr hx) (hn _ h1)
  rw [this]
theorem pI (x:L):(!(Builtin.Str.occurrences ("ABCDEF":Str) (toS [x]) 0 ("ABCDEF":Str).length 1).isEmpty)=decide (¬ x.val < 6):=by
 have q:∀ x:L,decide (cp x∈("ABCDEF":Str).cps.toList)=decide (¬ x.val < 6):=by decide +kernel
 have h:=StrLaws.found_one ("ABCDEF":Str) (cp x)
 rw [q] at h
 exact h
structure Tp (H:Hp) (d c:Addr):Prop where
 ex:∃ (i l t:Int) (ns:List Int),H d=some (.lst [.ref c,.int i,.int l,.int t])∧H c=some (.lst (ns.map V.int))∧c≠d∧ns.length≤63
theorem Tp.same {H H':Hp}{d c:Addr}(F:Tp H d c)(s:aA H H'):Tp H' d c:=by
 obtain ⟨i,l,t,ns,h1,h2,h3,h4⟩:=F.ex
 exact ⟨i,l,t,ns,s _ _ h1,s _ _ h2,h3,h4⟩
theorem Tp.new {H:Hp}{d c a:Addr}{o:HO}(F:Tp H d c)(h:H a=none):Tp (upd H a o) d c:=F.same (aA.new h)
theorem Tp.ne {H:Hp}{d c a:Addr}(F:Tp H d c)(h:H a=none):a≠d:=by
 obtain ⟨i,l,t,ns,h1,h2,h3,h4⟩:=F.ex
 exact (ag h1 h).symm
theorem Tp.nec {H:Hp}{d c a:Addr}(F:Tp H d c)(h:H a=none):a≠c:=by
 obtain ⟨i,l,t,ns,h1,h2,h3,h4⟩:=F.ex
 exact (ag h2 h).symm
theorem Tp.but {H H':Hp}{d c a:Addr}(F:Tp H d c)(h1:a≠d)(h2:a≠c)(s:bC a H H'):Tp H' d c:=by
 obtain ⟨i,l,t,ns,g1,g2,g3,g4⟩:=F.ex
 exact ⟨i,l,t,ns,s _ _ h1.symm g1,s _ _ h2.symm g2,g3,g4⟩
theorem none_of {H H':Hp}{a:Addr}(s:aA H H')(h:H' a=none):H a=none:=by
 cases e:H a with
 | none=>rfl
 | some o=>exact absurd (s _ _ e) (by rw [h];intro z;cases z)
inductive cQ (vs:List V)(H:Hp)(Q:VK)(u3_:XK):Prop
 | mk:∀ (d c:Addr) (m:Int),(vs=[.ref d,.int m])→(Tp H d c)→(0 < m)→(m < 1000000)→(∀ (r:Int) (H':Hp),0≤r→r < m→Tp H' d c→bC d H H'→Q (.int r) H')→cQ vs H Q u3_
inductive lG (K:PySem.W.Frag)(vs:List V)(H:Hp)(Q:VK)(u3_:XK):Prop
 | mk:∀ (a:Addr) (ns:List Int),(vs=[.ref a])→(SqL K H a (ns.map V.int))→(ns.length≤63)→(∀ (d c:Addr) (H':Hp),H d=none→H c=none→Tp H' d c→aA H H'→Q (.ref d) H')→lG K vs H Q u3_
theorem bg6:∀ j:Fin 6,([6,7,8,9,10,11]:List L)[j.val]? = some ⟨j.val+6,by omega⟩:=by decide
theorem sm_at {i:Nat}(h:i < 6):atI ("abcdef":Str).cps.toList (i:Int)=some (cp ⟨i,by omega⟩):=by
 rw [← qj]
 exact dM (k:=i) rfl (sm6 ⟨i,h⟩)
theorem vb {i:Nat}(h:i < 6):atI ("ABCDEF":Str).cps.toList (i:Int)=some (cp ⟨i+6,by omega⟩):=by
 rw [← big]
 exact dM (k:=i) rfl (bg6 ⟨i,h⟩)
theorem n8 (W:List L)(x:L)(n:Nat):(bK W).take n++tx [x]::(bK W).drop n=bK (W.take n++x::W.drop n):=by
 unfold bK
 simp
end Kx
namespace Wd
section
variable {α:Type}
def Adj:List α→α→α→Prop
 | a::b::t,x,y=>(x=a∧y=b) ∨ Adj (b::t) x y
 | _,_,_=>False
end
def J (u v:List L):Prop:=∀ x y,u.getLast? = some x→v.head? = some y→y≠inv x
end Wd
namespace L2
open PySem PySem.Spec PyProof.Rows Wd
end L2
namespace Wd
end Wd
namespace L2
open PySem PySem.Spec PyProof.Rows Wd
end L2
namespace Wd
section
variable {α:Type}
def Pt (R:α→α→Prop)(a:α)(P:List α)(b:α):Prop:=∀ c d,Adj (a::P++[b]) c d→R c d
end
end Wd
namespace PySem
open Sem (wp)
open AutoSeq1 (wpAny_loadPart')
set_option maxHeartbeats 1000000 in
theorem lH (tp:Addr)(its:Array Value)(m:Nat)(dc:Option Addr)(sls:Array (Option Value)) :
  Meets (Builtin.«enumerate.__new__» ⟨[.type "enumerate",.ref tp],[]⟩) (fun _ R s=>s.heap.get? tp=some { cls:=.type "tuple",dict:=dc,data:=.seq its m,slots:=sls } ∧
   R (.ok (.ret (.ref (s.heap.push { cls:=.type "tuple_iterator",data:=.fields #[.ref tp,.int 0 0] }).objs.size)))
    { s with heap:=(s.heap.push { cls:=.type "tuple_iterator",data:=.fields #[.ref tp,.int 0 0] }).push { cls:=.type "enumerate",data:=.fields #[.none,.bool false,.ref s.heap.objs.size,rawInt 0,.none,.none] } }) :=
 .of_wp fun prog w A R s h=>by
  obtain ⟨hp,gg,dd,tk,os⟩:=s;obtain ⟨ht,h⟩:=h
  have hsub:=sub_enumerate
  have hT:Heap.IsTuple (Shared.heap ⟨hp,gg,dd,tk,os⟩) tp its:=⟨_,ht,rfl,m,rfl⟩
  wp_walk using wpAny_loadPart' ht
  refine wpAny_stack_any fun stk=>wI ?_
  split
  ·rename_i cc _ _ _ _ _
   cases (cc == Value.type "enumerate")
   ·(wp_walk using wpAny_loadPart' ht,yM hT);exact ⟨_,rfl,h⟩
   ·(wp_walk using wpAny_loadPart' ht,yM hT);exact ⟨_,rfl,h⟩
  ·(wp_walk using wpAny_loadPart' ht,yM hT);exact ⟨_,rfl,h⟩
section
variable {prog:Program} {w:World} {A:Around} {E:Value→Shared→Prop} {s:Shared}
theorem n9 {tp:Addr}{its:Array Value}{Q:Value→Shared→Prop}(hT:s.heap.IsTuple tp its)
  (h:∀ h',IsEnum h' (s.heap.objs.size+1) s.heap.objs.size 0 .none→h'.IsTupleIter s.heap.objs.size tp 0→(∀ b o,s.heap.get? b=some o→h'.get? b=some o)→Q (.ref (s.heap.objs.size+1)) { s with heap:=h' }) :
  wpAny (model prog w) A (call (.type "enumerate") [.ref tp]) Q E s:=by
 obtain ⟨⟨c,dc,dt,sls⟩,ht,hc,m,hd⟩:=hT
 obtain rfl:c = .type "tuple":=hc
 obtain rfl:dt = .seq its m:=hd
 refine callType_new F.called_enumerate (by decide) (F.typeCall_enumerate_1 _) (F.newCall_enumerate_1 _) (fun ob=>F.args_object_init_2 ob _) F.entry_enumerate_new (lH tp its m dc sls) ⟨ht,?_⟩
 have hz:(s.heap.push { cls:=.type "tuple_iterator",data:=.fields #[.ref tp,.int 0 0] }).objs.size=s.heap.objs.size+1:=z9 ..
 show _∧_
 rw [hz]
 have he:=wV (s.heap.push { cls:=.type "tuple_iterator",data:=.fields #[.ref tp,.int 0 0] }) (o:={ cls:=.type "enumerate",data:=.fields #[.none,.bool false,.ref s.heap.objs.size,rawInt 0,.none,.none] }) rfl
 rw [hz] at he
 exact ⟨⟨_,he,rfl⟩,h _ he ⟨_,wK _ (wV _ rfl),rfl,rfl⟩ fun b o q=>wK _ (wK _ q)⟩
theorem j3 {it tp:Addr}{k:Nat}{its:Array Value}{v:Value}{Q:Value→Shared→Prop}(hit:s.heap.IsTupleIter it tp k)(ht:s.heap.IsTuple tp its)(hv:its[k]? = some v)
  (hQ:∀ h',h'.IsTupleIter it tp (k+1)→Heap.SameBut it s.heap h'→Q v { s with heap:=h' }):wpAny (model prog w) A (Builtin.SmallTypes.nextOf (.ref it)) Q E s:=by
 obtain ⟨oi,gi,ci,di⟩:=id hit
 obtain ⟨ot,gt,_,nt,dt⟩:=ht
 unfold Builtin.SmallTypes.nextOf
 refine wD (xG (name:=Str.ofString "__next__") hit.typeIs yK (xJ yK hit.typeIs AD ?_ (Aq _)))
 show wpAny _ _ (field (.ref it) 0 >>= _) _ _ s
 refine wD (yk gi di (x:=.ref tp) rfl ?_)
 show wpAny _ _ (if (Value.ref tp == Value.none)=true then _ else _) _ _ s
 rw [if_neg (show ¬ ((Value.ref tp == Value.none)=true) from xj)]
 show wpAny _ _ (field (.ref it) 1 >>= _) _ _ s
 refine wD (yk gi di (x:=.int k 0) rfl ?_)
 show wpAny _ _ (seqItems? (.ref tp) >>= _) _ _ s
 refine wD (Bq gt dt ?_)
 simp only [xu,hv]
 refine wD (y_ gi di (by simp) (wI ⟨v,rfl,wI (hQ _ ?_ (yX ..))⟩))
 exact ⟨_,yN _ gi (zm (yp di _)),(AW ..).trans ci,by rw [yp di];simp [rawInt]⟩
theorem ie {it tp:Addr}{k:Nat}{its:Array Value}{Q:Value→Shared→Prop}(hh:A.handled=none)(hit:s.heap.IsTupleIter it tp k)(ht:s.heap.IsTuple tp its)(hv:its[k]? = none)
  (hE:∀ h' e,Heap.ExtBut it s.heap h'→(∃ o,h'.get? e=some o∧o.cls = .type "StopIteration")→E (.ref e) { s with heap:=h' }):wpAny (model prog w) A (Builtin.SmallTypes.nextOf (.ref it)) Q E s:=by
 obtain ⟨oi,gi,ci,di⟩:=id hit
 obtain ⟨ot,gt,_,nt,dt⟩:=ht
 unfold Builtin.SmallTypes.nextOf
 refine wD (xG (name:=Str.ofString "__next__") hit.typeIs yK (xJ yK hit.typeIs AD ?_ (Aq _)))
 show wpAny _ _ (field (.ref it) 0 >>= _) _ _ s
 refine wD (yk gi di (x:=.ref tp) rfl ?_)
 show wpAny _ _ (if (Value.ref tp == Value.none)=true then _ else _) _ _ s
 rw [if_neg (show ¬ ((Value.ref tp == Value.none)=true) from xj)]
 show wpAny _ _ (field (.ref it) 1 >>= _) _ _ s
 refine wD (yk gi di (x:=.int k 0) rfl ?_)
 show wpAny _ _ (seqItems? (.ref tp) >>= _) _ _ s
 refine wD (Bq gt dt ?_)
 simp only [xu,hv]
 refine wD (zx (wD (y_ gi di (by simp) ?_)))
 show wpAny _ _ (newExc (.type "StopIteration") [] >>= _) _ _ _
 refine wD ?_
 simp only [newExc,newTuple]
 refine wD (xP ?_ (by size_fits))
 refine wD (m:=firstArgMember _ _) (z5 (a:=Value.none) (by first | rfl | (simp only [firstArgMember];rfl)) (xP ?_ (by size_fits)))
 simp only [raiseNew]
 refine wD (wpAny_handled ?_)
 first | rw [show A.in1.handled=none from hh] | rw [hh]
 exact wD (wI (wpAny_throw (hE _ _ (((yX ..).extBut.push _).push _) ⟨_,wV _ rfl,rfl⟩)))
theorem sS {prog:Program}{w:World}{A:Around}(hh:A.handled=none)(it tp:Addr)(hne:tp≠it)(its:Array Value) :
  Draws prog w A it [it,tp] its.size (fun i x=>its[i]? = some x) (fun i h=>h.IsTupleIter it tp i∧h.IsTuple tp its) where
 live:=fun i h st=>let ⟨⟨o,e,_⟩,_⟩:=st;⟨o,e⟩
 frame:=fun i h h' st kk=>⟨st.1.at fun o e=>kk it (by simp) o e,let ⟨o,e,r⟩:=st.2;⟨o,kk tp (by simp) o e,r⟩⟩
 item:=fun i s Q E hi st hQ=>j3 st.1 st.2 (yw hi) fun h' st' sb=>hQ _ h' s.toks (yw hi) ⟨st',let ⟨o,e,r⟩:=st.2;⟨o,(sb.2 tp hne).trans e,r⟩⟩ sb
 done:=fun s Q E st hE=>ie hh st.1 st.2 (Be (wJ _)) hE
end
end PySem
namespace L2
open PySem PySem.Spec PyProof.Rows Wd
def rD (K:PySem.W.Frag)(a:Addr):It:=⟨fun i H=>∃ xs x,SqL K H a xs∧xs[i]? = some x,
 fun i H v H'=>∃ (T:Addr) (x:V),H T=none∧v = .ref T∧(∀ xs,SqL K H a xs→xs[i]? = some x)∧H'=upd H T (.tup [.int i,x]),fun i H=>∃ xs,SqL K H a xs∧xs.length≤i⟩
def rE (K:PySem.W.Frag)(a:Addr):It:=⟨fun i H=>∃ xs x,SqT K H a xs∧xs[i]? = some x,
 fun i H v H'=>∃ (T:Addr) (x:V),H T=none∧v = .ref T∧(∀ xs,SqT K H a xs→xs[i]? = some x)∧H'=upd H T (.tup [.int i,x]),fun i H=>∃ xs,SqT K H a xs∧xs.length≤i⟩
theorem ig {X:Cx}{pins:List (Addr × Obj)}{σ:St}{H:Hp}{s:Shared}{E:Value→Shared→Prop}{elts:List Expr}{k:Nat}{pos:Pos}{e it:Addr}{fp:List Addr}{n i:Nat}{Pv:Nat→Value→Prop}{St':Nat→Heap→Prop}{old:Value}{tn:Nat→Heap→Prop}{Y:V→Hp→Prop}{x:V}
  (D:Draws X.prog X.w X.A.in1 it fp n Pv St') (I:Inv X pins σ H s) (hf:∀ b∈[e,it],jd X pins H b) (he:IsEnum s.heap e it i old) (hst:St' i s.heap) (hi:i < n) (hne:e≠it) (hef:e∉fp) (hrel:∀ u,Pv i u→bB x u) (hit:∃ o,s.heap.get? it=some o)
  (hY:∀ T,H T=none→Y (.ref T) (upd H T (.tup [.int i,x]))) (htn:∀ h',St' (i+1) h'→(∃ old,IsEnum h' e it ((i:Int)+1) old)→tn (i+1) h') :
  wpAny (model X.prog X.w) X.A (pyNext (.ref e)) (fun r s1=>∃ u,r=some u ∧
   wpAny (model X.prog X.w) X.A (letOwnedTupleGo (.Tuple elts k pos) (.ref e) u) (fun _ s2=>∃ y H',Inv X pins σ H' s2∧bB y u∧Y y H'∧tn (i+1) s2.heap∧∀ b∈[e,it],H' b=none) E s1) E s:=by
 refine wpAny_pyNext_enum_itemD D he hst hi hne hef fun u h' tk hu b1 b2 b3 b4 b5=>⟨_,rfl,wpAny_letOwnedTupleGo_enum b1 fun h2 c1 e2=>?_⟩
 have hTe:s.heap.objs.size≠e:=Nat.ne_of_gt (wZ he)
 have kk:∀ b o,b∉[e,it]→s.heap.get? b=some o→h2.get? b=some o:=fun b o hb q=>by
  simp only [xg,xS,zH,not_or] at hb
  exact e2.extBut _ _ hb.1 (b5 b o hb.1 hb.2 q)
 have there:∀ b∈[e,it],∃ o,s.heap.get? b=some o:=fun b hb=>by
  simp only [xg,xS,zH] at hb
  rcases hb with rfl | rfl
  ·exact ⟨_,he⟩
  ·exact hit
 have I2:Inv X pins σ (upd H s.heap.objs.size (.tup [.int i,x])) { s with heap:=h2,toks:=tk+1 } :=
  I.stepT (ch:=[e,it]) (its:=[.int i tk,u]) hf kk (wJ _) (by show 2≤sizeLine;decide) (.cons ⟨_,rfl⟩ (.cons (hrel u hu) .nil)) ⟨_,e2.extBut _ _ hTe b3,rfl,_,rfl⟩ ⟨_,e2.extBut _ _ hTe b3,rfl⟩ there
 have hn:H s.heap.objs.size=none:=I.hok.fresh (wJ _)
 refine ⟨.ref s.heap.objs.size,_,I2,rfl,hY _ hn,htn h2 (D.frame _ _ _ b2 fun b hb o q=>e2.extBut _ _ (fun z=>hef (z ▸ hb)) q) ⟨_,c1⟩,fun b hb=>?_⟩
 obtain ⟨o,q⟩:=there b hb
 rw [av (xD (wZ q))]
 exact (hf b hb).1
theorem n_ {P:Program}{w:World}{K:PySem.W.Frag}{elts:List Expr}{k:Nat}{pos:Pos}{e it a:Addr}(hne:e≠it) :
  pj P w K (.Tuple elts k pos) (rD K a) [e,it] e (fun i h=>(∃ old,IsEnum h e it i old)∧h.IsListIter it a i) where
 mem:=by simp
 obj:=fun i h st b hb=>by
  obtain ⟨⟨old,s1⟩,⟨o,s2,_,d2⟩⟩:=st
  simp only [xg,xS,zH] at hb
  rcases hb with rfl | rfl
  ·exact ⟨_,s1,fun v q=>by cases q⟩
  ·exact ⟨_,s2,fun v q=>by rw [d2] at q;cases q⟩
 keep:=fun i h h' st kk=>by
  obtain ⟨⟨old,s1⟩,s2⟩:=st
  exact ⟨⟨old,kk e (by simp) _ s1⟩,s2.at fun o q=>kk it (by simp) o q⟩
 item:=by
  intro X hP hw hK hc i pins s σ H E I hf st hg
  subst hP hw hK
  obtain ⟨xs,x,hq,hx⟩:=hg
  obtain ⟨its,rv,p,hz⟩:=I.list hq
  obtain ⟨u,hu,ru⟩:=rv.get hx
  obtain ⟨⟨old,s1⟩,s2⟩:=st
  have hu':its.toArray[i]? = some u:=by simpa using hu
  have ha:a≠e:=fun z=>by obtain ⟨o,q,c,_⟩:=p.isList;rw [z,s1] at q;cases q;simp at c
  have hb:a≠it:=fun z=>by obtain ⟨o,q,c,_⟩:=p.isList;obtain ⟨o2,q2,c2,_⟩:=s2;rw [z,q2] at q;cases q;rw [c2] at c;simp at c
  refine ig (tn:=fun i h=>(∃ old,IsEnum h e it i old)∧h.IsListIter it a i) (Draws.list (by exact I.ok.hd hc) it a hb its.toArray) I hf s1 ⟨s2,p.isList⟩ (yJ.mp hu').1 hne (by simp only [xg,xS,zH,not_or];exact ⟨hne,fun z=>ha z.symm⟩)
   (fun u2 h2=>by rw [show its.toArray[i]? = some u2 from h2] at hu';cases hu';exact ru) (let ⟨o,q,_⟩:=s2;⟨o,q⟩) (fun T hT=>⟨T,x,hT,rfl,fun ys hy=>by rw [I.list_inj hy hq];exact hx,rfl⟩) fun h' st' ho=>⟨by simpa using ho,st'.1⟩
 done:=by
  intro X hP hw hK hc i pins s σ H E I hf st hg
  subst hP hw hK
  obtain ⟨xs,hq,hx⟩:=hg
  obtain ⟨its,rv,p,hz⟩:=I.list hq
  obtain ⟨⟨old,s1⟩,s2⟩:=st
  obtain ⟨f0,f1,f2,f3,f4,f5⟩:=hf it (by simp)
  have hl:=rv.length
  exact wpAny_pyNext_enum_end (I.ok.hd hc) s1 s2 p.isList (by simp;omega) fun h' eb=>⟨rfl,I.turned (t':=s.toks) (fun b o hb q=>eb b o hb q) f0 f1 f3 f4 f5⟩
 self:=fun _ _ _ _ _ st h=>let ⟨⟨_,s1⟩,_⟩:=st;z6 s1 h
theorem oa {P:Program}{w:World}{K:PySem.W.Frag}{elts:List Expr}{k:Nat}{pos:Pos}{e it a:Addr}(hne:e≠it) :
  pj P w K (.Tuple elts k pos) (rE K a) [e,it] e (fun i h=>(∃ old,IsEnum h e it i old)∧h.IsTupleIter it a i) where
 mem:=by simp
 obj:=fun i h st b hb=>by
  obtain ⟨⟨old,s1⟩,⟨o,s2,_,d2⟩⟩:=st
  simp only [xg,xS,zH] at hb
  rcases hb with rfl | rfl
  ·exact ⟨_,s1,fun v q=>by cases q⟩
  ·exact ⟨_,s2,fun v q=>by rw [d2] at q;cases q⟩
 keep:=fun i h h' st kk=>by
  obtain ⟨⟨old,s1⟩,s2⟩:=st
  exact ⟨⟨old,kk e (by simp) _ s1⟩,s2.at fun o q=>kk it (by simp) o q⟩
 item:=by
  intro X hP hw hK hc i pins s σ H E I hf st hg
  subst hP hw hK
  obtain ⟨xs,x,hq,hx⟩:=hg
  obtain ⟨its,rv,p,hz⟩:=I.tuple hq
  obtain ⟨u,hu,ru⟩:=rv.get hx
  obtain ⟨⟨old,s1⟩,s2⟩:=st
  have hu':its.toArray[i]? = some u:=by simpa using hu
  have ha:a≠e:=fun z=>by obtain ⟨o,q,c,_⟩:=p;rw [z,s1] at q;cases q;simp at c
  have hb:a≠it:=fun z=>by obtain ⟨o,q,c,_⟩:=p;obtain ⟨o2,q2,c2,_⟩:=s2;rw [z,q2] at q;cases q;rw [c2] at c;simp at c
  refine ig (tn:=fun i h=>(∃ old,IsEnum h e it i old)∧h.IsTupleIter it a i) (sS (by exact I.ok.hd hc) it a hb its.toArray) I hf s1 ⟨s2,p⟩ (yJ.mp hu').1 hne (by simp only [xg,xS,zH,not_or];exact ⟨hne,fun z=>ha z.symm⟩)
   (fun u2 h2=>by rw [show its.toArray[i]? = some u2 from h2] at hu';cases hu';exact ru) (let ⟨o,q,_⟩:=s2;⟨o,q⟩) (fun T hT=>⟨T,x,hT,rfl,fun ys hy=>by rw [I.tuple_inj hy hq];exact hx,rfl⟩) fun h' st' ho=>⟨by simpa using ho,st'.1⟩
 done:=by
  intro X hP hw hK hc i pins s σ H E I hf st hg
  subst hP hw hK
  obtain ⟨xs,hq,hx⟩:=hg
  obtain ⟨its,rv,p,hz⟩:=I.tuple hq
  obtain ⟨⟨old,s1⟩,s2⟩:=st
  obtain ⟨f0,f1,f2,f3,f4,f5⟩:=hf it (by simp)
  have hl:=rv.length
  have hb:a≠it:=fun z=>by obtain ⟨o,q,c,_⟩:=p;obtain ⟨o2,q2,c2,_⟩:=s2;rw [z,q2] at q;cases q;rw [c2] at c;simp at c
  have T:wpAny (model X.prog X.w) X.A (pyNext (.ref e)) (fun r s1=>r=none∧Inv X pins σ H s1) E s:=by
   have hT:s.TypeIs (.ref e) "enumerate":=⟨_,s1,rfl⟩
   unfold pyNext
   refine wD (zw (xG (name:=Str.ofString "__next__") hT F.slot_enumerate_next (xJ F.slot_enumerate_next hT F.entry_enumerate_next ?_ (F.args_enumerate_next_1 _))))
   show wpAny _ _ (field (.ref e) 2 >>= _) _ _ _
   refine wD (yk s1 rfl (x:=.ref it) rfl (wD (ie (by exact I.ok.hd hc) s2 p (by simp;omega) fun h' ex eb hx'=>?_)))
   obtain ⟨o,ho,hcl⟩:=hx'
   exact wD (Ai (T:="StopIteration") (b:=true) ⟨o,ho,hcl⟩ Bp (wI ⟨rfl,I.turned (t':=s.toks) (fun b o hb q=>eb b o hb q) f0 f1 f3 f4 f5⟩))
  exact T
 self:=fun _ _ _ _ _ st h=>let ⟨⟨_,s1⟩,_⟩:=st;z6 s1 h
section
variable {X:Cx}
def wm (K:PySem.W.Frag)(ta:TA):TI:=fun σ H R=>ta σ H fun vs H1=>∃ a,vs=[.ref a]∧(∃ xs,SqL K H1 a xs)∧R (rD K a) H1
def wo (K:PySem.W.Frag)(ta:TA):TI:=fun σ H R=>ta σ H fun vs H1=>∃ a,vs=[.ref a]∧(∃ xs,SqT K H1 a xs)∧R (rE K a) H1
theorem fp2 {pins:List (Addr × Obj)}{σ:St}{H:Hp}{s:Shared}(I:Inv X pins σ H s):∀ b∈[s.heap.objs.size+1,s.heap.objs.size],jd X pins H b:=fun b hb=>by
 have hge:s.heap.objs.size≤b:=by
  simp only [xg,xS,zH] at hb
  rcases hb with rfl | rfl <;> omega
 exact I.fpOk hge (I.hok.fresh hge)
theorem sT {K:PySem.W.Frag}(hK:X.K=K){a:Expr}{ta:TA}{p pos tp:Pos}{elts:List Expr}{k:Nat}(hg:Gl X "enumerate")(hm:X.mg "enumerate" = none)(hb:bootBuiltins "enumerate" = some (.type "enumerate"))(ha:PA X [a] ta)(hs:starEach [a] X.env=[(false,eval a X.env)]:=by rfl) :
  PI X (.Tuple elts k tp) (.Call (.Name "enumerate" p) [a] [] pos) (wm K ta):=by
 subst hK
 intro pins s σ H R I h
 refine Call_ (eI I hg hm hb (ye (thn (ha pos pins s σ H _ I h) fun us s1 zq1=>?_) hs rfl))
 obtain ⟨vs,H1,I1,r1,q1⟩:=zq1
 obtain ⟨l,rfl,⟨xs,hq⟩,q⟩:=q1
 obtain ⟨u1,rfl,ru⟩:=cI r1
 cases ru
 obtain ⟨its,rv,pl,hz⟩:=I1.list hq
 refine call_enumerate_list pl.isList fun h' b1 b2 b3 b4=>?_
 have I2:Inv X pins σ H1 { s1 with heap:=h',toks:=s1.toks }:=I1.kept b4
 exact z6 (s:={ s1 with heap:=h',toks:=s1.toks }) b1 ⟨s1.heap.objs.size+1,[s1.heap.objs.size+1,s1.heap.objs.size],_,rD X.K l,H1,rfl,I2,n_ (Nat.succ_ne_self _),⟨⟨_,b1⟩,b2⟩,fp2 I1,q⟩
theorem sU {K:PySem.W.Frag}(hK:X.K=K){a:Expr}{ta:TA}{p pos tp:Pos}{elts:List Expr}{k:Nat}(hg:Gl X "enumerate")(hm:X.mg "enumerate" = none)(hb:bootBuiltins "enumerate" = some (.type "enumerate"))(ha:PA X [a] ta)(hs:starEach [a] X.env=[(false,eval a X.env)]:=by rfl) :
  PI X (.Tuple elts k tp) (.Call (.Name "enumerate" p) [a] [] pos) (wo K ta):=by
 subst hK
 intro pins s σ H R I h
 refine Call_ (eI I hg hm hb (ye (thn (ha pos pins s σ H _ I h) fun us s1 zq2=>?_) hs rfl))
 obtain ⟨vs,H1,I1,r1,q1⟩:=zq2
 obtain ⟨l,rfl,⟨xs,hq⟩,q⟩:=q1
 obtain ⟨u1,rfl,ru⟩:=cI r1
 cases ru
 obtain ⟨its,rv,pl,hz⟩:=I1.tuple hq
 refine n9 pl fun h' b1 b2 b4=>?_
 have I2:Inv X pins σ H1 { s1 with heap:=h',toks:=s1.toks }:=I1.kept b4
 exact z6 (s:={ s1 with heap:=h',toks:=s1.toks }) b1 ⟨s1.heap.objs.size+1,[s1.heap.objs.size+1,s1.heap.objs.size],_,rE X.K l,H1,rfl,I2,oa (Nat.succ_ne_self _),⟨⟨_,b1⟩,b2⟩,fp2 I1,q⟩
end
theorem qx {K:PySem.W.Frag}{a:Addr}{xs:List V}{g:TG}{tb:TS}{D:gM}{σ:St}{H:Hp}(Pv:Nat→St→Hp→Prop)(h0:Pv 0 σ H)(hl:∀ i σ H,i≤xs.length→Pv i σ H→SqL K H a xs)
  (hs:∀ i x σ H T,xs[i]? = some x→Pv i σ H→H T=none→g (.ref T) σ (upd H T (.tup [.int i,x])) fun σ2 H2=>tb { D with nx:=Pv (i+1),ct:=Pv (i+1),bk:=D.nx } σ2 H2) (hd:∀ σ H,Pv xs.length σ H→D.nx σ H) :
  ∃ W:Nat→Nat→St→Hp→Prop,(∃ m,W 0 m σ H)∧∀ i m σ H,W i m σ H →
   ((rD K a).stop i H∧D.nx σ H) ∨ ((rD K a).go i H∧∃ N:St→Hp→Prop,(∀ σ' H',N σ' H'→∃ m',m' < m∧W (i+1) m' σ' H')∧∀ x H',(rD K a).yld i H x H'→g x σ H' fun σ2 H2=>tb { D with nx:=N,ct:=N,bk:=D.nx } σ2 H2):=by
 refine ⟨fun i m σ H=>m=xs.length - i∧i≤xs.length∧Pv i σ H,⟨xs.length,by simp,xE _,h0⟩,?_⟩
 rintro i m σ H ⟨rfl,hi,p⟩
 have q:=hl i σ H hi p
 by_cases hlt:i < xs.length
 ·refine .inr ⟨⟨xs,xs[i],q,by simp [hlt]⟩,Pv (i+1),fun σ' H' p'=>⟨xs.length - (i+1),by omega,rfl,hlt,p'⟩,?_⟩
  rintro v H' ⟨T,x,hT,rfl,hx,rfl⟩
  exact hs i x σ _ T (hx xs q) p hT
 ·obtain rfl:i=xs.length:=by omega
  exact .inl ⟨⟨xs,q,wJ _⟩,hd σ H p⟩
theorem qy {K:PySem.W.Frag}{a:Addr}{xs:List V}{g:TG}{tb:TS}{D:gM}{σ:St}{H:Hp}(Pv:Nat→St→Hp→Prop)(h0:Pv 0 σ H)(hl:∀ i σ H,i≤xs.length→Pv i σ H→SqT K H a xs)
  (hs:∀ i x σ H T,xs[i]? = some x→Pv i σ H→H T=none→g (.ref T) σ (upd H T (.tup [.int i,x])) fun σ2 H2=>tb { D with nx:=Pv (i+1),ct:=Pv (i+1),bk:=D.nx } σ2 H2) (hd:∀ σ H,Pv xs.length σ H→D.nx σ H) :
  ∃ W:Nat→Nat→St→Hp→Prop,(∃ m,W 0 m σ H)∧∀ i m σ H,W i m σ H →
   ((rE K a).stop i H∧D.nx σ H) ∨ ((rE K a).go i H∧∃ N:St→Hp→Prop,(∀ σ' H',N σ' H'→∃ m',m' < m∧W (i+1) m' σ' H')∧∀ x H',(rE K a).yld i H x H'→g x σ H' fun σ2 H2=>tb { D with nx:=N,ct:=N,bk:=D.nx } σ2 H2):=by
 refine ⟨fun i m σ H=>m=xs.length - i∧i≤xs.length∧Pv i σ H,⟨xs.length,by simp,xE _,h0⟩,?_⟩
 rintro i m σ H ⟨rfl,hi,p⟩
 have q:=hl i σ H hi p
 by_cases hlt:i < xs.length
 ·refine .inr ⟨⟨xs,xs[i],q,by simp [hlt]⟩,Pv (i+1),fun σ' H' p'=>⟨xs.length - (i+1),by omega,rfl,hlt,p'⟩,?_⟩
  rintro v H' ⟨T,x,hT,rfl,hx,rfl⟩
  exact hs i x σ _ T (hx xs q) p hT
 ·obtain rfl:i=xs.length:=by omega
  exact .inl ⟨⟨xs,q,wJ _⟩,hd σ H p⟩
end L2
namespace PySem
open Sem (wp)
section
variable {prog:Program} {w:World} {A:Around} {E:Value→Shared→Prop} {s:Shared} {z TI TO i1 i2:Addr} {k n1 n2:Nat} {a b:Value} {fp1 fp2:List Addr} {P1 P2:Nat→Value→Prop} {S1 S2:Nat→Heap→Prop}
end
end PySem
namespace PySem
end PySem
namespace L2
open PySem PySem.Spec PyProof.Rows Wd
section
variable {X:Cx}
end
end L2
namespace PySem
end PySem
namespace L2
open PySem PySem.Spec PyProof.Rows Wd
section
variable {X:Cx}
end
end L2
namespace Wd
def img (ws:List (List L))(x:L):List L:=if x.val < 6 then ws.getD x.val [] else bk (ws.getD (x.val - 6) [])
def sub (ws:List (List L))(u:List L):List L:=u.flatMap (img ws)
theorem qz (x:L):(inv x).val=if x.val < 6 then x.val+6 else x.val - 6:=by unfold inv; split <;> rfl
def InM (n:Nat)(u:List L):Prop:=∀ x∈u,x.val % 6 < n
theorem InM.bk {n:Nat}{u:List L}(h:InM n u):InM n (bk u):=by
 intro x hx
 unfold Wd.bk at hx
 rw [zI,xH] at hx
 obtain ⟨y,hy,rfl⟩:=hx
 have h1:=h y hy
 have:=y.isLt
 rw [qz]
 split <;> omega
end Wd
namespace PySem
section
variable {prog:Program} {w:World} {A:Around} {E:Value→Shared→Prop}
theorem jo {it t:Addr}{items:Array Value}(hne:t≠it):∀ (n i:Nat) (s:Shared) (Q:List Value→Shared→Prop),s.heap.IsListIter it t i→s.heap.IsList t items→i+n≤items.size →
  (∀ h',h'.IsListIter it t (i+n)→Heap.SameBut it s.heap h'→Q ((items.toList.drop i).take n) { s with heap:=h' })→wpAny (model prog w) A (draw (.ref it) n) Q E s
 | 0,i,s,Q,hit,_,_,hQ=>by
  show wpAny _ _ (pure []) Q E s
  exact wI (by simpa using hQ s.heap hit (Heap.SameBut.refl ..))
 | n+1,i,s,Q,hit,ht,hle,hQ=>by
  have hlt:i < items.size:=by omega
  show wpAny _ _ (pyNext (.ref it) >>= _) Q E s
  refine wD (wpAny_pyNext_list_item hit ht (x:=items[i]) (by simp [hlt]) fun h₁ hit₁ hs₁=>?_)
  refine wD (x_ (jo hne n (i+1) _ _ hit₁ (ht.extBut hs₁.extBut hne) (by omega) fun h₂ hit₂ hs₂=>wI ?_))
  have hd:items.toList.drop i=items[i]::items.toList.drop (i+1):=by simp [xI,hlt]
  have:=hQ h₂ (by rw [show i+(n+1)=i+1+n by omega];exact hit₂) (hs₁.trans hs₂)
  rw [hd,List.take_succ_cons] at this
  exact this
theorem eX {s:Shared}{t:Addr}{items:Array Value}{Q:List Value→Shared→Prop}(hh:A.handled=none)(ht:s.heap.IsList t items)
  (hQ:∀ h',Heap.ExtBut s.heap.objs.size s.heap h'→Q items.toList { s with heap:=h' }):wpAny (model prog w) A (unpackItems (.ref t) items.size none) Q E s:=by
 have hlt:t≠s.heap.objs.size:=by obtain ⟨o,ho,_⟩:=ht;exact xD (wZ ho)
 unfold unpackItems
 refine wD ?_
 ·unfold notIterableAtAll
  refine wD (yT ht.typeIs F.slot_list_iter.lookup ?_)
  refine wI ?_
  simp only [xk,yo]
  refine wD (x_ (wpAny_pyIter_list ht ?_))
  refine wD (x_ (jo hlt items.size 0 _ _ ⟨_,wV _ rfl,rfl,rfl⟩ (ht.push _) (by omega) fun h₁ hit₁ hs₁=>?_))
  have hall:List.take items.size (List.drop 0 items.toList)=items.toList:=by
   rw [z_];exact xv (by simp)
  rw [hall]
  rw [if_neg (by simp)]
  have ht₁:h₁.IsList t items:=(ht.push _).extBut hs₁.extBut hlt
  refine wD (x_ (wpAny_pyNext_list_end hh hit₁ ht₁ (by simp) fun h₂ he₂=>?_))
  simp only [Option.isSome_none,xk,yo]
  refine wI (hQ h₂ fun b o hb e=>he₂ b o hb (hs₁.extBut b o hb (wK _ e)))
theorem j4 {s:Shared}{t:Addr}{items:Array Value}{targets:List (Bool × (Value→Sem Unit))}{Q:Unit→Shared→Prop}(hh:A.handled=none)(ht:s.heap.IsList t items)
  (hn:targets.length=items.size) (hstar:targets.findIdx? (·.1)=none)
  (h:∀ h',Heap.ExtBut s.heap.objs.size s.heap h'→wpAny (model prog w) A (assignInOrder (targets.map (·.2)) items.toList) Q E { s with heap:=h' }) :
  wpAny (model prog w) A (unpack (.ref t) targets) Q E s:=by
 unfold unpack
 rw [hn,hstar]
 exact wD (x_ (eX hh ht h))
end
end PySem
namespace L2
open PySem PySem.Spec PyProof.Rows Wd
section
variable {X:Cx} {pos:Pos}
theorem d9 {prog:Program}{w:World}{A:Around}{E:Value→Shared→Prop}{s:Shared}{env:Env}{elts:List Expr}{x1}{pos:Pos}{t:Addr}{items:Array Value}{Q:Unit→Shared→Prop}(hh:A.handled=none)(ht:s.heap.IsList t items)
  (hn:(assignEach elts env).length=items.size) (hstar:(assignEach elts env).findIdx? (·.1)=none)
  (h:∀ h',Heap.ExtBut s.heap.objs.size s.heap h'→wpAny (model prog w) A (assignInOrder ((assignEach elts env).map (·.2)) items.toList) Q E { s with heap:=h' }) :
  wpAny (model prog w) A (assign (.Tuple elts x1 pos) env (.ref t)) Q E s:=by
 rw [arm_assign_Tuple]
 exact wD (A2 (j4 hh ht hn hstar h))
def vc (K:PySem.W.Frag)(n:Nat)(t:TGs):TG:=fun v σ H Q=>∃ a xs,v = .ref a∧SqL K H a xs∧xs.length=n∧t xs σ H Q
theorem sV {es:List Expr}{k:Nat}{t:TGs}{n:Nat}(hc:X.calm=true)(h:PGs X es t)
  (hn:(assignEach es X.env).length=n:=by rfl) (hst:(assignEach es X.env).findIdx? (·.1)=none:=by rfl):PG X (.Tuple es k pos) (vc X.K n t):=by
 intro pins s σ H v u Q I r hw
 obtain ⟨a,xs,e1,hq,hl,hw⟩:=hw
 subst e1
 cases r
 obtain ⟨its,rv,ht,hz⟩:=I.list hq
 refine d9 (I.ok.hd hc) ht.isList (by simp [hn,← hl,rv.length]) hst fun h' hx=>?_
 have I1:Inv X pins σ H { s with heap:=h' }:=I.kept (t':=s.toks) fun b o e=>hx b o (xD (wZ e)) e
 exact h pins _ σ H xs _ Q I1 (by simpa using rv) hw
end
section
variable {X:Cx}
theorem jq {K:PySem.W.Frag}(hK:X.K=K):IxR X (uQ K):=by subst hK; exact aU
theorem cC {K:PySem.W.Frag}(hK:X.K=K):IxR X (uR K):=by subst hK; exact bJ
inductive jr (x:V)(vs:List V)(H:Hp)(Q:VK):Prop
 | mk:∀ z,(x = .str z)→(vs=[])→(Q (.bl (Txt.islower z)) H)→jr x vs H Q
theorem j5:MtR X "str.islower" jr:=by
 intro pins s σ H x vs v us Q I rx rv h
 obtain ⟨z,rfl,rfl,q⟩:=h
 obtain ⟨t,rfl⟩:=rx
 cases rv
 exact SC.islower ⟨.bl _,H,I,rfl,q⟩
end
theorem lI:∀ x:L,Txt.islower (toS [x])=decide (x.val < 6):=by decide +kernel
theorem sW:∀ i:_root_.Fin 6,("abcdef":Str).cps[i.val]? = some (cp ⟨i.val,by omega⟩):=by decide +kernel
theorem sm_at {i c:Nat}(h:("abcdef":Str).cps[i]? = some c):∃ x:L,x.val=i∧i < 6∧c=cp x:=by
 have hl:i < 6:=by
  obtain ⟨h1,_⟩:=yJ.mp h
  have:("abcdef":Str).cps.size=6:=by decide +kernel
  omega
 have:=sW ⟨i,hl⟩
 rw [this] at h
 exact ⟨⟨i,by omega⟩,rfl,hl,(wO h).symm⟩
end L2
namespace Kx
open PySem PySem.Spec PyProof.Rows L2 Wd
end Kx
namespace Wd
end Wd
namespace L2
open PySem PySem.Spec PyProof.Rows Wd
section
variable {X:Cx}
inductive sX (x:V)(y:V)(H:Hp)(Q:VK):Prop
 | mk:∀ da db,(Dt H x da)→(Dt H y db)→(da.canLay0=true)→(db.canLay0=true)→(da.depth≤10)→(Q (.bl (PyData.eqv da db)) H)→sX x y H Q
theorem ij (hu:X.A.units+64 < cLine):OpR X (compareOp .Eq) sX:=by
 intro pins s σ H x y v u Q I rx ry h
 obtain ⟨da,db,ha,hb,la,lb,dp,q⟩:=h
 obtain ⟨as,ra⟩:=ha.reads I.hok rx
 obtain ⟨bs,rb⟩:=hb.reads I.hok ry
 exact SeqAt.rcAt_reads ra rb la lb (by omega) _ _ _ _ ⟨.bl _,H,I,rfl,q⟩
end
end L2
namespace Kx
open PySem PySem.Spec PyProof.Rows L2 Wd
end Kx
namespace L2
open PySem PySem.Spec PyProof.Rows Wd
section
variable {X:Cx}
end
end L2
namespace L2
open PySem PySem.Spec PyProof.Rows
section
variable {X:Cx}
theorem fK {i j:Int}{its:List Value}(r:aZ [.int i,.int j] its):∃ t u,its=[.int i t,.int j u]:=by
 obtain ⟨u1,u2,rfl,⟨t1,rfl⟩,⟨t2,rfl⟩⟩:=nz r
 exact ⟨t1,t2,rfl⟩
def nAt (i j:Int)(k:Nat):Int:=if k=0 then i else j
inductive de (K:PySem.W.Frag)(xs:List V)(H:Hp)(Q:VK):Prop
 | mk:∀ p i j,(xs=[.ref p])→(SqT K H p [.int i,.int j])→(Q (.int (if j < i then j else i)) H)→de K xs H Q
theorem iV (hc:X.calm=true):cP X (.builtin "min") (de X.K):=by
 intro pins s σ H xs us Q I r h
 obtain ⟨p,i,j,rfl,hq,q⟩:=h
 obtain ⟨u,rfl,ru⟩:=cI r
 cases ru
 obtain ⟨its,rv,ht,_⟩:=I.tuple hq
 obtain ⟨t,u,rfl⟩:=fK rv
 have hlt:p < s.heap.objs.size:=by obtain ⟨_,e,_⟩:=ht;exact wZ e
 refine call_min_walk (yM ht ?_)
 refine ⟨_,_,_,_,_,_,fun a b=>decide (nAt i j a < nAt i j b),rfl,Walks.tuple (A:=X.A.in1) (I.ok.hd hc) _ p (xD hlt) _,⟨⟨_,wV _ rfl,rfl,rfl⟩,ht.push _⟩,fun b hb=>?_,?_,?_,fun v h' tk hP hk=>?_⟩
 ·show b < (s.heap.push _).objs.size
  rw [z9]
  rcases xg.mp hb with e | hb
  ·rw [e];exact Ah _
  ·rw [wH.mp hb];exact Nat.lt_succ_of_lt hlt
 ·exact Nat.zero_lt_succ 1
 ·refine CmpOf.ints_lt (nAt i j) fun a v hv=>?_
  match a,hv with
  | 0,hv=>exact ⟨t,(wO hv).symm⟩
  | 1,hv=>exact ⟨u,(wO hv).symm⟩
  | (a+2),hv=>simp at hv
 ·have old:∀ b o,s.heap.get? b=some o→h'.get? b=some o:=fun b o e=>hk b o (fun z=>by rw [wH.mp z] at e;exact absurd (wZ e) (xT _)) (wK _ e)
  have hP:[Value.int i t,Value.int j u].toArray[if decide (j < i)=true then 1 else 0]? = some v:=hP
  by_cases h:j < i
  ·rw [if_pos (xC h)] at hP
   rw [if_pos h] at q
   exact ⟨.int j,H,I.kept old,⟨u,(wO hP).symm⟩,q⟩
  ·rw [w6 h] at hP
   rw [if_neg h] at q
   exact ⟨.int i,H,I.kept old,⟨t,(wO hP).symm⟩,q⟩
inductive df (K:PySem.W.Frag)(xs:List V)(H:Hp)(Q:VK):Prop
 | mk:∀ p i j,(xs=[.ref p])→(SqT K H p [.int i,.int j])→(Q (.int (if j > i then j else i)) H)→df K xs H Q
theorem iW (hc:X.calm=true):cP X (.builtin "max") (df X.K):=by
 intro pins s σ H xs us Q I r h
 obtain ⟨p,i,j,rfl,hq,q⟩:=h
 obtain ⟨u,rfl,ru⟩:=cI r
 cases ru
 obtain ⟨its,rv,ht,_⟩:=I.tuple hq
 obtain ⟨t,u,rfl⟩:=fK rv
 have hlt:p < s.heap.objs.size:=by obtain ⟨_,e,_⟩:=ht;exact wZ e
 refine call_max_walk (yM ht ?_)
 refine ⟨_,_,_,_,_,_,fun a b=>decide (nAt i j a > nAt i j b),rfl,Walks.tuple (A:=X.A.in1) (I.ok.hd hc) _ p (xD hlt) _,⟨⟨_,wV _ rfl,rfl,rfl⟩,ht.push _⟩,fun b hb=>?_,?_,?_,fun v h' tk hP hk=>?_⟩
 ·show b < (s.heap.push _).objs.size
  rw [z9]
  rcases xg.mp hb with e | hb
  ·rw [e];exact Ah _
  ·rw [wH.mp hb];exact Nat.lt_succ_of_lt hlt
 ·exact Nat.zero_lt_succ 1
 ·refine CmpOf.ints_gt (nAt i j) fun a v hv=>?_
  match a,hv with
  | 0,hv=>exact ⟨t,(wO hv).symm⟩
  | 1,hv=>exact ⟨u,(wO hv).symm⟩
  | (a+2),hv=>simp at hv
 ·have old:∀ b o,s.heap.get? b=some o→h'.get? b=some o:=fun b o e=>hk b o (fun z=>by rw [wH.mp z] at e;exact absurd (wZ e) (xT _)) (wK _ e)
  have hP:[Value.int i t,Value.int j u].toArray[if decide (j > i)=true then 1 else 0]? = some v:=hP
  by_cases h:j > i
  ·rw [if_pos (xC h)] at hP
   rw [if_pos h] at q
   exact ⟨.int j,H,I.kept old,⟨u,(wO hP).symm⟩,q⟩
  ·rw [w6 h] at hP
   rw [if_neg h] at q
   exact ⟨.int i,H,I.kept old,⟨t,(wO hP).symm⟩,q⟩
end
section
variable {prog:Program} {w:World} {A:Around} {E:Value→Shared→Prop} {s:Shared}
end
section
variable {X:Cx}
def wq (ta tb:TE):TE:=fun σ H Q=>ta σ H fun x H1=>∃ z,x = .str z∧z.length≤sizeLine∧(if ((z.length:Int) != 0)=true then Q (.str z) H1 else tb σ H1 Q)
theorem sY {a b:Expr}{rest:List Expr}{ta tb:TE}{pos:Pos}(ha:PE X a ta)(hb:PE X (.BoolOp .Or (b::rest) pos) tb):PE X (.BoolOp .Or (a::b::rest) pos) (wq ta tb):=by
 intro pins s σ H Q I h
 refine BoolOp_or (thn (ha pins s σ H _ I h) fun v s1 zq1=>?_)
 obtain ⟨x,H1,I1,r1,z,ez,hz,q1⟩:=zq1
 subst ez
 refine thn (kz pins s1 σ H1 (.str z) v (fun c H'=>if c=true then Q (.str z) H' else tb σ H' Q) I1 r1 ⟨_,⟨hz,rfl⟩,q1⟩) fun c s2 zq2=>?_
 obtain ⟨H2,I2,q2⟩:=zq2
 cases c with
 | false=>exact hb pins s2 σ H2 Q I2 (by simpa using q2)
 | true=>exact ⟨.str z,H2,I2,r1,by simpa using q2⟩
end
end L2
namespace L2
open PySem PySem.Spec PyProof.Rows Wd
section
variable {X:Cx}
end
end L2
namespace Kx
open PySem PySem.Spec PyProof.Rows L2 Wd
def Gd (c:Nat):Prop:=(48≤c∧c≤57) ∨ 65≤c
end Kx
namespace L2
open PySem PySem.Spec PyProof.Rows Wd
section
variable {X:Cx} {tg:Expr}
end
end L2
namespace Kx
open PySem PySem.Spec PyProof.Rows L2 Wd
def dV:V→PyData
 | .int i=>.int i
 | .str z=>.str z
 | _=>.none
end Kx
namespace Wd
structure SK (u:List L) (k:Nat):Prop where
 pm:u.Perm (fam k)
 lo:1≤k
 hi:k≤6
theorem qA {k:Nat}(h:k≤6):(fam k).length=2*k:=(ib ⟨k,by omega⟩).2.2
theorem SK.len {u:List L}{k:Nat}(h:SK u k):u.length=2*k:=by rw [h.pm.length_eq,qA h.hi]
theorem qB:∀ (k:Fin 7) (x:L),x∈fam k.val ↔ x.val % 6 < k.val:=by decide
theorem SK.mem {u:List L}{k:Nat}(h:SK u k)(x:L):x∈u ↔ x.val % 6 < k:=by
 rw [h.pm.mem_iff]
 exact qB ⟨k,by have:=h.hi;omega⟩ x
theorem lJ:∀ x:L,(inv x).val % 6=x.val % 6:=by decide
def rfI (u:List L)(a b:L):Int:=((u.idxOf b:Int) - (u.idxOf a:Int)) % (u.length:Int)
def ic (u:List L)(x z:L):Int:=if rfI u x z < rfI u x (inv x) then 1 else 0
def sd (u:List L)(x y:L):Int:=ic u x y - ic u x (inv y)
def lt6 (j:Nat):L:=if h:j < 12 then ⟨j,h⟩ else 0
end Wd
namespace L2
open PySem PySem.Spec PyProof.Rows
section
variable {X:Cx}
end
end L2
namespace Kx
open PySem PySem.Spec PyProof.Rows L2 Wd
def wC (k:Nat):List L:=(List.range k).map lt6++bk ((List.range k).map lt6)
end Kx
namespace L2
open PySem PySem.Spec PyProof.Rows
section
variable {prog:Program} {w:World} {A:Around} {E:Value→Shared→Prop} {s:Shared}
end
section
variable {X:Cx}
end
end L2
namespace HT
open PySem PySem.Spec PyProof.Rows
section
variable {prog:Program} {w:World} {A:Around} {E:Value→Shared→Prop} {s:Shared}
theorem lK {t sl:Addr}{its:Array Value}{vl vu:Value}{lo hi:Option Int}{Q:Value→Shared→Prop}(ht:IsTup s.heap t its)(hs:s.heap.IsSliceOf sl vl vu .none)(pl:IsPart vl lo)(pu:IsPart vu hi)
  (hw:sIx its.size 0 lo=0∧sIx its.size its.size hi=its.size) (h:Q (.ref t) s):wpAny (model prog w) A (getItem (.ref t) (.ref sl)) Q E s:=by
 obtain ⟨os,hos,hcs,hds⟩:=id hs
 have hTs:s.TypeIs (.ref sl) "slice":=⟨os,hos,hcs⟩
 unfold getItem
 try with_reducible refine x_ ?_
 first | refine wD (wI ?_) | skip
 refine wD (AR ht.typeIs (by decide) ?_)
 refine wD (xG (name:=Str.ofString "__getitem__") ht.typeIs xY (xJ xY ht.typeIs Ax ?_ (AI _ _)))
 show wpAny _ _ (Builtin.Tuple.tupleItemsOf (.ref t) >>= _) _ _ s
 refine wD (tupleItemsOf_ ht (wD (AJ hTs ?_)))
 rw [if_pos (by decide)]
 refine wD (cm hs pl pu ?_)
 show wpAny _ _ (if (((sIx its.size 0 lo:Nat):Int) == 0 && (1:Int) == 1 && (sIx its.size its.size hi - sIx its.size 0 lo) == its.size)=true then _ else _) _ _ s
 rw [if_pos (by rw [hw.1,hw.2];simp)]
 refine wD ?_
 unfold Builtin.Tuple.tupleIsExact
 refine wD (AJ ht.typeIs (wI ?_))
 rw [if_pos (by decide)]
 refine wD (zx ?_)
 first
  | exact wI ⟨_,rfl,wI h⟩
  | exact wD (wI (wI ⟨_,rfl,wI h⟩))
end
end HT
namespace L2
open PySem PySem.Spec PyProof.Rows Wd
inductive sZ (K:PySem.W.Frag)(x:V)(lo:Option Int)(hi:Option Int)(H:Hp)(Q:VK):Prop
 | mk:∀ a xs,(x = .ref a)→(SqT K H a xs)→((gN xs lo hi=xs→Q (.ref a) H))→(∀ p,H p=none→Q (.ref p) (upd H p (.tup (gN xs lo hi))))→sZ K x lo hi H Q
theorem qC {X:Cx}:SlR X (sZ X.K):=by
 intro pins s σ H x v vl vu lo hi sl Q I rx hs pl pu h
 obtain ⟨a,xs,rfl,hx,hw,q⟩:=h
 by_cases hh:HT.sIx xs.length 0 lo=0∧HT.sIx xs.length xs.length hi=xs.length
 ·cases rx
  obtain ⟨its,r,ht,hz⟩:=I.tuple hx
  have hlen:its.toArray.size=xs.length:=by rw [wX];exact r.length.symm
  have e:gN xs lo hi=xs:=by unfold gN;rw [hh.1,hh.2,z_,Bz,xQ]
  exact ⟨"tuple",_,xY.lookup,ht.typeIs,HT.lK ht hs pl pu (by rw [hlen];exact hh) ⟨.ref a,H,I,rfl,hw e⟩⟩
 ·exact si pins s σ H (.ref a) v vl vu lo hi sl Q I rx hs pl pu ⟨a,xs,rfl,hx,hh,q⟩
section
variable {X:Cx}
end
inductive vK (x:V)(lo:Option Int)(hi:Option Int)(H:Hp)(Q:VK):Prop
 | mk:∀ a xs,(x = .ref a)→(H a=some (.tup xs))→(∀ p H',aA H H'→H' p=some (.tup (gN xs lo hi))→Q (.ref p) H')→vK x lo hi H Q
theorem lL {X:Cx}:SlR X vK:=by
 intro pins s σ H x v vl vu lo hi sl Q I rx hs pl pu h
 obtain ⟨a,xs,rfl,hx,q⟩:=h
 exact qC pins s σ H _ v vl vu lo hi sl Q I rx hs pl pu ⟨a,xs,rfl,SqT.of hx,fun e=>q a H (aA.refl _) (by rw [e];exact hx),fun p hp=>q p _ (aA.new hp) ab⟩
theorem s_ {d:PyData}(h:d.leavesShort 40=true)(hw:d.weight≤2 ^ 18):d.shown.length≤sizeLine:=by
 have:=PyData.shown_le 40 (by decide) d h
 have e:sizeLine=16777216:=A3
 rw [e]
 omega
end L2
namespace Kx
open PySem PySem.Spec PyProof.Rows L2 Wd
end Kx
namespace L2
open PySem PySem.Spec PyProof.Rows Wd
section
variable {X:Cx}
end
end L2
namespace Wd
def nm (N:List L)(x:L):L:=if x.val < 6 then N.getD x.val 0 else inv (N.getD (x.val - 6) 0)
end Wd
namespace L2
open PySem PySem.Spec PyProof.Rows Wd
section
variable {X:Cx}
end
end L2
namespace Kx
open PySem PySem.Spec PyProof.Rows L2 Wd
end Kx
namespace PySem
open Sem (wp)
section
variable {prog:Program} {w:World} {A:Around} {E:Value→Shared→Prop} {s:Shared}
section
variable {R:Result→Shared→Prop} {I:Addr} {fp wr:List Addr} {G:Array GenState→Array GenState→Prop} {n:Nat} {P:Nat→Value→Prop} {St:Nat→Shared→Prop}
end
end
end PySem
namespace Ts
open PySem PyProof.Rows
theorem aC {σ:Type}{M:Model}{A:Around}{E:Value→Shared→Prop}{s:Shared}{α:Type}{c:Prop}[Decidable c]{x y:StateT σ Sem α}{Q:α→σ→Prop}{st:σ}(h:c)(p:wpS M A E s x Q st):wpS M A E s (if c then x else y) Q st:=by
 rw [if_pos h];exact p
theorem aD {σ:Type}{M:Model}{A:Around}{E:Value→Shared→Prop}{s:Shared}{α:Type}{c:Prop}[Decidable c]{x y:StateT σ Sem α}{Q:α→σ→Prop}{st:σ}(h:¬ c)(p:wpS M A E s y Q st):wpS M A E s (if c then x else y) Q st:=by
 rw [if_neg h];exact p
def kof (κ:KeyKind)(p:Keyed):κ.α:=(κ.keyOf p.1).getD κ.dflt
def Gd (κ:KeyKind)(p:Keyed):Prop:=∃ a,κ.keyOf p.1=some a
theorem Gd.eq {κ:KeyKind}{p:Keyed}(h:Gd κ p):κ.keyOf p.1=some (kof κ p):=by
 obtain ⟨a,e⟩:=h
 unfold kof
 rw [e]
 rfl
structure TB (st:SortSt):Prop where
 kind:kindOf st=oneType'
 failed:failedOf st=none
def gal:Bool→Keyed→Array Keyed→Nat→Nat→Nat→StateT SortSt Sem (Option Nat):=sortPriv% PySem.Builtin.gallop
def gbd (lf:Bool)(key:Keyed)(arr:Array Keyed)(b i:Nat):StateT SortSt Sem (Option Bool):=do
 let it ← elem' arr (b+i)
 if lf then lt' it key else return (← lt' key it).map (!·)
def uy (lf:Bool)(key:Keyed)(arr:Array Keyed)(b n d0 u0:Nat):StateT SortSt Sem (Option Nat):=do
 let mut dn:=d0
 let mut up:=u0
 for _ in [0:n] do
  if dn≥up then break
  let md:=dn+(up - dn) / 2
  let some mr ← gbd lf key arr b md | return none
  if mr then dn:=md+1 else up:=md
 return some up
theorem tf (lf:Bool)(key:Keyed)(arr:Array Keyed)(b n h:Nat):gal lf key arr b n h=(do
 let mut la:=0
 let mut of:=1
 let some rt ← gbd lf key arr b h | return none
 if rt then
  for _ in [0:n] do
   if of≥n - h then break
   let some mr ← gbd lf key arr b (h+of) | return none
   if !mr then break
   la:=of
   of:=2*of+1
  uy lf key arr b n (h+la+1) (h+min of (n - h))
 else
  for _ in [0:n] do
   if of≥h+1 then break
   let some fd ← gbd lf key arr b (h - of) | return none
   if fd then break
   la:=of
   of:=2*of+1
  uy lf key arr b n (h+1 - min of (h+1)) (h - la)):=rfl
section
variable {prog:Program} {w:World} {A:Around} {E:Value→Shared→Prop} {s:Shared} {κ:KeyKind}
theorem js {st:SortSt}{x y:Keyed}{Q:Option Bool→SortSt→Prop}(hO:κ.OneLt)(hB:TB st)(hx:Gd κ x)(hy:Gd κ y)(h:Q (some (κ.blt (kof κ x) (kof κ y))) st):wpS (model prog w) A E s (lt' x y) Q st:=by
 rw [lt'_eq]
 refine wW (AO ?_)
 rw [hB.kind,keyLt'_oneType]
 refine wW (Bn (zw (hO prog w A _ s x.1 y.1 _ _ hx.eq hy.eq ⟨rfl,?_⟩)))
 exact w5 h
def bdB (κ:KeyKind)(lf:Bool)(key:κ.α)(x:κ.α):Bool:=if lf then κ.blt x key else !κ.blt key x
theorem qD {st:SortSt}{lf:Bool}{key p:Keyed}{arr:Array Keyed}{b i:Nat}{Q:Option Bool→SortSt→Prop}(hO:κ.OneLt)(hB:TB st)(hk:Gd κ key)(e:arr[b+i]? = some p)(hp:Gd κ p)
  (h:Q (some (bdB κ lf (kof κ key) (kof κ p))) st):wpS (model prog w) A E s (gbd lf key arr b i) Q st:=by
 unfold gbd
 rw [elem'_eq,e]
 refine wW (w5 ?_)
 unfold bdB at h
 cases lf with
 | true=>exact js hO hB hp hk h
 | false=>exact wW (js hO hB hk hp (w5 h))
theorem iX {st:SortSt}{lf:Bool}{key:Keyed}{arr:Array Keyed}{b n h:Nat}{Q:Option Nat→SortSt→Prop}(hO:κ.OneLt)(hB:TB st)(hk:Gd κ key)(B:Nat→Bool)(hh:h < n)
  (at_:∀ i,i < n→∃ p,arr[b+i]? = some p∧Gd κ p∧bdB κ lf (kof κ key) (kof κ p)=B i) (mono:∀ i j,i≤j→j < n→B j=true→B i=true)
  (hq:∀ k,k≤n→(∀ i,i < k→B i=true)→(∀ i,k≤i→i < n→B i=false)→Q (some k) st):wpS (model prog w) A E s (gal lf key arr b n h) Q st:=by
 have ask:∀ {i:Nat} {R:Option Bool→SortSt→Prop},i < n→R (some (B i)) st→wpS (model prog w) A E s (gbd lf key arr b i) R st:=fun {i R} hi r=>by
  obtain ⟨p,e,g,eb⟩:=at_ i hi
  exact qD hO hB hk e g (by rw [eb];exact r)
 have no:∀ i j,i≤j→j < n→B i=false→B j=false:=fun i j hij hj e=>by
  cases ej:B j with
  | false=>rfl
  | true=>rw [mono i j hij hj ej] at e;cases e
 -- the last part
 have fin:∀ dn up,dn≤up→up≤n→(∀ i,i < dn→B i=true)→(∀ i,up≤i→i < n→B i=false)→wpS (model prog w) A E s (uy lf key arr b n dn up) Q st:=by
  intro dn up h1 h2 h3 h4
  unfold uy
  refine wW (yG (x5 (I:=fun x c st'=>st'=st∧∃ dn up,c=(none,dn,up)∧dn≤up∧up≤n∧up - dn≤n - x∧(∀ i,i < dn→B i=true)∧(∀ i,up≤i→i < n→B i=false))
   (Q:=fun c st'=>st'=st∧∃ k,c=(none,k,k)∧k≤n∧(∀ i,i < k→B i=true)∧(∀ i,k≤i→i < n→B i=false)) ?step ?fin ⟨rfl,dn,up,rfl,h1,h2,by omega,h3,h4⟩) ?post)
  case post =>
   rintro c st' ⟨rfl,k,rfl,a1,a2,a3⟩
   exact w5 (hq k a1 a2 a3)
  case fin =>
   rintro c st' ⟨rfl,dn,up,rfl,a1,a2,a3,a4,a5⟩
   have:dn=up:=by omega
   subst this
   exact ⟨rfl,dn,rfl,a2,a4,a5⟩
  case step =>
   rintro x c st' _ hx ⟨rfl,dn,up,rfl,a1,a2,a3,a4,a5⟩
   dsimp only
   by_cases hd:dn≥up
   ·refine aC hd ?_
    have:dn=up:=by omega
    subst this
    exact w5 ⟨rfl,dn,rfl,a2,a4,a5⟩
   ·refine aD hd ?_
    refine wW (ask (by omega) ?_)
    cases eb:B (dn+(up - dn) / 2) with
    | true =>
     simp only [yW]
     exact w5 ⟨rfl,dn+(up - dn) / 2+1,up,rfl,by omega,a2,by omega,fun i hi=>mono i _ (by omega) (by omega) eb,a5⟩
    | false =>
     simp only [xk,yo]
     exact w5 ⟨rfl,dn,dn+(up - dn) / 2,rfl,by omega,by omega,by omega,a4,fun i hi1 hi2=>no _ i (by omega) hi2 eb⟩
 rw [tf]
 refine wW (ask hh ?_)
 cases eh:B h with
 | true =>
  dsimp only
  refine aC rfl ?_
  refine wW (yG (x5 (I:=fun x c st'=>st'=st∧∃ la of,c=(none,la,of)∧la < of∧x+1≤of∧h+la < n∧B (h+la)=true)
   (Q:=fun c st'=>st'=st∧∃ la of,c=(none,la,of)∧la < of∧h+la < n∧B (h+la)=true∧(of≥n - h ∨ (h+of < n∧B (h+of)=false))) ?step ?fin ⟨rfl,0,1,rfl,by omega,by omega,by omega,eh⟩) ?post)
  case post =>
   rintro c st' ⟨rfl,la,of,rfl,a1,a2,a3,a4⟩
   dsimp only
   refine fin (h+la+1) (h+min of (n - h)) (by omega) (by omega) (fun i hi=>mono i _ (by omega) a2 a3) fun i hi1 hi2=>?_
   rcases a4 with a4 | ⟨a4,a5⟩
   ·omega
   ·exact no _ i (by omega) hi2 a5
  case fin =>
   rintro c st' ⟨rfl,la,of,rfl,a1,a2,a3,a4⟩
   exact ⟨rfl,la,of,rfl,a1,a3,a4,.inl (by omega)⟩
  case step =>
   rintro x c st' _ hx ⟨rfl,la,of,rfl,a1,a2,a3,a4⟩
   dsimp only
   by_cases ho:of≥n - h
   ·refine aC ho ?_
    exact w5 ⟨rfl,la,of,rfl,a1,a3,a4,.inl ho⟩
   ·refine aD ho ?_
    refine wW (ask (by omega) ?_)
    cases eb:B (h+of) with
    | true =>
     simp only [zy,xk,yo]
     exact w5 ⟨rfl,of,2*of+1,rfl,by omega,by omega,by omega,eb⟩
    | false =>
     simp only [Bool.not_false,yW]
     exact w5 ⟨rfl,la,of,rfl,a1,a3,a4,.inr ⟨by omega,eb⟩⟩
 | false =>
  dsimp only
  refine aD xj ?_
  refine wW (yG (x5 (I:=fun x c st'=>st'=st∧∃ la of,c=(none,la,of)∧la < of∧x+1≤of∧la≤h∧B (h - la)=false)
   (Q:=fun c st'=>st'=st∧∃ la of,c=(none,la,of)∧la < of∧la≤h∧B (h - la)=false∧(of≥h+1 ∨ (of≤h∧B (h - of)=true))) ?step ?fin ⟨rfl,0,1,rfl,by omega,by omega,by omega,eh⟩) ?post)
  case post =>
   rintro c st' ⟨rfl,la,of,rfl,a1,a2,a3,a4⟩
   dsimp only
   refine fin (h+1 - min of (h+1)) (h - la) (by omega) (by omega) (fun i hi=>?_) fun i hi1 hi2=>no _ i hi1 hi2 a3
   rcases a4 with a4 | ⟨a4,a5⟩
   ·omega
   ·exact mono i _ (by omega) (by omega) a5
  case fin =>
   rintro c st' ⟨rfl,la,of,rfl,a1,a2,a3,a4⟩
   exact ⟨rfl,la,of,rfl,a1,a3,a4,.inl (by omega)⟩
  case step =>
   rintro x c st' _ hx ⟨rfl,la,of,rfl,a1,a2,a3,a4⟩
   dsimp only
   by_cases ho:of≥h+1
   ·refine aC ho ?_
    exact w5 ⟨rfl,la,of,rfl,a1,a3,a4,.inl ho⟩
   ·refine aD ho ?_
    refine wW (ask (by omega) ?_)
    cases eb:B (h - of) with
    | false =>
     simp only [xk,yo]
     exact w5 ⟨rfl,of,2*of+1,rfl,by omega,by omega,by omega,eb⟩
    | true =>
     simp only [yW]
     exact w5 ⟨rfl,la,of,rfl,a1,a3,a4,.inr ⟨by omega,eb⟩⟩
end
def mlo:Array Keyed→Array Keyed→StateT SortSt Sem (Array Keyed):=sortPriv% PySem.Builtin.mergeLo
def smg:Nat→StateT SortSt Sem Unit:=sortPriv% PySem.Builtin.setMinGallop
abbrev mDn (a b o:Array Keyed)(i j:Nat):Array Keyed:=o++a.extract i a.size++b.extract j b.size
abbrev mLa (a b o:Array Keyed)(i j:Nat):Array Keyed:=o++b.extract j b.size++a.extract i a.size
theorem tj (a b:Array Keyed):mlo a b=(do
 rule "list.sort.merge-lo"
 let mut o:Array Keyed:=#[← elem' b 0]
 let mut i:=0
 let mut j:=1
 if j == b.size then return mDn a b o i j
 if i+1 == a.size then return mLa a b o i j
 let mut g:=gallopOf (← get)
 for _ in [0:a.size+b.size] do
  let mut p:=0
  let mut q:=0
  for _ in [0:a.size+b.size] do
   let some w ← lt' (← elem' b j) (← elem' a i) | return mDn a b o i j
   if w then
    o:=o.push (← elem' b j)
    j:=j+1
    q:=q+1
    p:=0
    if j == b.size then return mDn a b o i j
    if q≥g then break
   else
    o:=o.push (← elem' a i)
    i:=i+1
    p:=p+1
    q:=0
    if i+1 == a.size then return mLa a b o i j
    if p≥g then break
  rule "list.sort.gallop"
  g:=g+1
  for _ in [0:a.size+b.size] do
   if g > 1 then g:=g - 1
   smg g
   let some k ← gal false (← elem' b j) a i (a.size - i) 0 | return mDn a b o i j
   p:=k
   if k > 0 then
    o:=o++a.extract i (i+k)
    i:=i+k
    if i+1 == a.size then return mLa a b o i j
    if i == a.size then return mDn a b o i j
   o:=o.push (← elem' b j)
   j:=j+1
   if j == b.size then return mDn a b o i j
   let some k ← gal true (← elem' a i) b j (b.size - j) 0 | return mDn a b o i j
   q:=k
   if k > 0 then
    o:=o++b.extract j (j+k)
    j:=j+k
    if j == b.size then return mDn a b o i j
   o:=o.push (← elem' a i)
   i:=i+1
   if i+1 == a.size then return mLa a b o i j
   if p < 7 && q < 7 then break
  g:=g+1
  smg g
 unsupported "internal:list.sort.merge-bound"):=rfl
end Ts
namespace Ts
open PySem PyProof.Rows
variable {κ:KeyKind}
def lek (κ:KeyKind)(x y:Keyed):Prop:=κ.kle (kof κ x) (kof κ y)
theorem dg {x y z:Keyed}(h:lek κ x y)(g:lek κ y z):lek κ x z:=y8 h g
theorem og (x:Keyed):lek κ x x:=yj _
def Srt (κ:KeyKind)(l:List Keyed):Prop:=l.Pairwise (lek κ)
theorem Srt.drop {l:List Keyed}(h:Srt κ l)(i:Nat):Srt κ (l.drop i):=List.Pairwise.sublist (List.drop_sublist i l) h
theorem Srt.take {l:List Keyed}(h:Srt κ l)(i:Nat):Srt κ (l.take i):=List.Pairwise.sublist (List.take_sublist i l) h
def Lel (κ:KeyKind)(l m:List Keyed):Prop:=∀ x∈l,∀ y∈m,lek κ x y
theorem ba {l m:List Keyed}:Srt κ (l++m) ↔ Srt κ l∧Srt κ m∧Lel κ l m:=List.pairwise_append
theorem Srt.at {l:List Keyed}(h:Srt κ l){i j:Nat}{x y:Keyed}(hij:i≤j)(hx:l[i]? = some x)(hy:l[j]? = some y):lek κ x y:=by
 by_cases e:i=j
 ·subst e
  rw [hx] at hy
  cases hy
  exact og _
 ·obtain ⟨h1,e1⟩:=wG.mp hx
  obtain ⟨h2,e2⟩:=wG.mp hy
  have:=zG.mp h i j h1 h2 (by omega)
  rw [e1,e2] at this
  exact this
theorem bT {l:List Keyed}{i:Nat}{x:Keyed}(h:l[i]? = some x):l.drop i=x::l.drop (i+1):=by
 obtain ⟨h1,e1⟩:=wG.mp h
 rw [xI h1,e1]
theorem a_ {l:List Keyed}{i:Nat}{x:Keyed}(h:l[i]? = some x):l.take (i+1)=l.take i++[x]:=by
 rw [yl,h]
 rfl
structure Mc (κ:KeyKind) (A B O:List Keyed) (i j:Nat):Prop where
 pm:O.Perm (A.take i++B.take j)
 so:Srt κ O
 la:Lel κ O (A.drop i)
 lb:Lel κ O (B.drop j)
 hi:i≤A.length
 hj:j≤B.length
theorem Mc.pushA {A B O:List Keyed}{i j:Nat}(M:Mc κ A B O i j)(sA:Srt κ A){x:Keyed}(h:A[i]? = some x)(hx:Lel κ [x] (B.drop j)):Mc κ A B (O++[x]) (i+1) j:=by
 have ed:=bT h
 have sd:=sA.drop i
 rw [ed] at sd
 have sd':=yq.mp sd
 refine ⟨?_,ba.mpr ⟨M.so,A5 _ _,fun o ho y hy=>?_⟩,fun o ho y hy=>?_,fun o ho y hy=>?_,(wG.mp h).1,M.hj⟩
 ·rw [a_ h]
  refine (M.pm.append_right [x]).trans ?_
  rw [wY,wY]
  exact yA _ yB
 ·rw [wH] at hy
  subst hy
  exact M.la o ho _ (by rw [ed];exact w4)
 ·rcases xm.mp ho with ho | ho
  ·exact M.la o ho y (by rw [ed];exact w_ _ hy)
  ·rw [wH] at ho
   subst ho
   exact sd'.1 y hy
 ·rcases xm.mp ho with ho | ho
  ·exact M.lb o ho y hy
  ·exact hx o ho y hy
theorem Mc.pushB {A B O:List Keyed}{i j:Nat}(M:Mc κ A B O i j)(sB:Srt κ B){x:Keyed}(h:B[j]? = some x)(hx:Lel κ [x] (A.drop i)):Mc κ A B (O++[x]) i (j+1):=by
 have ed:=bT h
 have sd:=sB.drop j
 rw [ed] at sd
 have sd':=yq.mp sd
 refine ⟨?_,ba.mpr ⟨M.so,A5 _ _,fun o ho y hy=>?_⟩,fun o ho y hy=>?_,fun o ho y hy=>?_,M.hi,(wG.mp h).1⟩
 ·rw [a_ h]
  refine (M.pm.append_right [x]).trans ?_
  rw [wY]
 ·rw [wH] at hy
  subst hy
  exact M.lb o ho _ (by rw [ed];exact w4)
 ·rcases xm.mp ho with ho | ho
  ·exact M.la o ho y hy
  ·exact hx o ho y hy
 ·rcases xm.mp ho with ho | ho
  ·exact M.lb o ho y (by rw [ed];exact w_ _ hy)
  ·rw [wH] at ho
   subst ho
   exact sd'.1 y hy
theorem Mc.pushAs {A B O:List Keyed}{i j:Nat}(M:Mc κ A B O i j)(sA:Srt κ A):∀ k,i+k≤A.length→Lel κ ((A.drop i).take k) (B.drop j)→Mc κ A B (O++(A.drop i).take k) (i+k) j
 | 0,_,_=>by simpa using M
 | k+1,hk,hl=>by
  have hlt:i+k < A.length:=by omega
  have e:(A.drop i)[k]? = some A[i+k]:=by rw [xZ,wF hlt]
  have et:(A.drop i).take (k+1)=(A.drop i).take k++[A[i+k]]:=a_ e
  rw [et] at hl ⊢
  have ih:=Mc.pushAs M sA k (by omega) fun x hx=>hl x (xp _ hx)
  have:=ih.pushA sA (wF hlt) fun x hx=>hl x (wU _ hx)
  rw [wY] at this
  exact this
theorem Mc.pushBs {A B O:List Keyed}{i j:Nat}(M:Mc κ A B O i j)(sB:Srt κ B):∀ k,j+k≤B.length→Lel κ ((B.drop j).take k) (A.drop i)→Mc κ A B (O++(B.drop j).take k) i (j+k)
 | 0,_,_=>by simpa using M
 | k+1,hk,hl=>by
  have hlt:j+k < B.length:=by omega
  have e:(B.drop j)[k]? = some B[j+k]:=by rw [xZ,wF hlt]
  have et:(B.drop j).take (k+1)=(B.drop j).take k++[B[j+k]]:=a_ e
  rw [et] at hl ⊢
  have ih:=Mc.pushBs M sB k (by omega) fun x hx=>hl x (xp _ hx)
  have:=ih.pushB sB (wF hlt) fun x hx=>hl x (wU _ hx)
  rw [wY] at this
  exact this
def Mg (κ:KeyKind)(A B R:List Keyed):Prop:=R.Perm (A++B)∧Srt κ R
theorem Mc.perm {A B O:List Keyed}{i j:Nat}(M:Mc κ A B O i j):(O++(A.drop i++B.drop j)).Perm (A++B):=by
 have h1:(O++(A.drop i++B.drop j)).Perm ((A.take i++B.take j)++(A.drop i++B.drop j)):=M.pm.append_right _
 refine h1.trans ?_
 have h2:((A.take i++B.take j)++(A.drop i++B.drop j)).Perm ((A.take i++A.drop i)++(B.take j++B.drop j)):=by
  rw [wY,wY]
  refine yA _ ?_
  rw [← wY,← wY]
  exact zV _ yB
 rw [xo,xo] at h2
 exact h2
theorem Mc.done {A B O:List Keyed}{i j:Nat}(M:Mc κ A B O i j)(sA:Srt κ A)(sB:Srt κ B)(h:i=A.length ∨ j=B.length):Mg κ A B (O++A.drop i++B.drop j):=by
 refine ⟨by rw [wY];exact M.perm,?_⟩
 rw [wY]
 refine ba.mpr ⟨M.so,ba.mpr ⟨sA.drop i,sB.drop j,fun x hx y hy=>?_⟩,fun o ho y hy=>?_⟩
 ·rcases h with h | h
  ·subst h;rw [A_] at hx;cases hx
  ·subst h;rw [A_] at hy;cases hy
 ·rcases xm.mp hy with hy | hy
  ·exact M.la o ho y hy
  ·exact M.lb o ho y hy
theorem Mc.last {A B O:List Keyed}{i j:Nat}(M:Mc κ A B O i j)(sA:Srt κ A)(sB:Srt κ B)(h:i+1=A.length)(hl:∀ z,A[A.length - 1]? = some z→Lel κ B [z]):Mg κ A B (O++B.drop j++A.drop i):=by
 have hlt:i < A.length:=by omega
 have ed:A.drop i=[A[i]]:=by rw [bT (wF hlt),zW (by omega)]
 refine ⟨?_,?_⟩
 ·refine List.Perm.trans ?_ M.perm
  rw [wY]
  exact yA _ yB
 ·rw [wY]
  refine ba.mpr ⟨M.so,ba.mpr ⟨sB.drop j,sA.drop i,fun x hx y hy=>?_⟩,fun o ho y hy=>?_⟩
  ·rw [ed] at hy
   exact hl A[i] (by rw [show A.length - 1=i by omega];exact wF hlt) x (yg hx) y hy
  ·rcases xm.mp hy with hy | hy
   ·exact M.lb o ho y hy
   ·exact M.la o ho y hy
theorem jt (a b o:Array Keyed)(i j:Nat):(mDn a b o i j).toList=o.toList++a.toList.drop i++b.toList.drop j:=by
 simp [mDn,yr,xv]
theorem ju (a b o:Array Keyed)(i j:Nat):(mLa a b o i j).toList=o.toList++b.toList.drop j++a.toList.drop i:=by
 simp [mLa,yr,xv]
theorem jv (a:Array Keyed)(i k:Nat):(a.extract i (i+k)).toList=(a.toList.drop i).take k:=by
 simp [yr,List.take_drop]
theorem jw {lf:Bool}{key x y:κ.α}(h:κ.kle x y)(hb:bdB κ lf key y=true):bdB κ lf key x=true:=by
 unfold bdB at hb ⊢
 cases lf with
 | true=>exact KeyOrd.klt_of_kle_of_klt h hb
 | false =>
  have hb:(!κ.blt key y)=true:=hb
  have hy:κ.kle y key:=by show κ.blt key y=false;simpa using hb
  have:=y8 h hy
  show (!κ.blt key x)=true
  have this:κ.blt key x=false:=this
  rw [this]
  rfl
end Ts
namespace Ts
open PySem PyProof.Rows
section
variable {prog:Program} {w:World} {A:Around} {E:Value→Shared→Prop} {s:Shared} {κ:KeyKind}
structure Ok (st st':SortSt):Prop where
 tb:TB st'
 ar:arrOf st'=arrOf st
 pd:pendingOf st'=pendingOf st
theorem Ok.refl {st:SortSt}(h:TB st):Ok st st:=⟨h,rfl,rfl⟩
theorem gv {st st':SortSt}{g:Nat}{Q:Unit→SortSt→Prop}(h:Ok st st')(q:∀ st'',Ok st st''→Q () st''):wpS (model prog w) A E s (smg g) Q st':=by
 refine zN (q _ ⟨⟨h.tb.kind,h.tb.failed⟩,h.ar,h.pd⟩)
theorem aO {st:SortSt}{arr:Array Keyed}{i:Nat}{x:Keyed}{Q:Keyed→SortSt→Prop}(e:arr.toList[i]? = some x)(h:Q x st):wpS (model prog w) A E s (elem' arr i) Q st:=by
 have e':arr[i]? = some x:=by simpa using e
 rw [elem'_eq,e']
 exact w5 h
theorem jx {st:SortSt}{lf:Bool}{key:Keyed}{arr:Array Keyed}{i:Nat}{Q:Option Nat→SortSt→Prop}(hO:κ.OneLt)(hB:TB st)(hk:Gd κ key)(hg:∀ x∈arr.toList,Gd κ x)(sa:Srt κ arr.toList)(hi:i < arr.size)
  (hq:∀ k,i+k≤arr.size→(∀ x∈(arr.toList.drop i).take k,bdB κ lf (kof κ key) (kof κ x)=true)→(∀ x∈arr.toList.drop (i+k),bdB κ lf (kof κ key) (kof κ x)=false)→Q (some k) st) :
  wpS (model prog w) A E s (gal lf key arr i (arr.size - i) 0) Q st:=by
 have hl:arr.toList.length=arr.size:=wN
 refine iX hO hB hk (fun t=>match arr.toList[i+t]? with | some p=>bdB κ lf (kof κ key) (kof κ p) | none=>false) (by omega) (fun t ht=>?_) (fun t u htu hu hb=>?_) (fun k hk' h1 h2=>hq k (by omega) (fun x hx=>?_) fun x hx=>?_)
 ·have hlt:i+t < arr.toList.length:=by omega
  have e:=wF hlt
  refine ⟨arr.toList[i+t],by simpa using e,hg _ (xM hlt),?_⟩
  rw [e]
 ·have h1:i+t < arr.toList.length:=by omega
  have h2:i+u < arr.toList.length:=by omega
  have e1:=wF h1
  have e2:=wF h2
  rw [e2] at hb
  rw [e1]
  exact jw (sa.at (by omega) e1 e2) hb
 ·obtain ⟨t,e⟩:=yh hx
  have ht:t < k:=by
   have:=(wG.mp e).1
   rw [w9] at this
   omega
  rw [AL,if_pos ht,xZ] at e
  have:=h1 t ht
  rw [e] at this
  exact this
 ·obtain ⟨t,e⟩:=yh hx
  rw [xZ] at e
  have hlt:=(wG.mp e).1
  have:=h2 (k+t) (by omega) (by omega)
  rw [show i+(k+t)=i+k+t by omega,e] at this
  exact this
theorem not_lt {x y:Keyed}(h:κ.blt (kof κ x) (kof κ y)=false):lek κ y x:=h
theorem oh {x y:Keyed}(h:κ.blt (kof κ x) (kof κ y)=true):lek κ x y:=zA h
theorem eY {l:List Keyed}(sl:Srt κ l){i:Nat}{x y:Keyed}(e:l[i]? = some y)(h:lek κ x y):Lel κ [x] (l.drop i):=fun z hz t ht=>by
 rw [wH] at hz
 subst hz
 rw [bT e] at ht
 rcases xg.mp ht with rfl | ht
 ·exact h
 ·have sd:=sl.drop i
  rw [bT e] at sd
  exact dg h ((yq.mp sd).1 t ht)
abbrev MSt:=Option (Array Keyed) × Array Keyed × Nat × Nat × Nat × Nat × Nat
def jp3 (a b:Array Keyed)(i g p q:Nat)(o:Array Keyed)(j:Nat):StateT SortSt Sem (ForInStep MSt):=do
 let e ← elem' a i
 if (i+1+1 == a.size)=true then pure (.done (some (mLa a b (o.push e) (i+1) j),o.push e,i+1,j,g,p,q))
 else if (decide (p < 7) && decide (q < 7))=true then pure (.done (none,o.push e,i+1,j,g,p,q)) else pure (.yield (none,o.push e,i+1,j,g,p,q))
def jp2 (a b:Array Keyed)(j g p q:Nat)(o:Array Keyed)(i:Nat):StateT SortSt Sem (ForInStep MSt):=do
 let e ← elem' b j
 if (j+1 == b.size)=true then pure (.done (some (mDn a b (o.push e) i (j+1)),o.push e,i,j+1,g,p,q))
 else do
  let f ← elem' a i
  let y ← gal true f b (j+1) (b.size - (j+1)) 0
  match y with
  | some k=>if k > 0 then (if (j+1+k == b.size)=true then pure (.done (some (mDn a b (o.push e++b.extract (j+1) (j+1+k)) i (j+1+k)),o.push e++b.extract (j+1) (j+1+k),i,j+1+k,g,p,k)) else jp3 a b i g p k (o.push e++b.extract (j+1) (j+1+k)) (j+1+k)) else jp3 a b i g p k (o.push e) (j+1)
  | _=>pure (.done (some (mDn a b (o.push e) i (j+1)),o.push e,i,j+1,g,p,q))
def jp1 (a b:Array Keyed)(o:Array Keyed)(i j p q g:Nat):StateT SortSt Sem (ForInStep MSt):=do
 smg g
 let e ← elem' b j
 let y ← gal false e a i (a.size - i) 0
 match y with
 | some k=>if k > 0 then (if (i+k+1 == a.size)=true then pure (.done (some (mLa a b (o++a.extract i (i+k)) (i+k) j),o++a.extract i (i+k),i+k,j,g,k,q)) else if (i+k == a.size)=true then pure (.done (some (mDn a b (o++a.extract i (i+k)) (i+k) j),o++a.extract i (i+k),i+k,j,g,k,q)) else jp2 a b j g k q (o++a.extract i (i+k)) (i+k)) else jp2 a b j g k q o i
 | _=>pure (.done (some (mDn a b o i j),o,i,j,g,p,q))
def Pst (κ:KeyKind)(a b:Array Keyed)(x:Nat)(st:SortSt)(r:ForInStep MSt)(st':SortSt):Prop:=match r with
 | .done c=>((∃ r z,c=(some r,z)∧Mg κ a.toList b.toList r.toList) ∨ ∃ o i j g p q,c=(none,o,i,j,g,p,q)∧Mc κ a.toList b.toList o.toList i j∧i+1 < a.size∧j < b.size∧x+2≤i+j)∧Ok st st'
 | .yield c=>∃ o i j g p q,c=(none,o,i,j,g,p,q)∧Mc κ a.toList b.toList o.toList i j∧i+1 < a.size∧j < b.size∧x+2≤i+j∧Ok st st'
structure Two (κ:KeyKind) (a b:Array Keyed):Prop where
 ga:∀ x∈a.toList,Gd κ x
 gb:∀ x∈b.toList,Gd κ x
 sa:Srt κ a.toList
 sb:Srt κ b.toList
 hl:∀ z,a.toList[a.size - 1]? = some z→Lel κ b.toList [z]
theorem Two.atA {a b:Array Keyed}(T:Two κ a b){i:Nat}(hi:i < a.size):∃ x,a.toList[i]? = some x∧Gd κ x:=⟨a.toList[i]'(by rw [wN]; exact hi),wF (by rw [wN]; exact hi),T.ga _ (xM _)⟩
theorem Two.atB {a b:Array Keyed}(T:Two κ a b){i:Nat}(hi:i < b.size):∃ x,b.toList[i]? = some x∧Gd κ x:=⟨b.toList[i]'(by rw [wN]; exact hi),wF (by rw [wN]; exact hi),T.gb _ (xM _)⟩
theorem Two.dn {a b:Array Keyed}(T:Two κ a b){o:Array Keyed}{i j:Nat}(M:Mc κ a.toList b.toList o.toList i j)(h:i=a.size ∨ j=b.size):Mg κ a.toList b.toList (mDn a b o i j).toList:=by
 rw [jt]
 exact M.done T.sa T.sb (by rw [wN,wN];exact h)
theorem Two.ls {a b:Array Keyed}(T:Two κ a b){o:Array Keyed}{i j:Nat}(M:Mc κ a.toList b.toList o.toList i j)(h:i+1=a.size):Mg κ a.toList b.toList (mLa a b o i j).toList:=by
 rw [ju]
 exact M.last T.sa T.sb (by rw [wN];exact h) (by rw [wN];exact T.hl)
theorem lM {st st':SortSt}{a b o:Array Keyed}{i j g p q x:Nat}{xa:Keyed}(T:Two κ a b)(M:Mc κ a.toList b.toList o.toList i j)(hi:i+1 < a.size)(hj:j < b.size)(hx:x+2≤i+j)(ok:Ok st st')(exa:a.toList[i]? = some xa)(hle:Lel κ [xa] (b.toList.drop j)) :
  wpS (model prog w) A E s (jp3 a b i g p q o j) (Pst κ a b x st) st':=by
 unfold jp3
 refine wW (aO exa ?_)
 have M':Mc κ a.toList b.toList (o.push xa).toList (i+1) j:=by rw [zB];exact M.pushA T.sa exa hle
 by_cases hia:i+1+1=a.size
 ·refine aC (by simpa using hia) ?_
  exact w5 ⟨.inl ⟨_,_,rfl,T.ls M' hia⟩,ok⟩
 ·refine aD (by simpa using hia) ?_
  by_cases hpq:(decide (p < 7) && decide (q < 7))=true
  ·refine aC hpq ?_
   exact w5 ⟨.inr ⟨_,_,_,_,_,_,rfl,M',by omega,hj,by omega⟩,ok⟩
  ·refine aD hpq ?_
   exact w5 ⟨_,_,_,_,_,_,rfl,M',by omega,hj,by omega,ok⟩
theorem eB {x y:Keyed}:bdB κ false (kof κ x) (kof κ y)=true→lek κ y x:=fun h=>by
 unfold bdB at h
 have h:(!κ.blt (kof κ x) (kof κ y))=true:=h
 show κ.blt (kof κ x) (kof κ y)=false
 simpa using h
theorem eZ {x y:Keyed}:bdB κ false (kof κ x) (kof κ y)=false→lek κ x y:=fun h=>by
 unfold bdB at h
 have h:(!κ.blt (kof κ x) (kof κ y))=false:=h
 exact oh (by simpa using h)
theorem iY {x y:Keyed}:bdB κ true (kof κ x) (kof κ y)=true→lek κ y x:=fun h=>oh h
theorem gx {x y:Keyed}:bdB κ true (kof κ x) (kof κ y)=false→lek κ x y:=fun h=>h
theorem lN {st st':SortSt}{a b o:Array Keyed}{i j g p q x:Nat}{xb:Keyed}(hO:κ.OneLt)(T:Two κ a b)(M:Mc κ a.toList b.toList o.toList i j)(hi:i+1 < a.size)(hj:j < b.size)(hx:x+2≤i+j)(ok:Ok st st')(exb:b.toList[j]? = some xb)(hle:Lel κ [xb] (a.toList.drop i)) :
  wpS (model prog w) A E s (jp2 a b j g p q o i) (Pst κ a b x st) st':=by
 have la:a.toList.length=a.size:=wN
 have lb:b.toList.length=b.size:=wN
 unfold jp2
 refine wW (aO exb ?_)
 have M':Mc κ a.toList b.toList (o.push xb).toList i (j+1):=by rw [zB];exact M.pushB T.sb exb hle
 by_cases hjb:j+1=b.size
 ·refine aC (by simpa using hjb) ?_
  exact w5 ⟨.inl ⟨_,_,rfl,T.dn M' (.inr hjb)⟩,ok⟩
 refine aD (by simpa using hjb) ?_
 obtain ⟨xa,exa,gxa⟩:=T.atA (i:=i) (by omega)
 refine wW (aO exa (wW (jx hO ok.tb gxa T.gb T.sb (by omega) fun k hk t1 t2=>?_)))
 dsimp only
 have MB:Mc κ a.toList b.toList ((o.push xb).toList++(b.toList.drop (j+1)).take k) i (j+1+k):=M'.pushBs T.sb k (by omega) fun z hz=>eY T.sa exa (iY (t1 z hz)) z (wH.mpr rfl)
 have rest:Lel κ [xa] (b.toList.drop (j+1+k)):=fun z hz y hy=>by
  rw [wH] at hz
  subst hz
  exact gx (t2 y hy)
 by_cases hk0:k > 0
 ·refine aC hk0 ?_
  have MB':Mc κ a.toList b.toList (o.push xb++b.extract (j+1) (j+1+k)).toList i (j+1+k):=by rw [AE,jv];exact MB
  by_cases hje:j+1+k=b.size
  ·refine aC (by simpa using hje) ?_
   exact w5 ⟨.inl ⟨_,_,rfl,T.dn MB' (.inr hje)⟩,ok⟩
  ·refine aD (by simpa using hje) ?_
   exact lM T MB' hi (by omega) (by omega) ok exa rest
 ·refine aD hk0 ?_
  have:k=0:=by omega
  subst this
  exact lM T M' hi (by omega) (by omega) ok exa rest
theorem lO {st st':SortSt}{a b o:Array Keyed}{i j g p q x:Nat}(hO:κ.OneLt)(T:Two κ a b)(M:Mc κ a.toList b.toList o.toList i j)(hi:i+1 < a.size)(hj:j < b.size)(hx:x+2≤i+j)(ok:Ok st st') :
  wpS (model prog w) A E s (jp1 a b o i j p q g) (Pst κ a b x st) st':=by
 have la:a.toList.length=a.size:=wN
 have lb:b.toList.length=b.size:=wN
 unfold jp1
 refine wW (gv ok fun st3 ok3=>?_)
 obtain ⟨xb,exb,gxb⟩:=T.atB hj
 refine wW (aO exb (wW (jx hO ok3.tb gxb T.ga T.sa (by omega) fun k hk t1 t2=>?_)))
 dsimp only
 have MA:Mc κ a.toList b.toList (o.toList++(a.toList.drop i).take k) (i+k) j:=M.pushAs T.sa k (by omega) fun z hz=>eY T.sb exb (eB (t1 z hz)) z (wH.mpr rfl)
 have rest:Lel κ [xb] (a.toList.drop (i+k)):=fun z hz y hy=>by
  rw [wH] at hz
  subst hz
  exact eZ (t2 y hy)
 by_cases hk0:k > 0
 ·refine aC hk0 ?_
  have MA':Mc κ a.toList b.toList (o++a.extract i (i+k)).toList (i+k) j:=by rw [AE,jv];exact MA
  by_cases h1:i+k+1=a.size
  ·refine aC (by simpa using h1) ?_
   exact w5 ⟨.inl ⟨_,_,rfl,T.ls MA' h1⟩,ok3⟩
  ·refine aD (by simpa using h1) ?_
   by_cases h2:i+k=a.size
   ·refine aC (by simpa using h2) ?_
    exact w5 ⟨.inl ⟨_,_,rfl,T.dn MA' (.inl h2)⟩,ok3⟩
   ·refine aD (by simpa using h2) ?_
    exact lN hO T MA' (by omega) hj (by omega) ok3 exb rest
 ·refine aD hk0 ?_
  have:k=0:=by omega
  subst this
  exact lN hO T M hi hj hx ok3 exb rest
theorem qE {st:SortSt}{a b:Array Keyed}{Q:Array Keyed→SortSt→Prop}(hO:κ.OneLt)(hB:TB st)(ga:∀ x∈a.toList,Gd κ x)(gb:∀ x∈b.toList,Gd κ x)(sa:Srt κ a.toList)(sb:Srt κ b.toList)(h0:0 < a.size)(h1:0 < b.size)
  (hf:∀ x y,a.toList[0]? = some x→b.toList[0]? = some y→lek κ y x) (hl:∀ z,a.toList[a.size - 1]? = some z→Lel κ b.toList [z])
  (hq:∀ r st',Ok st st'→Mg κ a.toList b.toList r.toList→Q r st'):wpS (model prog w) A E s (mlo a b) Q st:=by
 have la:a.toList.length=a.size:=wN
 have lb:b.toList.length=b.size:=wN
 have hl:∀ z,a.toList[a.toList.length - 1]? = some z→Lel κ b.toList [z]:=by rw [la];exact hl
 have atA:∀ {i:Nat},i < a.size→∃ x,a.toList[i]? = some x∧Gd κ x:=fun {i} hi=>⟨a.toList[i]'(by omega),wF (by omega),ga _ (xM _)⟩
 have atB:∀ {i:Nat},i < b.size→∃ x,b.toList[i]? = some x∧Gd κ x:=fun {i} hi=>⟨b.toList[i]'(by omega),wF (by omega),gb _ (xM _)⟩
 rw [tj]
 refine wW (Bn (zx ⟨rfl,?_⟩))
 obtain ⟨y0,ey0,gy0⟩:=atB h1
 obtain ⟨x0,ex0,gx0⟩:=atA h0
 refine wW (aO ey0 ?_)
 have M0:Mc κ a.toList b.toList [y0] 0 1:=by
  have:Mc κ a.toList b.toList ([]++[y0]) 0 (0+1):=Mc.pushB (O:=[]) (i:=0) (j:=0) ⟨Ab _,.nil,(fun x hx=>by cases hx),(fun x hx=>by cases hx),xE _,xE _⟩ sb ey0 (eY sa ex0 (hf _ _ ex0 ey0))
  exact this
 have dn:∀ {o:Array Keyed} {i j:Nat},Mc κ a.toList b.toList o.toList i j→(i=a.size ∨ j=b.size)→Mg κ a.toList b.toList (mDn a b o i j).toList:=fun M h=>by rw [jt];exact M.done sa sb (by rw [la,lb];exact h)
 have ls:∀ {o:Array Keyed} {i j:Nat},Mc κ a.toList b.toList o.toList i j→i+1=a.size→Mg κ a.toList b.toList (mLa a b o i j).toList:=fun M h=>by rw [ju];exact M.last sa sb (by rw [la];exact h) hl
 dsimp only
 by_cases hb1:1=b.size
 ·refine aC (by simpa using hb1) ?_
  exact w5 (hq _ _ (.refl hB) (dn (o:=#[y0]) M0 (.inr hb1)))
 refine aD (by simpa using hb1) ?_
 by_cases ha1:0+1=a.size
 ·refine aC (by simpa using ha1) ?_
  exact w5 (hq _ _ (.refl hB) (ls (o:=#[y0]) M0 ha1))
 refine aD (by simpa using ha1) ?_
 refine wW (AO ?_)
 refine wW (yG (x5 (I:=fun x c st'=>∃ o i j g,c=(none,o,i,j,g)∧Mc κ a.toList b.toList o.toList i j∧i+1 < a.size∧j < b.size∧x+1≤i+j∧Ok st st')
  (Q:=fun c st'=>∃ r z,c=(some r,z)∧Mg κ a.toList b.toList r.toList∧Ok st st') ?step ?fin ⟨#[y0],0,1,_,rfl,M0,by omega,by omega,by omega,.refl hB⟩) ?post)
 case post =>
  rintro c st' ⟨r,z,rfl,m,ok⟩
  exact w5 (hq _ _ ok m)
 case fin =>
  rintro c st' ⟨o,i,j,g,rfl,M,hi,hj,hx,ok⟩
  omega
 case step =>
  rintro x c st1 _ hx ⟨o,i,j,g,rfl,M,hi,hj,hij,ok1⟩
  dsimp only
  refine wW (yG (x5 (I:=fun y c st'=>st'=st1∧∃ o i j p q,c=(none,o,i,j,p,q)∧Mc κ a.toList b.toList o.toList i j∧i+1 < a.size∧j < b.size∧x+1+y≤i+j)
   (Q:=fun c st'=>st'=st1∧((∃ r z,c=(some r,z)∧Mg κ a.toList b.toList r.toList) ∨ ∃ o i j p q,c=(none,o,i,j,p,q)∧Mc κ a.toList b.toList o.toList i j∧i+1 < a.size∧j < b.size∧x+2≤i+j)) ?step1 ?fin1 ⟨rfl,o,i,j,0,0,rfl,M,hi,hj,by omega⟩) ?post1)
  case fin1 =>
   rintro c st' ⟨rfl,o,i,j,p,q,rfl,M,hi,hj,hy⟩
   exact ⟨rfl,.inr ⟨o,i,j,p,q,rfl,M,hi,hj,by omega⟩⟩
  case step1 =>
   rintro y c st' _ hy ⟨rfl,o,i,j,p,q,rfl,M,hi,hj,hij⟩
   dsimp only
   obtain ⟨xb,exb,gxb⟩:=atB hj
   obtain ⟨xa,exa,gxa⟩:=atA (i:=i) (by omega)
   refine wW (aO exb (wW (aO exa (wW (js hO ok1.tb gxb gxa ?_)))))
   cases eb:κ.blt (kof κ xb) (kof κ xa) with
   | true =>
    simp only [yW]
    refine wW (aO exb ?_)
    have M':Mc κ a.toList b.toList (o.push xb).toList i (j+1):=by rw [zB];exact M.pushB sb exb (eY sa exa (oh eb))
    by_cases hjb:j+1=b.size
    ·refine aC (by simpa using hjb) ?_
     exact w5 ⟨rfl,.inl ⟨_,_,rfl,dn M' (.inr hjb)⟩⟩
    ·refine aD (by simpa using hjb) ?_
     by_cases hqg:q+1≥g
     ·refine aC hqg ?_
      exact w5 ⟨rfl,.inr ⟨_,_,_,_,_,rfl,M',hi,by omega,by omega⟩⟩
     ·refine aD hqg ?_
      exact w5 ⟨rfl,_,_,_,_,_,rfl,M',hi,by omega,by omega⟩
   | false =>
    simp only [xk,yo]
    refine wW (aO exa ?_)
    have M':Mc κ a.toList b.toList (o.push xa).toList (i+1) j:=by rw [zB];exact M.pushA sa exa (eY sb exb (not_lt eb))
    by_cases hia:i+1+1=a.size
    ·refine aC (by simpa using hia) ?_
     exact w5 ⟨rfl,.inl ⟨_,_,rfl,ls M' hia⟩⟩
    ·refine aD (by simpa using hia) ?_
     by_cases hpg:p+1≥g
     ·refine aC hpg ?_
      exact w5 ⟨rfl,.inr ⟨_,_,_,_,_,rfl,M',by omega,hj,by omega⟩⟩
     ·refine aD hpg ?_
      exact w5 ⟨rfl,_,_,_,_,_,rfl,M',by omega,hj,by omega⟩
  case post1 =>
   rintro c st' ⟨rfl,⟨r,z,rfl,m⟩ | ⟨o,i,j,p,q,rfl,M,hi,hj,hij⟩⟩
   ·exact w5 ⟨r,_,rfl,m,ok1⟩
   dsimp only
   refine wW (Bn (zx ⟨rfl,?_⟩))
   refine wW (yG (x5 (I:=fun y c st'=>∃ o i j g p q,c=(none,o,i,j,g,p,q)∧Mc κ a.toList b.toList o.toList i j∧i+1 < a.size∧j < b.size∧x+2≤i+j∧Ok st st')
    (Q:=fun c st'=>((∃ r z,c=(some r,z)∧Mg κ a.toList b.toList r.toList) ∨ ∃ o i j g p q,c=(none,o,i,j,g,p,q)∧Mc κ a.toList b.toList o.toList i j∧i+1 < a.size∧j < b.size∧x+2≤i+j)∧Ok st st') ?step2 ?fin2 ⟨o,i,j,_,p,q,rfl,M,hi,hj,hij,ok1⟩) ?post2)
   case fin2 =>
    rintro c st' ⟨o,i,j,g,p,q,rfl,M,hi,hj,hij,ok⟩
    exact ⟨.inr ⟨o,i,j,g,p,q,rfl,M,hi,hj,hij⟩,ok⟩
   case post2 =>
    rintro c st' ⟨⟨r,z,rfl,m⟩ | ⟨o,i,j,g,p,q,rfl,M,hi,hj,hij⟩,ok⟩
    ·exact w5 ⟨r,_,rfl,m,ok⟩
    ·dsimp only
     exact wW (gv ok fun st'' ok'=>w5 ⟨o,i,j,_,rfl,M,hi,hj,by omega,ok'⟩)
   case step2 =>
    rintro y c st2 _ hy ⟨o,i,j,g,p,q,rfl,M,hi,hj,hij,ok2⟩
    dsimp only
    change wpS _ _ _ _ (if g > 1 then jp1 a b o i j p q (g - 1) else jp1 a b o i j p q g) _ _
    refine yG (Q:=Pst κ a b x st) ?_ fun r st' h=>?_
    rotate_left
    ·cases r with
     | done c=>exact h
     | yield c=>exact h
    by_cases hg:g > 1
    ·refine aC hg ?_
     exact lO hO ⟨ga,gb,sa,sb,by rw [← la];exact hl⟩ M hi hj hij ok2
    ·refine aD hg ?_
     exact lO hO ⟨ga,gb,sa,sb,by rw [← la];exact hl⟩ M hi hj hij ok2
end
end Ts
namespace Ts
open PySem PyProof.Rows
def mhi:Array Keyed→Array Keyed→StateT SortSt Sem (Array Keyed):=sortPriv% PySem.Builtin.mergeHi
abbrev hDn (a b o:Array Keyed)(i j:Nat):Array Keyed:=a.extract 0 i++b.extract 0 j++o.reverse
abbrev hFb (a b o:Array Keyed)(i j:Nat):Array Keyed:=b.extract 0 j++a.extract 0 i++o.reverse
theorem tm (a b:Array Keyed):mhi a b=(do
 rule "list.sort.merge-hi"
 let mut i:=a.size - 1
 let mut j:=b.size
 let mut o:Array Keyed:=#[← elem' a i]
 if i == 0 then return hDn a b o i j
 if j == 1 then return hFb a b o i j
 let mut g:=gallopOf (← get)
 for _ in [0:a.size+b.size] do
  let mut p:=0
  let mut q:=0
  for _ in [0:a.size+b.size] do
   let some w ← lt' (← elem' b (j - 1)) (← elem' a (i - 1)) | return hDn a b o i j
   if w then
    i:=i - 1
    o:=o.push (← elem' a i)
    p:=p+1
    q:=0
    if i == 0 then return hDn a b o i j
    if p≥g then break
   else
    j:=j - 1
    o:=o.push (← elem' b j)
    q:=q+1
    p:=0
    if j == 1 then return hFb a b o i j
    if q≥g then break
  rule "list.sort.gallop"
  g:=g+1
  for _ in [0:a.size+b.size] do
   if g > 1 then g:=g - 1
   smg g
   let some t ← gal false (← elem' b (j - 1)) a 0 i (i - 1) | return hDn a b o i j
   let k:=i - t
   p:=k
   if k > 0 then
    o:=o++(a.extract t i).reverse
    i:=t
    if i == 0 then return hDn a b o i j
   j:=j - 1
   o:=o.push (← elem' b j)
   if j == 1 then return hFb a b o i j
   let some t ← gal true (← elem' a (i - 1)) b 0 j (j - 1) | return hDn a b o i j
   let k:=j - t
   q:=k
   if k > 0 then
    o:=o++(b.extract t j).reverse
    j:=t
    if j == 1 then return hFb a b o i j
    if j == 0 then return hDn a b o i j
   i:=i - 1
   o:=o.push (← elem' a i)
   if i == 0 then return hDn a b o i j
   if p < 7 && q < 7 then break
  g:=g+1
  smg g
 unsupported "internal:list.sort.merge-bound"):=rfl
variable {κ:KeyKind}
structure Mh (κ:KeyKind) (A B R:List Keyed) (i j:Nat):Prop where
 pm:R.Perm (A.drop i++B.drop j)
 so:Srt κ R
 la:Lel κ (A.take i) R
 lb:Lel κ (B.take j) R
 hi:i≤A.length
 hj:j≤B.length
theorem Mh.pushA {A B R:List Keyed}{i j:Nat}(M:Mh κ A B R (i+1) j)(sA:Srt κ A){x:Keyed}(h:A[i]? = some x)(hx:Lel κ (B.take j) [x]):Mh κ A B (x::R) i j:=by
 have et:=a_ h
 have st:=sA.take (i+1)
 rw [et] at st
 have st':=ba.mp st
 refine ⟨?_,yq.mpr ⟨fun y hy=>M.la x (by rw [et];simp) y hy,M.so⟩,fun y hy z hz=>?_,fun y hy z hz=>?_,by have:=M.hi;omega,M.hj⟩
 ·rw [bT h,List.cons_append]
  exact M.pm.cons x
 ·rcases xg.mp hz with rfl | hz
  ·exact st'.2.2 y hy _ (by simp)
  ·exact M.la y (by rw [et];exact xp _ hy) z hz
 ·rcases xg.mp hz with rfl | hz
  ·exact hx y hy _ (by simp)
  ·exact M.lb y hy z hz
theorem Mh.pushB {A B R:List Keyed}{i j:Nat}(M:Mh κ A B R i (j+1))(sB:Srt κ B){x:Keyed}(h:B[j]? = some x)(hx:Lel κ (A.take i) [x]):Mh κ A B (x::R) i j:=by
 have et:=a_ h
 have st:=sB.take (j+1)
 rw [et] at st
 have st':=ba.mp st
 refine ⟨?_,yq.mpr ⟨fun y hy=>M.lb x (by rw [et];simp) y hy,M.so⟩,fun y hy z hz=>?_,fun y hy z hz=>?_,M.hi,by have:=M.hj;omega⟩
 ·rw [bT h]
  exact (M.pm.cons x).trans Ba.symm
 ·rcases xg.mp hz with rfl | hz
  ·exact hx y hy _ (by simp)
  ·exact M.la y hy z hz
 ·rcases xg.mp hz with rfl | hz
  ·exact st'.2.2 y hy _ (by simp)
  ·exact M.lb y (by rw [et];exact xp _ hy) z hz
theorem Mh.pushAs {A B R:List Keyed}{t j:Nat}(sA:Srt κ A):∀ k,Mh κ A B R (t+k) j→Lel κ (B.take j) ((A.drop t).take k)→Mh κ A B ((A.drop t).take k++R) t j
 | 0,M,_=>by simpa using M
 | k+1,M,hl=>by
  have hlt:t+k < A.length:=by have:=M.hi;omega
  have e:(A.drop t)[k]? = some A[t+k]:=by rw [xZ,wF hlt]
  have et:(A.drop t).take (k+1)=(A.drop t).take k++[A[t+k]]:=a_ e
  rw [et] at hl ⊢
  have M1:Mh κ A B (A[t+k]::R) (t+k) j:=Mh.pushA M sA (wF hlt) fun y hy z hz=>hl y hy z (wU _ hz)
  have:=Mh.pushAs sA k M1 fun y hy z hz=>hl y hy z (xp _ hz)
  rw [wY]
  exact this
theorem Mh.pushBs {A B R:List Keyed}{t i:Nat}(sB:Srt κ B):∀ k,Mh κ A B R i (t+k)→Lel κ (A.take i) ((B.drop t).take k)→Mh κ A B ((B.drop t).take k++R) i t
 | 0,M,_=>by simpa using M
 | k+1,M,hl=>by
  have hlt:t+k < B.length:=by have:=M.hj;omega
  have e:(B.drop t)[k]? = some B[t+k]:=by rw [xZ,wF hlt]
  have et:(B.drop t).take (k+1)=(B.drop t).take k++[B[t+k]]:=a_ e
  rw [et] at hl ⊢
  have M1:Mh κ A B (B[t+k]::R) i (t+k):=Mh.pushB M sB (wF hlt) fun y hy z hz=>hl y hy z (wU _ hz)
  have:=Mh.pushBs sB k M1 fun y hy z hz=>hl y hy z (xp _ hz)
  rw [wY]
  exact this
theorem Mh.perm {A B R:List Keyed}{i j:Nat}(M:Mh κ A B R i j):(A.take i++B.take j++R).Perm (A++B):=by
 have h1:(A.take i++B.take j++R).Perm (A.take i++B.take j++(A.drop i++B.drop j)):=M.pm.append_left _
 refine h1.trans ?_
 have h2:((A.take i++B.take j)++(A.drop i++B.drop j)).Perm ((A.take i++A.drop i)++(B.take j++B.drop j)):=by
  rw [wY,wY]
  refine yA _ ?_
  rw [← wY,← wY]
  exact zV _ yB
 rw [xo,xo] at h2
 exact h2
theorem Mh.done {A B R:List Keyed}{i j:Nat}(M:Mh κ A B R i j)(sA:Srt κ A)(sB:Srt κ B)(h:i=0 ∨ j=0):Mg κ A B (A.take i++B.take j++R):=by
 refine ⟨M.perm,ba.mpr ⟨ba.mpr ⟨sA.take i,sB.take j,fun x hx y hy=>?_⟩,M.so,fun o ho y hy=>?_⟩⟩
 ·rcases h with h | h
  ·subst h;simp at hx
  ·subst h;simp at hy
 ·rcases xm.mp ho with ho | ho
  ·exact M.la o ho y hy
  ·exact M.lb o ho y hy
theorem Mh.first {A B R:List Keyed}{i j:Nat}(M:Mh κ A B R i j)(sA:Srt κ A)(sB:Srt κ B)(h:j=1)(hf:∀ z,B[0]? = some z→Lel κ [z] A):Mg κ A B (B.take j++A.take i++R):=by
 refine ⟨List.Perm.trans (zV _ yB) M.perm,ba.mpr ⟨ba.mpr ⟨sB.take j,sA.take i,fun x hx y hy=>?_⟩,M.so,fun o ho y hy=>?_⟩⟩
 ·subst h
  cases B with
  | nil=>simp at hx
  | cons z B =>
   have hx:x=z:=by simpa using hx
   subst hx
   exact hf x rfl x (by simp) y (xX hy)
 ·rcases xm.mp ho with ho | ho
  ·exact M.lb o ho y hy
  ·exact M.la o ho y hy
theorem oj (a b o:Array Keyed)(i j:Nat):(hDn a b o i j).toList=a.toList.take i++b.toList.take j++o.toList.reverse:=by
 simp [hDn,yr]
theorem om (a b o:Array Keyed)(i j:Nat):(hFb a b o i j).toList=b.toList.take j++a.toList.take i++o.toList.reverse:=by
 simp [hFb,yr]
theorem lP (a:Array Keyed)(t i:Nat):((a.extract t i).reverse).toList.reverse=(a.toList.drop t).take (i - t):=by
 simp [yr]
section
variable {prog:Program} {w:World} {A:Around} {E:Value→Shared→Prop} {s:Shared}
theorem jy {st:SortSt}{lf:Bool}{key:Keyed}{arr:Array Keyed}{n:Nat}{Q:Option Nat→SortSt→Prop}(hO:κ.OneLt)(hB:TB st)(hk:Gd κ key)(hg:∀ x∈arr.toList,Gd κ x)(sa:Srt κ arr.toList)(hn:0 < n)(hna:n≤arr.size)
  (hq:∀ k,k≤n→(∀ x∈arr.toList.take k,bdB κ lf (kof κ key) (kof κ x)=true)→(∀ x∈(arr.toList.drop k).take (n - k),bdB κ lf (kof κ key) (kof κ x)=false)→Q (some k) st) :
  wpS (model prog w) A E s (gal lf key arr 0 n (n - 1)) Q st:=by
 have hl:arr.toList.length=arr.size:=wN
 refine iX hO hB hk (fun t=>match arr.toList[t]? with | some p=>bdB κ lf (kof κ key) (kof κ p) | none=>false) (by omega) (fun t ht=>?_) (fun t u htu hu hb=>?_) (fun k hk' h1 h2=>hq k (by omega) (fun x hx=>?_) fun x hx=>?_)
 ·have hlt:t < arr.toList.length:=by omega
  have e:=wF hlt
  refine ⟨arr.toList[t],by rw [zq];simpa using e,hg _ (xM hlt),?_⟩
  rw [e]
 ·have h1:t < arr.toList.length:=by omega
  have h2:u < arr.toList.length:=by omega
  have e1:=wF h1
  have e2:=wF h2
  rw [e2] at hb
  rw [e1]
  exact jw (sa.at (by omega) e1 e2) hb
 ·obtain ⟨t,e⟩:=yh hx
  have ht:t < k:=by
   have:=(wG.mp e).1
   rw [w9] at this
   omega
  rw [AL,if_pos ht] at e
  have:=h1 t ht
  rw [e] at this
  exact this
 ·obtain ⟨t,e⟩:=yh hx
  have ht:t < n - k:=by
   have:=(wG.mp e).1
   rw [w9] at this
   omega
  rw [AL,if_pos ht,xZ] at e
  have:=h2 (k+t) (by omega) (by omega)
  rw [e] at this
  exact this
theorem gy {l:List Keyed}(sl:Srt κ l){i:Nat}{x y:Keyed}(e:l[i]? = some y)(h:lek κ y x):Lel κ (l.take (i+1)) [x]:=fun z hz t ht=>by
 rw [wH] at ht
 subst ht
 rw [a_ e] at hz
 rcases xm.mp hz with hz | hz
 ·have st:=sl.take (i+1)
  rw [a_ e] at st
  exact dg ((ba.mp st).2.2 z hz y (by simp)) h
 ·rw [wH] at hz
  subst hz
  exact h
structure ka (κ:KeyKind) (a b:Array Keyed):Prop where
 ga:∀ x∈a.toList,Gd κ x
 gb:∀ x∈b.toList,Gd κ x
 sa:Srt κ a.toList
 sb:Srt κ b.toList
 hf:∀ z,b.toList[0]? = some z→Lel κ [z] a.toList
theorem ka.atA {a b:Array Keyed}(T:ka κ a b){i:Nat}(hi:i < a.size):∃ x,a.toList[i]? = some x∧Gd κ x:=⟨a.toList[i]'(by rw [wN]; exact hi),wF (by rw [wN]; exact hi),T.ga _ (xM _)⟩
theorem ka.atB {a b:Array Keyed}(T:ka κ a b){i:Nat}(hi:i < b.size):∃ x,b.toList[i]? = some x∧Gd κ x:=⟨b.toList[i]'(by rw [wN]; exact hi),wF (by rw [wN]; exact hi),T.gb _ (xM _)⟩
theorem ka.dn {a b:Array Keyed}(T:ka κ a b){o:Array Keyed}{i j:Nat}(M:Mh κ a.toList b.toList o.toList.reverse i j)(h:i=0 ∨ j=0):Mg κ a.toList b.toList (hDn a b o i j).toList:=by
 rw [oj]
 exact M.done T.sa T.sb h
theorem ka.fb {a b:Array Keyed}(T:ka κ a b){o:Array Keyed}{i j:Nat}(M:Mh κ a.toList b.toList o.toList.reverse i j)(h:j=1):Mg κ a.toList b.toList (hFb a b o i j).toList:=by
 rw [om]
 exact M.first T.sa T.sb h T.hf
theorem eC (o:Array Keyed)(x:Keyed):(o.push x).toList.reverse=x::o.toList.reverse:=by simp
theorem lQ (o:Array Keyed)(a:Array Keyed)(t i:Nat):(o++(a.extract t i).reverse).toList.reverse=(a.toList.drop t).take (i - t)++o.toList.reverse:=by
 rw [AE,List.reverse_append,lP]
abbrev HSt:=Option (Array Keyed) × Nat × Nat × Array Keyed × Nat × Nat × Nat
def hq3 (a b:Array Keyed)(i g p q j:Nat)(o:Array Keyed):StateT SortSt Sem (ForInStep HSt):=do
 let e ← elem' a (i - 1)
 if (i - 1 == 0)=true then pure (.done (some (hDn a b (o.push e) (i - 1) j),i - 1,j,o.push e,g,p,q))
 else if (decide (p < 7) && decide (q < 7))=true then pure (.done (none,i - 1,j,o.push e,g,p,q)) else pure (.yield (none,i - 1,j,o.push e,g,p,q))
def hq2 (a b:Array Keyed)(j g p q i:Nat)(o:Array Keyed):StateT SortSt Sem (ForInStep HSt):=do
 let e ← elem' b (j - 1)
 if (j - 1 == 1)=true then pure (.done (some (hFb a b (o.push e) i (j - 1)),i,j - 1,o.push e,g,p,q))
 else do
  let f ← elem' a (i - 1)
  let y ← gal true f b 0 (j - 1) (j - 1 - 1)
  match y with
  | some t=>if j - 1 - t > 0 then (if (t == 1)=true then pure (.done (some (hFb a b (o.push e++(b.extract t (j - 1)).reverse) i t),i,t,o.push e++(b.extract t (j - 1)).reverse,g,p,j - 1 - t)) else if (t == 0)=true then pure (.done (some (hDn a b (o.push e++(b.extract t (j - 1)).reverse) i t),i,t,o.push e++(b.extract t (j - 1)).reverse,g,p,j - 1 - t)) else hq3 a b i g p (j - 1 - t) t (o.push e++(b.extract t (j - 1)).reverse)) else hq3 a b i g p (j - 1 - t) (j - 1) (o.push e)
  | _=>pure (.done (some (hDn a b (o.push e) i (j - 1)),i,j - 1,o.push e,g,p,q))
def hq1 (a b:Array Keyed)(i j:Nat)(o:Array Keyed)(p q g:Nat):StateT SortSt Sem (ForInStep HSt):=do
 smg g
 let e ← elem' b (j - 1)
 let y ← gal false e a 0 i (i - 1)
 match y with
 | some t=>if i - t > 0 then (if (t == 0)=true then pure (.done (some (hDn a b (o++(a.extract t i).reverse) t j),t,j,o++(a.extract t i).reverse,g,i - t,q)) else hq2 a b j g (i - t) q t (o++(a.extract t i).reverse)) else hq2 a b j g (i - t) q i o
 | _=>pure (.done (some (hDn a b o i j),i,j,o,g,p,q))
def Hst (κ:KeyKind)(a b:Array Keyed)(x:Nat)(st:SortSt)(r:ForInStep HSt)(st':SortSt):Prop:=match r with
 | .done c=>((∃ r z,c=(some r,z)∧Mg κ a.toList b.toList r.toList) ∨ ∃ i j o g p q,c=(none,i,j,o,g,p,q)∧Mh κ a.toList b.toList o.toList.reverse i j∧0 < i∧1 < j∧x+2+i+j≤a.size+b.size)∧Ok st st'
 | .yield c=>∃ i j o g p q,c=(none,i,j,o,g,p,q)∧Mh κ a.toList b.toList o.toList.reverse i j∧0 < i∧1 < j∧x+2+i+j≤a.size+b.size∧Ok st st'
theorem lS {st st':SortSt}{a b o:Array Keyed}{i j g p q x:Nat}{xa:Keyed}(T:ka κ a b)(M:Mh κ a.toList b.toList o.toList.reverse i j)(hi:0 < i)(hj:1 < j)(hx:x+2+i+j≤a.size+b.size)(ok:Ok st st')(exa:a.toList[i - 1]? = some xa)(hle:Lel κ (b.toList.take j) [xa]) :
  wpS (model prog w) A E s (hq3 a b i g p q j o) (Hst κ a b x st) st':=by
 unfold hq3
 refine wW (aO exa ?_)
 have M':Mh κ a.toList b.toList (o.push xa).toList.reverse (i - 1) j:=by
  rw [eC]
  exact Mh.pushA (by rw [show i - 1+1=i by omega];exact M) T.sa exa hle
 by_cases h0:i - 1=0
 ·refine aC (by simpa using h0) ?_
  exact w5 ⟨.inl ⟨_,_,rfl,T.dn M' (.inl h0)⟩,ok⟩
 ·refine aD (by simpa using h0) ?_
  by_cases hpq:(decide (p < 7) && decide (q < 7))=true
  ·refine aC hpq ?_
   exact w5 ⟨.inr ⟨_,_,_,_,_,_,rfl,M',by omega,hj,by omega⟩,ok⟩
  ·refine aD hpq ?_
   exact w5 ⟨_,_,_,_,_,_,rfl,M',by omega,hj,by omega,ok⟩
theorem lU {st st':SortSt}{a b o:Array Keyed}{i j g p q x:Nat}{xb:Keyed}(hO:κ.OneLt)(T:ka κ a b)(M:Mh κ a.toList b.toList o.toList.reverse i j)(hi:0 < i)(hj:1 < j)(hx:x+2+i+j≤a.size+b.size)(ok:Ok st st')(exb:b.toList[j - 1]? = some xb)(hle:Lel κ (a.toList.take i) [xb]) :
  wpS (model prog w) A E s (hq2 a b j g p q i o) (Hst κ a b x st) st':=by
 have la:a.toList.length=a.size:=wN
 have lb:b.toList.length=b.size:=wN
 have hia:=M.hi
 have hjb:=M.hj
 unfold hq2
 refine wW (aO exb ?_)
 have M':Mh κ a.toList b.toList (o.push xb).toList.reverse i (j - 1):=by
  rw [eC]
  exact Mh.pushB (by rw [show j - 1+1=j by omega];exact M) T.sb exb hle
 by_cases h1:j - 1=1
 ·refine aC (by simpa using h1) ?_
  exact w5 ⟨.inl ⟨_,_,rfl,T.fb M' h1⟩,ok⟩
 refine aD (by simpa using h1) ?_
 obtain ⟨xa,exa,gxa⟩:=T.atA (i:=i - 1) (by omega)
 refine wW (aO exa (wW (jy hO ok.tb gxa T.gb T.sb (by omega) (by omega) fun t ht t1 t2=>?_)))
 dsimp only
 have up:Lel κ (b.toList.take t) [xa]:=fun z hz y hy=>by
  rw [wH] at hy
  subst hy
  exact iY (t1 z hz)
 have MB:Mh κ a.toList b.toList ((b.toList.drop t).take (j - 1 - t)++(o.push xb).toList.reverse) i t:=Mh.pushBs T.sb (j - 1 - t) (by rw [show t+(j - 1 - t)=j - 1 by omega];exact M') fun y hy z hz=>by
  have:=gy T.sa exa (gx (t2 z hz))
  rw [show i - 1+1=i by omega] at this
  exact this y hy z (by simp)
 by_cases hk0:j - 1 - t > 0
 ·refine aC hk0 ?_
  have MB':Mh κ a.toList b.toList (o.push xb++(b.extract t (j - 1)).reverse).toList.reverse i t:=by rw [lQ];exact MB
  by_cases ht1:t=1
  ·refine aC (by simpa using ht1) ?_
   exact w5 ⟨.inl ⟨_,_,rfl,T.fb MB' ht1⟩,ok⟩
  ·refine aD (by simpa using ht1) ?_
   by_cases ht0:t=0
   ·refine aC (by simpa using ht0) ?_
    exact w5 ⟨.inl ⟨_,_,rfl,T.dn MB' (.inr ht0)⟩,ok⟩
   ·refine aD (by simpa using ht0) ?_
    exact lS T MB' hi (by omega) (by omega) ok exa up
 ·refine aD hk0 ?_
  have:t=j - 1:=by omega
  subst this
  exact lS T M' hi (by omega) (by omega) ok exa up
theorem lV {st st':SortSt}{a b o:Array Keyed}{i j g p q x:Nat}(hO:κ.OneLt)(T:ka κ a b)(M:Mh κ a.toList b.toList o.toList.reverse i j)(hi:0 < i)(hj:1 < j)(hx:x+2+i+j≤a.size+b.size)(ok:Ok st st') :
  wpS (model prog w) A E s (hq1 a b i j o p q g) (Hst κ a b x st) st':=by
 have la:a.toList.length=a.size:=wN
 have lb:b.toList.length=b.size:=wN
 have hia:=M.hi
 have hjb:=M.hj
 unfold hq1
 refine wW (gv ok fun st3 ok3=>?_)
 obtain ⟨xb,exb,gxb⟩:=T.atB (i:=j - 1) (by omega)
 refine wW (aO exb (wW (jy hO ok3.tb gxb T.ga T.sa hi (by omega) fun t ht t1 t2=>?_)))
 dsimp only
 have up:Lel κ (a.toList.take t) [xb]:=fun z hz y hy=>by
  rw [wH] at hy
  subst hy
  exact eB (t1 z hz)
 have MA:Mh κ a.toList b.toList ((a.toList.drop t).take (i - t)++o.toList.reverse) t j:=Mh.pushAs T.sa (i - t) (by rw [show t+(i - t)=i by omega];exact M) fun y hy z hz=>by
  have:=gy T.sb exb (eZ (t2 z hz))
  rw [show j - 1+1=j by omega] at this
  exact this y hy z (by simp)
 by_cases hk0:i - t > 0
 ·refine aC hk0 ?_
  have MA':Mh κ a.toList b.toList (o++(a.extract t i).reverse).toList.reverse t j:=by rw [lQ];exact MA
  by_cases ht0:t=0
  ·refine aC (by simpa using ht0) ?_
   exact w5 ⟨.inl ⟨_,_,rfl,T.dn MA' (.inl ht0)⟩,ok3⟩
  ·refine aD (by simpa using ht0) ?_
   exact lU hO T MA' (by omega) hj (by omega) ok3 exb up
 ·refine aD hk0 ?_
  have:t=i:=by omega
  subst this
  exact lU hO T M hi hj hx ok3 exb up
theorem qF {st:SortSt}{a b:Array Keyed}{Q:Array Keyed→SortSt→Prop}(hO:κ.OneLt)(hB:TB st)(T:ka κ a b)(h0:0 < a.size)(h1:0 < b.size)
  (hl:∀ z,a.toList[a.size - 1]? = some z→Lel κ b.toList [z])
  (hq:∀ r st',Ok st st'→Mg κ a.toList b.toList r.toList→Q r st'):wpS (model prog w) A E s (mhi a b) Q st:=by
 have la:a.toList.length=a.size:=wN
 have lb:b.toList.length=b.size:=wN
 rw [tm]
 refine wW (Bn (zx ⟨rfl,?_⟩))
 dsimp only
 obtain ⟨z0,ez0,gz0⟩:=T.atA (i:=a.size - 1) (by omega)
 refine wW (aO ez0 ?_)
 have M0:Mh κ a.toList b.toList (#[z0]:Array Keyed).toList.reverse (a.size - 1) b.size:=by
  have:Mh κ a.toList b.toList [z0] (a.size - 1) b.size:=Mh.pushA (R:=[]) (by
   rw [show a.size - 1+1=a.size by omega]
   refine ⟨?_,.nil,(fun x hx y hy=>by cases hy),(fun x hx y hy=>by cases hy),by omega,by omega⟩
   rw [zW (by omega),zW (by omega)]
   exact Ab _) T.sa ez0 (by rw [xv (by omega)];exact hl _ ez0)
  exact this
 by_cases ha1:a.size - 1=0
 ·refine aC (by simpa using ha1) ?_
  exact w5 (hq _ _ (.refl hB) (T.dn M0 (.inl ha1)))
 refine aD (by simpa using ha1) ?_
 by_cases hb1:b.size=1
 ·refine aC (by simpa using hb1) ?_
  exact w5 (hq _ _ (.refl hB) (T.fb M0 hb1))
 refine aD (by simpa using hb1) ?_
 refine wW (AO ?_)
 refine wW (yG (x5 (I:=fun x c st'=>∃ i j o g,c=(none,i,j,o,g)∧Mh κ a.toList b.toList o.toList.reverse i j∧0 < i∧1 < j∧x+1+i+j≤a.size+b.size∧Ok st st')
  (Q:=fun c st'=>∃ r z,c=(some r,z)∧Mg κ a.toList b.toList r.toList∧Ok st st') ?step ?fin ⟨_,_,_,_,rfl,M0,by omega,by omega,by omega,.refl hB⟩) ?post)
 case post =>
  rintro c st' ⟨r,z,rfl,m,ok⟩
  exact w5 (hq _ _ ok m)
 case fin =>
  rintro c st' ⟨i,j,o,g,rfl,M,hi,hj,hx,ok⟩
  omega
 case step =>
  rintro x c st1 _ hx ⟨i,j,o,g,rfl,M,hi,hj,hij,ok1⟩
  dsimp only
  refine wW (yG (x5 (I:=fun y c st'=>st'=st1∧∃ i j o p q,c=(none,i,j,o,p,q)∧Mh κ a.toList b.toList o.toList.reverse i j∧0 < i∧1 < j∧x+1+y+i+j≤a.size+b.size)
   (Q:=fun c st'=>st'=st1∧((∃ r z,c=(some r,z)∧Mg κ a.toList b.toList r.toList) ∨ ∃ i j o p q,c=(none,i,j,o,p,q)∧Mh κ a.toList b.toList o.toList.reverse i j∧0 < i∧1 < j∧x+2+i+j≤a.size+b.size)) ?step1 ?fin1 ⟨rfl,i,j,o,0,0,rfl,M,hi,hj,by omega⟩) ?post1)
  case fin1 =>
   rintro c st' ⟨rfl,i,j,o,p,q,rfl,M,hi,hj,hy⟩
   exact ⟨rfl,.inr ⟨i,j,o,p,q,rfl,M,hi,hj,by omega⟩⟩
  case step1 =>
   rintro y c st' _ hy ⟨rfl,i,j,o,p,q,rfl,M,hi,hj,hij⟩
   dsimp only
   have hia:=M.hi
   have hjb:=M.hj
   obtain ⟨xb,exb,gxb⟩:=T.atB (i:=j - 1) (by omega)
   obtain ⟨xa,exa,gxa⟩:=T.atA (i:=i - 1) (by omega)
   refine wW (aO exb (wW (aO exa (wW (js hO ok1.tb gxb gxa ?_)))))
   cases eb:κ.blt (kof κ xb) (kof κ xa) with
   | true =>
    simp only [yW]
    refine wW (aO exa ?_)
    have M':Mh κ a.toList b.toList (o.push xa).toList.reverse (i - 1) j:=by
     rw [eC]
     refine Mh.pushA (by rw [show i - 1+1=i by omega];exact M) T.sa exa ?_
     have:=gy T.sb exb (oh eb)
     rwa [show j - 1+1=j by omega] at this
    by_cases hi0:i - 1=0
    ·refine aC (by simpa using hi0) ?_
     exact w5 ⟨rfl,.inl ⟨_,_,rfl,T.dn M' (.inl hi0)⟩⟩
    ·refine aD (by simpa using hi0) ?_
     by_cases hpg:p+1≥g
     ·refine aC hpg ?_
      exact w5 ⟨rfl,.inr ⟨_,_,_,_,_,rfl,M',by omega,hj,by omega⟩⟩
     ·refine aD hpg ?_
      exact w5 ⟨rfl,_,_,_,_,_,rfl,M',by omega,hj,by omega⟩
   | false =>
    simp only [xk,yo]
    refine wW (aO exb ?_)
    have M':Mh κ a.toList b.toList (o.push xb).toList.reverse i (j - 1):=by
     rw [eC]
     refine Mh.pushB (by rw [show j - 1+1=j by omega];exact M) T.sb exb ?_
     have:=gy T.sa exa (not_lt eb)
     rwa [show i - 1+1=i by omega] at this
    by_cases hj1:j - 1=1
    ·refine aC (by simpa using hj1) ?_
     exact w5 ⟨rfl,.inl ⟨_,_,rfl,T.fb M' hj1⟩⟩
    ·refine aD (by simpa using hj1) ?_
     by_cases hqg:q+1≥g
     ·refine aC hqg ?_
      exact w5 ⟨rfl,.inr ⟨_,_,_,_,_,rfl,M',hi,by omega,by omega⟩⟩
     ·refine aD hqg ?_
      exact w5 ⟨rfl,_,_,_,_,_,rfl,M',hi,by omega,by omega⟩
  case post1 =>
   rintro c st' ⟨rfl,⟨r,z,rfl,m⟩ | ⟨i,j,o,p,q,rfl,M,hi,hj,hij⟩⟩
   ·exact w5 ⟨r,_,rfl,m,ok1⟩
   dsimp only
   refine wW (Bn (zx ⟨rfl,?_⟩))
   refine wW (yG (x5 (I:=fun y c st'=>∃ i j o g p q,c=(none,i,j,o,g,p,q)∧Mh κ a.toList b.toList o.toList.reverse i j∧0 < i∧1 < j∧x+2+i+j≤a.size+b.size∧Ok st st')
    (Q:=fun c st'=>((∃ r z,c=(some r,z)∧Mg κ a.toList b.toList r.toList) ∨ ∃ i j o g p q,c=(none,i,j,o,g,p,q)∧Mh κ a.toList b.toList o.toList.reverse i j∧0 < i∧1 < j∧x+2+i+j≤a.size+b.size)∧Ok st st') ?step2 ?fin2 ⟨i,j,o,_,p,q,rfl,M,hi,hj,hij,ok1⟩) ?post2)
   case fin2 =>
    rintro c st' ⟨i,j,o,g,p,q,rfl,M,hi,hj,hij,ok⟩
    exact ⟨.inr ⟨i,j,o,g,p,q,rfl,M,hi,hj,hij⟩,ok⟩
   case post2 =>
    rintro c st' ⟨⟨r,z,rfl,m⟩ | ⟨i,j,o,g,p,q,rfl,M,hi,hj,hij⟩,ok⟩
    ·exact w5 ⟨r,_,rfl,m,ok⟩
    ·dsimp only
     exact wW (gv ok fun st'' ok'=>w5 ⟨i,j,o,_,rfl,M,hi,hj,by omega,ok'⟩)
   case step2 =>
    rintro y c st2 _ hy ⟨i,j,o,g,p,q,rfl,M,hi,hj,hij,ok2⟩
    dsimp only
    change wpS _ _ _ _ (if g > 1 then hq1 a b i j o p q (g - 1) else hq1 a b i j o p q g) _ _
    refine yG (Q:=Hst κ a b x st) ?_ fun r st' h=>?_
    rotate_left
    ·cases r with
     | done c=>exact h
     | yield c=>exact h
    by_cases hg:g > 1
    ·refine aC hg ?_
     exact lV hO T M hi hj hij ok2
    ·refine aD hg ?_
     exact lV hO T M hi hj hij ok2
end
end Ts
namespace Ts
open PySem PyProof.Rows
variable {κ:KeyKind}
def SrI (κ:KeyKind)(xs:Array Keyed)(lo hi:Nat):Prop:=∀ i j,lo≤i→i≤j→j < hi→κ.kle (KK κ xs i) (KK κ xs j)
def NiI (κ:KeyKind)(xs:Array Keyed)(lo hi:Nat):Prop:=∀ i j,lo≤i→i≤j→j < hi→κ.kle (KK κ xs j) (KK κ xs i)
structure Rp (lo hi:Nat) (xs ys:Array Keyed):Prop where
 pm:ys.Perm xs
 out:∀ k,(k < lo ∨ hi≤k)→ys[k]? = xs[k]?
theorem Rp.refl (lo hi:Nat)(xs:Array Keyed):Rp lo hi xs xs:=⟨Bl _,fun _ _=>rfl⟩
theorem Rp.trans {lo hi:Nat}{xs ys zs:Array Keyed}(h:Rp lo hi xs ys)(g:Rp lo hi ys zs):Rp lo hi xs zs:=⟨g.pm.trans h.pm,fun k hk=>(g.out k hk).trans (h.out k hk)⟩
theorem Rp.size {lo hi:Nat}{xs ys:Array Keyed}(h:Rp lo hi xs ys):ys.size=xs.size:=h.pm.size_eq
theorem Rp.mirror {lo hi i j:Nat}{xs:Array Keyed}(h1:lo≤i)(h2:j≤hi)(hj:j≤xs.size):Rp lo hi xs (mirror xs i j ((j - i) / 2)):=by
 refine ⟨mirror_perm _ _ _ _,fun k hk=>?_⟩
 rw [getElem?_mirror_all hj,if_neg (by omega)]
theorem Rp.bubble {lo hi src d:Nat}{xs:Array Keyed}(h1:lo+d≤src)(h2:src < hi)(hs:src < xs.size):Rp lo hi xs (bubble xs src d):=by
 refine ⟨bubble_perm _ _ _,fun k hk=>?_⟩
 rw [getElem?_bubble hs d (by omega),if_neg (by omega),if_neg (by omega)]
structure Rs (κ:KeyKind) (lo hi:Nat) (st st':SortSt):Prop where
 tb:TB st'
 pd:pendingOf st'=pendingOf st
 gd:∀ x∈(arrOf st').toList,Gd κ x
 rp:Rp lo hi (arrOf st) (arrOf st')
theorem Rs.refl {lo hi:Nat}{st:SortSt}(h:TB st)(g:∀ x∈(arrOf st).toList,Gd κ x):Rs κ lo hi st st:=⟨h,rfl,g,.refl _ _ _⟩
theorem Rs.arr {lo hi:Nat}{st st':SortSt}(h:Rs κ lo hi st st'){ys:Array Keyed}(r:Rp lo hi (arrOf st') ys):Rs κ lo hi st (setArr st' ys) :=
 ⟨⟨h.tb.kind,h.tb.failed⟩,h.pd,fun x hx=>h.gd x ((yL.mp r.pm).mem_iff.mp hx),h.rp.trans r⟩
theorem tq {xs:Array Keyed}(g:∀ x∈xs.toList,Gd κ x){i:Nat}(hi:i < xs.size):∃ x p,xs[i]? = some (x,p)∧κ.keyOf x=some (KK κ xs i):=by
 have e:xs[i]? = some xs[i]:=getElem?_pos xs i hi
 refine ⟨xs[i].1,xs[i].2,e,?_⟩
 have:=(g xs[i] (by simp)).eq
 rw [this]
 unfold KK kof
 rw [e]
section
variable {prog:Program} {w:World} {A:Around} {E:Value→Shared→Prop} {s:Shared}
theorem dN {st:SortSt}{i j:Nat}{Q:Option Bool→SortSt→Prop}(hO:κ.OneLt)(hB:TB st)(g:∀ x∈(arrOf st).toList,Gd κ x)(hi:i < (arrOf st).size)(hj:j < (arrOf st).size)
  (h:Q (some (κ.blt (KK κ (arrOf st) i) (KK κ (arrOf st) j))) st):wpS (model prog w) A E s (ltAt' i j) Q st:=by
 obtain ⟨x,p,e1,k1⟩:=tq g hi
 obtain ⟨y,q,e2,k2⟩:=tq g hj
 exact wpS_ltAtK hO hB.kind e1 e2 k1 k2 h
def vd (lo a nr:Nat):StateT SortSt Sem (Option Nat):=do
 let mut n:=a
 for _ in [a:nr] do
  let some sm ← ltAt' (lo+n) (lo+n - 1) | return none
  if sm then break
  n:=n+1
 return some n
def qG (lo a nr:Nat):StateT SortSt Sem (Option Nat):=do
 reverseSlice' lo (lo+a)
 vd lo a nr
def ve (lo a nr:Nat):StateT SortSt Sem (Option Nat):=do
 rule "list.sort.descending-run"
 let mut n:=a+1
 let mut e:=0
 for _ in [a+1:nr] do
  let some sm ← ltAt' (lo+n) (lo+n - 1) | return none
  if sm then
   if e > 0 then reverseSlice' (lo+n - (e+1)) (lo+n)
   e:=0
  else
   let some lg ← ltAt' (lo+n - 1) (lo+n) | return none
   if lg then break
   e:=e+1
  n:=n+1
 if e > 0 then reverseSlice' (lo+n - (e+1)) (lo+n)
 qG lo n nr
theorem lX {xs:Array Keyed}{lo x:Nat}(a1:SrI κ xs lo (lo+x))(h1:1≤x)(e:κ.blt (KK κ xs (lo+x)) (KK κ xs (lo+x - 1))=false):SrI κ xs lo (lo+(x+1)):=fun i j hi hij hj=>by
 by_cases q:j < lo+x
 ·exact a1 i j hi hij q
 ·have:j=lo+x:=by omega
  subst this
  by_cases q2:i=lo+x
  ·subst q2;exact yj _
  ·exact y8 (a1 i (lo+x - 1) hi (by omega) (by omega)) e
theorem oo {st:SortSt}{lo a nr:Nat}{Q:Option Nat→SortSt→Prop}(hO:κ.OneLt)(hB:TB st)(g:∀ x∈(arrOf st).toList,Gd κ x)(h1:1≤a)(h2:a≤nr)(h3:lo+nr≤(arrOf st).size)(hs:SrI κ (arrOf st) lo (lo+a))
  (h:∀ n,a≤n→n≤nr→SrI κ (arrOf st) lo (lo+n)→Q (some n) st):wpS (model prog w) A E s (vd lo a nr) Q st:=by
 unfold vd
 refine wW (yG (x5 (I:=fun x c st'=>st'=st∧c=(none,x)∧SrI κ (arrOf st) lo (lo+x))
  (Q:=fun c st'=>st'=st∧∃ n,c=(none,n)∧a≤n∧n≤nr∧SrI κ (arrOf st) lo (lo+n)∧(n=nr ∨ κ.klt (KK κ (arrOf st) (lo+n)) (KK κ (arrOf st) (lo+n - 1)))) ?step ?fin ⟨rfl,rfl,hs⟩) ?post)
 case fin =>
  rintro c st' ⟨rfl,rfl,a1⟩
  have e:max a nr=nr:=by omega
  rw [e] at a1 ⊢
  exact ⟨rfl,nr,rfl,by omega,wJ _,a1,.inl rfl⟩
 case step =>
  rintro x c st' hx1 hx2 ⟨rfl,rfl,a1⟩
  dsimp only
  refine wW (dN hO hB g (by omega) (by omega) ?_)
  cases e:κ.blt (KK κ (arrOf st') (lo+x)) (KK κ (arrOf st') (lo+x - 1)) with
  | true =>
   simp only [yW]
   exact w5 ⟨rfl,x,rfl,hx1,by omega,a1,.inr e⟩
  | false =>
   simp only [xk,yo]
   exact w5 ⟨rfl,rfl,lX a1 (by omega) e⟩
 case post =>
  rintro c st' ⟨rfl,n,rfl,a1,a2,a3,a4⟩
  exact w5 (h n a1 a2 a3)
theorem ik {st st':SortSt}{lo a nr:Nat}{Q:Option Nat→SortSt→Prop}(hO:κ.OneLt)(R:Rs κ lo (lo+nr) st st')(h1:1≤a)(h2:a≤nr)(h3:lo+nr≤(arrOf st).size)(hs:NiI κ (arrOf st') lo (lo+a))
  (h:∀ n st'',1≤n→n≤nr→Rs κ lo (lo+nr) st st''→SrI κ (arrOf st'') lo (lo+n)→Q (some n) st''):wpS (model prog w) A E s (qG lo a nr) Q st':=by
 have hz:=R.rp.size
 unfold qG
 refine wW (wpS_reverse ?_)
 have R':Rs κ lo (lo+nr) st (setArr st' (mirror (arrOf st') lo (lo+a) ((lo+a - lo) / 2))):=R.arr (Rp.mirror (wJ _) (by omega) (by omega))
 refine oo hO R'.tb R'.gd h1 h2 (by rw [R'.rp.size];exact h3) (fun i j hi hij hj=>?_) fun n a1 a2 a3=>h n _ (by omega) a2 R' a3
 show κ.kle (KK κ (mirror (arrOf st') lo (lo+a) ((lo+a - lo) / 2)) i) (KK κ (mirror (arrOf st') lo (lo+a) ((lo+a - lo) / 2)) j)
 rw [KK_mirror (by omega),KK_mirror (by omega),if_pos (by omega),if_pos (by omega)]
 exact hs _ _ (by omega) (by omega) (by omega)
theorem jz {st st':SortSt}{lo a nr:Nat}{Q:Option Nat→SortSt→Prop}(hO:κ.OneLt)(R:Rs κ lo (lo+nr) st st')(h2:a+1≤nr)(h3:lo+nr≤(arrOf st).size)(hs:NiI κ (arrOf st') lo (lo+(a+1)))
  (h:∀ n st'',1≤n→n≤nr→Rs κ lo (lo+nr) st st''→SrI κ (arrOf st'') lo (lo+n)→Q (some n) st''):wpS (model prog w) A E s (ve lo a nr) Q st':=by
 unfold ve
 refine wW (Bn (zx ⟨rfl,?_⟩))
 dsimp only
 refine wW (yG (x5 (I:=fun x c st''=>∃ e,c=(none,x,e)∧Rs κ lo (lo+nr) st st''∧NiI κ (arrOf st'') lo (lo+x)∧e+1≤x∧∀ i,lo+x - (e+1)≤i→i < lo+x→KK κ (arrOf st'') i=KK κ (arrOf st'') (lo+x - 1))
  (Q:=fun c st''=>∃ x e,c=(none,x,e)∧a+1≤x∧x≤nr∧Rs κ lo (lo+nr) st st''∧NiI κ (arrOf st'') lo (lo+x)∧e+1≤x∧∀ i,lo+x - (e+1)≤i→i < lo+x→KK κ (arrOf st'') i=KK κ (arrOf st'') (lo+x - 1)) ?step ?fin ⟨0,rfl,R,hs,by omega,fun i h1 h2=>by congr 1;omega⟩) ?post)
 case fin =>
  rintro c st'' ⟨e,rfl,R,hs,he,hk⟩
  have ex:max (a+1) nr=nr:=by omega
  rw [ex] at hs he hk ⊢
  exact ⟨nr,e,rfl,h2,wJ _,R,hs,he,hk⟩
 case post =>
  rintro c st'' ⟨x,e,rfl,hx1,hx2,R,hs,he,hk⟩
  have hz:=R.rp.size
  dsimp only
  by_cases h0:e > 0
  ·refine aC h0 ?_
   refine wW (wpS_reverse ?_)
   refine ik hO (R.arr (Rp.mirror (by omega) (by omega) (by omega))) (by omega) hx2 h3 (fun i j hi hij hj=>?_) h
   show κ.kle (KK κ (mirror (arrOf st'') _ _ _) j) (KK κ (mirror (arrOf st'') _ _ _) i)
   rw [zU (by omega) hk,zU (by omega) hk]
   exact hs i j hi hij hj
  ·refine aD h0 ?_
   exact ik hO R (by omega) hx2 h3 hs h
 case step =>
  rintro x c st'' hx1 hx2 ⟨e,rfl,R,hs,he,hk⟩
  have hz:=R.rp.size
  dsimp only
  refine wW (dN hO R.tb R.gd (by omega) (by omega) ?_)
  cases e1:κ.blt (KK κ (arrOf st'') (lo+x)) (KK κ (arrOf st'') (lo+x - 1)) with
  | true =>
   simp only [yW]
   have nx:∀ xs:Array Keyed,(∀ k,KK κ xs k=KK κ (arrOf st'') k)→NiI κ xs lo (lo+(x+1)):=fun xs ek i j hi hij hj=>by
    rw [ek,ek]
    by_cases q:j < lo+x
    ·exact hs i j hi hij q
    ·have:j=lo+x:=by omega
     subst this
     by_cases q2:i=lo+x
     ·subst q2;exact yj _
     ·exact y8 (zA e1) (hs i (lo+x - 1) hi (by omega) (by omega))
   by_cases h0:e > 0
   ·refine aC h0 ?_
    exact wW (wpS_reverse (w5 ⟨0,rfl,R.arr (Rp.mirror (by omega) (by omega) (by omega)),nx _ (zU (by omega) hk),by omega,fun i h1 h2=>by congr 1;omega⟩))
   ·refine aD h0 ?_
    exact w5 ⟨0,rfl,R,nx _ fun _=>rfl,by omega,fun i h1 h2=>by congr 1;omega⟩
  | false =>
   simp only [xk,yo]
   refine wW (dN hO R.tb R.gd (by omega) (by omega) ?_)
   cases e2:κ.blt (KK κ (arrOf st'') (lo+x - 1)) (KK κ (arrOf st'') (lo+x)) with
   | true =>
    simp only [yW]
    exact w5 ⟨x,e,rfl,hx1,by omega,R,hs,he,hk⟩
   | false =>
    simp only [xk,yo]
    have ee:KK κ (arrOf st'') (lo+x)=KK κ (arrOf st'') (lo+x - 1):=KeyOrd.kle_antisymm e2 e1
    refine w5 ⟨e+1,rfl,R,fun i j hi hij hj=>?_,by omega,fun i h1 h2=>?_⟩
    ·by_cases q:j < lo+x
     ·exact hs i j hi hij q
     ·have:j=lo+x:=by omega
      subst this
      by_cases q2:i=lo+x
      ·subst q2;exact yj _
      ·rw [ee];exact hs i (lo+x - 1) hi (by omega) (by omega)
    ·rw [show lo+(x+1) - 1=lo+x by omega]
     by_cases q:i=lo+x
     ·subst q;rfl
     ·rw [ee];exact hk i (by omega) (by omega)
theorem oq {st:SortSt}{lo nr:Nat}{Q:Option Nat→SortSt→Prop}(hO:κ.OneLt)(hB:TB st)(g:∀ x∈(arrOf st).toList,Gd κ x)(h1:1≤nr)(h3:lo+nr≤(arrOf st).size)
  (h:∀ n st',1≤n→n≤nr→Rs κ lo (lo+nr) st st'→SrI κ (arrOf st') lo (lo+n)→Q (some n) st'):wpS (model prog w) A E s (countRun' lo nr) Q st:=by
 have R:Rs κ lo (lo+nr) st st:=.refl hB g
 rw [countRun'_eq]
 change wpS _ _ _ _ (do
  let mut n:=1
  for _ in [1:nr] do
   let some sm ← ltAt' (lo+n) (lo+n - 1) | return none
   if sm then break
   n:=n+1
  if n == nr then return some n
  if n > 1 then
   let some rs ← ltAt' lo (lo+n - 1) | return none
   if rs then return some n
   reverseSlice' lo (lo+n)
  ve lo n nr) _ _
 refine wW (yG (x5 (I:=fun x c st'=>st'=st∧c=(none,x)∧SrI κ (arrOf st) lo (lo+x))
  (Q:=fun c st'=>st'=st∧∃ n,c=(none,n)∧1≤n∧n≤nr∧SrI κ (arrOf st) lo (lo+n)∧(n=nr ∨ κ.klt (KK κ (arrOf st) (lo+n)) (KK κ (arrOf st) (lo+n - 1)))) ?step ?fin ⟨rfl,rfl,fun i j hi hij hj=>by have:i=j:=(by omega);subst this;exact yj _⟩) ?post)
 case fin =>
  rintro c st' ⟨rfl,rfl,a1⟩
  have e:max 1 nr=nr:=by omega
  rw [e] at a1 ⊢
  exact ⟨rfl,nr,rfl,by omega,wJ _,a1,.inl rfl⟩
 case step =>
  rintro x c st' hx1 hx2 ⟨rfl,rfl,a1⟩
  dsimp only
  refine wW (dN hO hB g (by omega) (by omega) ?_)
  cases e:κ.blt (KK κ (arrOf st') (lo+x)) (KK κ (arrOf st') (lo+x - 1)) with
  | true =>
   simp only [yW]
   exact w5 ⟨rfl,x,rfl,hx1,by omega,a1,.inr e⟩
  | false =>
   simp only [xk,yo]
   exact w5 ⟨rfl,rfl,lX a1 (by omega) e⟩
 rintro c st' ⟨rfl,n,rfl,a1,a2,a3,a4⟩
 dsimp only
 by_cases hn:n=nr
 ·refine aC (by simpa using hn) ?_
  exact w5 (h n st' a1 a2 R a3)
 ·refine aD (by simpa using hn) ?_
  have lt:κ.klt (KK κ (arrOf st') (lo+n)) (KK κ (arrOf st') (lo+n - 1)):=a4.resolve_left hn
  by_cases hg:n > 1
  ·refine aC hg ?_
   refine wW (dN hO hB g (by omega) (by omega) ?_)
   cases e:κ.blt (KK κ (arrOf st') lo) (KK κ (arrOf st') (lo+n - 1)) with
   | true =>
    simp only [yW]
    exact w5 (h n st' a1 a2 R a3)
   | false =>
    simp only [xk,yo]
    refine wW (wpS_reverse ?_)
    have same:∀ i,lo≤i→i < lo+n→KK κ (arrOf st') i=KK κ (arrOf st') (lo+n - 1):=fun i hi1 hi2=>by
     have b1:=a3 i (lo+n - 1) hi1 (by omega) (by omega)
     have b2:=a3 lo i (wJ _) hi1 hi2
     exact KeyOrd.kle_antisymm b1 (y8 e b2)
    refine jz hO (R.arr (Rp.mirror (wJ _) (by omega) (by omega))) (by omega) h3 (fun i j hi hij hj=>?_) h
    show κ.kle (KK κ (mirror (arrOf st') _ _ _) j) (KK κ (mirror (arrOf st') _ _ _) i)
    rw [zU (by omega) same,zU (by omega) same]
    by_cases q:j < lo+n
    ·rw [same i hi (by omega),same j (by omega) q]
     exact yj _
    ·have:j=lo+n:=by omega
     subst this
     by_cases q2:i=lo+n
     ·subst q2;exact yj _
     ·rw [same i hi (by omega)]
      exact zA lt
  ·refine aD hg ?_
   have:n=1:=by omega
   subst this
   refine jz hO R (by omega) h3 (fun i j hi hij hj=>?_) h
   by_cases q2:i=j
   ·subst q2;exact yj _
   ·have e1:i=lo:=by omega
    have e2:j=lo+1:=by omega
    subst e1 e2
    exact zA lt
end
end Ts
namespace Ts
open PySem PyProof.Rows
variable {κ:KeyKind}
section
variable {prog:Program} {w:World} {A:Around} {E:Value→Shared→Prop} {s:Shared}
theorem ou {st:SortSt}{lo n ok:Nat}{Q:Bool→SortSt→Prop}(hO:κ.OneLt)(hB:TB st)(g:∀ x∈(arrOf st).toList,Gd κ x)(hn:lo+n≤(arrOf st).size)(hok:ok≤n)(hs:SrI κ (arrOf st) lo (lo+ok))
  (h:∀ st',Rs κ lo (lo+n) st st'→SrI κ (arrOf st') lo (lo+n)→Q true st'):wpS (model prog w) A E s (binarySort' lo n ok) Q st:=by
 rw [binarySort'_eq]
 refine wW (yG (x5 (I:=fun y c st'=>c=(none,())∧Rs κ lo (lo+n) st st'∧SrI κ (arrOf st') lo (lo+min y n))
  (Q:=fun c st'=>c=(none,())∧Rs κ lo (lo+n) st st'∧SrI κ (arrOf st') lo (lo+n)) ?step ?fin ?init) ?post)
 case post =>
  rintro c st' ⟨rfl,R,hs'⟩
  exact w5 (h st' R hs')
 case init =>
  refine ⟨rfl,.refl hB g,fun i j hi hij hj=>?_⟩
  by_cases e:i=j
  ·subst e;exact yj _
  ·exact hs i j hi hij (by omega)
 case fin =>
  rintro c st' ⟨hc,R,hs'⟩
  rw [show min (max (max ok 1) n) n=n by omega] at hs'
  exact ⟨hc,R,hs'⟩
 case step =>
  rintro y c st' hy1 hy2 ⟨rfl,R,hs'⟩
  have hz:=R.rp.size
  rw [show min y n=y by omega] at hs'
  refine wW (yG (x5 (I:=fun x c st''=>st''=st'∧∃ l r,c=(none,l,r)∧l≤r∧r≤y∧r - l≤y - x ∧
    (∀ i,lo≤i→i < lo+l→κ.kle (KK κ (arrOf st') i) (KK κ (arrOf st') (lo+y)))∧(∀ i,lo+r≤i→i < lo+y→κ.klt (KK κ (arrOf st') (lo+y)) (KK κ (arrOf st') i)))
   (Q:=fun c st''=>st''=st'∧∃ l r,c=(none,l,r)∧l≤y ∧
    (∀ i,lo≤i→i < lo+l→κ.kle (KK κ (arrOf st') i) (KK κ (arrOf st') (lo+y)))∧(∀ i,lo+l≤i→i < lo+y→κ.klt (KK κ (arrOf st') (lo+y)) (KK κ (arrOf st') i))) ?istep ?ifin ?iinit) ?ipost)
  case iinit=>exact ⟨rfl,0,y,rfl,by omega,by omega,by omega,fun i h1 h2=>by omega,fun i h1 h2=>by omega⟩
  case ifin =>
   rintro c st'' ⟨rfl,l,r,rfl,q1,q2,q3,q4,q5⟩
   have:l=r:=by omega
   subst this
   exact ⟨rfl,l,l,rfl,q2,q4,q5⟩
  case istep =>
   rintro x c st'' _ hx ⟨rfl,l,r,rfl,q1,q2,q3,q4,q5⟩
   dsimp only
   by_cases hge:l≥r
   ·refine aC hge ?_
    have:l=r:=by omega
    subst this
    exact w5 ⟨rfl,l,l,rfl,q2,q4,q5⟩
   ·refine aD hge ?_
    refine wW (dN hO R.tb R.gd (by omega) (by omega) ?_)
    cases e:κ.blt (KK κ (arrOf st'') (lo+y)) (KK κ (arrOf st'') (lo+(l+r) / 2)) with
    | true =>
     simp only [yW]
     refine w5 ⟨rfl,l,(l+r) / 2,rfl,by omega,by omega,by omega,q4,fun i h1 h2=>?_⟩
     exact KeyOrd.klt_of_klt_of_kle e (hs' _ _ (by omega) h1 h2)
    | false =>
     simp only [xk,yo]
     refine w5 ⟨rfl,(l+r) / 2+1,r,rfl,by omega,by omega,by omega,fun i h1 h2=>?_,q5⟩
     exact y8 (hs' i (lo+(l+r) / 2) h1 (by omega) (by omega)) (show κ.kle _ _ from e)
  case ipost =>
   rintro c st'' ⟨rfl,l,r,rfl,hl,q4,q5⟩
   show wpS _ _ _ _ (do moveDown' (lo+y) (lo+l);pure (ForInStep.yield (none,()))) _ _
   rw [moveDown'_eq]
   have hk:lo+y < (arrOf st'').size:=by omega
   refine wW (zN (w5 ⟨rfl,R.arr (Rp.bubble (by omega) (by omega) hk),?_⟩))
   rw [show min (y+1) n=y+1 by omega]
   intro i j hi hij hj
   show κ.kle (KK κ (bubble (arrOf st'') (lo+y) (lo+y - (lo+l))) i) (KK κ (bubble (arrOf st'') (lo+y) (lo+y - (lo+l))) j)
   rw [KK_bubble hk (by omega),KK_bubble hk (by omega),show lo+y - (lo+y - (lo+l))=lo+l by omega]
   repeat' split
   all_goals first
    | (exfalso;omega)
    | exact yj _
    | exact q4 _ (by omega) (by omega)
    | exact zA (q5 _ (by omega) (by omega))
    | exact hs' _ _ (by omega) (by omega) (by omega)
end
theorem lY:∀ (r:List Keyed) (z b:Nat) (arr:Array Keyed) (X Y Z:List Keyed),arr.toList=X++(Y++Z)→X.length=z+b→Y.length=r.length →
  ((r.zipIdx b).foldl (fun a (p,j)=>a.setIfInBounds (z+j) p) arr).toList=X++(r++Z)
 | [],z,b,arr,X,Y,Z,e,h1,h2=>by
  rw [yZ.mp h2] at e
  exact e
 | p::r,z,b,arr,X,Y,Z,e,h1,h2=>by
  cases Y with
  | nil=>simp at h2
  | cons y Y =>
   rw [List.zipIdx_cons,List.foldl_cons]
   have:=lY r z (b+1) (arr.setIfInBounds (z+b) p) (X++[p]) Y Z (by
    rw [AG,e,← h1,List.set_append_right _ _ (wJ _),BA]
    simp) (by simp [h1];omega) (by simpa using h2)
   rw [this]
   simp
def mAt (i:Nat):StateT SortSt Sem Bool:=do
 let u ← get
 let (some (za,la,pw),some (zb,lb,_)):=((pendingOf u)[i]?,(pendingOf u)[i+1]?) | unsupported "internal:list.sort.pending"
 set (setPending u (((pendingOf u).setIfInBounds i (za,la+lb,pw)).eraseIdxIfInBounds (i+1)))
 let some c ← gal false (← elem' (arrOf u) zb) (arrOf u) za la 0 | return false
 let (za,la):=(za+c,la - c)
 if la == 0 then return true
 let some lb ← gal true (← elem' (arrOf u) (za+la - 1)) (arrOf u) zb lb (lb - 1) | return false
 if lb == 0 then return true
 let x:=(arrOf u).extract za zb
 let y:=(arrOf u).extract zb (zb+lb)
 let out ← if la≤lb then mlo x y else mhi x y
 modify fun v=>setArr v (out.toList.zipIdx.foldl (fun a (p,j)=>a.setIfInBounds (za+j) p) (arrOf v))
 return (failedOf (← get)).isNone
theorem tu (i:Nat):mergeAt' i=mAt i:=rfl
end Ts
namespace Ts
open PySem PyProof.Rows
variable {κ:KeyKind}
theorem Lel.sym_take {l:List Keyed}(h:Srt κ l)(i:Nat):Lel κ (l.take i) (l.drop i):=by
 have:Srt κ (l.take i++l.drop i):=by rw [xo];exact h
 exact (ba.mp this).2.2
theorem Lel.memL {l l' m:List Keyed}(h:Lel κ l m)(hs:∀ x∈l',x∈l):Lel κ l' m:=fun x hx y hy=>h x (hs x hx) y hy
theorem Lel.memR {l m m':List Keyed}(h:Lel κ l m)(hs:∀ x∈m',x∈m):Lel κ l m':=fun x hx y hy=>h x hx y (hs y hy)
theorem Lel.mid {l m:List Keyed}{x:Keyed}(h:Lel κ l [x])(g:Lel κ [x] m):Lel κ l m:=fun a ha b hb=>dg (h a ha x (wH.mpr rfl)) (g x (wH.mpr rfl) b hb)
theorem gz {l:List Keyed}{x:Keyed}(h:Srt κ l)(e:l[0]? = some x):Lel κ [x] l:=fun a ha y hy=>by
 rw [wH] at ha
 subst ha
 obtain ⟨i,hi⟩:=yh hy
 exact h.at (xE _) e hi
theorem lZ {l:List Keyed}{x:Keyed}(h:Srt κ l)(e:l[l.length - 1]? = some x):Lel κ l [x]:=fun a ha y hy=>by
 rw [wH] at hy
 subst hy
 obtain ⟨i,hi⟩:=yh ha
 have:=(wG.mp hi).1
 exact h.at (by omega) hi e
theorem qH {l m n:List Keyed}:Lel κ (l++m) n ↔ Lel κ l n∧Lel κ m n :=
 ⟨fun h=>⟨h.memL fun x hx=>xp _ hx,h.memL fun x hx=>wU _ hx⟩,fun h x hx=>(xm.mp hx).elim (h.1 x) (h.2 x)⟩
theorem jA {l m n:List Keyed}:Lel κ l (m++n) ↔ Lel κ l m∧Lel κ l n :=
 ⟨fun h=>⟨h.memR fun x hx=>xp _ hx,h.memR fun x hx=>wU _ hx⟩,fun h x hx y hy=>(xm.mp hy).elim (h.1 x hx y) (h.2 x hx y)⟩
theorem tw {A B r:List Keyed}{c m:Nat}{b0 al:Keyed}(sA:Srt κ A)(sB:Srt κ B)(e0:B[0]? = some b0)(el:A[A.length - 1]? = some al)
  (h1:Lel κ (A.take c) [b0]) (h2:Lel κ [al] (B.drop m)) (M:Mg κ (A.drop c) (B.take m) r):Mg κ A B (A.take c++(r++B.drop m)):=by
 have mm:∀ x,x∈r ↔ x∈A.drop c++B.take m:=fun x=>M.1.mem_iff
 refine ⟨?_,ba.mpr ⟨sA.take c,ba.mpr ⟨M.2,sB.drop m,?_⟩,jA.mpr ⟨?_,?_⟩⟩⟩
 ·have:(A.take c++(r++B.drop m)).Perm (A.take c++((A.drop c++B.take m)++B.drop m)):=yA _ (M.1.append_right _)
  refine this.trans (List.Perm.of_eq ?_)
  rw [wY,← wY,xo,xo]
 ·refine Lel.memL (l:=A.drop c++B.take m) (qH.mpr ⟨?_,Lel.sym_take sB m⟩) fun x hx=>(mm x).mp hx
  exact Lel.mid ((lZ sA el).memL fun x hx=>yg hx) h2
 ·refine Lel.memR (m:=A.drop c++B.take m) (jA.mpr ⟨Lel.sym_take sA c,?_⟩) fun x hx=>(mm x).mp hx
  exact Lel.mid h1 ((gz sB e0).memR fun x hx=>xX hx)
 ·exact Lel.mid h1 ((gz sB e0).memR fun x hx=>yg hx)
section
variable {prog:Program} {w:World} {A:Around} {E:Value→Shared→Prop} {s:Shared}
theorem qI {st u:SortSt}{Q:PUnit→SortSt→Prop}(h:Q ⟨⟩ u):wpS (model prog w) A E s (set u:StateT SortSt Sem PUnit) Q st:=by
 unfold wpS
 rw [StateT.run_set]
 exact wI ⟨rfl,h⟩
theorem jB {st:SortSt}{lf:Bool}{key:Keyed}{arr:Array Keyed}{P M S:List Keyed}{z n h:Nat}{Q:Option Nat→SortSt→Prop}(hO:κ.OneLt)(hB:TB st)(hk:Gd κ key)(hg:∀ x∈arr.toList,Gd κ x)(ea:arr.toList=P++(M++S))(lp:P.length=z)(ln:M.length=n)(sa:Srt κ M)(hh:h < n)
  (hq:∀ k,k≤n→(∀ x∈M.take k,bdB κ lf (kof κ key) (kof κ x)=true)→(∀ x∈M.drop k,bdB κ lf (kof κ key) (kof κ x)=false)→Q (some k) st) :
  wpS (model prog w) A E s (gal lf key arr z n h) Q st:=by
 have ga:∀ i,i < n→arr[z+i]? = M[i]?:=fun i hi=>by
  rw [← xU,ea,xy (by omega),xW (by omega)]
  congr 1
  omega
 have gm:∀ x∈M,Gd κ x:=fun x hx=>hg x (by rw [ea];exact wU _ (xp _ hx))
 refine iX hO hB hk (fun t=>match M[t]? with | some p=>bdB κ lf (kof κ key) (kof κ p) | none=>false) hh (fun t ht=>?_) (fun t u htu hu hb=>?_) (fun k hk' h1 h2=>hq k hk' (fun x hx=>?_) fun x hx=>?_)
 ·have hlt:t < M.length:=by omega
  have e:=wF hlt
  exact ⟨M[t],by rw [ga t ht,e],gm _ (xM _),by rw [e]⟩
 ·have e1:=wF (l:=M) (i:=t) (by omega)
  have e2:=wF (l:=M) (i:=u) (by omega)
  rw [e1]
  rw [e2] at hb
  have le:=sa.at htu e1 e2
  dsimp only at hb ⊢
  cases lf with
  | true=>exact KeyOrd.klt_of_kle_of_klt le hb
  | false =>
   have le2:=dg le (eB hb)
   show (!κ.blt _ _)=true
   rw [show κ.blt (kof κ key) (kof κ M[t])=false from le2]
   rfl
 ·obtain ⟨i,hi⟩:=yh hx
  have l1:=(wG.mp hi).1
  rw [w9] at l1
  rw [yD (by omega)] at hi
  have:=h1 i (by omega)
  rw [hi] at this
  exact this
 ·obtain ⟨i,hi⟩:=yh hx
  rw [xZ] at hi
  have l1:=(wG.mp hi).1
  have:=h2 (k+i) (by omega) (by omega)
  rw [hi] at this
  exact this
theorem l_ {arr:Array Keyed}{P M S:List Keyed}{i j:Nat}(e:arr.toList=P++(M++S))(h1:P.length=i)(h2:j=i+M.length):(arr.extract i j).toList=M:=by
 rw [yr,e,List.extract_eq_drop_take,← h1,List.drop_left,h2,← h1,y6,List.take_left]
theorem qJ {st:SortSt}{i z na nb pw pw2:Nat}{P Aa B S:List Keyed}{Q:Bool→SortSt→Prop}(hO:κ.OneLt)(hB:TB st)(g:∀ x∈(arrOf st).toList,Gd κ x)(e1:(pendingOf st)[i]? = some (z,na,pw))(e2:(pendingOf st)[i+1]? = some (z+na,nb,pw2))
  (ea:(arrOf st).toList=P++(Aa++(B++S))) (lp:P.length=z) (la:Aa.length=na) (lb:B.length=nb) (h0:0 < na) (h1:0 < nb) (sA:Srt κ Aa) (sB:Srt κ B)
  (h:∀ st' R,TB st'→pendingOf st'=((pendingOf st).setIfInBounds i (z,na+nb,pw)).eraseIdxIfInBounds (i+1)→(arrOf st').toList=P++(R++S)→Mg κ Aa B R→Q true st'):wpS (model prog w) A E s (mergeAt' i) Q st:=by
 have eb:(arrOf st).toList=(P++Aa)++(B++S):=by rw [ea,wY]
 rw [tu]
 unfold mAt
 refine wW (AO ?_)
 rw [e1,e2]
 dsimp only
 refine wW (qI ?_)
 have hB':TB (setPending st (((pendingOf st).setIfInBounds i (z,na+nb,pw)).eraseIdxIfInBounds (i+1))):=⟨hB.kind,hB.failed⟩
 generalize hst':setPending st (((pendingOf st).setIfInBounds i (z,na+nb,pw)).eraseIdxIfInBounds (i+1))=st' at hB' ⊢
 have hp':pendingOf st'=((pendingOf st).setIfInBounds i (z,na+nb,pw)).eraseIdxIfInBounds (i+1):=by rw [← hst']
 have har:arrOf st'=arrOf st:=by rw [← hst']
 obtain ⟨b0,eb0⟩:∃ b0,B[0]? = some b0:=⟨_,wF (by omega)⟩
 obtain ⟨al,eal⟩:∃ al,Aa[Aa.length - 1]? = some al:=⟨_,wF (by omega)⟩
 have gA:∀ x∈Aa,Gd κ x:=fun x hx=>g x (by rw [ea];simp [hx])
 have gB:∀ x∈B,Gd κ x:=fun x hx=>g x (by rw [ea];simp [hx])
 have x0:(arrOf st).toList[z+na]? = some b0:=by
  rw [eb,xy (by simp;omega),xW (by simp;omega)]
  rw [show z+na - (P++Aa).length=0 by simp;omega]
  exact eb0
 have xl:(arrOf st).toList[z+na - 1]? = some al:=by
  rw [ea,xy (by omega),xW (by omega)]
  rw [show z+na - 1 - P.length=Aa.length - 1 by omega]
  exact eal
 refine wW (aO x0 ?_)
 refine wW (jB hO hB' (gB b0 (wR eb0)) g ea lp la sA h0 fun c hc t1 t2=>?_)
 dsimp only
 have k1:Lel κ (Aa.take c) [b0]:=fun x hx y hy=>by
  rw [wH] at hy
  subst hy
  exact eB (t1 x hx)
 have k2:Lel κ [b0] (Aa.drop c):=fun x hx y hy=>by
  rw [wH] at hx
  subst hx
  exact eZ (t2 y hy)
 by_cases hc0:na - c=0
 ·refine aC (by simpa using hc0) ?_
  have:Aa.take c=Aa:=xv (by omega)
  rw [this] at k1
  exact w5 (h st' (Aa++B) hB' hp' (by rw [har,ea,wY]) ⟨Ab _,ba.mpr ⟨sA,sB,k1.mid (gz sB eb0)⟩⟩)
 ·refine aD (by simpa using hc0) ?_
  rw [show z+c+(na - c) - 1=z+na - 1 by omega]
  refine wW (aO xl ?_)
  refine wW (jB hO hB' (gA al (wR eal)) g eb (by simp;omega) lb sB (by omega) fun m hm u1 u2=>?_)
  dsimp only
  have k3:Lel κ (B.take m) [al]:=fun x hx y hy=>by
   rw [wH] at hy
   subst hy
   exact iY (u1 x hx)
  have k4:Lel κ [al] (B.drop m):=fun x hx y hy=>by
   rw [wH] at hx
   subst hx
   exact gx (u2 y hy)
  by_cases hm0:m=0
  ·refine aC (by simpa using hm0) ?_
   subst hm0
   exact w5 (h st' (Aa++B) hB' hp' (by rw [har,ea,wY]) ⟨Ab _,ba.mpr ⟨sA,sB,(lZ sA eal).mid k4⟩⟩)
  ·refine aD (by simpa using hm0) ?_
   have ec:(arrOf st).toList=(P++Aa.take c)++(Aa.drop c++(B++S)):=by
    rw [ea]
    conv=>lhs;rw [← xo c Aa]
    simp only [wY]
   have ed:(arrOf st).toList=(P++Aa)++(B.take m++(B.drop m++S)):=by
    rw [eb]
    conv=>lhs;rw [← xo m B]
    simp only [wY]
   have ex:((arrOf st).extract (z+c) (z+na)).toList=Aa.drop c:=l_ ec (by simp;omega) (by simp;omega)
   have ey:((arrOf st).extract (z+na) (z+na+m)).toList=B.take m:=l_ ed (by simp;omega) (by simp;omega)
   have sx:((arrOf st).extract (z+c) (z+na)).size=na - c:=by rw [← wN,ex];simp;omega
   have sy:((arrOf st).extract (z+na) (z+na+m)).size=m:=by rw [← wN,ey];simp;omega
   generalize (arrOf st).extract (z+c) (z+na)=x at ex sx ⊢
   generalize (arrOf st).extract (z+na) (z+na+m)=y at ey sy ⊢
   have ga:∀ t∈x.toList,Gd κ t:=fun t ht=>gA t (by rw [ex] at ht;exact yg ht)
   have gb:∀ t∈y.toList,Gd κ t:=fun t ht=>gB t (by rw [ey] at ht;exact xX ht)
   have sx':Srt κ x.toList:=by rw [ex];exact sA.drop c
   have sy':Srt κ y.toList:=by rw [ey];exact sB.take m
   have y0:y.toList[0]? = some b0:=by rw [ey,yD (by omega)];exact eb0
   have xn:x.toList[x.size - 1]? = some al:=by
    rw [ex,xZ,sx,show c+(na - c - 1)=Aa.length - 1 by omega]
    exact eal
   have fin:∀ (r:Array Keyed) (st2:SortSt),Ok st' st2→Mg κ x.toList y.toList r.toList→wpS (model prog w) A E s (do
     modify fun v=>setArr v (r.toList.zipIdx.foldl (fun a (p,j)=>a.setIfInBounds (z+c+j) p) (arrOf v))
     return (failedOf (← get)).isNone:StateT SortSt Sem Bool) Q st2:=fun r st2 ok M=>by
    rw [ex,ey] at M
    have lr:r.toList.length=(Aa.drop c++B.take m).length:=M.1.length_eq
    refine wW (zN ?_)
    refine wW (AO ?_)
    refine w5 ?_
    have hf:failedOf (setArr st2 (r.toList.zipIdx.foldl (fun a (p,j)=>a.setIfInBounds (z+c+j) p) (arrOf st2)))=none:=ok.tb.failed
    rw [hf]
    refine h _ (Aa.take c++(r.toList++B.drop m)) ⟨ok.tb.kind,ok.tb.failed⟩ (ok.pd.trans hp') ?_ (tw sA sB eb0 eal k1 k4 M)
    show (r.toList.zipIdx.foldl (fun a (p,j)=>a.setIfInBounds (z+c+j) p) (arrOf st2)).toList=_
    rw [lY r.toList (z+c) 0 (arrOf st2) (P++Aa.take c) (Aa.drop c++B.take m) (B.drop m++S) (by
     rw [ok.ar,har,ea]
     conv=>lhs;rw [← xo c Aa,← xo m B]
     simp only [wY]) (by simp;omega) lr.symm]
    simp only [wY]
   by_cases hle:na - c≤m
   ·refine aC hle ?_
    refine wW (qE hO hB' ga gb sx' sy' (by omega) (by omega) (fun p q hp hq=>?_) (fun t ht=>?_) fun r st2 ok M=>fin r st2 ok M)
    ·rw [y0] at hq
     cases hq
     rw [ex] at hp
     exact k2 _ (wH.mpr rfl) _ (wR hp)
    ·rw [xn] at ht
     cases ht
     rw [ey]
     exact k3
   ·refine aD hle ?_
    refine wW (qF hO hB' ⟨ga,gb,sx',sy',fun t ht=>?_⟩ (by omega) (by omega) (fun t ht=>?_) fun r st2 ok M=>fin r st2 ok M)
    ·rw [y0] at ht
     cases ht
     rw [ex]
     exact k2
    ·rw [xn] at ht
     cases ht
     rw [ey]
     exact k3
end
end Ts
namespace Ts
open PySem PyProof.Rows
variable {κ:KeyKind}
def PdL (κ:KeyKind):Nat→List (Nat × Nat × Nat)→List (List Keyed)→Prop
 | _,[],[]=>True
 | z,p::ps,r::rs=>p.1=z∧p.2.1=r.length∧0 < r.length∧Srt κ r∧PdL κ (z+r.length) ps rs
 | _,_,_=>False
theorem PdL.app:∀ {p q:List (Nat × Nat × Nat)} {z:Nat} {rs:List (List Keyed)},PdL κ z (p++q) rs→∃ r1 r2,rs=r1++r2∧r1.length=p.length∧PdL κ z p r1∧PdL κ (z+r1.flatten.length) q r2
 | [],q,z,rs,h=>⟨[],rs,rfl,rfl,trivial,h⟩
 | _::_,q,z,[],h=>h.elim
 | _::p,q,z,r::rs,h=>by
  obtain ⟨a1,a2,a3,a4,a5⟩:=h
  obtain ⟨r1,r2,e,l,b1,b2⟩:=PdL.app a5
  refine ⟨r::r1,r2,by rw [e];rfl,by simp [l],⟨a1,a2,a3,a4,b1⟩,?_⟩
  rw [yU,wQ,← Bw]
  exact b2
theorem PdL.join:∀ {p q:List (Nat × Nat × Nat)} {z:Nat} {r1 r2:List (List Keyed)},PdL κ z p r1→PdL κ (z+r1.flatten.length) q r2→PdL κ z (p++q) (r1++r2)
 | [],q,z,[],r2,_,h=>h
 | [],q,z,_::_,r2,h,_=>h.elim
 | _::_,q,z,[],r2,h,_=>h.elim
 | _::p,q,z,r::r1,r2,h,g=>by
  obtain ⟨a1,a2,a3,a4,a5⟩:=h
  rw [yU,wQ,← Bw] at g
  exact ⟨a1,a2,a3,a4,PdL.join a5 g⟩
theorem PdL.len:∀ {p:List (Nat × Nat × Nat)} {z:Nat} {rs:List (List Keyed)},PdL κ z p rs→p.length≤rs.flatten.length
 | [],z,[],_=>xE _
 | [],z,_::_,h=>h.elim
 | _::_,z,[],h=>h.elim
 | _::p,z,r::rs,h=>by
  obtain ⟨a1,a2,a3,a4,a5⟩:=h
  have:=PdL.len a5
  rw [yU,wQ,xN]
  omega
theorem PdL.same:∀ {p q:List (Nat × Nat × Nat)} {z:Nat} {rs:List (List Keyed)},PdL κ z p rs→q.map (fun t=>(t.1,t.2.1))=p.map (fun t=>(t.1,t.2.1))→PdL κ z q rs
 | [],[],z,rs,h,_=>h
 | [],_::_,z,rs,_,e=>by simp at e
 | _::_,[],z,rs,_,e=>by simp at e
 | _::_,_::_,z,[],h,_=>h.elim
 | x::p,y::q,z,r::rs,h,e=>by
  obtain ⟨a1,a2,a3,a4,a5⟩:=h
  simp only [xr,Bk,Prod.mk.injEq] at e
  exact ⟨e.1.1.trans a1,e.1.2.trans a2,a3,a4,PdL.same a5 e.2⟩
theorem ma {f:Nat × Nat × Nat→Nat × Nat × Nat}(hf:∀ t,(f t).1=t.1∧(f t).2.1=t.2.1):∀ (l:List (Nat × Nat × Nat)) (i:Nat),(l.modify i f).map (fun t=>(t.1,t.2.1))=l.map (fun t=>(t.1,t.2.1))
 | [],i=>by cases i <;> rfl
 | x::l,0=>by
  show ((f x).1,(f x).2.1)::_=_
  rw [(hf x).1,(hf x).2]
  rfl
 | x::l,i+1=>by
  show (x.1,x.2.1)::(l.modify i f).map _=_
  rw [ma hf l i]
  rfl
theorem me {xs:Array Keyed}{i:Nat}{x:Keyed}(h:xs.toList[i]? = some x):KK κ xs i=kof κ x:=by
 rw [xU] at h
 unfold KK kof
 rw [h]
structure Iv (κ:KeyKind) (a0:Array Keyed) (st:SortSt) (lo:Nat):Prop where
 tb:TB st
 pm:(arrOf st).Perm a0
 ex:∃ rs T,(arrOf st).toList=rs.flatten++T∧rs.flatten.length=lo∧PdL κ 0 (pendingOf st).toList rs
theorem Iv.gd {a0:Array Keyed}{st:SortSt}{lo:Nat}(I:Iv κ a0 st lo)(h0:KeysOf κ a0):∀ x∈(arrOf st).toList,Gd κ x:=fun x hx=>h0 x ((yL.mp I.pm).mem_iff.mp hx)
theorem Iv.part {a0:Array Keyed}{st st':SortSt}{lo hi:Nat}(I:Iv κ a0 st lo)(R:Rs κ lo hi st st'):Iv κ a0 st' lo:=by
 obtain ⟨rs,T,e,l,p⟩:=I.ex
 refine ⟨R.tb,R.rp.pm.trans I.pm,rs,(arrOf st').toList.drop lo,?_,l,by rw [R.pd];exact p⟩
 have:(arrOf st').toList.take lo=rs.flatten:=by
  have e2:(arrOf st).toList.take lo=rs.flatten:=by rw [e,← l,List.take_left]
  rw [← e2]
  apply AX
  intro k
  by_cases hk:k < lo
  ·rw [yD hk,yD hk,xU,xU,R.rp.out k (.inl hk)]
  ·rw [yz (by rw [w9];omega),yz (by rw [w9];omega)]
 rw [← this,xo]
theorem Iv.mod {a0:Array Keyed}{st:SortSt}{lo i:Nat}(I:Iv κ a0 st lo){f:Nat × Nat × Nat→Nat × Nat × Nat}(hf:∀ t,(f t).1=t.1∧(f t).2.1=t.2.1):Iv κ a0 (setPending st ((pendingOf st).modify i f)) lo:=by
 obtain ⟨rs,T,e,l,p⟩:=I.ex
 refine ⟨⟨I.tb.kind,I.tb.failed⟩,I.pm,rs,T,e,l,?_⟩
 show PdL κ 0 ((pendingOf st).modify i f).toList rs
 rw [Array.toList_modify]
 exact p.same (ma hf _ _)
theorem Iv.push {a0:Array Keyed}{st:SortSt}{lo n w:Nat}(I:Iv κ a0 st lo)(hn:0 < n)(hz:lo+n≤(arrOf st).size)(hs:SrI κ (arrOf st) lo (lo+n)):Iv κ a0 (setPending st ((pendingOf st).push (lo,n,w))) (lo+n):=by
 obtain ⟨rs,T,e,l,p⟩:=I.ex
 have lT:lo+T.length=(arrOf st).size:=by rw [← wN,e,wQ,l]
 have ln:(T.take n).length=n:=by rw [w9];omega
 have at_:∀ i x,T[i]? = some x→KK κ (arrOf st) (lo+i)=kof κ x:=fun i x hx=>me (by rw [e,xy (by omega),← l,y6];exact hx)
 refine ⟨⟨I.tb.kind,I.tb.failed⟩,I.pm,rs++[T.take n],T.drop n,?_,?_,?_⟩
 ·show (arrOf st).toList=_
  rw [e,y7,zX,wY,xo]
 ·rw [y7,zX,wQ,l,ln]
 ·show PdL κ 0 ((pendingOf st).push (lo,n,w)).toList _
  rw [zB]
  refine PdL.join p ⟨by rw [l];omega,ln.symm,by omega,?_,trivial⟩
  refine zG.mpr fun i j hi hj hij=>?_
  rw [w9] at hi hj
  rw [List.getElem_take,List.getElem_take]
  have:=hs (lo+i) (lo+j) (by omega) (by omega) (by omega)
  rw [at_ i _ (wF (by omega)),at_ j _ (wF (by omega))] at this
  exact this
theorem tB {l:List (Nat × Nat × Nat)}{i:Nat}(h:i+1 < l.length):∃ p x y q,l=p++x::y::q∧p.length=i:=by
 refine ⟨l.take i,l[i],l[i+1],l.drop (i+2),?_,by rw [w9];omega⟩
 conv=>lhs;rw [← xo i l]
 rw [xI (by omega),xI h]
section
variable {prog:Program} {w:World} {A:Around} {E:Value→Shared→Prop} {s:Shared}
theorem e4 {a0:Array Keyed}{st:SortSt}{lo i:Nat}{Q:Bool→SortSt→Prop}(hO:κ.OneLt)(h0:KeysOf κ a0)(I:Iv κ a0 st lo)(hi:i+1 < (pendingOf st).size)
  (h:∀ st',Iv κ a0 st' lo→(pendingOf st').size+1=(pendingOf st).size→(∀ k,lo≤k→(arrOf st')[k]? = (arrOf st)[k]?)→Q true st'):wpS (model prog w) A E s (mergeAt' i) Q st:=by
 obtain ⟨rs,T,e,l,p⟩:=I.ex
 obtain ⟨p1,x,y,p2,ep,lp⟩:=tB (l:=(pendingOf st).toList) (i:=i) (by rw [wN];exact hi)
 rw [ep] at p
 obtain ⟨r1,r2,er,_,P1,P2⟩:=p.app
 match r2,P2,er with
 | A1::B1::r2,P2,er =>
  obtain ⟨x1,x2,x3,x4,y1,y2,y3,y4,P3⟩:=P2
  obtain ⟨xa,xb,xc⟩:=x
  obtain ⟨ya,yb,yc⟩:=y
  dsimp only at x1 x2 y1 y2
  subst er
  have ea:(arrOf st).toList=r1.flatten++(A1++(B1++(r2.flatten++T))):=by
   rw [e]
   simp only [y7,yU,wY]
  have e1:(pendingOf st)[i]? = some (r1.flatten.length,A1.length,xc):=by
   rw [← xU,ep,xy (by omega),lp,BA,x1,x2,zq]
   rfl
  have e2:(pendingOf st)[i+1]? = some (r1.flatten.length+A1.length,B1.length,yc):=by
   rw [← xU,ep,xy (by omega),lp,y6,y1,y2,zq]
   rfl
  refine qJ hO I.tb (I.gd h0) e1 e2 ea rfl rfl rfl x3 y3 x4 y4 fun st' R t1 t2 t3 M=>?_
  have lR:R.length=A1.length+B1.length:=by rw [M.1.length_eq,wQ]
  have ep':(pendingOf st').toList=p1++(r1.flatten.length,A1.length+B1.length,xc)::p2:=by
   rw [t2,Array.toList_eraseIdxIfInBounds,AG,ep,List.set_append_right _ _ (by omega),List.eraseIdx_append_of_length_le (by omega),lp,BA,y6]
   rfl
  have eT:(arrOf st').toList=(r1++R::r2).flatten++T:=by
   rw [t3]
   simp only [y7,yU,wY]
  have lT:(r1++R::r2).flatten.length=lo:=by
   rw [← l]
   simp only [y7,yU,wQ,lR]
   omega
  refine h st' ⟨t1,?_,r1++R::r2,T,eT,lT,?_⟩ ?_ fun k hk=>?_
  ·refine Array.Perm.trans (yL.mpr ?_) I.pm
   rw [t3,ea,← wY A1]
   exact yA _ (M.1.append_right _)
  ·rw [ep']
   refine PdL.join P1 ⟨by omega,lR.symm,by omega,M.2,?_⟩
   rw [lR,← Bw]
   exact P3
  ·rw [← wN,← wN,ep',ep]
   simp only [wQ,xN]
   omega
  ·rw [← xU,← xU,eT,e,xy (by omega),xy (by omega),lT,l]
theorem Iv.done {a0:Array Keyed}{st:SortSt}(I:Iv κ a0 st a0.size)(h:(pendingOf st).size≤1):SortedToK κ (arrOf st) a0.size:=by
 obtain ⟨rs,T,e,l,p⟩:=I.ex
 have hz:(arrOf st).toList.length=a0.size:=by rw [wN];exact I.pm.size_eq
 have hT:T=[]:=yZ.mp (by rw [e,wQ,l] at hz;omega)
 subst hT
 rw [yf] at e
 rw [← wN] at h
 have sr:Srt κ (arrOf st).toList:=by
  rw [e]
  match (pendingOf st).toList,rs,p,h with
  | [],[],_,_=>exact List.Pairwise.nil
  | [_],[r],p,_=>rw [zX];exact p.2.2.2.1
  | _::_::_,_,_,h=>simp at h
 intro i j hij hj
 have e1:=wF (l:=(arrOf st).toList) (i:=i) (by omega)
 have e2:=wF (l:=(arrOf st).toList) (i:=j) (by omega)
 rw [me e1,me e2]
 exact sr.at hij e1 e2
theorem ow {a0:Array Keyed}{st:SortSt}{Q:Unit→SortSt→Prop}(hO:κ.OneLt)(h0:KeysOf κ a0)(hB:SBase a0 st)
  (h:∀ st',(arrOf st').Perm a0→failedOf st'=none→SortedToK κ (arrOf st') a0.size→Q () st'):wpS (model prog w) A E s sortRuns' Q st:=by
 rw [sortRuns'_eq]
 refine wW (AO ?_)
 dsimp only
 simp only [hB.size]
 refine wW (yG (x5
  (I:=fun x c st'=>∃ lo,c=(none,lo)∧x≤lo∧lo≤a0.size∧Iv κ a0 st' lo)
  (Q:=fun c st'=>c=(none,a0.size)∧Iv κ a0 st' a0.size) ?step ?fin ⟨0,rfl,wJ _,xE _,⟨hB.kind,hB.failed⟩,hB.perm,[],(arrOf st).toList,rfl,rfl,by rw [hB.pend];exact trivial⟩) ?post)
 case fin =>
  rintro c st' ⟨lo,rfl,h1,h2,I⟩
  have:lo=a0.size:=by omega
  subst this
  exact ⟨rfl,I⟩
 case step =>
  rintro x c st' hx1 hx2 ⟨lo,rfl,h1,h2,I⟩
  have hz:(arrOf st').size=a0.size:=I.pm.size_eq
  dsimp only
  by_cases hge:lo≥a0.size
  ·refine aC hge ?_
   have:lo=a0.size:=by omega
   subst this
   exact w5 ⟨rfl,I⟩
  ·refine aD hge ?_
   refine wW (oq hO I.tb (I.gd h0) (by omega) (by omega) fun n st2 n1 n2 R s2=>?_)
   have I2:=I.part R
   have hz2:(arrOf st2).size=a0.size:=I2.pm.size_eq
   dsimp only
   by_cases hm:n < minRun' a0.size a0.size 0
   ·refine aC hm ?_
    refine wW (Bn (zx ⟨rfl,?_⟩))
    refine wW (ou hO I2.tb (I2.gd h0) (by omega) (by omega) s2 fun st3 R3 s3=>?_)
    simp only [zy,xk,yo]
    have M1:1≤(min (a0.size - lo) (minRun' a0.size a0.size 0)):=by omega
    have M2:lo+(min (a0.size - lo) (minRun' a0.size a0.size 0))≤a0.size:=by omega
    have IX:=I2.part R3
    have S3:=s3
    refine wW (AO ?_)
    cases (pendingOf st3).back? with
    | none=>exact wW (zN (w5 ⟨lo+(min (a0.size - lo) (minRun' a0.size a0.size 0)),rfl,by omega,M2,IX.push M1 (by rw [IX.pm.size_eq];exact M2) S3⟩))
    | some t =>
     obtain ⟨a,b,c⟩:=t
     dsimp only
     refine wW (yG (x5 (I:=fun _ c st3'=>c=(none,())∧Iv κ a0 st3' lo∧∀ k,lo≤k→(arrOf st3')[k]? = (arrOf st3)[k]?)
      (Q:=fun c st3'=>c=(none,())∧Iv κ a0 st3' lo∧∀ k,lo≤k→(arrOf st3')[k]? = (arrOf st3)[k]?) ?step1 (fun _ _ h=>h) ⟨rfl,IX,fun _ _=>rfl⟩) ?post1)
     case step1 =>
      rintro y c st3' _ _ ⟨rfl,Iw,kw⟩
      refine wW (AO ?_)
      by_cases hz:(pendingOf st3').size > 1
      ·rw [if_pos hz]
       cases e:(pendingOf st3')[(pendingOf st3').size - 2]? with
       | none=>exact w5 ⟨rfl,Iw,kw⟩
       | some t =>
        obtain ⟨a',b',c'⟩:=t
        dsimp only
        by_cases hp:c'≤power' a0.size (2*a+b) (2*a+b+b+(min (a0.size - lo) (minRun' a0.size a0.size 0))) a0.size
        ·refine aC hp ?_
         exact w5 ⟨rfl,Iw,kw⟩
        ·refine aD hp ?_
         refine wW (e4 hO h0 Iw (by omega) fun stq Iq _ k2=>?_)
         simp only [zy,xk,yo]
         exact w5 ⟨rfl,Iq,fun k hk=>(k2 k hk).trans (kw k hk)⟩
      ·rw [if_neg hz]
       exact w5 ⟨rfl,Iw,kw⟩
     case post1 =>
      rintro c st3' ⟨rfl,Iw,kw⟩
      dsimp only
      refine wW (zN ?_)
      have J2:=Iw.mod (i:=(pendingOf st3').size - 1) (f:=fun t=>(t.1,t.2.1,power' a0.size (2*a+b) (2*a+b+b+(min (a0.size - lo) (minRun' a0.size a0.size 0))) a0.size)) fun t=>⟨rfl,rfl⟩
      refine wW (zN (w5 ⟨lo+(min (a0.size - lo) (minRun' a0.size a0.size 0)),rfl,by omega,M2,J2.push M1 (by rw [J2.pm.size_eq];exact M2) fun i j hi hij hj=>?_⟩))
      show κ.kle (KK κ (arrOf st3') i) (KK κ (arrOf st3') j)
      rw [KK_congr (kw i (by omega)),KK_congr (kw j (by omega))]
      exact S3 i j hi hij hj
   ·refine aD hm ?_
    have M1:1≤n:=by omega
    have M2:lo+n≤a0.size:=by omega
    have IX:=I2
    have S3:=s2
    refine wW (AO ?_)
    cases (pendingOf st2).back? with
    | none=>exact wW (zN (w5 ⟨lo+n,rfl,by omega,M2,IX.push M1 (by rw [IX.pm.size_eq];exact M2) S3⟩))
    | some t =>
     obtain ⟨a,b,c⟩:=t
     dsimp only
     refine wW (yG (x5 (I:=fun _ c st2'=>c=(none,())∧Iv κ a0 st2' lo∧∀ k,lo≤k→(arrOf st2')[k]? = (arrOf st2)[k]?)
      (Q:=fun c st2'=>c=(none,())∧Iv κ a0 st2' lo∧∀ k,lo≤k→(arrOf st2')[k]? = (arrOf st2)[k]?) ?step2 (fun _ _ h=>h) ⟨rfl,IX,fun _ _=>rfl⟩) ?post2)
     case step2 =>
      rintro y c st2' _ _ ⟨rfl,Iw,kw⟩
      refine wW (AO ?_)
      by_cases hz:(pendingOf st2').size > 1
      ·rw [if_pos hz]
       cases e:(pendingOf st2')[(pendingOf st2').size - 2]? with
       | none=>exact w5 ⟨rfl,Iw,kw⟩
       | some t =>
        obtain ⟨a',b',c'⟩:=t
        dsimp only
        by_cases hp:c'≤power' a0.size (2*a+b) (2*a+b+b+n) a0.size
        ·refine aC hp ?_
         exact w5 ⟨rfl,Iw,kw⟩
        ·refine aD hp ?_
         refine wW (e4 hO h0 Iw (by omega) fun stq Iq _ k2=>?_)
         simp only [zy,xk,yo]
         exact w5 ⟨rfl,Iq,fun k hk=>(k2 k hk).trans (kw k hk)⟩
      ·rw [if_neg hz]
       exact w5 ⟨rfl,Iw,kw⟩
     case post2 =>
      rintro c st2' ⟨rfl,Iw,kw⟩
      dsimp only
      refine wW (zN ?_)
      have J2:=Iw.mod (i:=(pendingOf st2').size - 1) (f:=fun t=>(t.1,t.2.1,power' a0.size (2*a+b) (2*a+b+b+n) a0.size)) fun t=>⟨rfl,rfl⟩
      refine wW (zN (w5 ⟨lo+n,rfl,by omega,M2,J2.push M1 (by rw [J2.pm.size_eq];exact M2) fun i j hi hij hj=>?_⟩))
      show κ.kle (KK κ (arrOf st2') i) (KK κ (arrOf st2') j)
      rw [KK_congr (kw i (by omega)),KK_congr (kw j (by omega))]
      exact S3 i j hi hij hj
 case post =>
  rintro c st' ⟨rfl,I⟩
  dsimp only
  refine wW (yG (x5 (I:=fun x c st''=>c=(none,())∧Iv κ a0 st'' a0.size∧((pendingOf st'').size+x≤a0.size ∨ (pendingOf st'').size≤1))
   (Q:=fun c st''=>c=(none,())∧Iv κ a0 st'' a0.size∧(pendingOf st'').size≤1) ?_ ?_ ⟨rfl,I,?_⟩) ?_)
  ·rintro x c st'' _ hx ⟨rfl,I',hp⟩
   refine wW (AO ?_)
   by_cases h1:(pendingOf st'').size≤1
   ·refine aC h1 ?_
    exact w5 ⟨rfl,I',h1⟩
   ·refine aD h1 ?_
    refine wW (e4 hO h0 I' (have pick:∀ (b:Bool) (n:Nat),1 < n→(if b=true then n - 2 - 1 else n - 2)+1 < n:=(fun b n hn=>by cases b <;> simp <;> omega);pick _ _ (by omega)) fun st2 I2 z2 _=>?_)
    simp only [zy,xk,yo]
    exact w5 ⟨rfl,I2,.inl (by omega)⟩
  ·rintro c st'' ⟨rfl,I',hp⟩
   exact ⟨rfl,I',by omega⟩
  ·obtain ⟨rs,T,e,l,p⟩:=I.ex
   have:=p.len
   rw [wN,l] at this
   exact .inl (by omega)
  ·rintro c st'' ⟨rfl,I',hp⟩
   exact w5 (h st'' I'.pm I'.tb.failed (I'.done hp))
end
end Ts
namespace Ts
open PySem PyProof.Rows
variable {κ:KeyKind}
section
variable {prog:Program} {w:World} {A:Around} {E:Value→Shared→Prop} {s:Shared}
theorem jC (hO:κ.OneLt){a:Addr}{its:List Value}{m:Nat}{P:Fin→Shared→Prop}(at_:s.heap.get? a=some (seqObj "list" its.toArray m))(g:KeysOf κ (pairsOf its))
  (one:∀ x y r,its=x::y::r→keyKind' (x::y::r).toArray=pure oneType') (lim:its.length≤sizeLine)
  (q:∀ st:SortSt,(arrOf st).Perm (pairsOf its)→SortedToK κ (arrOf st) (pairsOf its).size→P (.done (.ret .none)) { s with heap:=sortedHeap s.heap a its ((arrOf st).map (·.2)) }) :
  wpAny (model prog w) A (Builtin.«list.sort» ⟨[.ref a],[]⟩) P E s:=by
 have la:=wZ at_
 have lz:its.toArray.size=its.length:=by simp
 rw [list_sort_plain]
 refine wD (listItems_at at_ rfl (wD (A6 at_ rfl ?_ (by rw [lz];exact lim))))
 obtain ⟨n1,at1⟩:∃ n1,(s.heap.update a (Obj.mapSeq fun _=>#[])).get? a=some (seqObj "list" #[] n1):=⟨_,get?_update_seq at_ fun _=>#[]⟩
 refine wD (seqEpoch_at at1 rfl (wD (wpAny_newTuple (wD (zR (x_ ?_))))))
 have at2:(((s.heap.update a (Obj.mapSeq fun _=>#[])).push (seqObj "tuple" its.toArray 0)).push (seqObj "list" #[] 0)).get? a=some (seqObj "list" #[] n1) :=
  wK _ (wK _ at1)
 show wpAny (model prog w) A _ P E { s with heap:=((s.heap.update a (Obj.mapSeq fun _=>#[])).push (seqObj "tuple" its.toArray 0)).push (seqObj "list" #[] 0) }
 dsimp only
 by_cases two:its.toArray.size < 2
 ·rw [if_pos two,if_pos two]
  refine wD (wI ?_)
  rw [StateT.run_pure]
  refine wD (wI ?_)
  dsimp only
  have zz:((its.toArray.zip its.toArray).map (·.2)).size≤sizeLine+1:=by
   rw [Array.size_map]
   show (pairsOf its).size≤_
   rw [pairsOf_size]
   omega
  refine wD (seqEpoch_at at2 rfl (wD (A6 at2 rfl ?_ (hsz2:=zz))))
  simp only [bne_self_eq_false,xk,yo]
  refine wI (q (SortSt.mk' general' (its.toArray.zip its.toArray) #[] 7 none) (Bl _) fun i j hij hj=>?_)
  rw [pairsOf_size] at hj
  have:i=j:=by omega
  subst this
  exact yj _
 ·rw [if_neg two,if_neg two]
  obtain ⟨x,y,r,rfl⟩:∃ x y r,its=x::y::r:=by
   match its,lz,two with
   | [],_,t=>exact absurd (by simp) t
   | [_],_,t=>exact absurd (by simp) t
   | x::y::r,_,_=>exact ⟨x,y,r,rfl⟩
  rw [one _ _ _ rfl]
  refine wD (wI (wD (yt (ow (κ:=κ) hO (a0:=pairsOf (x::y::r)) (st:=SortSt.mk' oneType' ((x::y::r).toArray.zip (x::y::r).toArray) #[] 7 none)
   (Q:=fun _ st=>(arrOf st).Perm (pairsOf (x::y::r))∧failedOf st=none∧SortedToK κ (arrOf st) (pairsOf (x::y::r)).size) g ⟨Bl _,rfl,rfl,rfl⟩ fun st c1 c2 c3=>⟨c1,c2,c3⟩) ?_ fun _ _ e=>e)))
  rintro ⟨⟨⟩,st⟩ s2 ⟨rfl,c1,c2,c3⟩
  dsimp only
  have zz:((arrOf st).map (·.2)).size≤sizeLine+1:=by
   rw [Array.size_map,c1.size_eq,pairsOf_size]
   omega
  refine wD (seqEpoch_at at2 rfl (wD (A6 at2 rfl ?_ (hsz2:=zz))))
  rw [c2]
  simp only [bne_self_eq_false,xk,yo]
  exact wI (q st c1 c3)
end
end Ts
namespace L2
open PySem PySem.Spec PyProof.Rows
section
variable {prog:Program} {w:World} {A:Around} {E:Value→Shared→Prop} {s:Shared}
end
section
variable {X:Cx}
end
section
variable {prog:Program} {w:World} {A:Around} {E:Value→Shared→Prop} {s:Shared}
end
section
variable {X:Cx}
end
end L2
namespace Tv
open PySem PyProof.Rows
section
variable {prog:Program} {w:World} {A:Around} {E:Value→Shared→Prop} {s:Shared}
end
end Tv
namespace Ts
open PySem PyProof.Rows
@[reducible] def intK:KeyKind where
 α:=Int
 blt a b:=decide (a < b)
 irrefl a:=by simp
 trans a b c h1 h2:=by simp only [xR] at *;omega
 negTrans a b c h:=by simp only [xR] at *;omega
 total a b h1 h2:=by simp only [decide_eq_false_iff_not] at *;omega
 keyOf v:=match v with | .int x _=>some x | _=>none
 dflt:=0
theorem fL:intK.OneLt:=by
 intro prog w A E s x y a b Q ha hb h
 cases x <;> simp only [intK,reduceCtorEq,AY] at ha
 cases y <;> simp only [intK,reduceCtorEq,AY] at hb
 cases ha;cases hb
 exact oneLt_int h
def iOf:Value→Int
 | .int x _=>x
 | _=>0
theorem dh:∀ {vs:List Value} {ns:List Int},IntsAre vs ns→∀ v,v∈vs→∃ x t,v = .int x t
 | _,_,.nil,v,hv=>by simp at hv
 | _,_,.cons x t h,v,hv=>by
  rcases xg.mp hv with rfl | hv
  ·exact ⟨x,t,rfl⟩
  ·exact dh h v hv
theorem ints_of:∀ {vs:List Value} {ns:List Int},IntsAre vs ns→vs.map iOf=ns
 | _,_,.nil=>rfl
 | _,_,.cons x t h=>by rw [xr,ints_of h];rfl
theorem jD:∀ (vs:List Value),(∀ v,v∈vs→∃ x t,v = .int x t)→IntsAre vs (vs.map iOf)
 | [],_=>.nil
 | v::vs,h=>by
  obtain ⟨x,t,rfl⟩:=h v (w4 ..)
  exact .cons x t (jD vs fun u hu=>h u (w_ _ hu))
theorem il {vs:List Value}{ns:List Int}(hI:IntsAre vs ns):KeysOf intK (pairsOf vs):=by
 intro p hp
 rw [pairsOf_toList] at hp
 obtain ⟨x,t,e⟩:=dh hI _ (mem_zip_self hp).2
 exact ⟨x,by rw [e]⟩
theorem pJ {xs:Array Keyed}{i:Nat}(hi:i < xs.size){x:Int}{t:Tok}{q:Value}(hx:xs[i]=(.int x t,q)):KK intK xs i=x:=by
 unfold KK;rw [getElem?_pos xs i hi,hx];rfl
theorem e6 {vs:List Value}{ns:List Int}(hI:IntsAre vs ns){xs:Array Keyed}(hp:xs.Perm (pairsOf vs))(hs:SortedToK intK xs (pairsOf vs).size) :
  ∃ ms,IntsAre (xs.map (·.2)).toList ms∧ms.Perm ns∧ms.Pairwise (· ≤ ·):=by
 have hl:xs.toList.Perm (vs.zip vs):=by rw [← pairsOf_toList];exact yL.mp hp
 have hmem:∀ p,p∈xs.toList→p.1=p.2∧p.1∈vs:=fun p hp'=>mem_zip_self (hl.mem_iff.mp hp')
 refine ⟨xs.toList.map (fun p=>iOf p.1),?_,?_,?_⟩
 ·have e:(xs.map (·.2)).toList=xs.toList.map (·.1):=by
   rw [Array.toList_map];exact List.map_congr_left fun p hp'=>(hmem p hp').1.symm
  rw [e]
  have h1:=jD (xs.toList.map (·.1)) (by
   intro v hv
   obtain ⟨p,hp',rfl⟩:=xH.mp hv
   exact dh hI _ (hmem p hp').2)
  rwa [AK] at h1
 ·have h1:=hl.map (fun p=>iOf p.1)
  have e2:(vs.zip vs).map (fun p=>iOf p.1)=ns:=by
   have:(vs.zip vs).map (fun p=>iOf p.1)=((vs.zip vs).map Prod.fst).map iOf:=by rw [AK];rfl
   rw [this,List.map_fst_zip (wJ _),ints_of hI]
  rwa [e2] at h1
 ·rw [zG]
  intro i j hi hj hij
  have hi':i < xs.size:=by simpa using hi
  have hj':j < xs.size:=by simpa using hj
  have h1:=hs i j (Bi hij) (by rw [← hp.size_eq];exact hj')
  obtain ⟨x,t,ex⟩:=dh hI _ (hmem xs[i] (by simp)).2
  obtain ⟨y,u,ey⟩:=dh hI _ (hmem xs[j] (by simp)).2
  rw [pJ hi' (x:=x) (t:=t) (q:=xs[i].2) (BB ex rfl),pJ hj' (x:=y) (t:=u) (q:=xs[j].2) (BB ey rfl)] at h1
  change decide (y < x)=false at h1
  simp only [List.getElem_map,Array.getElem_toList]
  rw [show iOf xs[i].1=x by rw [ex];rfl,show iOf xs[j].1=y by rw [ey];rfl]
  simpa using h1
end Ts
namespace L2
open PySem PySem.Spec PyProof.Rows Wd Ts
section
variable {prog:Program} {w:World} {A:Around} {E:Value→Shared→Prop} {s:Shared}
theorem iZ {l:Addr}{vs:List Value}{Q:List Value→Shared→Prop}(hl:s.heap.IsTuple l vs.toArray)
  (h:Q vs { s with heap:=(s.heap.push (seqObj "list" #[] 0)).update s.heap.objs.size (Obj.mapSeq (· ++ vs.toArray)) }) (hsz:vs.length≤sizeLine:=by size_fits) :
  wpAny (model prog w) A (collect (.ref l)) Q E s:=by
 obtain ⟨o,ho,hc,n,hd⟩:=id hl
 unfold collect
 refine wD (wpAny_runValue (codeAny_builtin entry_proto_collect' ?_))
 show wpAny _ _ (do again (.builtin "list.__iadd__" ⟨[← newList [],.ref l],[]⟩)) _ _ s
 refine wD (zR (wI ⟨Code.quiet_builtin _ (by decide +kernel),codeAny_builtin entry_list_iadd' ?_⟩))
 show wpAny _ _ (Builtin.List.listExtendWith (.ref s.heap.objs.size) (.ref l) (.ref s.heap.objs.size)) _ _ { s with heap:=s.heap.push (seqObj "list" #[] 0) }
 unfold Builtin.List.listExtendWith
 have ho':(s.heap.push (seqObj "list" #[] 0)).get? l=some o:=wK _ ho
 refine wD (AJ (T:="tuple") ⟨o,ho',hc⟩ ?_)
 have ht:(Value.type "tuple" == Value.type "tuple")=true:=by rfl
 rw [if_pos (by rw [ht];simp)]
 refine wD (listItems_at ho' hd ?_)
 refine wD (listItems_at (xs:=#[]) (n:=0) (wV _ rfl) rfl ?_)
 rw [if_neg (by simp)]
 refine wD (A6 (xs:=#[]) (n:=0) (wV _ rfl) rfl ?_ (xE _) (by show (#[]++vs.toArray).size≤sizeLine+1;simp only [Array.size_append,wX,yS];omega))
 refine wI ?_
 show wpAny (model prog w) A (do
   let o ← load s.heap.objs.size
   match o.data with
   | .seq xs _=>pure xs.toList
   | _=>unsupported "internal:collect") Q E { s with heap:=(s.heap.push (seqObj "list" #[] 0)).update s.heap.objs.size (Obj.mapSeq (· ++ vs.toArray)) }
 refine wD (wpAny_load (get?_update_seq (wV _ rfl) _) ?_)
 show wpAny _ _ (pure ((#[]:Array Value)++vs.toArray).toList) Q E _
 rw [show ((#[]:Array Value)++vs.toArray).toList=vs by simp]
 exact wI h
theorem ip {l:Addr}{vs:List Value}{ns:List Int}{Q:Value→Shared→Prop}(hl:s.heap.IsList l vs.toArray ∨ s.heap.IsTuple l vs.toArray)(hI:IntsAre vs ns)(lim:vs.length≤sizeLine)
  (q:∀ (out:Array Value) (zs:List Int),IntsAre out.toList zs→zs.Perm ns→zs.Pairwise (· ≤ ·)→Q (.ref (s.heap.objs.size+1)) { s with heap:=sortedAll s.heap vs out }) :
  wpAny (model prog w) A (call (.builtin "sorted") [.ref l]) Q E s:=by
 refine Calls.call_function_entry kind_sorted plain_sorted entry_sorted (args_sorted1 _) ?_
 unfold Builtin.«sorted»
 rcases hl with hl | hl
 ·refine wD (m:=checkCount "sorted" 1 1 _) (wI (wD (collect_list hl (wD (zR ?_)) (hsz:=lim))))
  have z1:((s.heap.push (seqObj "list" #[] 0)).update s.heap.objs.size (Obj.mapSeq (· ++ vs.toArray))).objs.size=s.heap.objs.size+1:=(Heap.size_update ..).trans (size_push' ..)
  have g:(((s.heap.push (seqObj "list" #[] 0)).update s.heap.objs.size (Obj.mapSeq (· ++ vs.toArray))).push (seqObj "list" vs.toArray 0)).get? (s.heap.objs.size+1)=some (seqObj "list" vs.toArray 0):=z1 ▸ wV _ rfl
  show wpAny _ _ _ _ _ { s with heap:=((s.heap.push (seqObj "list" #[] 0)).update s.heap.objs.size (Obj.mapSeq (· ++ vs.toArray))).push (seqObj "list" vs.toArray 0) }
  rw [z1]
  refine wD (x_ (xJ slot_list_sort ⟨_,g,rfl⟩ entry_list_sort (Ts.jC fL g (il hI) (fun x y r e=>keyKind_ints (by rw [← e];exact hI)) lim fun st a1 a2=>⟨_,rfl,?_⟩) (args_list_sort _)))
  obtain ⟨zs,h1,h2,h3⟩:=e6 hI a1 a2
  exact wI ⟨_,rfl,q _ zs h1 h2 h3⟩
 ·refine wD (m:=checkCount "sorted" 1 1 _) (wI (wD (iZ hl (wD (zR ?_)) (hsz:=lim))))
  have z1:((s.heap.push (seqObj "list" #[] 0)).update s.heap.objs.size (Obj.mapSeq (· ++ vs.toArray))).objs.size=s.heap.objs.size+1:=(Heap.size_update ..).trans (size_push' ..)
  have g:(((s.heap.push (seqObj "list" #[] 0)).update s.heap.objs.size (Obj.mapSeq (· ++ vs.toArray))).push (seqObj "list" vs.toArray 0)).get? (s.heap.objs.size+1)=some (seqObj "list" vs.toArray 0):=z1 ▸ wV _ rfl
  show wpAny _ _ _ _ _ { s with heap:=((s.heap.push (seqObj "list" #[] 0)).update s.heap.objs.size (Obj.mapSeq (· ++ vs.toArray))).push (seqObj "list" vs.toArray 0) }
  rw [z1]
  refine wD (x_ (xJ slot_list_sort ⟨_,g,rfl⟩ entry_list_sort (Ts.jC fL g (il hI) (fun x y r e=>keyKind_ints (by rw [← e];exact hI)) lim fun st a1 a2=>⟨_,rfl,?_⟩) (args_list_sort _)))
  obtain ⟨zs,h1,h2,h3⟩:=e6 hI a1 a2
  exact wI ⟨_,rfl,q _ zs h1 h2 h3⟩
end
section
variable {X:Cx}
theorem iq:∀ {ns:List Int} {us:List Value},aZ (ns.map V.int) us→IntsAre us ns
 | [],_,.nil=>.nil
 | n::ns,_,.cons r t=>by
  obtain ⟨t',rfl⟩:=r
  exact .cons n t' (iq t)
theorem d5:∀ {us:List Value} {ns:List Int},IntsAre us ns→aZ (ns.map V.int) us
 | _,_,.nil=>.nil
 | _,_,.cons n t h=>.cons ⟨t,rfl⟩ (d5 h)
inductive bc (K:PySem.W.Frag)(xs:List V)(H:Hp)(Q:VK):Prop
 | mk:∀ (l:Addr) (ys:List Int),(xs=[.ref l])→((SqL K H l (ys.map V.int) ∨ SqT K H l (ys.map V.int)))→(∀ (p:Addr) (zs:List Int),H p=none→zs.Perm ys→zs.Pairwise (· ≤ ·)→Q (.ref p) (upd H p (.lst (zs.map V.int))))→bc K xs H Q
theorem bL {K:PySem.W.Frag}(hK:X.K=K):cP X (.builtin "sorted") (bc K):=by
 subst hK
 intro pins s σ H xs us Q I r h
 obtain ⟨l,ys,rfl,hq,q⟩:=h
 obtain ⟨u,rfl,ru⟩:=cI r
 cases ru
 obtain ⟨its,rv,pl,hz⟩:∃ its,aZ (ys.map V.int) its∧(s.heap.IsList l its.toArray ∨ s.heap.IsTuple l its.toArray)∧(ys.map V.int).length≤sizeLine:=by
  rcases hq with hq | hq
  ·obtain ⟨its,rv,pl,hz⟩:=I.list hq
   exact ⟨its,rv,.inl pl.isList,hz⟩
  ·obtain ⟨its,rv,pl,hz⟩:=I.tuple hq
   exact ⟨its,rv,.inr pl,hz⟩
 have hS:=iq rv
 have hlen:its.length=ys.length:=by rw [← rv.length,fu]
 rw [fu] at hz
 refine ip pl hS (by omega) fun out zs hO hp hs=>?_
 obtain ⟨e,he⟩:=sortedAll_at s.heap its out
 have I2:Inv X pins σ (upd H (s.heap.objs.size+1) (.lst (zs.map V.int))) { s with heap:=sortedAll s.heap its out,toks:=s.toks } :=
  I.laid (fun b o e=>sortedAll_old e) (Br _) ⟨by rw [fu,hp.length_eq];exact hz,out.toList,e,d5 hO,by simpa [seqObj] using he⟩
 exact ⟨.ref (s.heap.objs.size+1),_,I2,rfl,q _ zs (I.hok.fresh (Br _)) hp hs⟩
end
end L2
namespace Tv
open PySem PyProof.Rows
section
variable {prog:Program} {w:World} {A:Around} {E:Value→Shared→Prop} {s:Shared}
end
end Tv
namespace L2
open PySem PySem.Spec PyProof.Rows Wd Tv
section
variable {X:Cx}
end
end L2
namespace PySem
end PySem
namespace L2
open PySem PySem.Spec PyProof.Rows Wd
section
variable {X:Cx}
end
end L2
namespace HT
open PySem PySem.Spec PyProof.Rows
section
variable {prog:Program} {w:World} {A:Around} {E:Value→Shared→Prop} {s:Shared}
theorem d_ {sl:Addr}{tk:Tok}{n:Nat}{Q:Int × Int × Nat→Shared→Prop}(hs:s.heap.IsSliceOf sl .none .none (.int (-1) tk))
  (h:Q ((n:Int) - 1,-1,n) s):wpAny (model prog w) A (Builtin.Slice.sliceApplied (.ref sl) (pure (n:Int))) Q E s:=by
 obtain ⟨os,hos,hcs,hds⟩:=id hs
 unfold Builtin.Slice.sliceApplied Builtin.Slice.sliceFields
 refine wD (wD (yk hos hds (x:=.none) rfl (wD (yk hos hds (x:=.none) rfl (wD (yk hos hds (x:=.int (-1) tk) rfl (wI ?_)))))))
 refine wD (slicePart_int ?_)
 show wpAny _ _ (if ((-1:Int) == 0)=true then _ else _) _ _ s
 rw [if_neg (by decide)]
 refine wD (AM (wD (AM (wD (wI ?_)))))
 have e:Builtin.Slice.slicePlaces ((n:Int) - 1) (-1) (-1)=n:=by
  unfold Builtin.Slice.slicePlaces
  rw [if_neg (by decide)]
  by_cases hn:n=0
  ·subst hn;decide
  ·rw [if_pos (by omega),show (-(-1):Int)=1 from rfl,Int.ediv_one];omega
 show wpAny _ _ (pure ((n:Int) - 1,(-1:Int),Builtin.Slice.slicePlaces ((n:Int) - 1) (-1) (-1))) _ _ s
 rw [e]
 exact wI h
theorem cO {α β:Type}{f:α→Option β}{g:α→β}:∀ {l:List α},(∀ m∈l,f m=some (g m))→l.filterMap f=l.map g
 | [],_=>rfl
 | a::r,h=>by rw [List.filterMap_cons_some (h a w4),xr,cO fun m hm=>h m (w_ _ hm)]
theorem ox (xs:Array Value):((List.range xs.size).filterMap fun (m:Nat)=>xs[((xs.size:Int) - 1+(m:Int)*(-1)).toNat]?).toArray=xs.toList.reverse.toArray:=by
 congr 1
 have e:∀ m∈List.range xs.size,xs[((xs.size:Int) - 1+(m:Int)*(-1)).toNat]? = some ((fun m=>xs.toList.getD (xs.size - 1 - m) .none) m):=by
  intro m hm
  have hm:=zF.mp hm
  have:((xs.size:Int) - 1+(m:Int)*(-1)).toNat=xs.size - 1 - m:=by omega
  rw [this]
  have hlt:xs.size - 1 - m < xs.size:=by omega
  simp [List.getD,hlt]
 rw [cO e]
 apply AX
 intro i
 rw [wL]
 by_cases hi:i < xs.size
 ·rw [List.getElem?_range hi,zo (by simpa using hi)]
  have hlt:xs.size - 1 - i < xs.size:=by omega
  simp [List.getD,hlt]
 ·rw [yz (by simpa using hi),yz (by simp;omega)]
  rfl
theorem dO {t sl:Addr}{items:Array Value}{tk:Tok}{Q:Value→Shared→Prop}(ht:IsTup s.heap t items)(hs:s.heap.IsSliceOf sl .none .none (.int (-1) tk))
  (h:Q (.ref s.heap.objs.size) { s with heap:=s.heap.push { cls:=.type "tuple",data:=.seq items.toList.reverse.toArray } })
  (hsz:items.size≤sizeLine):wpAny (model prog w) A (getItem (.ref t) (.ref sl)) Q E s:=by
 have htake:sizeOk (.seq items.toList.reverse.toArray):=by
  show items.toList.reverse.toArray.size≤sizeLine
  rw [wX,yH,wN]
  exact hsz
 obtain ⟨os,hos,hcs,hds⟩:=id hs
 have hTs:s.TypeIs (.ref sl) "slice":=⟨os,hos,hcs⟩
 unfold getItem
 try with_reducible refine x_ ?_
 first | refine wD (wI ?_) | skip
 refine wD (AR ht.typeIs (by decide) ?_)
 refine wD (xG (name:=Str.ofString "__getitem__") ht.typeIs xY
  (xJ xY ht.typeIs Ax ?_ (AI _ _)))
 show wpAny _ _ (Builtin.Tuple.tupleItemsOf (.ref t) >>= _) _ _ s
 refine wD (tupleItemsOf_ ht ?_)
 refine wD (AJ hTs ?_)
 rw [if_pos (by decide)]
 refine wD (d_ hs ?_)
 show wpAny _ _ (if ((((items.size:Nat):Int) - 1 == 0 && (-1:Int) == 1 && items.size == items.size)=true) then _ else _) _ _ s
 rw [if_neg (by simp),ox]
 first
  | exact wD (m:=Builtin.Tuple.tupleExact _) (xP (wI ⟨_,rfl,wI h⟩) htake)
  | exact wD (m:=Builtin.Tuple.tupleExact _) (xP (wD (wI (wI ⟨_,rfl,wI h⟩))) htake)
  | exact wD (wD (m:=Builtin.Tuple.tupleExact _) (xP (wI (wI ⟨_,rfl,wI h⟩)) htake))
  | exact wD (wD (m:=Builtin.Tuple.tupleExact _) (xP (wI ⟨_,rfl,wI h⟩) htake))
end
end HT
namespace L2
open PySem PySem.Spec PyProof.Rows Wd
section
variable {X:Cx}
def vf (te ts:TE):TE:=fun σ H Q=>te σ H fun x H1=>ts σ H1 fun k H2=>∃ a xs,x = .ref a∧k = .int (-1)∧H2 a=some (.tup xs)∧∀ p,H2 p=none→Q (.ref p) (upd H2 p (.tup xs.reverse))
theorem qK {e st:Expr}{te ts:TE}{pos p2:Pos}(he:PE X e te)(hs:PE X st ts):PE X (.Subscript e (.Slice none none (some st) p2) pos) (vf te ts):=by
 intro pins s σ H Q I h
 refine AS (thn (he pins s σ H _ I h) fun v s1 zq1=>?_)
 obtain ⟨x,H1,I1,r1,q1⟩:=zq1
 refine wpAny_Slice ?_
 rw [A4]
 refine wI ?_
 refine wI ?_
 rw [evalPart_some]
 refine thn (hs pins s1 σ H1 _ I1 q1) fun vs s3 zq2=>?_
 obtain ⟨k,H3,I3,r3,a,xs,ez,ek,hx,q3⟩:=zq2
 subst ez ek
 cases r1
 obtain ⟨tk,rfl⟩:=r3
 have I4:Inv X pins σ H3 { s3 with heap:=s3.heap.push { cls:=.type "slice",data:=.fields #[.none,.none,.int (-1) tk] } }:=I3.kept (t':=s3.toks) fun b ob q=>wK _ q
 obtain ⟨its,r,ht,hz⟩:=I4.tuple (SqT.of (K:=X.K) hx)
 show wpAny (model X.prog X.w) X.A (subscriptTail e (.Slice none none (some st) p2) (.ref a) (.ref s3.heap.objs.size)) (EP X pins σ Q) X.xe { s3 with heap:=s3.heap.push { cls:=.type "slice",data:=.fields #[.none,.none,.int (-1) tk] } }
 refine tail_any (ops:=[.ref a,.ref s3.heap.objs.size]) ht.typeIs xY.lookup ?_ (by with_unfolding_all rfl)
 refine HT.dO (tk:=tk) ht ⟨_,wV _ rfl,rfl,rfl⟩ ?_ (by rw [wX,← r.length];exact hz)
 refine ⟨.ref _,_,I4.laid (t':=s3.toks) (o:=.tup xs.reverse) (fun b ob q=>wK _ q) (wJ _) ?_,rfl,q3 _ (I4.hok.fresh (wJ _))⟩
 refine ⟨by rw [yH];exact hz,_,?_,IsTup.new _ _,.new _ _ rfl⟩
 exact r.reverse
end
end L2
namespace Kx
open PySem PySem.Spec PyProof.Rows L2 Wd
def fst (c:Option (Int × Int)):Int:=match c with | some (i,_)=>i | none=>0
end Kx
namespace L2
open PySem PySem.Spec PyProof.Rows Wd
section
variable {X:Cx}
end
end L2
namespace HT
open PySem PySem.Spec PyProof.Rows PySem.SeqAt
end HT
namespace L2
open PySem PySem.Spec PyProof.Rows Wd
section
variable {X:Cx}
end
theorem pK:bootBuiltins "enumerate" = some (.type "enumerate"):=by kernel_rfl
end L2
namespace L2
open PySem PySem.Spec PyProof.Rows
section
variable {M:Model} {A:Around} {E:Value→Shared→Prop} {s:Shared}
end
def exo (a C:Addr)(d:Option Addr)(b:Bool):Heap→Prop:=fun h =>
 ∃ oe vs,h.get? a=some oe∧oe.cls = .ref C∧oe.dict=d∧oe.data = .fields vs∧vs.size=6∧(b=true→vs[1]? = some .none)
abbrev Exo (a C:Addr)(d:Option Addr)(b:Bool):HO:=.ext (exo a C d b)
section
variable {P:Program} {w:World} {H:Hp} {h h':Heap} {fs:List Addr} {e C:Addr} {d:Option Addr} {b:Bool} {fl:Value}
end
section
variable {P:Program} {w:World} {K:PySem.W.Frag} {mg:Str→Option Value} {base:Heap} {N:List Str} {qual:Str} {scope:Scope} {f:Addr} {cd:Value} {A:Around} {outer:List Env} {s:Shared} {H:Hp} {E:XK}
end
section
variable {prog:Program} {w:World} {A:Around} {E:Value→Shared→Prop} {h:Heap} {g:Array GenState} {d:Drawn} {t:Nat} {os:OsState} {K:PySem.W.Frag} {C fI:Addr} {bm:List Value}
end
section
variable {X:Cx} {k:Nat} {f C:Addr} {fd:FuncData} {ps:List Str} {sp:Sp} {x:Str} {p pos:Pos} {e:Expr} {es:List Expr} {t:TA} {bm:List Value}
end
end L2
namespace L2
open PySem PySem.Spec PyProof.Rows Builtin Builtin.ObjectAttr
section
variable {prog:Program} {w:World} {A:Around} {E:Value→Shared→Prop} {h:Heap} {g:Array GenState} {d:Drawn} {t:Nat} {os:OsState} {K:PySem.W.Frag} {C e:Addr} {bm:List Value} {oe:Obj} {vs:Array Value}
section
variable {name:Str} {v:Value} {mA:Str→Option Value}
end
end
end L2
namespace L2
open PySem PySem.Spec PyProof.Rows
def xdt (d:Addr)(fs:List (Str × V)):Heap→Prop:=fun h=>∃ mA,h.Ns1 d mA∧(∀ f,kg (fs.lookup f) (mA f))∧PySem.Within mA (fs.map (·.1))
abbrev Xdt (d:Addr)(fs:List (Str × V)):HO:=.ext (xdt d fs)
section
variable {X:Cx} {pins:List (Addr × Obj)} {σ:St} {H:Hp} {s:Shared} {A:Around} {E:Value→Shared→Prop} {a C:Addr} {b:Bool} {f:Str} {y:V} {u:Value} {Q:Unit→Shared→Prop}
end
section
variable {X:Cx} {o e value:Expr} {es:List Expr} {f x:Str} {p pos pos' apos:Pos} {ta tv te:TE} {t:TA} {R:Addr} {E:XK}
end
section
variable {prog:Program} {w:World} {A:Around} {E:Value→Shared→Prop} {s:Shared} {K:PySem.W.Frag} {C a:Addr} {bm:List Value} {oe:Obj} {od:Option Obj} {name:Str} {fill expr:Bool} {tk:Tok}
end
section
variable {X:Cx} {pins:List (Addr × Obj)} {σ:St} {H:Hp} {s:Shared} {A:Around} {E:Value→Shared→Prop} {a C dx:Addr} {b:Bool} {fs:List (Str × V)} {f:Str} {v:V}
end
section
variable {X:Cx} {e:Expr} {f:Str} {pos:Pos} {ta:TE}
end
section
variable {X:Cx} {pins:List (Addr × Obj)} {σ:St} {H:Hp} {s:Shared}
end
section
variable {M:Model} {A:Around} {E:Value→Shared→Prop} {s:Shared}
end
section
variable {X:Cx} {E:XK} {x:Str} {ps:List Str} {k j:Nat} {sp:Sp} {e a b:Expr} {es:List Expr} {t:TA} {te tb:TE} {tt:TT} {p pos pos':Pos}
end
section
variable {K:PySem.W.Frag} {C R N:Addr} {dd d0:Option Addr} {c0 oc:Value} {cd cdR:ClassData} {k0 k1 k2 k3 k5:Option Value} {sl sl':Array (Option Value)} {es:Array DictEntry} {n:Nat} {bm bm':List Value}
end
section
variable {X:Cx} {x:Str} {C:Addr} {names:List Str} {k j:Nat} {e:Expr} {es:List Expr} {t:TA} {p pos:Pos}
end
section
variable {K:PySem.W.Frag} {C dx a:Addr} {b:Bool} {H:Hp}
end
section
variable {X:Cx} {K:PySem.W.Frag} {e:Expr} {f:Str} {pos:Pos} {ta:TE}
end
section
variable {X:Cx} {E:XK} {e a b c:Expr} {te ta tb:TE} {tA:TT} {pos:Pos}
end
section
variable {X:Cx} {x:Str} {ps:List Str} {k j:Nat} {sp:Sp} {e:Expr} {es:List Expr} {t:TA} {p pos:Pos}
end
section
variable {prog:Program} {w:World} {A:Around} {E:Value→Shared→Prop} {h:Heap} {g:Array GenState} {d:Drawn} {t:Nat} {os:OsState} {K:PySem.W.Frag} {C:Addr} {bm:List Value}
end
end L2
namespace Kx
open PySem PySem.Spec PyProof.Rows L2 Wd
theorem dec_int (j n:Nat):decide (V.int (0+(j:Int))=V.int (n:Int))=decide (n=j):=by
 by_cases e:n=j
 ·subst e;simp
 ·rw [w6 e,w6]
  intro z
  have:=V.int.inj z
  omega
end Kx
namespace L2
open PySem PySem.Spec PyProof.Rows
open Builtin
section
variable {X:Cx}
end
end L2
namespace Wd
def bo (W:List (List L)):List (Int × Int):=(List.range W.length).flatMap fun i=>(List.range (W.getD i []).length).map fun p:Nat=>((i:Int),(p:Int))
def ltS (W:List (List L))(p:Int × Int):Nat:=((W.getD p.1.toNat []).getD p.2.toNat 0).val % 6
def okS (W:List (List L))(p:Int × Int):Bool:=decide (0≤p.1) && decide (p.1 < W.length) && (decide (0≤p.2) && decide (p.2 < (W.getD p.1.toNat []).length))
theorem cR {W:List (List L)}{p:Int × Int}:p∈bo W ↔ okS W p=true:=by
 unfold bo okS
 rw [Ak]
 simp only [xK,xR]
 constructor
 ·rintro ⟨i,hi,h⟩
  obtain ⟨q,hq,rfl⟩:=xH.mp h
  rw [zF] at hi hq
  simp only [xu]
  omega
 ·rintro ⟨⟨h1,h2⟩,h3,h4⟩
  refine ⟨p.1.toNat,zF.mpr (by omega),xH.mpr ⟨p.2.toNat,zF.mpr (by omega),?_⟩⟩
  exact BB (by show ((p.1.toNat:Nat):Int)=p.1;omega) (by show ((p.2.toNat:Nat):Int)=p.2;omega)
def ltp (p q:Int × Int):Prop:=p.1 < q.1 ∨ (p.1=q.1∧p.2 < q.2)
theorem oy (i:Nat)(n:Nat):((List.range n).map fun p:Nat=>((i:Int),(p:Int))).Pairwise ltp:=by
 rw [List.pairwise_map]
 refine zC ?_ Bf
 intro a b h
 exact .inr ⟨rfl,by show ((a:Nat):Int) < (b:Nat);omega⟩
theorem dj (W:List (List L)):(bo W).Pairwise ltp:=by
 unfold bo
 rw [List.pairwise_flatMap]
 refine ⟨fun i _=>oy i _,?_⟩
 refine zC ?_ Bf
 intro a b h x hx y hy
 obtain ⟨p,_,rfl⟩:=xH.mp hx
 obtain ⟨q,_,rfl⟩:=xH.mp hy
 exact .inl (by show ((a:Nat):Int) < (b:Nat);omega)
theorem mf {l:List (Int × Int)}(h:l.Pairwise ltp):l.Nodup:=by
 refine zC ?_ h
 rintro a b h rfl
 unfold ltp at h
 omega
def tD (W:List (List L))(l:Nat):List (Int × Int):=(bo W).filter fun p=>decide (ltS W p=l)
theorem oz (W:List (List L))(l:Nat):(tD W l).Pairwise ltp:=(dj W).filter _
end Wd
namespace L2
open PySem PySem.Spec PyProof.Rows
theorem fy {X:Cx}{K:PySem.W.Frag}(hK:X.K=K):cP X (.type "tuple") (bQ K):=by subst hK; exact cf
end L2
namespace Kx
open PySem PySem.Spec PyProof.Rows L2 Wd
theorem vL {t u:TS}{D:gM}{σ:L2.St}{H:Hp}(h:t D σ H):iN t u D σ true H:=ux h
theorem uz {t u:TS}{D:gM}{σ:L2.St}{H:Hp}(h:u D σ H):iN t u D σ false H:=m_ h
theorem tE {u:TT}{σ:L2.St}{Q:Bool→Hp→Prop}{H:Hp}(h:u σ H Q):iM u σ Q true H:=ux h
theorem tF {u:TT}{σ:L2.St}{Q:Bool→Hp→Prop}{H:Hp}(h:Q false H):iM u σ Q false H:=m_ h
theorem nkT {Q:Bool→Hp→Prop}{H:Hp}(h:Q false H):km Q true H:=h
theorem aL {n:Nat}(h:n≤16777216):n≤sizeLine:=by rw [aV]; exact h
theorem Tp.nt {H:Hp}{d c a:Addr}{xs:List V}(F:Tp H d c)(h:H a=some (.tup xs)):a≠d:=by
 obtain ⟨i,l,t,ns,h1,_⟩:=F.ex
 exact b_ h h1 (by intro z;cases z)
structure Wy4 (n:Nat) (W:List (List L)) (H:Hp) (a:Addr):Prop where
 at_:H a=some (.tup (W.map tx))
 le:W.length≤4
 lo:1≤W.length
 ws:∀ w∈W,w≠[]∧w.length≤15∧InM n w
theorem Wy4.same {n:Nat}{W:List (List L)}{H H':Hp}{a:Addr}(h:Wy4 n W H a)(s:aA H H'):Wy4 n W H' a:=⟨s _ _ h.at_,h.le,h.lo,h.ws⟩
theorem Wy4.sb {n:Nat}{W:List (List L)}{H H':Hp}{a d c:Addr}(h:Wy4 n W H a)(F:Tp H d c)(s:bC d H H'):Wy4 n W H' a:=⟨s _ _ (F.nt h.at_) h.at_,h.le,h.lo,h.ws⟩
def StA (H:Hp)(zs:List (Addr × Int × Int)):Prop:=∀ z∈zs,H z.1=some (.tup [.int z.2.1,.int z.2.2])
theorem StA.same {H H':Hp}{zs:List (Addr × Int × Int)}(h:StA H zs)(s:aA H H'):StA H' zs:=fun z hz=>s _ _ (h z hz)
theorem StA.app {H:Hp}{zs ys:List (Addr × Int × Int)}(h:StA H zs)(g:StA H ys):StA H (zs++ys):=fun z hz=>(xm.mp hz).elim (h z) (g z)
inductive i0 (vs:List V)(H:Hp)(Q:VK)(u3_:XK):Prop
 | mk:∀ (a:Addr) (n:Nat) (W:List (List L)),(vs=[.ref a])→(Wy4 n W H a)→(∀ (l:Addr) (zs:List (Addr × Int × Int)) (H':Hp),H l=none→aA H H'→H' l=some (.lst ((zs.map (·.1)).map V.ref))→StA H' zs→zs.map (·.2)=bo W→Q (.ref l) H')→i0 vs H Q u3_
inductive qL (vs:List V)(H:Hp)(Q:VK)(u3_:XK):Prop
 | mk:∀ (a p:Addr) (n:Nat) (W:List (List L)) (i j:Int),(vs=[.ref a,.ref p])→(Wy4 n W H a)→(H p=some (.tup [.int i,.int j]))→(okS W (i,j)=true)→(Q (tx [(W.getD i.toNat []).getD j.toNat 0]) H)→qL vs H Q u3_
inductive gC (vs:List V)(H:Hp)(Q:VK)(u3_:XK):Prop
 | mk:∀ u,(vs=[tx u])→(u.length≤60)→(∀ (v:List L) (H':Hp),v.length≤u.length→(∀ x∈v,x∈u)→aA H H'→Q (tx v) H')→gC vs H Q u3_
inductive gD (vs:List V)(H:Hp)(Q:VK)(u3_:XK):Prop
 | mk:∀ u,(vs=[tx u])→(u.length≤60)→(∀ (v:List L),v.length≤u.length→(∀ x∈v,x∈u)→Q (tx v) H)→gD vs H Q u3_
inductive i3 (vs:List V)(H:Hp)(Q:VK)(u3_:XK):Prop
 | mk:∀ (d c:Addr) (m:Nat) (n:Int),(vs=[.ref d,.int (m:Int),.int n])→(Tp H d c)→(1≤m)→(m≤6)→(1≤n)→(n≤15)→(∀ (v:List L) (H':Hp),v≠[]→v.length≤15→InM m v→Tp H' d c→bC d H H'→Q (tx v) H')→i3 vs H Q u3_
inductive i4 (vs:List V)(H:Hp)(Q:VK)(u3_:XK):Prop
 | mk:∀ (d c:Addr) (m:Nat) (n:Int),(vs=[.ref d,.int (m:Int),.int 4,.int n])→(Tp H d c)→(1≤m)→(m≤6)→(1≤n)→(n≤15)→(∀ (a:Addr) (W:List (List L)) (H':Hp),Tp H' d c→bC d H H'→Wy4 m W H' a→Q (.ref a) H')→i4 vs H Q u3_
end Kx
namespace PySem
open Sem (wp)
section
variable {prog:Program} {w:World}
def bE (prog:Program)(w:World)(h:Heap)(k:Str × List Int)(a:Addr):Prop :=
 ∃ o t b n,h.get? a=some o∧o.cls = .type "tuple"∧o.data = .seq #[.str k.1 t,.ref b] n∧IsTupleKey (intKind prog w) h k.2 b∧PyData.strOk k.1=true
def jE (prog:Program)(w:World)(k:Str × List Int):Int:=reduceHash (Builtin.Tuple.tupleHashOf [hashStr w k.1,tupleKeyHash (intKind prog w) k.2])
theorem bE.typeIs {s:Shared}{k:Str × List Int}{a:Addr}(x:bE prog w s.heap k a):s.TypeIs (.ref a) "tuple":=let ⟨o,_,_,_,ho,hc,_⟩:=x; ⟨o,ho,hc⟩
theorem bE.inj {h:Heap}{a:Addr}{x y:Str × List Int}(hx:bE prog w h x a)(hy:bE prog w h y a):x=y:=by
 obtain ⟨o,t,b,n,ho,_,hd,hi,_⟩:=hx
 obtain ⟨o',t',b',n',ho',_,hd',hi',_⟩:=hy
 obtain rfl:o=o':=wO (ho.symm.trans ho')
 rw [hd] at hd'
 have e:=hd'
 injection e with h1 _
 have h2:=xF Array.toList h1
 simp only [Bk,Value.str.injEq,Value.ref.injEq,and_true] at h2
 obtain ⟨⟨e1,_⟩,e2⟩:=h2
 subst e2
 exact BB e1 (hi.inj hi')
theorem bE.keeps {h h':Heap}{k:Str × List Int}{a d:Addr}{o:Obj}{es ep}(x:bE prog w h k a)(ho:h.get? d=some o)(hd:o.data = .dict es ep)(hs:Heap.SameBut d h h'):bE prog w h' k a:=by
 obtain ⟨o',t,b,n,ho',hc,hd',hi,ok⟩:=x
 have hne:a≠d:=by
  rintro rfl
  obtain rfl:o'=o:=wO (ho'.symm.trans ho)
  rw [hd] at hd';exact nomatch hd'
 exact ⟨o',t,b,n,(hs.2 a hne).trans ho',hc,hd',hi.keeps ho hd hs,ok⟩
variable {A:Around} {E:Value→Shared→Prop} {s:Shared}
theorem dP {k:Str × List Int}{a:Addr}{Q:Int→Shared→Prop}(hu:A.units+8 < cLine)(hk:bE prog w s.heap k a)(h:Q (jE prog w k) { s with toks:=s.toks+(k.2.length+3) }) :
  wpAny (model prog w) A (pyHash (.ref a)) Q E s:=by
 have ty:=hk.typeIs
 have sl:=F.slot_tuple_hash
 obtain ⟨o,t,b,n,at_,_,dat,inner,_⟩:=hk
 have room:A.units < cLine:=by omega
 generalize hm:Builtin.Tuple.tupleHashOf [hashStr w k.1,tupleKeyHash (intKind prog w) k.2]=m
 have h:Q (reduceHash m) { s with toks:=s.toks+1+(k.2.length+1)+1 }:=by
  rw [← hm,show s.toks+1+(k.2.length+1)+1=s.toks+(k.2.length+3) by omega]
  exact h
 unfold pyHash pyHashByItsType
 refine wD (wpAny_cRoomFor_or (.inr room) (wD (yT ty sl.lookup ?_)))
 rw [show (some (Value.builtin "tuple.__hash__") == some Value.none)=false from beq_builtin_none ..]
 refine wD (yT ty sl.lookup (wD (wpAny_callSpecialIfBoundUnlessNone?_slot ty sl (xJ sl ty F.entry_tuple_hash (show wpAny _ A.in1 (Builtin.Tuple.tupleItemsOf (Value.ref a) >>= _) _ E s from wD (wpAny_tupleItemsOf at_ dat (wD ?_))) (F.args_tuple_hash_1 _)))))
 rw [← Array.forIn_toList]
 show wpAny _ _ (forIn [Value.str k.1 t,Value.ref b] _ _) _ _ _
 rw [Az]
 refine wD (wD (wpAny_pyHash_str (wI ?_)))
 dsimp only
 rw [Az]
 refine wD (wD (wpAny_pyHash_tuple (knd:=intKind prog w) (s:={ s with toks:=s.toks+1 }) (by show A.units+1 < cLine;omega) inner (wI ?_)))
 dsimp only
 rw [List.forIn_nil]
 refine wI (wpAny_ret_mkInt ?_)
 dsimp only
 rw [show Builtin.Tuple.tupleHashOf ((#[].push (hashStr w k.1)).push (tupleKeyHash (intKind prog w) k.2)).toList=m from hm]
 unfold reduceHash at h
 unfold pyHashByItsType.reduced
 split at h
 ·rename_i c
  rw [if_pos c]
  exact wI h
 ·rename_i c
  rw [if_neg c]
  exact wD (zx (wI h))
def cJ (k:Str × List Int):PyData:=.tuple [.str k.1,.tuple (k.2.map .int)]
theorem ir {h:Heap}:∀ {ks:List Int} {vs:List Value},ItemsAre (intKind prog w) ks vs→ReadsAll h vs (ks.map .int) []
 | _,_,.nil=>.nil
 | _,_,.cons q r=>by
  obtain ⟨t,rfl⟩:=Value.isInt_shape q
  exact .cons (as:=[]) (bs:=[]) (.int _ _) (ir r)
theorem bE.reads {h:Heap}{k:Str × List Int}{a:Addr}(q:bE prog w h k a):Reads h (.ref a) (cJ k) []:=by
 obtain ⟨o,t,b,n,h1,h2,h3,⟨o2,its,n2,g1,g2,g3,g4⟩,_⟩:=q
 exact .tuple h1 h2 h3 (.cons (as:=[]) (bs:=[]) (.str _ _) (.cons (as:=[]) (bs:=[]) (.tuple g1 g2 g3 (ir g4)) .nil))
theorem eD:∀ x y:List Int,PyData.eqvAll (x.map .int) (y.map .int)=decide (x=y)
 | [],[]=>rfl
 | [],_::_=>rfl
 | _::_,[]=>rfl
 | a::x,b::y=>by
  show ((a == b) && PyData.eqvAll (x.map .int) (y.map .int))=_
  rw [eD x y,x8]
  simp
theorem jF (x y:Str × List Int):PyData.eqv (cJ x) (cJ y)=decide (x=y):=by
 show ((x.1 == y.1) && (PyData.eqvAll (x.2.map .int) (y.2.map .int) && true))=_
 rw [eD,x8]
 simp [Prod.ext_iff]
theorem eE:∀ x:List Int,PyData.canLayAll0 (x.map .int)=true
 | []=>rfl
 | a::x=>by
  rw [xr,PyData.canLayAll0,eE x]
  rfl
theorem bE.ok {h:Heap}{k:Str × List Int}{a:Addr}(q:bE prog w h k a):PyData.strOk k.1=true:=let ⟨_,_,_,_,_,_,_,_,ok⟩:=q; ok
theorem eF {x:Str × List Int}(ok:PyData.strOk x.1=true):(cJ x).canLay0=true:=by
 unfold cJ PyData.canLay0
 rw [PyData.canLayAll0,PyData.canLayAll0,PyData.canLayAll0]
 have:(PyData.tuple (x.2.map .int)).canLay0=true:=by unfold PyData.canLay0;exact eE x.2
 rw [this]
 simp [PyData.canLay0,ok]
theorem dk:∀ x:List Int,PyData.depthAll (x.map .int)=0
 | []=>rfl
 | a::x=>by
  show max 0 (PyData.depthAll (x.map .int))=0
  rw [dk x]
  rfl
theorem iu (x:Str × List Int):(cJ x).depth≤2:=by
 show max 0 (max (PyData.depthAll (x.2.map .int)+1) 0)+1≤2
 rw [dk]
 decide
theorem dQ {x y:Str × List Int}{a b:Addr}{Q:Bool→Shared→Prop}(hu:A.units+8 < cLine)(hx:bE prog w s.heap x a)(hy:bE prog w s.heap y b)(h:Q (decide (x=y)) s) :
  wpAny (model prog w) A (eqBool (.ref a) (.ref b)) Q E s:=by
 have d:=iu x
 refine SeqAt.eqAt_reads _ _ A s _ _ _ _ hx.reads hy.reads (eF hx.ok) (eF hy.ok) (by omega) prog w E Q ?_
 rw [jF]
 exact h
theorem e7 {m:Nat}{a:Addr}{o:Obj}{its:Array Value}{n:Nat}{Q:Bool→Shared→Prop}(g:s.heap.get? a=some o)(c:o.cls = .type "tuple")(dt:o.data = .seq its n)(all:∀ v∈its.toList,∀ R:Bool→Shared→Prop,R true s→wpAny (model prog w) A (eqIsQuiet m v) R E s)
  (fin:Q true s):wpAny (model prog w) A (eqIsQuiet (m+1) (.ref a)) Q E s:=by
 have ty:s.TypeIs (.ref a) "tuple":=⟨o,g,c⟩
 unfold eqIsQuiet
 refine wD (yT ty F.slot_tuple_eq.lookup (show wpAny _ A (isInstance (Value.ref a) (Value.type "tuple") >>= _) Q E s from wD (Ai ty isSubtype_tuple_tuple ?_)))
 simp only [zy,xk,↓reduceIte]
 refine wD (Bq g dt (wD (show wpAny _ A (forIn its _ _) _ E s from ?_)))
 rw [← Array.forIn_toList]
 generalize its.toList=vs at all
 induction vs with
 | nil=>rw [List.forIn_nil];exact wI (wI fin)
 | cons v r ih =>
  rw [Az]
  refine wD (wD (all v w4 _ ?_))
  simp only [zy,xk,↓reduceIte]
  exact wI (ih fun u hu=>all u (w_ _ hu))
theorem e8 {m:Nat}{v:Value}{R:Bool→Shared→Prop}(c:carriedByValue v=true)(r:R true s):wpAny (model prog w) A (eqIsQuiet m v) R E s:=by
 rw [eqIsQuiet_byValue m c]
 exact wI r
theorem cK {k:Str × List Int}{a:Addr}{Q:Bool→Shared→Prop}(hk:bE prog w s.heap k a)(h:Q true s):wpAny (model prog w) A (eqIsQuiet 8 (.ref a)) Q E s:=by
 obtain ⟨o,t,b,n,h1,h2,h3,⟨o2,its,n2,g1,g2,g3,g4⟩,_⟩:=hk
 refine e7 h1 h2 h3 (fun v hv R r=>?_) h
 simp only [xg,xS,zH] at hv
 rcases hv with rfl | rfl
 ·exact e8 rfl r
 ·exact e7 g1 g2 g3 (fun u hu R r=>e8 (g4.byValue u hu) r) r
end
def eG (prog:Program)(w:World):HeapKind prog w (Str × List Int) where
 is:=bE prog w
 hash:=jE prog w
 draws:=fun k=>k.2.length+3
 room:=fun A=>A.units+8 < cLine
 inj:=fun hx hy=>hx.inj hy
 keeps:=fun x ho hd hs=>x.keeps ho hd hs
 pyHash:=fun hu hk h=>dP hu hk h
 eqBool:=fun hu hx hy h=>dQ hu hx hy h
 quiet:=fun hk h=>cK hk h
end PySem
namespace L2
open PySem PySem.Spec PyProof.Rows
abbrev NE:=(Str × List Int) × Addr × Int
inductive NEs:List NE→List ((Str × List Int) × Addr × Value)→Prop
 | nil:NEs [] []
 | cons {k:Str × List Int} {a:Addr} {i:Int} {t:Tok} {es:List NE} {xs:List ((Str × List Int) × Addr × Value)} (h:NEs es xs):NEs ((k,a,i)::es) ((k,a,.int i t)::xs)
def nd (P:Program)(w:World)(d:Addr)(es:List NE):Heap→Prop:=fun h =>
 es.length≤sizeLine∧(d == sysModules)=false∧(es.map (·.1)).Nodup∧∃ xs,NEs es xs∧∃ o en ep,h.get? d=some o∧o.ExactDict∧o.data = .dict en ep∧en.toList=xs.map (entryOfKey (eG P w))
abbrev Nd (P:Program)(w:World)(d:Addr)(es:List NE):HO:=.ext (nd P w d es)
theorem tG {P:Program}{w:World}{H:Hp}{h:Heap}{d:Addr}{es:List NE}(x:nd P w d es h):bH P w H h d (Nd P w d es):=by
 refine ⟨x,?_,fun h1 h2 y k=>?_⟩
 ·obtain ⟨_,_,_,xs,_,o,_,_,ho,_⟩:=x
  exact ⟨o,ho⟩
 ·obtain ⟨y1,y2,y3,xs,y4,o,en,ep,ho,y5⟩:=y
  exact ⟨y1,y2,y3,xs,y4,o,en,ep,k _ ho,y5⟩
theorem NEs.keys {es:List NE}{xs:List ((Str × List Int) × Addr × Value)}(h:NEs es xs):xs.map (·.1)=es.map (·.1):=by
 induction h with
 | nil=>rfl
 | cons _ ih=>rw [xr,xr,ih]
theorem NEs.length {es:List NE}{xs:List ((Str × List Int) × Addr × Value)}(h:NEs es xs):xs.length=es.length:=by
 have:=xF List.length h.keys
 rwa [fu,fu] at this
theorem NEs.mem {es:List NE}{xs:List ((Str × List Int) × Addr × Value)}(h:NEs es xs){x:(Str × List Int) × Addr × Value}(hx:x∈xs):∃ i,(x.1,x.2.1,i)∈es:=by
 induction h with
 | nil=>cases hx
 | cons _ ih =>
  rcases xg.mp hx with rfl | hx
  ·exact ⟨_,w4⟩
  ·obtain ⟨i,hi⟩:=ih hx
   exact ⟨i,w_ _ hi⟩
def qM (es:List NE)(k:Str × List Int):Option Int:=(es.find? fun e=>decide (e.1=k)).map (·.2.2)
theorem NEs.val {es:List NE}{xs:List ((Str × List Int) × Addr × Value)}(h:NEs es xs){k:Str × List Int}{i:Int}(e:qM es k=some i):∃ p t,atKey xs k=some p∧p.2 = .int i t:=by
 induction h with
 | nil=>cases e
 | @cons k' a' i' t' es' xs' h ih =>
  unfold qM at e
  unfold atKey
  by_cases c:k'=k
  ·rw [Bg (by simpa using c)] at e ⊢
   have e:i'=i:=wO e
   exact ⟨(a',.int i' t'),t',rfl,by rw [e]⟩
  ·rw [Bh (by simpa using c)] at e ⊢
   exact ih e
def oA (es:List NE)(k:Str × List Int)(a:Addr)(i:Int):List NE:=if k∈es.map (·.1) then es.map fun e=>if e.1=k then (e.1,e.2.1,i) else e else es++[(k,a,i)]
structure kc (H:Hp) (k:Str × List Int) (a:Addr):Prop where
 ex:∃ b,H a=some (.tup [.str k.1,.ref b])∧H b=some (.tup (k.2.map V.int))
 ok:PyData.strOk k.1=true
theorem jG {P:Program}{w:World}:∀ {ks:List Int} {us:List Value},aZ (ks.map V.int) us→ItemsAre (intKind P w) ks us
 | [],_,r=>by rw [zh] at r;cases r;exact .nil
 | k::ks,_,r=>by
  rw [xr] at r
  cases r with
  | cons h t =>
   obtain ⟨u,rfl⟩:=h
   exact .cons (by simp [intKind,Value.isInt]) (jG t)
theorem i5 {P:Program}{w:World}{H:Hp}{h:Heap}{k:Str × List Int}{a:Addr}(ok:HOk P w H h)(q:kc H k a):bE P w h k a:=by
 obtain ⟨b,e,eb⟩:=q.ex
 obtain ⟨_,its,r,⟨o,h1,h2,n,h3⟩,_⟩:=(show bH P w H h a (.tup [.str k.1,.ref b]) from ok a _ e)
 obtain ⟨_,its2,r2,⟨o2,g1,g2,n2,g3⟩,_⟩:=(show bH P w H h b (.tup (k.2.map V.int)) from ok b _ eb)
 cases r with
 | cons r1 r =>
  cases r with
  | cons r3 r =>
   cases r
   obtain ⟨t,rfl⟩:=r1
   cases r3
   exact ⟨o,t,b,n,h1,h2,h3,⟨o2,its2.toArray,n2,g1,g2,g3,by simpa using jG r2⟩,q.ok⟩
theorem tH {P:Program}{w:World}{H:Hp}{h:Heap}{d:Addr}{es:List NE}(ok:HOk P w H h)(e:H d=some (Nd P w d es))(hk:∀ x∈es,kc H x.1 x.2.1) :
  es.length≤sizeLine∧(d == sysModules)=false∧∃ xs,NEs es xs∧h.DictOfH (eG P w) d xs:=by
 obtain ⟨z,y,nk,xs,r,o,en,ep,h1,h2,h3,h4⟩:nd P w d es h:=(ok d _ e).1
 refine ⟨z,y,xs,r,o,en,ep,h1,h2,h3,h4,fun x hx=>?_,by rw [r.keys];exact nk⟩
 obtain ⟨i,hi⟩:=r.mem hx
 exact i5 ok (hk _ hi)
theorem j6 {es:List NE}{xs:List ((Str × List Int) × Addr × Value)}(h:NEs es xs)(k:Str × List Int)(a:Addr)(i:Int)(t:Tok):NEs (oA es k a i) (storedH xs k a (.int i t)):=by
 have hk:(atKey xs k).isSome=true ↔ k∈es.map (·.1):=by
  unfold atKey
  rw [Option.isSome_map,List.find?_isSome,← h.keys,xH]
  constructor
  ·rintro ⟨x,hx,e⟩
   exact ⟨x,hx,by simpa using e⟩
  ·rintro ⟨x,hx,e⟩
   exact ⟨x,hx,by simpa using e⟩
 have mp:∀ {es:List NE} {xs:List ((Str × List Int) × Addr × Value)},NEs es xs→NEs (es.map fun e=>if e.1=k then (e.1,e.2.1,i) else e) (xs.map (putAt k (.int i t))):=by
  intro es xs h
  induction h with
  | nil=>exact .nil
  | @cons k' a' i' t' es' xs' h ih =>
   rw [xr,xr]
   unfold putAt
   by_cases c:k'=k
   ·rw [if_pos c,if_pos c]
    exact .cons ih
   ·rw [if_neg c,if_neg c]
    exact .cons ih
 have ap:∀ {es:List NE} {xs:List ((Str × List Int) × Addr × Value)},NEs es xs→NEs (es++[(k,a,i)]) (xs++[(k,a,.int i t)]):=by
  intro es xs h
  induction h with
  | nil=>exact .cons .nil
  | cons _ ih=>exact .cons ih
 unfold oA storedH
 by_cases c:k∈es.map (·.1)
 ·rw [if_pos c,if_pos (hk.mpr c)]
  exact mp h
 ·rw [if_neg c,if_neg fun q=>c (hk.mp q)]
  exact ap h
section
variable {X:Cx} {pins:List (Addr × Obj)} {σ:St} {H:Hp} {s:Shared} {d b:Addr} {es:List NE} {k:Str × List Int} {A:Around} {E:Value→Shared→Prop}
theorem mh {i:Int}{Q:Value→Shared→Prop}(hu:A.units+9 < cLine)(I:Inv X pins σ H s)(e:H d=some (Nd X.prog X.w d es))(hk:∀ x∈es,kc H x.1 x.2.1)(eb:kc H k b)(hv:qM es k=some i)(h:∀ w' s',Inv X pins σ H s'→bB (.int i) w'→Q w' s') :
  wpAny (model X.prog X.w) A (getItem (.ref d) (.ref b)) Q E s:=by
 obtain ⟨z,hd,xs,rel,dd⟩:=tH I.hok e hk
 obtain ⟨p,t,hp,hp2⟩:=rel.val hv
 refine wpAny_getItem_heap (knd:=eG X.prog X.w) (by show A.units+1+8 < cLine;omega) (i5 I.hok eb) dd hp ?_
 rw [hp2]
 exact h _ _ (I.tok _) ⟨t,rfl⟩
theorem oB (es:List NE)(k:Str × List Int)(a:Addr)(i:Int):(oA es k a i).length≤es.length+1:=by
 unfold oA
 split
 ·rw [fu];omega
 ·rw [wQ];exact wJ _
theorem mi {i:Int}{r:Value}{Q:Unit→Shared→Prop}(hu:A.units+9 < cLine)(I:Inv X pins σ H s)(e:H d=some (Nd X.prog X.w d es))(hk:∀ x∈es,kc H x.1 x.2.1)(eb:kc H k b)(hl:es.length < sizeLine)(rv:bB (.int i) r)
  (h:∀ s',Inv X pins σ (upd H d (Nd X.prog X.w d (oA es k b i))) s'→Q () s'):wpAny (model X.prog X.w) A (setItem (.ref d) (.ref b) r) Q E s:=by
 obtain ⟨z,hd,xs,rel,dd⟩:=tH I.hok e hk
 obtain ⟨t,rfl⟩:=rv
 refine wpAny_setItem_heap (knd:=eG X.prog X.w) (hsz:=by rw [rel.length];exact z) (by show A.units+1+8 < cLine;omega) (i5 I.hok eb) dd fun h' dd' hs=>h _ ?_
 obtain ⟨q,en,ep,hq,h2,h3,h4,_,h5⟩:=dd'
 have st:=j6 rel k b i t
 have:=oB es k b i
 exact gc I (by rw [e];exact True.intro) hs ⟨q,hq⟩ (tG ⟨by omega,hd,by rw [← st.keys];exact h5,_,st,q,en,ep,hq,h2,h3,h4⟩)
theorem mj (I:Inv X pins σ H s)(e:H d=some (Nd X.prog X.w d es)):s.TypeIs (.ref d) "dict":=by
 obtain ⟨_,_,_,xs,_,o,en,ep,h1,h2,_⟩:nd X.prog X.w d es s.heap:=(I.hok d _ e).1
 exact ⟨o,h1,h2.1⟩
end
theorem oD {P:Program}{w:World}{H:Hp}(h:Heap)(hb:sysModules < h.objs.size):bH P w H (h.push { cls:=.type "dict",data:=.dict #[] }) h.objs.size (Nd P w h.objs.size []) :=
 tG ⟨xE _,zK.mpr (Ne.symm (xD hb)),z8,[],.nil,_,#[],0,wV _ rfl,⟨rfl,rfl,rfl⟩,rfl,rfl⟩
inductive pL (P:Program)(w:World)(σ:St)(H:Hp)(Q:VK):Prop
 | mk:(∀ p,H p=none→Q (.ref p) (upd H p (Nd P w p [])))→pL P w σ H Q
inductive qN (P:Program)(w:World)(x y:V)(H:Hp)(Q:VK):Prop
 | mk:∀ (d b:Addr) (es:List NE) (k:Str × List Int) (i:Int),(x = .ref d)→(y = .ref b)→(H d=some (Nd P w d es))→(∀ x∈es,kc H x.1 x.2.1)→(kc H k b)→(qM es k=some i)→(Q (.int i) H)→qN P w x y H Q
inductive tI (P:Program)(w:World)(x y v:V)(H:Hp)(R:Hp→Prop):Prop
 | mk:∀ (d b:Addr) (es:List NE) (k:Str × List Int) (i:Int),(x = .ref d)→(y = .ref b)→(v = .int i)→(H d=some (Nd P w d es))→(∀ x∈es,kc H x.1 x.2.1)→(kc H k b)→(es.length < sizeLine)→(R (upd H d (Nd P w d (oA es k b i))))→tI P w x y v H R
def vg (P:Program)(w:World)(td ty:TE):TE:=fun σ H Q=>td σ H fun x H1=>ty σ H1 fun y H2=>qN P w x y H2 Q
def vh (P:Program)(w:World)(td ty tv:TE):TS:=fun D σ H=>tv σ H fun v H1=>td σ H1 fun x H2=>ty σ H2 fun y H3=>tI P w x y v H3 (D.nx σ)
section
variable {X:Cx} {pos pos':Pos} {o i value:Expr} {td ty tv:TE}
theorem oE {P:Program}{w:World}(hP:X.prog=P)(hw:X.w=w):PE X (.Dict [] [] pos) (pL P w):=by
 subst hP hw
 exact fun pins s σ H Q I ⟨h⟩ =>
  wpAny_Dict_empty ⟨.ref s.heap.objs.size,_,I.laid (a:=s.heap.objs.size) (o:=Nd X.prog X.w s.heap.objs.size []) (t':=s.toks) (fun _ _ q=>wK _ q) (wJ _) (oD s.heap I.big),rfl,h _ (I.hok.fresh (wJ _))⟩
theorem jH {P:Program}{w:World}(hP:X.prog=P)(hw:X.w=w)(hu:X.A.units+9 < cLine)(ho:PE X o td)(hi:PE X i ty)(hs:uV i):PE X (.Subscript o i pos) (vg P w td ty):=by
 subst hP hw
 intro pins s σ H Q I h
 refine kO PySem.F.slot_dict_getitem.lookup hs (thn (ho pins s σ H _ I h) fun u s1 ⟨x,H1,I1,rx,q1⟩=>thn (hi pins s1 σ H1 _ I1 q1) fun iv s2 zq68=>?_)
 obtain ⟨y,H2,I2,ry,d,b,es,k,j,ex,ey,e,hk,eb,hv,q2⟩:=zq68
 subst ex ey
 obtain rfl:u=Value.ref d:=rx
 obtain rfl:iv=Value.ref b:=ry
 exact ⟨mj I2 e,mh hu I2 e hk eb hv fun w' s3 I3 rw'=>⟨.int j,H2,I3,rw',q2⟩⟩
theorem oF {P:Program}{w:World}(hP:X.prog=P)(hw:X.w=w)(hu:X.A.units+9 < cLine)(ho:PE X o td)(hi:PE X i ty)(hv:PE X value tv)(hs:swapsWith value (some (.Subscript o i pos')) pos.line X.env=pure false) :
  PS X (.Assign [.Subscript o i pos'] value pos) (vh P w td ty tv):=by
 subst hP hw
 intro pins s σ H D I h
 refine wpAny_Assign_Subscript (thn (hv pins s σ H _ I h) fun r s1 ⟨v,H1,I1,rv,q1⟩=>thn (ho pins s1 σ H1 _ I1 q1) fun u s2 ⟨x,H2,I2,rx,q2⟩=>thn (hi pins s2 σ H2 _ I2 q2) fun iv s3 zq71=>?_) hs
 obtain ⟨y,H3,I3,ry,d,b,es,k,j,ex,ey,ev,e,hk,eb,hl,q3⟩:=zq71
 subst ex ey ev
 obtain rfl:u=Value.ref d:=rx
 obtain rfl:iv=Value.ref b:=ry
 exact mi hu I3 e hk eb hl rv fun s4 I4=>⟨σ,_,I4,q3⟩
end
section
variable {X:Cx}
inductive tJ (x:V)(vs:List V)(H:Hp)(Q:VK):Prop
 | mk:∀ (l:Addr) (xs:List V) (y:V) (ds:List PyData) (dy:PyData) (j:Nat),(x = .ref l)→(vs=[y])→(H l=some (.lst xs))→(Dts H xs ds)→(Dt H y dy)→(PyData.canLayAll0 ds=true)→(dy.canLay0=true)→(PyData.depthAll ds≤9)→(xs.length≤100000) →
   ((ds[j]?).map (fun d=>PyData.eqv d dy)=some true)→(∀ i,i < j→(ds[i]?).map (fun d=>PyData.eqv d dy)=some false)→(Q (.int (j:Int)) H)→tJ x vs H Q
theorem ml {H:Hp}{h:Heap}{P:Program}{w:World}(ok:HOk P w H h):∀ {xs:List V} {ds:List PyData} {us:List Value},Dts H xs ds→aZ xs us→ds.length=us.length∧∀ (i:Nat) (u:Value),us[i]? = some u→∃ d as,ds[i]? = some d∧Reads h u d as
 | _,_,_,.nil,r=>by cases r;exact ⟨rfl,fun i u e=>by simp at e⟩
 | _,_,_,.cons a q,r=>by
  cases r with
  | cons r1 r2 =>
   obtain ⟨hl,hg⟩:=ml ok q r2
   refine ⟨by rw [xN,xN,hl],fun i u e=>?_⟩
   cases i with
   | zero =>
    simp only [List.getElem?_cons_zero,AY] at e
    subst e
    obtain ⟨as,ra⟩:=a.reads ok r1
    exact ⟨_,as,rfl,ra⟩
   | succ i =>
    obtain ⟨d,as,h1,h2⟩:=hg i u (by simpa using e)
    exact ⟨d,as,by simpa using h1,h2⟩
theorem mn:∀ {ds:List PyData},PyData.canLayAll0 ds=true→∀ d∈ds,d.canLay0=true
 | [],_,d,h=>by cases h
 | e::r,h,d,hd=>by
  have h:(e.canLay0 && PyData.canLayAll0 r)=true:=by rw [PyData.canLayAll0] at h;exact h
  rw [xK] at h
  rcases xg.mp hd with rfl | hd
  ·exact h.1
  ·exact mn h.2 d hd
theorem mq:∀ {ds:List PyData},∀ d∈ds,d.depth≤PyData.depthAll ds
 | e::r,d,hd=>by
  show _≤max e.depth (PyData.depthAll r)
  rcases xg.mp hd with rfl | hd
  ·omega
  ·have:=mq (ds:=r) d hd
   omega
open Classical in
def rF (h:Heap)(dy:PyData)(v:Value):Bool:=if ∃ d as,Reads h v d as∧PyData.eqv d dy=true then true else false
theorem mw {h:Heap}{dy d:PyData}{v:Value}{as:List Addr}(r:Reads h v d as):rF h dy v=PyData.eqv d dy:=by
 unfold rF
 split
 ·rename_i q
  obtain ⟨d',as',r',e⟩:=q
  rw [(r.unique _ _ r').1,e]
 ·rename_i q
  cases e:PyData.eqv d dy with
  | false=>rfl
  | true=>exact absurd ⟨d,as,r,e⟩ q
theorem fM (hu:X.A.units+64 < cLine):MtR X "list.index" tJ:=by
 intro pins s σ H x vs v us Q I rx rv h
 obtain ⟨l,xs,y,ds,dy,j,rfl,rfl,hH,hd,hy,ld,ly,dp,hn,hit,hno,q⟩:=h
 cases rx
 obtain ⟨u,rfl,ru⟩:=cI rv
 obtain ⟨its,n,r,e,_⟩:=I.lst hH
 obtain ⟨bs,rb⟩:=hy.reads I.hok ru
 obtain ⟨hl,hg⟩:=ml I.hok hd r
 have ev:∀ (i:Nat) (w:Value),its[i]? = some w→∃ d,ds[i]? = some d∧rF s.heap dy w=PyData.eqv d dy:=fun i w ei=>by
  obtain ⟨d,as,h1,h2⟩:=hg i w ei
  exact ⟨d,h1,mw h2⟩
 have hj:j < its.length:=by
  cases hq:ds[j]? with
  | none=>rw [hq] at hit;cases hit
  | some d=>rw [← hl];exact (wG.mp hq).1
 have hxl:its.length=xs.length:=r.length.symm
 refine z4 F.slot_list_index ⟨_,e,rfl⟩ F.entry_list_index (F.args_list_index_2 _ _) (SeqAt.list_indexAt l _ _ _ _ u (rF s.heap dy) j (by simpa using hj) (by omega) ?_ ?_) ⟨e,fun w hw=>?_,?_⟩
 ·obtain ⟨d,h1,h2⟩:=ev j its[j] (wF hj)
  rw [h1] at hit
  have hit:=wO hit
  show rF s.heap dy its.toArray[j]=true
  rw [List.getElem_toArray,h2]
  exact hit
 ·intro m hm hmj
  have hm':m < its.length:=by simpa using hm
  obtain ⟨d,h1,h2⟩:=ev m its[m] (wF hm')
  have q:=hno m hmj
  rw [h1] at q
  show rF s.heap dy its.toArray[m]=false
  rw [List.getElem_toArray,h2]
  exact wO q
 ·have hw:w∈its:=by rw [← List.mem_toArray];exact hw
  obtain ⟨i,hi,ei⟩:=List.mem_iff_getElem.mp hw
  obtain ⟨d,as,h1,h2⟩:=hg i w (by rw [wF hi,ei])
  rw [mw h2]
  have dm:=wR h1
  have dd:=mq d dm
  refine SeqAt.eqAt_reads _ _ _ _ _ _ _ _ h2 rb (mn ld d dm) ly ?_
  show X.A.units+1+min d.depth dy.depth < cLine
  omega
 ·exact ⟨.int _,H,I.tok _,⟨_,rfl⟩,q⟩
end
end L2
namespace Wd
open PySem L2
def lcp:List L→List L→List L
 | x::u,y::v=>if x=y then x::lcp u v else []
 | _,_=>[]
def wu (t o:List L):Bool:=decide (o≠t) && decide (t.length≤6*(lcp t o).length)
theorem btw:∀ {p x y z:List Nat},p <+: x→p <+: z→x≤y→y≤z→p <+: y
 | [],_,_,_,_,_,_,_=>List.nil_prefix
 | a::p,[],_,_,h,_,_,_=>by simp at h
 | a::p,_::_,_,[],_,h,_,_=>by simp at h
 | a::p,x::xs,[],z::zs,_,_,h,_=>by simp at h
 | a::p,x::xs,y::ys,z::zs,h,g,h1,h2=>by
  obtain ⟨e1,h3⟩:=Ae.mp h
  obtain ⟨e2,h4⟩:=Ae.mp g
  subst e1 e2
  rw [List.cons_le_cons_iff] at h1 h2
  have e:a=y:=by
   rcases h1 with h1 | h1
   ·rcases h2 with h2 | h2
    ·omega
    ·exact h2.1.symm
   ·exact h1.1
  subst e
  have h1:=(h1.resolve_left (xT _)).2
  have h2:=(h2.resolve_left (xT _)).2
  exact Ae.mpr ⟨rfl,btw h3 h4 h1 h2⟩
end Wd
namespace Kx
open PySem PySem.Spec PyProof.Rows L2 Wd
theorem nl:¬ ("letter":Str) = "number":=by decide +kernel
theorem nt:¬ ("turn":Str) = "number":=by decide +kernel
theorem tl:¬ ("turn":Str) = "letter":=by decide +kernel
end Kx
namespace Wd
open PySem L2
end Wd
namespace Kx
open PySem L2 Wd
end Kx
namespace PySem
open Sem (wp)
section
variable {prog:Program} {w:World} {A:Around} {E:Value→Shared→Prop} {s:Shared} {z TI TO i1 i2:Addr} {x y:Str} {t u:Tok} {k c d:Nat} {a b:Value}
end
end PySem
namespace L2
open PySem PySem.Spec PyProof.Rows
section
variable {X:Cx}
end
end L2
namespace Wd
end Wd
namespace Kx
open PySem PySem.Spec PyProof.Rows L2 Wd
def iv (r:List Nat):List V:=r.map fun i:Nat=>V.int (i:Int)
end Kx
namespace L2
open PySem PySem.Spec PyProof.Rows Wd
section
variable {X:Cx}
end
end L2
namespace Kx
open PySem PySem.Spec PyProof.Rows L2 Wd
def oL (o:Option (List L)):List V:=o.toList.map tx
theorem at1 {α:Type}(a b:α)(t:List α):atI (a::b::t) (1:Int)=some b:=cq (j:=1) rfl
theorem at2 {α:Type}(a b c:α)(t:List α):atI (a::b::c::t) (2:Int)=some c:=cq (j:=2) rfl
end Kx
namespace L2
open PySem PySem.Spec PyProof.Rows Wd
end L2
namespace Kx
open PySem PySem.Spec PyProof.Rows L2 Wd
def XP (C:Addr)(H:Hp)(a:Addr)(z:Str)(k:Nat):Prop:=∃ dx,H a=some (Exo a C (some dx) false)∧H dx=some (Xdt dx [("word",.str z),("at",.int (k:Nat))])
end Kx
namespace L2
open PySem PySem.Spec PyProof.Rows
theorem fN {α β:Type}{R:α→β→Prop}:∀ {xs:List α} {ys:List β},Paired R xs ys→∀ {i:Nat} {x:α},xs[i]? = some x→∃ y,ys[i]? = some y∧R x y
 | _,_,.nil,i,x,h=>by simp at h
 | _,_,.cons r q,0,x,h=>by cases h;exact ⟨_,rfl,r⟩
 | _,_,.cons r q,i+1,x,h=>fN q (i:=i) (by simpa using h)
section
variable {X:Cx} {tg:Expr}
end
end L2
namespace PySem
open Sem (wp)
section
variable {prog:Program} {w:World} {A:Around} {E:Value→Shared→Prop} {s:Shared}
theorem oG {it d:Addr}{i ep:Nat}{od:Obj}{es:Array DictEntry}{Q:Option Value→Shared→Prop}(st:s.heap.IsKeyIter it d i es.size ep)(g:s.heap.get? d=some od)(dt:od.data = .dict es ep)(hi:i < es.size)
  (fin:∀ h',h'.IsKeyIter it d (i+1) es.size ep→Heap.SameBut it s.heap h'→Q (some es[i].key) { s with heap:=h' }):wpAny (model prog w) A (pyNext (.ref it)) Q E s:=by
 have ty:=st.typeIs
 have sl:=Ar
 obtain ⟨o,ho,hc,hd⟩:=id st
 unfold pyNext
 refine wD (zw (xG (name:=Str.ofString "__next__") ty sl (xJ sl ty Al ?_ (Af _))))
 obtain ⟨hp,gn,dr,tk,os⟩:=s
 repeat (first | with_reducible refine z7 ho ?_ | with_reducible refine z7 g ?_ | wp_step)
 have own:Builtin.Dict_items.ownsTuple ((Manifest.find? "dict_keyiterator").elim "dict_keyiterator" fun x=>x.tpName)=false:=by kernel_rfl
 have fl:wpAny (model prog w) A.in1 (match o.data with | Data.fields vs=>pure vs | x=>unsupported "internal:no-fields") (fun a s'=>a=#[Value.ref d,Value.int (↑i) 0,Value.int (↑es.size) 0,Value.int (↑ep) 0]∧s'=⟨hp,gn,dr,tk,os⟩) (fun _ _=>False) ⟨hp,gn,dr,tk,os⟩:=by
  rw [hd]
  exact wI ⟨rfl,rfl⟩
 refine yt fl (fun a s' q=>?_) fun _ _ q=>q.elim
 obtain ⟨rfl,rfl⟩:=q
 rw [own]
 show wpAny _ _ (if (Value.ref d == Value.none)=true then _ else _) _ _ _
 rw [if_neg (by intro z;cases z)]
 refine wD (wI (wD (AZ g dt ?_)))
 dsimp only
 rw [if_neg (by simp)]
 refine wD (wI (wD (Bm g dt ?_)))
 rw [if_neg (by simp)]
 refine wI ?_
 dsimp only
 rw [if_neg (by omega),xu,yw hi]
 dsimp only
 let up:=fun x:Array Value=>x.setIfInBounds 1 (rawInt ((i:Int)+1))
 have st2:(hp.update it (Obj.mapFields up)).IsKeyIter it d (i+1) es.size ep:=by
  refine ⟨_,yN _ ho (zm (yp hd _)),?_,?_⟩
  ·rw [AW];exact hc
  ·rw [yp hd];simp [up,rawInt]
 refine wD (wD (Am ty (wI (wD (wpAny_isOneOf_keyiter ty (show wpAny _ _ (setField (Value.ref it) 1 (rawInt ((i:Int)+1)) >>= _) _ _ _ from wD (y_ ho hd (by simp) ?_)))))))
 refine wD (x_ (wD (wpAny_isOneOf_keyiter (s:=⟨hp.update it (Obj.mapFields up),gn,dr,tk,os⟩) st2.typeIs (show wpAny _ _ (pure es[i].key) _ _ _ from wI (wI ⟨_,rfl,wI (fin _ st2 (yX ..))⟩)))))
theorem qO {it d:Addr}{i ep:Nat}{od:Obj}{es:Array DictEntry}{Q:Option Value→Shared→Prop}(hh:A.handled=none)(st:s.heap.IsKeyIter it d i es.size ep)(g:s.heap.get? d=some od)(dt:od.data = .dict es ep)(hi:es.size≤i)
  (fin:∀ h',Heap.ExtBut it s.heap h'→Q none { s with heap:=h' }):wpAny (model prog w) A (pyNext (.ref it)) Q E s:=by
 have ty:=st.typeIs
 have sl:=Ar
 obtain ⟨o,ho,hc,hd⟩:=id st
 unfold pyNext
 refine wD (zw (xG (name:=Str.ofString "__next__") ty sl (xJ sl ty Al ?_ (Af _))))
 obtain ⟨hp,gn,dr,tk,os⟩:=s
 repeat (first | with_reducible refine z7 ho ?_ | with_reducible refine z7 g ?_ | wp_step)
 have own:Builtin.Dict_items.ownsTuple ((Manifest.find? "dict_keyiterator").elim "dict_keyiterator" fun x=>x.tpName)=false:=by kernel_rfl
 have fl:wpAny (model prog w) A.in1 (match o.data with | Data.fields vs=>pure vs | x=>unsupported "internal:no-fields") (fun a s'=>a=#[Value.ref d,Value.int (↑i) 0,Value.int (↑es.size) 0,Value.int (↑ep) 0]∧s'=⟨hp,gn,dr,tk,os⟩) (fun _ _=>False) ⟨hp,gn,dr,tk,os⟩:=by
  rw [hd]
  exact wI ⟨rfl,rfl⟩
 refine yt fl (fun a s' q=>?_) fun _ _ q=>q.elim
 obtain ⟨rfl,rfl⟩:=q
 rw [own]
 show wpAny _ _ (if (Value.ref d == Value.none)=true then _ else _) _ _ _
 rw [if_neg (by intro z;cases z)]
 refine wD (wI (wD (AZ g dt ?_)))
 dsimp only
 rw [if_neg (by simp)]
 refine wD (wI (wD (Bm g dt ?_)))
 rw [if_neg (by simp)]
 refine wI ?_
 dsimp only
 rw [if_neg (by omega),xu,Be hi]
 dsimp only
 refine wD (wD (Am ty (wI (show wpAny _ _ (setField (Value.ref it) 0 Value.none >>= _) _ _ _ from wD (y_ ho hd (by simp) ?_)))))
 have hh1:A.in1.handled=none:=hh
 simp only [newExc,newTuple,raiseNew]
 refine wD (wD (xP (wD (m:=firstArgMember _ _) (z5 (a:=Value.none) rfl (xP (wD (wpAny_handled ?_)) (by size_fits)))) (by size_fits)))
 rw [hh1]
 exact wpAny_throw (wD (Ai (T:="StopIteration") (b:=true) ⟨_,wV _ rfl,rfl⟩ Bp (wI (fin _ (((yX ..).extBut.push _).push _)))))
theorem jI {d:Addr}{ep:Nat}{od:Obj}{es:Array DictEntry}{Q:Value→Shared→Prop}(hd:(d == sysModules)=false)(g:s.heap.get? d=some od)(ex:od.ExactDict)(dt:od.data = .dict es ep)
  (fin:Q (.ref s.heap.objs.size) { s with heap:=s.heap.push { cls:=.type "dict_keyiterator",data:=.fields #[.ref d,.int 0 0,.int es.size 0,.int ep 0] } }):wpAny (model prog w) A (pyIter (.ref d)) Q E s:=by
 have ty:s.TypeIs (.ref d) "dict":=⟨od,g,ex.1⟩
 have sl:=F.slot_dict_iter
 refine wpAny_pyIter_slot ty sl (xJ sl ty F.entry_dict_iter ?_ (F.args_dict_iter_1 _))
 unfold Builtin.«dict.__iter__» Builtin.Dict.dictSlotNone
 refine wD (wD (wpAny_notOrdered_dict ty (show wpAny _ _ (pure (Value.ref d)) _ _ s from wI (show wpAny _ _ (Builtin.Dict.showsAll d >>= _) _ _ s from ?_))))
 unfold Builtin.Dict.showsAll
 rw [if_neg (by rw [hd];intro z;cases z)]
 refine wD (wI (wD (AZ g dt (wD (Bm g dt (wD (xP (wI ⟨_,rfl,"dict_keyiterator",_,⟨_,wV _ rfl,rfl⟩,Ar.lookup,?_⟩))))))))
 simpa [rawInt] using fin
end
end PySem
namespace L2
open PySem PySem.Spec PyProof.Rows
def tK (d:Addr)(o:Obj)(kvs:List (List Key × V)):It:=⟨fun i H=>i < kvs.length∧H d=some (.frz o (.dT kvs)),fun i H x H'=>H'=H∧∃ k v b,kvs[i]? = some (k,v)∧x = .ref b∧H b=some (.tup (k.map kV)),fun i H=>i=kvs.length∧H d=some (.frz o (.dT kvs))⟩
theorem mx {P:Program}{w:World}{H:Hp}{h:Heap}{d:Addr}{o:Obj}{kvs:List (List Key × V)}{es:Array DictEntry}{ep:Nat}(hok:HOk P w H h)(e:H d=some (.frz o (.dT kvs)))(he:o.data = .dict es ep) :
  h.get? d=some o∧∃ xs,KT H kvs xs∧es.toList=xs.map (entryOfKey (tupleKind (bj P w))):=by
 obtain ⟨g,z,hd,xs,rel,o',es',ep',g',ex,dt,r,_⟩:=hok d _ e
 rw [g] at g'
 cases g'
 rw [he] at dt
 cases dt
 exact ⟨g,xs,rel,r⟩
theorem fO {P:Program}{w:World}{K:PySem.W.Frag}{tg:Expr}{d it:Addr}{o:Obj}{es:Array DictEntry}{ep:Nat}{kvs:List (List Key × V)}(he:o.data = .dict es ep)(hz:es.size=kvs.length):pj P w K tg (tK d o kvs) [it] it (fun i h=>h.IsKeyIter it d i es.size ep) where
 mem:=by simp
 obj:=fun i h st b hb=>by
  have e:b=it:=by simpa using hb
  subst e
  obtain ⟨o,e,c,dd⟩:=st
  exact ⟨o,e,fun v z=>by rw [dd] at z;cases z⟩
 keep:=fun i h h' st kk=>st.at (kk it (by simp))
 item:=by
  intro X hP hw hK hc i pins s σ H E I hf st hg
  subst hP hw hK
  obtain ⟨hi,e⟩:=hg
  obtain ⟨f0,f1,f2,f3,f4,f5⟩:=hf it (by simp)
  obtain ⟨g,xs,rel,r⟩:=mx I.hok e he
  obtain ⟨p,hp⟩:∃ p,kvs[i]? = some p:=⟨_,wF hi⟩
  obtain ⟨p',hp',ek,eb,rv⟩:=fN rel hp
  have hi2:i < es.size:=by omega
  have key:es[i].key = .ref p'.2.1:=by
   have q:es.toList[i]? = some (entryOfKey (tupleKind (bj X.prog X.w)) p'):=by rw [r,wL,hp'];rfl
   have q2:es.toList[i]? = some es[i]:=by rw [xU,yw hi2]
   rw [q2] at q
   rw [wO q]
   rfl
  refine oG st g he hi2 fun h' st' hsb=>⟨_,rfl,?_⟩
  refine letGo_keyiter (s':={ s with heap:=h' }) st' ⟨.ref p'.2.1,H,?_,key,⟨rfl,p.1,p.2,p'.2.1,hp,rfl,eb⟩,st',fun b hb=>(hf b hb).1⟩
  exact I.turned (t':=s.toks) (fun b o hb e=>by rw [hsb.2 b hb];exact e) f0 f1 f3 f4 f5
 done:=by
  intro X hP hw hK hc i pins s σ H E I hf st hg
  subst hP hw hK
  obtain ⟨hi,e⟩:=hg
  obtain ⟨f0,f1,f2,f3,f4,f5⟩:=hf it (by simp)
  obtain ⟨g,xs,rel,r⟩:=mx I.hok e he
  refine qO (I.ok.hd hc) st g he (by omega) fun h' hx=>⟨rfl,?_⟩
  exact I.turned (t':=s.toks) (fun b o hb e=>hx b o hb e) f0 f1 f3 f4 f5
 self:=fun A i s Q E st h=>wpAny_pyIter_keyiter st h
section
variable {X:Cx} {tg:Expr}
inductive jJ (R:It→Hp→Prop)(x:V)(H1:Hp):Prop
 | mk:∀ d kvs,(x = .ref d)→(Rd H1 d (.dT kvs))→(∀ o H2,H2 d=some (.frz o (.dT kvs))→(∀ b,b≠d→H2 b=H1 b)→R (tK d o kvs) H2)→jJ R x H1
def tL (tl:TE):TI:=fun σ H R=>tl σ H (jJ R)
theorem oH {l:Expr}{tl:TE}(hl:PE X l tl):PI X tg l (tL tl):=by
 intro pins s σ H R I h
 refine thn (hl pins s σ H _ I h) fun v s1 zq1=>?_
 obtain ⟨x,H1,I1,r1,d,kvs,rfl,e,q⟩:=zq1
 cases r1
 rcases e with e | ⟨o,e⟩
 ·obtain ⟨z,hd,xs,rel,o,es,ep,g,ex,he,r,nd⟩:=(show bH X.prog X.w H1 s1.heap d (.dT kvs) from I1.hok d _ e)
  have hz:es.size=kvs.length:=by rw [← wN,r,fu];exact (zO rel).symm
  have I2:Inv X pins σ (upd H1 d (.frz o (.dT kvs))) s1:=by
   refine gc (t':=s1.toks) I1 (by rw [e];exact True.intro) ⟨rfl,fun _ _=>rfl⟩ ⟨o,g⟩ ⟨g,z,hd,xs,KT.keeps rel fun c ys ec=>?_,o,es,ep,g,ex,he,r,nd⟩
   rw [av (b_ ec e (fun z=>nomatch z))]
   exact ec
  refine jI hd g ex he ?_
  refine ⟨s1.heap.objs.size,[s1.heap.objs.size],_,tK d o kvs,_,rfl,I2.kept (t':=s1.toks) fun b o e=>wK _ e,fO he hz,⟨_,wV _ rfl,rfl,rfl⟩,fun b hb=>?_,q o _ ab fun b nb=>av nb⟩
  have e:b=s1.heap.objs.size:=by simpa using hb
  subst e
  exact I2.fpOk (wJ _) (I2.hok.fresh (wJ _))
 ·obtain ⟨g,z,hd,xs,rel,o',es,ep,g',ex,he,r,nd⟩:=I1.hok d _ e
  rw [g] at g'
  cases g'
  have hz:es.size=kvs.length:=by rw [← wN,r,fu];exact (zO rel).symm
  refine jI hd g ex he ?_
  refine ⟨s1.heap.objs.size,[s1.heap.objs.size],_,tK d o kvs,_,rfl,I1.kept (t':=s1.toks) fun b o e=>wK _ e,fO he hz,⟨_,wV _ rfl,rfl,rfl⟩,fun b hb=>?_,q o _ e fun b _=>rfl⟩
  have e:b=s1.heap.objs.size:=by simpa using hb
  subst e
  exact I1.fpOk (wJ _) (I1.hok.fresh (wJ _))
end
end L2
namespace PySem
open Sem (wp)
namespace F
end F
section
variable {prog:Program} {w:World} {A:Around} {E:Value→Shared→Prop} {s:Shared} {a:Addr} {its:Array Value} {n:Nat} {sl:Array (Option Value)}
end
end PySem
namespace L2
open PySem PySem.Spec PyProof.Rows Wd
theorem ints_of:∀ {ns:List Int} {us:List Value},aZ (ns.map V.int) us→∃ ps:List (Int × Tok),us=ps.map (fun p=>Value.int p.1 p.2)∧ps.map Prod.fst=ns
 | [],_,.nil=>⟨[],rfl,rfl⟩
 | n::ns,_,.cons r q=>by
  obtain ⟨ps,rfl,e⟩:=ints_of q
  obtain ⟨t,rfl⟩:=r
  exact ⟨(n,t)::ps,rfl,by rw [xr,e]⟩
section
variable {X:Cx}
inductive fP (K:PySem.W.Frag)(xs:List V)(H:Hp)(Q:VK):Prop
 | mk:∀ (l:Addr) (ns:List Int),xs=[.ref l]→SqL K H l (ns.map V.int)→Q (.int ns.sum) H→fP K xs H Q
theorem oI (hc:X.calm=true):cP X (.builtin "sum") (fP X.K):=by
 intro pins s σ H xs us Q I r h
 obtain ⟨l,ns,rfl,hq,q⟩:=h
 obtain ⟨u,rfl,ru⟩:=cI r
 cases ru
 obtain ⟨its,rv,pl,_⟩:=I.list hq
 obtain ⟨ps,rfl,e⟩:=ints_of rv
 have hl:s.heap.IsList l (intItems ps.toArray):=by
  have:=pl.isList
  unfold intItems
  simpa using this
 refine sum_intListG (I.ok.hd hc) hl fun h' tk t' hk=>?_
 refine ⟨.int ns.sum,H,I.kept hk,⟨t',?_⟩,q⟩
 rw [preSum_eq,xv (by simp)]
 have:(ps.toArray.toList.map Prod.fst)=ns:=by simpa using e
 exact xF (fun l:List Int=>Value.int l.sum t') this
end
section
variable {P:Program} {w:World} {A:Around} {E:Value→Shared→Prop} {I:Addr} {fp wr:List Addr} {G:Array GenState→Array GenState→Prop} {n:Nat} {Pv:Nat→Value→Prop} {St':Nat→Shared→Prop}
end
section
variable {X:Cx}
end
end L2
namespace Kx
open PySem PySem.Spec PyProof.Rows L2 Wd
theorem vi:bootBuiltins "sum" = some (.builtin "sum"):=by kernel_rfl
end Kx
namespace L2
open PySem PySem.Spec PyProof.Rows
theorem qP {X:Cx}{K:PySem.W.Frag}(hK:X.K=K)(hu:X.A.units < cLine):OpR X (compareOp .Lt) (uP K):=by subst hK; exact sj hu
end L2
namespace Kx
open PySem PySem.Spec PyProof.Rows L2 Wd
theorem lt0 {n c:Nat}(h:n+64 < c):n < c:=by omega
theorem lt9 {n c:Nat}(h:n+64 < c):n+9 < c:=by omega
def top (i:Nat):Stmt:=PySem.Challenge.pw_ringwords_k35_points_and_crossings.main.body.getD i (.Pass ⟨0,0,0,0⟩)
theorem pM {α:Type}{us:List α}(h:us.length=1):∃ a0,us=[a0]:=by
 cases us with
 | nil=>cases h
 | cons a0 us =>
  cases us with
  | nil=>exact ⟨a0,rfl⟩
  | cons b us=>cases h
theorem pN {α:Type}{us:List α}(h:us.length=2):∃ a0 a1,us=[a0,a1]:=by
 cases us with
 | nil=>cases h
 | cons a0 us =>
  cases us with
  | nil=>cases h
  | cons a1 us =>
   cases us with
   | nil=>exact ⟨a0,a1,rfl⟩
   | cons b us=>cases h
theorem nc {α:Type}{us:List α}(h:us.length=3):∃ a0 a1 a2,us=[a0,a1,a2]:=by
 cases us with
 | nil=>cases h
 | cons a0 us =>
  cases us with
  | nil=>cases h
  | cons a1 us =>
   cases us with
   | nil=>cases h
   | cons a2 us =>
    cases us with
    | nil=>exact ⟨a0,a1,a2,rfl⟩
    | cons b us=>cases h
theorem wx {α:Type}{us:List α}(h:us.length=4):∃ a0 a1 a2 a3,us=[a0,a1,a2,a3]:=by
 cases us with
 | nil=>cases h
 | cons a0 us =>
  cases us with
  | nil=>cases h
  | cons a1 us =>
   cases us with
   | nil=>cases h
   | cons a2 us =>
    cases us with
    | nil=>cases h
    | cons a3 us =>
     cases us with
     | nil=>exact ⟨a0,a1,a2,a3,rfl⟩
     | cons b us=>cases h
theorem wy {α:Type}{us:List α}(h:us.length=5):∃ a0 a1 a2 a3 a4,us=[a0,a1,a2,a3,a4]:=by
 cases us with
 | nil=>cases h
 | cons a0 us =>
  cases us with
  | nil=>cases h
  | cons a1 us =>
   cases us with
   | nil=>cases h
   | cons a2 us =>
    cases us with
    | nil=>cases h
    | cons a3 us =>
     cases us with
     | nil=>cases h
     | cons a4 us =>
      cases us with
      | nil=>exact ⟨a0,a1,a2,a3,a4,rfl⟩
      | cons b us=>cases h
section
variable {P:Program} {w:World} {K:PySem.W.Frag} {mg:Str→Option Value} {base:Heap} {aB:Addr}
abbrev ix:Stmt:=top 19
theorem qQ:aJ ["_law_script"] ["_law_script"] (ak ix):=⟨rfl,rfl,rfl,by decide +kernel,rfl,by decide +kernel,by decide +kernel⟩
theorem tM (D:Df K mg "_law_tape" ix)(T:Bt K w mg aB):Fnc P w K mg base "_law_tape" ["_law_script"] 1 (lG K):=by
 have sc:=qQ
 refine D.ok sc (fun _ _ _ _ _ _ us hl=>by obtain ⟨_,rfl⟩:=pM hl;rfl) (fun vs H Q E h=>?_) (fun f cdv A outer s H vs Q E hr h=>?_)
 ·obtain ⟨a,ns,rfl,_⟩:=h
  rfl
 ·obtain ⟨a,ns,rfl,hS,hlen,k⟩:=h
  refine ⟨_,(@au _ _ _ (@aN _ _ _ _ (@bM _ _ _ _ (@aa _ _ _ _ _ (@cn _ _ _ _ _ _ _ _ _ dY (by rfl) T.list pF (@aa _ _ _ _ _ (@bb _ _ _ _ _ _ _ _ _ _ iR (pv 0) bF (@br _ _ _ ao)) ae (by rfl)) (by decide) (by decide) (by rfl) (by rfl)) (@aa _ _ _ _ _ ao (@aa _ _ _ _ _ ao (@aa _ _ _ _ _ ao ae (by rfl)) (by rfl)) (by rfl)) (by rfl))))),?_⟩
  refine ⟨_,rfl,_,rfl,a,_,rfl,hS,fun q1 hq1=>?_⟩
  rw [u9 hlen]
  have s2:aA H (upd H q1 (.lst (ns.map V.int))):=aA.new hq1
  have l2:(upd H q1 (.lst (ns.map V.int))) q1=some (.lst (ns.map V.int)):=ab
  generalize upd H q1 (.lst (ns.map V.int))=H2 at s2 l2 ⊢
  refine ⟨q1,_,rfl,.inl (SqL.of l2),fun q2 hq2=>?_⟩
  have s3:aA H2 (upd H2 q2 (.lst (ns.map V.int))):=aA.new hq2
  have l3:(upd H2 q2 (.lst (ns.map V.int))) q2=some (.lst (ns.map V.int)):=ab
  generalize upd H2 q2 (.lst (ns.map V.int))=H3 at s3 l3 ⊢
  refine ⟨(by show 4≤sizeLine;decide),fun d hd=>?_⟩
  have n1:=none_of s2 hq2
  have n0:=none_of s2 (none_of s3 hd)
  exact k d q2 _ n0 n1 ⟨0,0,0,ns,ab,(aA.new hd) _ _ l3,ag l3 hd,hlen⟩ ((s2.trans s3).trans (aA.new hd))
abbrev iy:Stmt:=top 20
theorem qR:aJ ["_law_tape_here","_law_many","_law_spot","_law_cell","_law_mixed","_law_found"] ["_law_tape_here","_law_many"] (ak iy):=⟨rfl,rfl,rfl,by decide +kernel,rfl,by decide +kernel,by decide +kernel⟩
theorem tN (D:Df K mg "_law_draw" iy)(T:Bt K w mg aB):Fnc P w K mg base "_law_draw" ["_law_tape_here","_law_many"] 1 cQ:=by
 have sc:=qR
 refine D.ok sc (fun _ _ _ _ _ _ us hl=>by obtain ⟨_,_,rfl⟩:=pN hl;rfl) (fun vs H Q E h=>?_) (fun f cdv A outer s H vs Q E hr h=>?_)
 ·obtain ⟨d,c,m,rfl,_⟩:=h
  rfl
 ·obtain ⟨d,c,m,rfl,F,m0,m1,k⟩:=h
  have hu:=qg hr
  refine ⟨_,(@ah _ _ _ _ _ (@gQ _ _ _ _ _ _ (@aX _ _ _ _ _ _ _ _ bU (@aK _ _ _ _ _ _ _ aU (pv 0) ao (fun _ _=>rfl)) ao) (@jc _ _ _ _ _ _ _ (pv 0) ao eg (by intro _ ;rfl)) (by rfl) (by rfl) (by rfl)) (@ah _ _ _ _ _ (@d8 _ _ _ _ _ _ _ _ (@aR _ _ _ _ _ _ _ _ fV (@aK _ _ _ _ _ _ _ aU (pv 0) ao (fun _ _=>rfl)) ao (bh _)) (@ah _ _ _ _ _ (@aF _ _ (2) _ _ _ _ sc.nd rfl (Or.inl rfl) (@aK _ _ _ _ _ _ _ aU (pv 0) ao (fun _ _=>rfl)) (by rfl) (by first | exact .inl rfl | exact .inr rfl | assumption)) (@ah _ _ _ _ _ (@gQ _ _ _ _ _ _ (@aX _ _ _ _ _ _ _ _ bU (pv 2) ao) (@jc _ _ _ _ _ _ _ (pv 0) ao eg (by intro _ ;rfl)) (by rfl) (by rfl) (by rfl)) (@ah _ _ _ _ _ (@aF _ _ (3) _ _ _ _ sc.nd rfl (Or.inl rfl) ao (by rfl) (by first | exact .inl rfl | exact .inr rfl | assumption)) (@ah _ _ _ _ _ (@d8 _ _ _ _ _ _ _ _ (@aR _ _ _ _ _ _ _ _ pZ (@az _ _ _ _ _ _ _ _ _ aI (by rfl) T.len xt (@aa _ _ _ _ _ (@aK _ _ _ _ _ _ _ aU (pv 0) ao (fun _ _=>rfl)) ae (by rfl)) (by decide) (by decide) (by rfl) (by rfl)) ao (bh _)) (@au _ _ _ (@aF _ _ (3) _ _ _ _ sc.nd rfl (Or.inl rfl) (@aK _ _ _ _ _ _ _ aU (@aK _ _ _ _ _ _ _ aU (pv 0) ao (fun _ _=>rfl)) (@aX _ _ _ _ _ _ _ _ dU (pv 2) (@az _ _ _ _ _ _ _ _ _ aI (by rfl) T.len xt (@aa _ _ _ _ _ (@aK _ _ _ _ _ _ _ aU (pv 0) ao (fun _ _=>rfl)) ae (by rfl)) (by decide) (by decide) (by rfl) (by rfl))) (fun _ _=>rfl)) (by rfl) (by first | exact .inl rfl | exact .inr rfl | assumption))) bP) (@ah _ _ _ _ _ (@d8 _ _ _ _ _ _ _ _ (@PW.pt _ _ _ (@rO _ _ _ _ _ _ _ (@aR _ _ _ _ _ _ _ _ gU (pv 3) (@aX _ _ _ _ _ _ _ _ rX ao ao) (bh _)) (@ph _ _ _ _ (@aR _ _ _ _ _ _ _ _ uM (pv 2) (@az _ _ _ _ _ _ _ _ _ aI (by rfl) T.len xt (@aa _ _ _ _ _ (@aK _ _ _ _ _ _ _ aU (pv 0) ao (fun _ _=>rfl)) ae (by rfl)) (by decide) (by decide) (by rfl) (by rfl)) (bh _))))) (@ah _ _ _ _ _ (@aF _ _ (4) _ _ _ _ sc.nd rfl (Or.inl rfl) (@aX _ _ _ _ _ _ _ _ dU (@aX _ _ _ _ _ _ _ _ gS (@aX _ _ _ _ _ _ _ _ bU (@aX _ _ _ _ _ _ _ _ dU (pv 3) ao) (@aX _ _ _ _ _ _ _ _ gS ao (@aK _ _ _ _ _ _ _ aU (pv 0) ao (fun _ _=>rfl)))) ao) ao) (by rfl) (by first | exact .inl rfl | exact .inr rfl | assumption)) (@ah _ _ _ _ _ (@aF _ _ (4) _ _ _ _ sc.nd rfl (Or.inl rfl) (@aX _ _ _ _ _ _ _ _ dU (@aX _ _ _ _ _ _ _ _ gS (@aX _ _ _ _ _ _ _ _ bU (@aX _ _ _ _ _ _ _ _ dF (pv 4) ao) (@aX _ _ _ _ _ _ _ _ gS ao (@aK _ _ _ _ _ _ _ aU (pv 0) ao (fun _ _=>rfl)))) ao) ao) (by rfl) (by first | exact .inl rfl | exact .inr rfl | assumption)) (@au _ _ _ (@aN _ _ _ _ (@aX _ _ _ _ _ _ _ _ dU (@aX _ _ _ _ _ _ _ _ dF (pv 4) ao) (pv 1)))))) bP) (@au _ _ _ (@gQ _ _ _ _ _ _ (pv 3) (@jc _ _ _ _ _ _ _ (pv 0) ao eg (by intro _ ;rfl)) (by rfl) (by rfl) (by rfl)))))))) bP) (@ah _ _ _ _ _ (@aF _ _ (5) _ _ _ _ sc.nd rfl (Or.inl rfl) (@aX _ _ _ _ _ _ _ _ dU (@aK _ _ _ _ _ _ _ aU (pv 0) ao (fun _ _=>rfl)) (pv 1)) (by rfl) (by first | exact .inl rfl | exact .inr rfl | assumption)) (@ah _ _ _ _ _ (@gQ _ _ _ _ _ _ (@aX _ _ _ _ _ _ _ _ dF (@aK _ _ _ _ _ _ _ aU (pv 0) ao (fun _ _=>rfl)) (pv 1)) (@jc _ _ _ _ _ _ _ (pv 0) ao eg (by intro _ ;rfl)) (by rfl) (by rfl) (by rfl)) (@au _ _ _ (@aN _ _ _ _ (pv 5))))))),?_⟩
  obtain ⟨i,l,t,ns,hd,hc,dc,h63⟩:=F.ex
  have fin:∀ (r i' l' t':Int),0≤r→r < m→Q (.int r) (upd H d (.lst [.ref c,.int i',.int l',.int t'])):=fun r i' l' t' h0 h1 =>
   k r _ h0 h1 ⟨i',l',t',ns,ab,by rw [av dc];exact hc,dc,h63⟩ bC.upd
  have c1:∀ o,(upd H d o) c=some (.lst (ns.map V.int)):=fun o=>by rw [av dc];exact hc
  refine ⟨_,rfl,d,_,_,_,rfl,rfl,SqL.of hd,rfl,_,_,rfl,rfl,_,rfl,d,_,_,_,rfl,rfl,hd,rfl,?_⟩
  refine ⟨_,rfl,d,_,_,_,rfl,rfl,SqL.of ab,rfl,rfl,_,rfl,?_⟩
  refine iI (fun _=>?_) (fun _=>?_)
  rotate_left
  ·refine ⟨_,rfl,d,_,_,_,rfl,rfl,SqL.of ab,rfl,_,rfl,_,_,rfl,rfl,m0,?_⟩
   refine ⟨_,rfl,d,_,_,_,rfl,rfl,SqL.of ab,rfl,_,rfl,_,_,rfl,rfl,⟨m0,by omega⟩,_,rfl,d,_,_,_,rfl,rfl,ab,rfl,?_⟩
   refine ⟨_,rfl,?_⟩
   rw [dD]
   exact fin _ _ _ _ (yy _ (by omega)) (yi _ m0)
  refine ⟨_,rfl,d,_,_,_,rfl,rfl,SqL.of ab,rfl,?_⟩
  refine ⟨_,rfl,_,_,rfl,rfl,_,rfl,d,_,_,_,rfl,rfl,ab,rfl,?_⟩
  rw [dD]
  refine ⟨_,rfl,d,_,_,_,rfl,rfl,SqL.of ab,rfl,c,_,rfl,.inl (SqL.of (c1 _)),_,_,rfl,rfl,_,rfl,?_⟩
  refine iI (fun h0=>?_) (fun h0=>?_)
  ·have hne:ns≠[]:=by
    intro e
    subst e
    simp at h0
   have hl0:(0:Int) < ((ns.map V.int).length:Int):=by
    rw [fu]
    have:=AB.mpr hne
    omega
   obtain ⟨n,hn⟩:=qp hne i
   refine ⟨_,rfl,d,_,_,_,rfl,rfl,SqL.of ab,rfl,_,rfl,_,rfl,d,_,_,_,rfl,rfl,SqL.of ab,rfl,c,_,rfl,.inl (SqL.of (c1 _)),_,_,rfl,rfl,hl0,c,_,_,_,rfl,rfl,SqL.of (c1 _),hn,?_⟩
   refine ⟨_,rfl,_,_,rfl,rfl,⟨by decide,by decide,by decide⟩,_,_,rfl,rfl,_,rfl,?_⟩
   refine iI (fun h1=>?_) (fun h1=>?_)
   ·refine ⟨_,rfl,_,_,rfl,rfl,(by show (0:Int) < 1000003;decide),_,rfl,d,_,_,_,rfl,rfl,SqL.of ab,rfl,_,_,rfl,rfl,.inl ⟨by decide,by decide⟩,_,_,rfl,rfl,_,_,rfl,rfl,.inr ⟨by decide,by decide⟩,_,_,rfl,rfl,(by show (0:Int) < 2147483647;decide),?_⟩
    refine ⟨_,rfl,_,_,rfl,rfl,⟨by decide,by decide⟩,_,rfl,d,_,_,_,rfl,rfl,SqL.of ab,rfl,_,_,rfl,rfl,.inl ⟨by decide,by decide⟩,_,_,rfl,rfl,_,_,rfl,rfl,.inr ⟨by decide,by decide⟩,_,_,rfl,rfl,(by show (0:Int) < 2147483587;decide),?_⟩
    refine ⟨_,rfl,_,_,rfl,rfl,⟨by decide,by decide⟩,_,rfl,_,_,rfl,rfl,m0,?_⟩
    exact fin _ _ _ _ (yy _ (by omega)) (yi _ m0)
   ·refine ⟨_,rfl,_,rfl,d,_,_,_,rfl,rfl,SqL.of ab,rfl,c,_,rfl,.inl (SqL.of (c1 _)),_,_,rfl,rfl,_,rfl,?_⟩
    refine iI (fun h2=>?_) (fun h2=>?_)
    ·refine ⟨_,rfl,_,_,rfl,rfl,(by show (0:Int) < 1000003;decide),_,rfl,d,_,_,_,rfl,rfl,SqL.of ab,rfl,_,_,rfl,rfl,.inl ⟨by decide,by decide⟩,_,_,rfl,rfl,_,_,rfl,rfl,.inr ⟨by decide,by decide⟩,_,_,rfl,rfl,(by show (0:Int) < 2147483647;decide),?_⟩
     refine ⟨_,rfl,_,_,rfl,rfl,⟨by decide,by decide⟩,_,rfl,d,_,_,_,rfl,rfl,SqL.of ab,rfl,_,_,rfl,rfl,.inl ⟨by decide,by decide⟩,_,_,rfl,rfl,_,_,rfl,rfl,.inr ⟨by decide,by decide⟩,_,_,rfl,rfl,(by show (0:Int) < 2147483587;decide),?_⟩
     refine ⟨_,rfl,_,_,rfl,rfl,⟨by decide,by decide⟩,_,rfl,_,_,rfl,rfl,m0,?_⟩
     exact fin _ _ _ _ (yy _ (by omega)) (yi _ m0)
    ·refine ⟨_,rfl,_,rfl,d,_,_,_,rfl,rfl,ab,rfl,?_⟩
     rw [dD]
     refine ⟨_,rfl,d,_,_,_,rfl,rfl,SqL.of ab,rfl,_,rfl,_,_,rfl,rfl,m0,?_⟩
     refine ⟨_,rfl,d,_,_,_,rfl,rfl,SqL.of ab,rfl,_,rfl,_,_,rfl,rfl,⟨m0,by omega⟩,_,rfl,d,_,_,_,rfl,rfl,ab,rfl,?_⟩
     refine ⟨_,rfl,?_⟩
     rw [dD]
     exact fin _ _ _ _ (yy _ (by omega)) (yi _ m0)
  ·refine ⟨_,rfl,_,_,rfl,rfl,⟨by decide,by decide,by decide⟩,_,_,rfl,rfl,_,rfl,?_⟩
   refine iI (fun h1=>?_) (fun h1=>?_)
   ·refine ⟨_,rfl,_,_,rfl,rfl,(by show (0:Int) < 1000003;decide),_,rfl,d,_,_,_,rfl,rfl,SqL.of ab,rfl,_,_,rfl,rfl,.inl ⟨by decide,by decide⟩,_,_,rfl,rfl,_,_,rfl,rfl,.inr ⟨by decide,by decide⟩,_,_,rfl,rfl,(by show (0:Int) < 2147483647;decide),?_⟩
    refine ⟨_,rfl,_,_,rfl,rfl,⟨by decide,by decide⟩,_,rfl,d,_,_,_,rfl,rfl,SqL.of ab,rfl,_,_,rfl,rfl,.inl ⟨by decide,by decide⟩,_,_,rfl,rfl,_,_,rfl,rfl,.inr ⟨by decide,by decide⟩,_,_,rfl,rfl,(by show (0:Int) < 2147483587;decide),?_⟩
    refine ⟨_,rfl,_,_,rfl,rfl,⟨by decide,by decide⟩,_,rfl,_,_,rfl,rfl,m0,?_⟩
    exact fin _ _ _ _ (yy _ (by omega)) (yi _ m0)
   ·refine ⟨_,rfl,_,rfl,d,_,_,_,rfl,rfl,SqL.of ab,rfl,c,_,rfl,.inl (SqL.of (c1 _)),_,_,rfl,rfl,_,rfl,?_⟩
    refine iI (fun h2=>?_) (fun h2=>?_)
    ·refine ⟨_,rfl,_,_,rfl,rfl,(by show (0:Int) < 1000003;decide),_,rfl,d,_,_,_,rfl,rfl,SqL.of ab,rfl,_,_,rfl,rfl,.inl ⟨by decide,by decide⟩,_,_,rfl,rfl,_,_,rfl,rfl,.inr ⟨by decide,by decide⟩,_,_,rfl,rfl,(by show (0:Int) < 2147483647;decide),?_⟩
     refine ⟨_,rfl,_,_,rfl,rfl,⟨by decide,by decide⟩,_,rfl,d,_,_,_,rfl,rfl,SqL.of ab,rfl,_,_,rfl,rfl,.inl ⟨by decide,by decide⟩,_,_,rfl,rfl,_,_,rfl,rfl,.inr ⟨by decide,by decide⟩,_,_,rfl,rfl,(by show (0:Int) < 2147483587;decide),?_⟩
     refine ⟨_,rfl,_,_,rfl,rfl,⟨by decide,by decide⟩,_,rfl,_,_,rfl,rfl,m0,?_⟩
     exact fin _ _ _ _ (yy _ (by omega)) (yi _ m0)
    ·refine ⟨_,rfl,_,rfl,d,_,_,_,rfl,rfl,ab,rfl,?_⟩
     rw [dD]
     refine ⟨_,rfl,d,_,_,_,rfl,rfl,SqL.of ab,rfl,_,rfl,_,_,rfl,rfl,m0,?_⟩
     refine ⟨_,rfl,d,_,_,_,rfl,rfl,SqL.of ab,rfl,_,rfl,_,_,rfl,rfl,⟨m0,by omega⟩,_,rfl,d,_,_,_,rfl,rfl,ab,rfl,?_⟩
     refine ⟨_,rfl,?_⟩
     rw [dD]
     exact fin _ _ _ _ (yy _ (by omega)) (yi _ m0)
abbrev iz:Stmt:=top 4
theorem qS:aJ ["word"] ["word"] (ak iz):=⟨rfl,rfl,rfl,by decide +kernel,rfl,by decide +kernel,by decide +kernel⟩
theorem tO (D:Df K mg "back" iz)(T:Bt K w mg aB):Fnc P w K mg base "back" ["word"] 1 qq:=by
 have sc:=qS
 refine D.ok sc (fun _ _ _ _ _ _ us hl=>by obtain ⟨_,rfl⟩:=pM hl;rfl) (fun vs H Q E h=>?_) (fun f cdv A outer s H vs Q E hr h=>?_)
 ·obtain ⟨u,rfl,_⟩:=h
  rfl
 ·obtain ⟨u,rfl,hu,k⟩:=h
  have l16:=aV
  refine ⟨_,(@au _ _ _ (@aN _ _ _ _ (@bR _ _ _ _ _ _ _ _ _ _ _ _ xw yO yP eU bW (@aa _ _ _ _ _ (@bz _ _ _ _ _ _ _ (["letter"]) (["letter"]) ([]) _ _ _ _ (@bS _ _ _ _ _ _ rfl (by kernel_rfl)) rfl (@qh _ _ _ _ _ _ rfl T.reversed j2 (@aa _ _ _ _ _ (pv 0) ae (by rfl)) (by rfl)) (fun _ _ _ _=>@aE _ _ (0) _ (show (["letter"]:List Str).Nodup from by decide +kernel) rfl (Or.inl rfl) (by first | exact .inl rfl | exact .inr rfl | assumption)) (fun _ _ _ _=>bG) (fun _ _ _ _=>by (exact (@qi _ _ _ _ _ _ _ _ _ T.dB rfl rfl rfl T.mgB (pv 0) (fun _ _=>rfl) (by decide)))) (by intro _ ;rfl)) ae (by rfl)) (by rfl) (by rfl) (by rfl) (by rfl) (by rfl)))),?_⟩
  refine ⟨rfl,_,rfl,_,rfl,(by rw [af];omega),?_⟩
  refine cg (own:=["letter"]) (cap:=[]) (J:=u3 (toS u)) u.length (fun i ys σ H'=>H'=H∧ys=bK ((bk u).take i)∧∃ v,σ = [v]) ⟨rfl,rfl,none,rfl⟩ (fun i ys σ H' hi ⟨_,e,_⟩=>?_) (by omega) (fun i ys σ H' hi _=>?_) (fun ys σ H' _=>?_) ?_ ?_
  ·rw [e,aY,w9];omega
  ·show i < (toS u).cps.size;rw [bV];exact hi
  ·show _=(toS u).cps.size;rw [bV]
  ·rintro i ys σ H1 x H2 N hi ⟨rfl,rfl,v,rfl⟩ ⟨rfl,c,hc,rfl⟩ hN
   rw [bV] at hc
   obtain ⟨y,hy,e⟩:=eV hc
   obtain ⟨t,ht⟩:=T.gB y
   refine ⟨_,rfl,toS [y],toS [inv y],t,by rw [e],ht,hN _ _ _ ⟨rfl,?_,_,rfl⟩⟩
   rw [b9 (pG u hi hy),← bZ]
   rfl
  ·rintro ys σ H1 l ⟨rfl,rfl,v,rfl⟩ hl
   rw [xv (by rw [bY];exact wJ _)]
   refine ⟨_,l,(bk u).map fun x=>toS [x],rfl,rfl,SqL.of (by rw [ab,cH]),b8 _ (by rw [bY];omega),?_⟩
   rw [b7]
   exact k _ (aA.new hl)
abbrev e9:Stmt:=top 21
theorem oJ:aJ ["_law_word"] ["_law_word"] (ak e9):=⟨rfl,rfl,rfl,by decide +kernel,rfl,by decide +kernel,by decide +kernel⟩
theorem qT (D:Df K mg "_law_back" e9):Fnc P w K mg base "_law_back" ["_law_word"] 1 qq:=by
 have sc:=oJ
 refine D.ok sc (fun _ _ _ _ _ _ us hl=>by obtain ⟨_,rfl⟩:=pM hl;rfl) (fun vs H Q E h=>?_) (fun f cdv A outer s H vs Q E hr h=>?_)
 ·obtain ⟨u,rfl,_⟩:=h
  rfl
 ·obtain ⟨u,rfl,hu,k⟩:=h
  have l16:=aV
  refine ⟨_,(@au _ _ _ (@aN _ _ _ _ (@bR _ _ _ _ _ _ _ _ _ _ _ _ xw yO yP eU bW (@aa _ _ _ _ _ (@bz _ _ _ _ _ _ _ (["_law_sign"]) (["_law_sign"]) ([]) _ _ _ _ (@bS _ _ _ _ _ _ rfl (by kernel_rfl)) rfl (@jm _ _ _ _ (@qw _ _ _ _ _ _ _ (pv 0) (@kr _ _ _ _ _ _ gT ao))) (fun _ _ _ _=>@aE _ _ (0) _ (show (["_law_sign"]:List Str).Nodup from by decide +kernel) rfl (Or.inl rfl) (by first | exact .inl rfl | exact .inr rfl | assumption)) (fun _ _ _ _=>bG) (fun _ _ _ _=>by (exact (@fU _ _ _ _ _ _ _ _ (@aR _ _ _ _ _ _ _ _ gX (pv 0) bW rfl) (@lC _ _ _ _ _ _ _ _ _ (K) rfl xw ze zf eA (pv 0) (by rfl) (by rfl)) (@lC _ _ _ _ _ _ _ _ _ (K) rfl xw PySem.F.slot_str_upper PySem.F.type_str_upper nS (pv 0) (by rfl) (by rfl))))) (by intro _ ;rfl)) ae (by rfl)) (by rfl) (by rfl) (by rfl) (by rfl) (by rfl)))),?_⟩
  refine ⟨rfl,_,rfl,_,rfl,toS u,rfl,rfl,(by rw [af];omega),?_⟩
  rw [n4]
  refine ⟨_,rfl,?_⟩
  refine cg (own:=["_law_sign"]) (cap:=[]) (J:=Its (toS u.reverse)) u.length (fun i ys σ H'=>H'=H∧ys=bK ((bk u).take i)∧∃ v,σ = [v]) ⟨rfl,rfl,none,rfl⟩ (fun i ys σ H' hi ⟨_,e,_⟩=>?_) (by omega) (fun i ys σ H' hi _=>?_) (fun ys σ H' _=>?_) ?_ ?_
  ·rw [e,aY,w9];omega
  ·show i < (toS u.reverse).cps.size;rw [bV,yH];exact hi
  ·show _=(toS u.reverse).cps.size;rw [bV,yH]
  ·rintro i ys σ H1 x H2 N hi ⟨rfl,rfl,v,rfl⟩ ⟨rfl,c,hc,rfl⟩ hN
   obtain ⟨y,hy,e⟩:=eV hc
   have hb:(bk u)[i]? = some (inv y):=pG u hi (by rw [zo hi] at hy;exact hy)
   refine ⟨_,rfl,_,_,rfl,rfl,_,rfl,?_⟩
   rw [e,pI]
   refine iI (fun h=>?_) (fun h=>?_)
   ·have h:¬ y.val < 6:=by simpa using h
    exact ⟨_,rfl,rfl,_,rfl,rfl,(by rw [af];show 1≤5592405;decide),hN _ _ _ ⟨rfl,by rw [lh h,b9 hb,← bZ];rfl,_,rfl⟩⟩
   ·have h:y.val < 6:=by simpa using h
    exact ⟨_,rfl,rfl,_,rfl,rfl,(by rw [af];show 1≤5592405;decide),hN _ _ _ ⟨rfl,by rw [k_ h,b9 hb,← bZ];rfl,_,rfl⟩⟩
  ·rintro ys σ H1 l ⟨rfl,rfl,v,rfl⟩ hl
   rw [xv (by rw [bY];exact wJ _)]
   refine ⟨_,l,(bk u).map fun x=>toS [x],rfl,rfl,SqL.of (by rw [ab,cH]),b8 _ (by rw [bY];omega),?_⟩
   rw [b7]
   exact k _ (aA.new hl)
end
inductive my (vs:List V)(H:Hp)(Q:VK)(u3_:XK):Prop
 | mk:∀ (d c:Addr) (m:Int),(vs=[.ref d,.int m])→(Tp H d c)→(1≤m)→(m≤6)→(∀ (u:List L) (k:Nat) (H':Hp),SK u k→(k:Int)≤m→Tp H' d c→bC d H H'→Q (tx u) H')→my vs H Q u3_
def rG (a b c d:Nat):Bool:=decide (min a b < c∧c < max a b) != decide (min a b < d∧d < max a b)
inductive qU (vs:List V)(H:Hp)(Q:VK)(u3_:XK):Prop
 | mk:∀ (p q:Addr) (a b c d:Nat),(vs=[.ref p,.ref q])→(H p=some (.tup [.int (a:Int),.int (b:Int)]))→(H q=some (.tup [.int (c:Int),.int (d:Int)]))→(Q (.bl (rG a b c d)) H)→qU vs H Q u3_
theorem mz {F:List L}{x:L}(h:F.head? = some x):atI (bK F) 0=some (tx [x]):=by
 cases F with
 | nil=>simp at h
 | cons z r =>
  have:z=x:=wO h
  subst this
  unfold atI ixN bK
  rw [if_pos (by decide),if_pos (by simp)]
  rfl
def mB (W:List (List L))(i:Nat):List (Int × Int):=(List.range i).flatMap fun i=>(List.range (W.getD i []).length).map fun p:Nat=>((i:Int),(p:Int))
theorem iA (W:List (List L))(i:Nat):mB W (i+1)=mB W i++(List.range (W.getD i []).length).map fun p:Nat=>((i:Int),(p:Int)):=by
 unfold mB
 rw [zp,yI,yV,zJ,yf]
theorem ck {W:List (List L)}(h:∀ w∈W,w.length≤15):∀ i,(mB W i).length≤15*i
 | 0=>wJ _
 | i+1=>by
  rw [iA,wQ,fu,zD]
  have:=ck h i
  have g:(W.getD i []).length≤15:=by
   rw [xf]
   cases e:W[i]? with
   | none=>exact xE _
   | some w=>exact h w (wR e)
  omega
theorem qV {W:List (List L)}{i:Nat}{w:List L}(h:W[i]? = some w):W.getD i []=w:=by rw [xf,h]; rfl
theorem d7 {W:List (List L)}{i:Nat}{w:List L}{zs ys:List (Addr × Int × Int)}(hw:W[i]? = some w)(h1:zs.map (·.2)=mB W i)(h2:ys.map (·.2)=(List.range w.length).map fun p:Nat=>((i:Int),(p:Int))):(zs++ys).map (·.2)=mB W (i+1):=by
 rw [wM,h1,h2,iA,qV hw]
section
variable {P:Program} {w:World} {K:PySem.W.Frag} {mg:Str→Option Value} {base:Heap} {aB:Addr}
abbrev mD:Stmt:=top 3
theorem tP:aJ ["letter"] ["letter"] (ak mD):=⟨rfl,rfl,rfl,by decide +kernel,rfl,by decide +kernel,by decide +kernel⟩
theorem vj (D:Df K mg "number_of" mD)(T:Bt K w mg aB)(S:∃ t,mg "SMALL" = some (.str "abcdef" t)):Fnc P w K mg base "number_of" ["letter"] 1 qu:=by
 have sc:=tP
 refine D.ok sc (fun _ _ _ _ _ _ us hl=>by obtain ⟨_,rfl⟩:=pM hl;rfl) (fun vs H Q E h=>?_) (fun f cdv A outer s H vs Q E hr h=>?_)
 ·obtain ⟨x,rfl,_⟩:=h
  rfl
 ·obtain ⟨x,rfl,k⟩:=h
  obtain ⟨tS,mgS⟩:=S
  refine ⟨_,(@au _ _ _ (@aN _ _ _ _ (@bR _ _ _ _ _ _ _ _ _ _ _ _ xw zY zZ gs (@pX _ _ (.str "abcdef") _ _ rfl mgS ⟨_,rfl⟩ (by decide)) (@aa _ _ _ _ _ (@eO _ _ _ _ _ _ _ _ _ xw ze zf eA (pv 0) (by rfl) (by rfl)) ae (by rfl)) (by rfl) (by rfl) (by rfl) (by rfl) (by rfl)))),?_⟩
  exact ⟨rfl,_,rfl,rfl,_,rfl,rfl,(by rw [af];show 1≤5592405;decide),_,_,_,_,rfl,rfl,sO x,k⟩
abbrev mE:Stmt:=top 6
theorem tQ:aJ ["ways","found","number","way"] ["ways"] (ak mE):=⟨rfl,rfl,rfl,by decide +kernel,rfl,by decide +kernel,by decide +kernel⟩
theorem vk (D:Df K mg "strands_of" mE)(T:Bt K w mg aB)(Te:mg "enumerate" = none):Fnc P w K mg base "strands_of" ["ways"] 1 i0:=by
 have sc:=tQ
 refine D.ok sc (fun _ _ _ _ _ _ us hl=>by obtain ⟨_,rfl⟩:=pM hl;rfl) (fun vs H Q E h=>?_) (fun f cdv A outer s H vs Q E hr h=>?_)
 ·obtain ⟨a,n,W,rfl,_⟩:=h
  rfl
 ·obtain ⟨a,n,W,rfl,hW,k⟩:=h
  have l16:=aV
  have w15:∀ w∈W,w.length≤15:=fun w hw=>(hW.ws w hw).2.1
  refine ⟨_,(@ah _ _ _ _ _ (@aF _ _ (1) _ _ _ _ sc.nd rfl (Or.inl rfl) (@bM _ _ _ _ ae) (by rfl) (by first | exact .inl rfl | exact .inr rfl | assumption)) (@ah _ _ _ _ _ (@bt _ _ _ _ _ _ _ _ xA rfl (@sU _ _ rfl _ _ _ _ _ _ _ rfl Te pK (@aa _ _ _ _ _ (pv 0) ae (by rfl)) (by rfl)) (@gP _ _ _ _ _ _ rfl (@bp _ _ _ _ _ (@aE _ _ (2) _ sc.nd rfl (Or.inr rfl) (by first | exact .inl rfl | exact .inr rfl | assumption)) (@bp _ _ _ _ _ (@aE _ _ (3) _ sc.nd rfl (Or.inl rfl) (by first | exact .inl rfl | exact .inr rfl | assumption)) dE (by rfl)) (by rfl)) (by rfl) (by rfl)) (@au _ _ _ (@bq _ _ _ _ (@bR _ _ _ _ _ _ _ _ _ _ _ _ xh ym yn bX (pv 1) (@aa _ _ _ _ _ (@bz _ _ _ _ _ _ _ (["place","number"]) (["place"]) ([2]) _ _ _ _ (@bS _ _ _ _ _ _ rfl (by kernel_rfl)) rfl (@aT _ _ _ _ _ _ rfl T.range (@aa _ _ _ _ _ (@az _ _ _ _ _ _ _ _ _ aP (by rfl) T.len xt (@aa _ _ _ _ _ (pv 3) ae (by rfl)) (by decide) (by decide) (by rfl) (by rfl)) ae (by rfl)) (by rfl)) (fun _ _ _ _=>@aE _ _ (0) _ (show (["place","number"]:List Str).Nodup from by decide +kernel) rfl (Or.inl rfl) (by first | exact .inl rfl | exact .inr rfl | assumption)) (fun _ _ _ _=>bG) (fun _ _ _ _=>by (exact (@bu _ _ _ _ _ (@aa _ _ _ _ _ (pv 1) (@aa _ _ _ _ _ (pv 0) ae (by rfl)) (by rfl))))) (by intro _ ;rfl)) ae (by rfl)) (by rfl) (by rfl) (by rfl) (by rfl) (by rfl)) (by rfl))) (by intro _ ;rfl)) (@au _ _ _ (@aN _ _ _ _ (pv 1))))),?_⟩
  refine ⟨(by show 0≤sizeLine;decide),fun l hl=>?_⟩
  have s1:aA H (upd H l (.lst [])):=aA.new hl
  have f1:(upd H l (.lst [])) l=some (.lst ((([]:List (Addr × Int × Int)).map (·.1)).map V.ref)):=ab
  generalize upd H l (.lst [])=H1 at s1 f1 ⊢
  refine ⟨_,rfl,a,rfl,⟨_,SqT.of (s1 _ _ hW.at_)⟩,?_⟩
  refine qy (xs:=W.map tx) (fun i σ H'=>∃ (v2 v3:Option V) (zs:List (Addr × Int × Int)),σ = [some (.ref a),some (.ref l),v2,v3]∧H' l=some (.lst ((zs.map (·.1)).map V.ref))∧StA H' zs∧zs.map (·.2)=mB W i∧aA H H') ⟨none,none,[],rfl,f1,(fun z hz=>by cases hz),rfl,s1⟩ (fun i σ H' _ ⟨_,_,_,_,_,_,_,q⟩=>SqT.of (q _ _ hW.at_)) ?_ ?_
  ·rintro i x σ H2 t hx ⟨v2,v3,zs,rfl,f2,hz,ez,s2⟩ ht
   rw [wL] at hx
   cases hw:W[i]? with
   | none=>rw [hw] at hx;cases hx
   | some w' =>
    rw [hw] at hx
    obtain rfl:=wO hx
    have hwl:=w15 w' (wR hw)
    have hil:i < W.length:=(wG.mp hw).1
    have hle:=hW.le
    have zl:zs.length≤60:=by
     have:=ck w15 i
     rw [← ez,fu] at this
     omega
    have s3:=s2.then (o:=.tup [.int i,tx w']) ht
    have f3:=(aA.new (o:=.tup [.int i,tx w']) ht) _ _ f2
    have hz3:=hz.same (aA.new (o:=.tup [.int i,tx w']) ht)
    refine ⟨t,_,rfl,SqT.of ab,rfl,_,_,rfl,_,_,rfl,rfl,?_⟩
    generalize upd H2 t (.tup [.int i,tx w'])=H3 at s3 f3 hz3 ⊢
    refine ⟨_,rfl,.inl ⟨rfl,_,SqL.of f3⟩,_,rfl,_,rfl,(by rw [af];omega),_,rfl,(by rw [af];omega),(by rw [af];omega),?_⟩
    rw [af,xu]
    refine cg (own:=["place"]) (cap:=[2]) (J:=Itr 0 w'.length) w'.length (fun j ys σ H'=>∃ (b:Option V) (ps:List (Addr × Int × Int)),σ = [b,some (.int (i:Int))]∧ys=(ps.map (·.1)).map V.ref∧StA H' ps∧ps.map (·.2)=(List.range j).map (fun p:Nat=>((i:Int),(p:Int)))∧aA H3 H') ⟨none,[],rfl,rfl,(fun z hz=>by cases hz),rfl,aA.refl _⟩
     (fun j ys σ H' hj ⟨_,ps,_,e,_,e2,_⟩=>?_) (by omega) (fun j ys σ H' hj _=>hj) (fun ys σ H' _=>wJ _) ?_ ?_
    ·have:=xF List.length e2
     rw [fu,fu,zD] at this
     rw [e,fu,fu]
     omega
    ·rintro j ys σ H4 x H5 N hj ⟨b,ps,rfl,rfl,hp,e2,s4⟩ ⟨rfl,rfl⟩ hN
     refine ⟨_,rfl,_,rfl,(aL (n:=2) (by decide)),fun q hq=>hN _ _ _ ⟨_,ps++[(q,(i:Int),(j:Int))],rfl,?_,?_,?_,s4.then hq⟩⟩
     ·rw [wM,wM];rfl
     ·rw [zr]
      exact (hp.same (aA.new hq)).app fun z hz=>by
       rw [wH] at hz
       subst hz
       exact ab
     ·rw [wM,e2,zp,wM];rfl
    ·rintro ys σ H4 q ⟨b,ps,rfl,rfl,hp,e2,s4⟩ hq
     have s5:aA H4 (upd H4 q (.lst ((ps.map (·.1)).map V.ref))):=aA.new hq
     have g5:(upd H4 q (.lst ((ps.map (·.1)).map V.ref))) q=some (.lst ((ps.map (·.1)).map V.ref)):=ab
     have f5:=s5 _ _ (s4 _ _ f3)
     have hp5:=hp.same s5
     have hz5:=(hz3.same s4).same s5
     have s6:=(s3.trans s4).trans s5
     generalize upd H4 q (.lst ((ps.map (·.1)).map V.ref))=H5 at g5 f5 hp5 hz5 s6 ⊢
     have pl:ps.length=w'.length:=by
      have:=xF List.length e2
      rwa [fu,fu,zD] at this
     refine ⟨l,q,_,_,rfl,rfl,f5,g5,by rw [fu,fu,fu,fu];omega,?_⟩
     have keepT:∀ b xs,H5 b=some (.tup xs)→(upd H5 l (.lst ((zs.map (·.1)).map V.ref++(ps.map (·.1)).map V.ref))) b=some (.tup xs):=fun b xs e=>by
      rw [av (b_ e f5 (by intro z;cases z))];exact e
     refine ⟨_,_,zs++ps,rfl,?_,fun z hz=>keepT _ _ ((hz5.app hp5) z hz),d7 hw ez e2,fun b o e=>?_⟩
     ·rw [ab,wM,wM]
     ·rw [av (ag e hl)];exact s6 _ _ e
  ·rintro σ H2 ⟨v2,v3,zs,rfl,f2,hz,ez,s2⟩
   rw [fu] at ez
   exact ⟨_,rfl,k l zs _ hl s2 f2 hz ez⟩
theorem e_ {W:List (List L)}{i:Int}(h0:0≤i)(h1:i < W.length):atI (W.map tx) i=some (tx (W.getD i.toNat [])):=by
 have hi:i.toNat < W.length:=by omega
 have:=cq (xs:=W.map tx) (j:=i.toNat) (v:=tx (W.getD i.toNat [])) (by rw [wL,wF hi,xf,wF hi];rfl)
 rwa [show ((i.toNat:Nat):Int)=i by omega] at this
theorem jK {w:List L}{j:Int}(h0:0≤j)(h1:j < w.length):atI (toS w).cps.toList j=some (cp (w.getD j.toNat 0)):=by
 have hj:j.toNat < w.length:=by omega
 refine dM (k:=j.toNat) (by omega) ?_
 rw [xf,wF hj]
 rfl
theorem dq {n:Nat}{W:List (List L)}{H:Hp}{a:Addr}(hW:Wy4 n W H a)(i:Nat):(W.getD i []).length≤15:=by
 rw [xf]
 cases e:W[i]? with
 | none=>exact xE _
 | some w=>exact (hW.ws w (wR e)).2.1
theorem pO (x:L):Txt.lower (toS [x])=toS [⟨x.val % 6,by omega⟩]:=by
 have:∀ x:L,Txt.lower (toS [x])=toS [⟨x.val % 6,by omega⟩]:=by decide +kernel
 exact this x
abbrev mF:Stmt:=top 7
theorem tR:aJ ["ways","strand"] ["ways","strand"] (ak mF):=⟨rfl,rfl,rfl,by decide +kernel,rfl,by decide +kernel,by decide +kernel⟩
theorem vm (D:Df K mg "letter_of" mF)(T:Bt K w mg aB):Fnc P w K mg base "letter_of" ["ways","strand"] 1 qL:=by
 have sc:=tR
 refine D.ok sc (fun _ _ _ _ _ _ us hl=>by obtain ⟨_,_,rfl⟩:=pN hl;rfl) (fun vs H Q E h=>?_) (fun f cdv A outer s H vs Q E hr h=>?_)
 ·obtain ⟨a,p,n,W,i,j,rfl,_⟩:=h
  rfl
 ·obtain ⟨a,p,n,W,i,j,rfl,hW,hp,ok,k⟩:=h
  have l16:=aV
  unfold okS at ok
  simp only [xK,xR] at ok
  obtain ⟨⟨o1,o2⟩,o3,o4⟩:=ok
  have hl:=dq hW i.toNat
  refine ⟨_,(@au _ _ _ (@aN _ _ _ _ (@aK _ _ _ _ _ _ _ dX (@aK _ _ _ _ _ _ _ bJ (pv 0) (@aK _ _ _ _ _ _ _ bJ (pv 1) ao (fun _ _=>rfl)) (fun _ _=>rfl)) (@aK _ _ _ _ _ _ _ bJ (pv 1) ao (fun _ _=>rfl)) (fun _ _=>rfl)))),?_⟩
  exact ⟨_,rfl,_,rfl,p,_,_,_,rfl,rfl,SqT.of hp,rfl,a,_,_,_,rfl,rfl,SqT.of hW.at_,e_ o1 o2,_,rfl,p,_,_,_,rfl,rfl,SqT.of hp,rfl,_,_,_,rfl,rfl,by rw [af];omega,jK o3 o4,k⟩
abbrev mG:Stmt:=top 22
theorem tT:aJ ["_law_tape_here","_law_most","_law_row","_law_k","_law_sign"] ["_law_tape_here","_law_most"] (ak mG):=⟨rfl,rfl,rfl,by decide +kernel,rfl,by decide +kernel,by decide +kernel⟩
theorem vn (D:Df K mg "_law_any_row" mG)(T:Bt K w mg aB)(F_draw:Fnc P w K mg base "_law_draw" ["_law_tape_here","_law_many"] 1 cQ):Fnc P w K mg base "_law_any_row" ["_law_tape_here","_law_most"] 2 my:=by
 have sc:=tT
 refine D.ok sc (fun _ _ _ _ _ _ us hl=>by obtain ⟨_,_,rfl⟩:=pN hl;rfl) (fun vs H Q E h=>?_) (fun f cdv A outer s H vs Q E hr h=>?_)
 ·obtain ⟨d,c,m,rfl,_⟩:=h
  rfl
 ·obtain ⟨d,c,m,rfl,F,m1,m6,k⟩:=h
  have l16:=aV
  refine ⟨_,(@ah _ _ _ _ _ (@aF _ _ (2) _ _ _ _ sc.nd rfl (Or.inl rfl) (@bM _ _ _ _ ae) (by rfl) (by first | exact .inl rfl | exact .inr rfl | assumption)) (@ah _ _ _ _ _ (@bt _ _ _ _ _ _ _ _ xA rfl (@aT _ _ _ _ _ _ rfl T.range (@aa _ _ _ _ _ (@aX _ _ _ _ _ _ _ _ bU ao (@aM _ _ _ _ _ _ _ _ _ _ _ F_draw hr (by decide) rfl (@aa _ _ _ _ _ (pv 0) (@aa _ _ _ _ _ (pv 1) ae (by rfl)) (by rfl)) (by decide) (by rfl) (by rfl))) ae (by rfl)) (by rfl)) (@aE _ _ (3) _ sc.nd rfl (Or.inl rfl) (by first | exact .inl rfl | exact .inr rfl | assumption)) (@au _ _ _ (@bt _ _ _ _ _ _ _ _ xA rfl (@je _ _ _ _ (@bu _ _ _ _ _ (@aa _ _ _ _ _ (@aK _ _ _ _ _ _ _ dX bW (pv 3) (fun _ _=>rfl)) (@aa _ _ _ _ _ (@aK _ _ _ _ _ _ _ dX bW (pv 3) (fun _ _=>rfl)) ae (by rfl)) (by rfl)))) (@aE _ _ (4) _ sc.nd rfl (Or.inl rfl) (by first | exact .inl rfl | exact .inr rfl | assumption)) (@au _ _ _ (@bq _ _ _ _ (@bR _ _ _ _ _ _ _ _ _ _ _ _ xh zL A0 ia (pv 2) (@aa _ _ _ _ _ (@aM _ _ _ _ _ _ _ _ _ _ _ F_draw hr (by decide) rfl (@aa _ _ _ _ _ (pv 0) (@aa _ _ _ _ _ (@aX _ _ _ _ _ _ _ _ bU (@az _ _ _ _ _ _ _ _ _ aI (by rfl) T.len xt (@aa _ _ _ _ _ (pv 2) ae (by rfl)) (by decide) (by decide) (by rfl) (by rfl)) ao) ae (by rfl)) (by rfl)) (by decide) (by rfl) (by rfl)) (@aa _ _ _ _ _ (pv 4) ae (by rfl)) (by rfl)) (by rfl) (by rfl) (by rfl) (by rfl) (by rfl)) (by rfl))) (by intro _ ;rfl))) (by intro _ ;rfl)) (@au _ _ _ (@aN _ _ _ _ (@bR _ _ _ _ _ _ _ _ _ _ _ _ xw yO yP eU bW (@aa _ _ _ _ _ (pv 2) ae (by rfl)) (by rfl) (by rfl) (by rfl) (by rfl) (by rfl)))))),?_⟩
  refine ⟨(by show 0≤sizeLine;decide),fun p hp=>?_⟩
  have hpd:=F.ne hp
  have hpc:=F.nec hp
  refine ⟨_,rfl,_,rfl,d,c,m,rfl,F.new hp,by omega,by omega,fun r H1 r0 r1 F1 sb1=>?_⟩
  have f1:=sb1 _ _ hpd ab
  have sb1:=((aA.new (o:=.lst []) hp).b (d:=d)).trans sb1
  refine ⟨_,_,rfl,rfl,_,rfl,by omega,by omega,?_⟩
  refine bg (lo:=0) (n:=(1+r).toNat) (fun i σ H'=>∃ (a b:Option V) (W:List L),σ = [some (.ref d),some (.int m),some (.ref p),a,b]∧H' p=some (.lst (bK W))∧W.Perm (fam i)∧Tp H' d c∧bC d H H') ⟨none,none,[],rfl,f1,Ab _,F1,sb1⟩ ?_ ?_
  ·rintro i σ H2 hi ⟨a,b,W,rfl,hW,pW,F2,sb2⟩
   have hi:i < 6:=by omega
   rw [zr]
   have lW:(bK W).length≤12:=by
    obtain ⟨_,_,c⟩:=ib ⟨i,by omega⟩
    have c:(fam i).length=2*i:=c
    have:=pW.length_eq
    rw [aY]
    omega
   refine ⟨_,rfl,_,_,_,rfl,rfl,(by rw [lx];omega),sm_at hi,_,rfl,_,_,_,rfl,rfl,(by rw [lA];omega),vb hi,?_⟩
   refine ⟨(aL (n:=2) (by decide)),fun t ht=>?_⟩
   generalize ex:(⟨i,by omega⟩:L)=x
   generalize ey:(⟨i+6,by omega⟩:L)=y
   have htp:t≠p:=(ag hW ht).symm
   have htd:t≠d:=F2.ne ht
   refine ⟨t,rfl,⟨_,SqT.of ab⟩,pY (xs:=[tx [x],tx [y]]) (fun j σ H'=>∃ (b:Option V) (W:List L),σ = [some (.ref d),some (.int m),some (.ref p),some (.int (i:Int)),b]∧H' p=some (.lst (bK W))∧W.Perm (fam i++[x,y].take j)∧Tp H' d c∧bC d H H'∧H' t=some (.tup [tx [x],tx [y]])) ⟨b,W,rfl,(aA.new ht) _ _ hW,by rw [List.take_zero,yf];exact pW,F2.new ht,sb2.trans (aA.new ht).b,ab⟩ (fun j σ H' hj ⟨_,_,_,_,_,_,_,q⟩=>SqT.of q) ?_ ?_⟩
   ·rintro j z σ H3 hz ⟨b,W,rfl,hW,pW,F3,sb3,h3⟩
    have hj:j < 2:=by
     have:=(wG.mp hz).1
     exact this
    have lW:(bK W).length≤14:=by
     obtain ⟨_,_,c⟩:=ib ⟨i,by omega⟩
     have c:(fam i).length=2*i:=c
     have:=pW.length_eq
     rw [wQ,w9,c] at this
     rw [aY,this]
     simp only [xN,yS]
     omega
    obtain ⟨z',ez,hz'⟩:∃ z',z=tx [z']∧[x,y][j]? = some z':=by
     have:j=0 ∨ j=1:=by omega
     rcases this with rfl | rfl
     ·exact ⟨x,(wO hz).symm,rfl⟩
     ·exact ⟨y,(wO hz).symm,rfl⟩
    subst ez
    refine ⟨_,rfl,.inl ⟨rfl,_,SqL.of hW⟩,_,rfl,_,rfl,p,_,rfl,.inl (SqL.of hW),_,_,rfl,rfl,d,c,_,rfl,F3,by omega,by omega,fun q H4 q0 q1 F4 sb4=>?_⟩
    have h4:=sb4 _ _ hpd hW
    refine ⟨_,rfl,p,_,q,_,rfl,rfl,h4,q0,by omega,by omega,?_⟩
    rw [n8]
    have s5:bC p H4 (upd H4 p (.lst (bK (W.take q.toNat++z'::W.drop q.toNat)))):=bC.upd
    refine ⟨_,_,rfl,ab,?_,F4.but hpd hpc s5,fun b o n e=>s5 _ _ (ag e hp) (sb4 _ _ n (sb3 _ _ n e)),s5 _ _ htp (sb4 _ _ htd h3)⟩
    have e:[x,y].take (j+1)=[x,y].take j++[z']:=b9 hz'
    rw [e,← wY]
    exact n6 z' q.toNat pW
   ·rintro σ H3 ⟨b,W,rfl,hW,pW,F3,sb3,h3⟩
    refine ⟨_,_,W,rfl,hW,?_,F3,sb3⟩
    rw [n5 hi,ex,ey]
    exact pW
  ·rintro σ H2 ⟨a,b,W,rfl,hW,pW,F2,sb2⟩
   have hl:=pW.length_eq
   obtain ⟨_,_,c⟩:=ib ⟨(1+r).toNat,by omega⟩
   have c:(fam (1+r).toNat).length=2*(1+r).toNat:=c
   refine ⟨rfl,_,rfl,_,p,W.map fun x=>toS [x],rfl,rfl,SqL.of (by rw [hW,cH]),b8 _ (by omega),?_⟩
   rw [b7]
   exact k _ _ _ ⟨pW,by omega,by omega⟩ (by omega) F2 sb2
end
theorem tU (V0:List L)(y:L):(bK (V0++[y]))[(bK (V0++[y])).length - 1]? = some (tx [y]):=by
 unfold bK
 simp
theorem oK (V0:List L)(y:L):some (HO.lst (bK (V0++[y])).dropLast)=some (HO.lst (bK V0)):=by
 unfold bK
 simp
theorem oM (x y:L)(mid:List L):gN (bK (x::(mid++[y]))) (some 1) (some (-1))=bK mid:=by
 unfold gN
 have hl:(bK (x::(mid++[y]))).length=mid.length+2:=by rw [aY];simp
 have e1:HT.sIx (bK (x::(mid++[y]))).length 0 (some 1)=1:=by
  have q:=HT.fZ (bK (x::(mid++[y]))).length 0 1
  rw [show ((1:Nat):Int)=1 from rfl] at q
  rw [q,hl]
  omega
 have e2:HT.sIx (bK (x::(mid++[y]))).length (bK (x::(mid++[y]))).length (some (-1))=mid.length+1:=by
  show (if (-1:Int) < 0 then ((-1:Int)+((bK (x::(mid++[y]))).length:Int)).toNat else min (-1:Int).toNat (bK (x::(mid++[y]))).length)=_
  rw [if_pos (by decide),hl]
  omega
 rw [e1,e2]
 unfold bK
 simp
section
variable {P:Program} {w:World} {K:PySem.W.Frag} {mg:Str→Option Value} {base:Heap} {aB:Addr}
abbrev cD:Stmt:=top 24
theorem j7:aJ ["_law_word","_law_size"] ["_law_word"] (ak cD):=⟨rfl,rfl,rfl,by decide +kernel,rfl,by decide +kernel,by decide +kernel⟩
theorem mH (D:Df K mg "_law_rooted" cD)(T:Bt K w mg aB):Fnc P w K mg base "_law_rooted" ["_law_word"] 1 gD:=by
 have sc:=j7
 refine D.ok sc (fun _ _ _ _ _ _ us hl=>by obtain ⟨_,rfl⟩:=pM hl;rfl) (fun vs H Q E h=>?_) (fun f cdv A outer s H vs Q E hr h=>?_)
 ·obtain ⟨u,rfl,_⟩:=h
  rfl
 ·obtain ⟨u,rfl,hu,k⟩:=h
  have l16:=aV
  have hll:(toS u).length≤sizeLine:=by rw [af];omega
  refine ⟨_,(@ah _ _ _ _ _ (@bt _ _ _ _ _ _ _ _ xA rfl (@ko _ _ _ _ _ _ _ rfl T.range (@aa _ _ _ _ _ ao (@aa _ _ _ _ _ (@az _ _ _ _ _ _ _ _ _ aP (by rfl) T.len xt (@aa _ _ _ _ _ (pv 0) ae (by rfl)) (by decide) (by decide) (by rfl) (by rfl)) ae (by rfl)) (by rfl)) (by rfl) (by rfl)) (@aE _ _ (1) _ sc.nd rfl (Or.inl rfl) (by first | exact .inl rfl | exact .inr rfl | assumption)) (@au _ _ _ (@d8 _ _ _ _ _ _ _ _ (@aR _ _ _ _ _ _ _ _ fV (@aX _ _ _ _ _ _ _ _ fF (@bb _ _ _ _ _ _ _ _ _ _ cZ (pv 0) bF (@br _ _ _ (pv 1))) (@aX _ _ _ _ _ _ _ _ dF (@az _ _ _ _ _ _ _ _ _ aP (by rfl) T.len xt (@aa _ _ _ _ _ (pv 0) ae (by rfl)) (by decide) (by decide) (by rfl) (by rfl)) (pv 1))) (pv 0) (bh _)) (@au _ _ _ (@aN _ _ _ _ (@bb _ _ _ _ _ _ _ _ _ _ cZ (pv 0) bF (@br _ _ _ (pv 1))))) bP)) (by intro _ ;rfl)) (@au _ _ _ (@aN _ _ _ _ (pv 0)))),?_⟩
  refine ⟨_,rfl,_,rfl,hll,_,_,rfl,(by first | omega | (rw [af];omega)),?_⟩
  rw [af]
  refine bg (lo:=1) (n:=((u.length:Int) - 1).toNat) (fun i σ H'=>∃ v:Option V,σ = [some (tx u),v]∧H'=H) ⟨none,rfl,rfl⟩ ?_ ?_
  ·rintro i σ H1 hi ⟨v,rfl,rfl⟩
   have hi:i+1 < u.length:=by omega
   have e1:(1:Int)+(i:Int)=((i+1:Nat):Int):=by omega
   rw [e1]
   have c1:Txt.slice (toS u) none (some ((i+1:Nat):Int))=toS (u.take (i+1)):=by rw [bA,eW _ (by omega)];rfl
   have dv:((toS u).length:Int) / ((i+1:Nat):Int)=((u.length / (i+1):Nat):Int):=by rw [af];rfl
   have db:u.length / (i+1)≤u.length:=Nat.div_le_self _ _
   refine ⟨_,rfl,_,rfl,_,rfl,_,rfl,hll,?_⟩
   rw [c1]
   refine ⟨_,rfl,_,rfl,hll,_,rfl,_,_,rfl,rfl,⟨by omega,by omega⟩,?_⟩
   refine ⟨_,((u.length / (i+1):Nat):Int),rfl,xF V.int dv,h_ _ (Int.le_trans (by decide) (Int.natCast_nonneg _)) (Int.ofNat_le.mpr (show u.length / (i+1)≤1000 by omega)) (by rw [w9];omega),?_⟩
   refine ⟨_,rfl,rfl,_,rfl,iI (fun _=>?_) (fun _=>⟨_,rfl,rfl⟩)⟩
   refine ⟨_,rfl,_,rfl,_,rfl,_,rfl,hll,?_⟩
   rw [c1]
   exact k _ (by rw [w9];omega) fun x hx=>xX hx
  ·rintro σ H1 ⟨v,rfl,rfl⟩
   exact ⟨_,rfl,k u (wJ _) fun x hx=>hx⟩
abbrev fc:Stmt:=top 23
theorem oN:aJ ["_law_word","_law_left","_law_sign"] ["_law_word"] (ak fc):=⟨rfl,rfl,rfl,by decide +kernel,rfl,by decide +kernel,by decide +kernel⟩
theorem qW (D:Df K mg "_law_inner" fc)(T:Bt K w mg aB)(F_lback:Fnc P w K mg base "_law_back" ["_law_word"] 1 qq):Fnc P w K mg base "_law_inner" ["_law_word"] 2 gC:=by
 have sc:=oN
 refine D.ok sc (fun _ _ _ _ _ _ us hl=>by obtain ⟨_,rfl⟩:=pM hl;rfl) (fun vs H Q E h=>?_) (fun f cdv A outer s H vs Q E hr h=>?_)
 ·obtain ⟨u,rfl,_⟩:=h
  rfl
 ·obtain ⟨u,rfl,hu,k⟩:=h
  have l16:=aV
  refine ⟨_,(@ah _ _ _ _ _ (@aF _ _ (1) _ _ _ _ sc.nd rfl (Or.inl rfl) (@bM _ _ _ _ ae) (by rfl) (by first | exact .inl rfl | exact .inr rfl | assumption)) (@ah _ _ _ _ _ (@bt _ _ _ _ _ _ _ _ xA rfl (@jm _ _ _ _ (pv 0)) (@aE _ _ (2) _ sc.nd rfl (Or.inl rfl) (by first | exact .inl rfl | exact .inr rfl | assumption)) (@au _ _ _ (@d8 _ _ _ _ _ _ _ _ (@PW.pt _ _ _ (@jb _ _ _ _ _ _ _ (@aR _ _ _ _ _ _ _ _ pZ (@az _ _ _ _ _ _ _ _ _ aI (by rfl) T.len xt (@aa _ _ _ _ _ (pv 1) ae (by rfl)) (by decide) (by decide) (by rfl) (by rfl)) ao (bh _)) (@fT _ _ _ _ (@aR _ _ _ _ _ _ _ _ fV (@aK _ _ _ _ _ _ _ aU (pv 1) (@kr _ _ _ _ _ _ gT ao) (fun _ _=>rfl)) (@aM _ _ _ _ _ _ _ _ _ _ _ F_lback hr (by decide) rfl (@aa _ _ _ _ _ (pv 2) ae (by rfl)) (by decide) (by rfl) (by rfl)) (bh _))))) (@au _ _ _ (@bq _ _ _ _ (@eO _ _ _ _ _ _ _ _ _ xh PySem.F.slot_list_pop PySem.F.type_list_pop sv (pv 1) (by rfl) (by rfl)) (by rfl))) (@au _ _ _ (@bq _ _ _ _ (@bR _ _ _ _ _ _ _ _ _ _ _ _ xh yd yE cu (pv 1) (@aa _ _ _ _ _ (pv 2) ae (by rfl)) (by rfl) (by rfl) (by rfl) (by rfl) (by rfl)) (by rfl))))) (by intro _ ;rfl)) (@ah _ _ _ _ _ (@nj _ _ _ _ _ _ xA (@PW.pt _ _ _ (@jb _ _ _ _ _ _ _ (@aR _ _ _ _ _ _ _ _ pZ (@az _ _ _ _ _ _ _ _ _ aI (by rfl) T.len xt (@aa _ _ _ _ _ (pv 1) ae (by rfl)) (by decide) (by decide) (by rfl) (by rfl)) ao (bh _)) (@fT _ _ _ _ (@aR _ _ _ _ _ _ _ _ fV (@aK _ _ _ _ _ _ _ aU (pv 1) ao (fun _ _=>rfl)) (@aM _ _ _ _ _ _ _ _ _ _ _ F_lback hr (by decide) rfl (@aa _ _ _ _ _ (@aK _ _ _ _ _ _ _ aU (pv 1) (@kr _ _ _ _ _ _ gT ao) (fun _ _=>rfl)) ae (by rfl)) (by decide) (by rfl) (by rfl)) (bh _))))) (@au _ _ _ (@aF _ _ (1) _ _ _ _ sc.nd rfl (Or.inl rfl) (@bb _ _ _ _ _ _ _ _ _ _ iR (pv 1) (@br _ _ _ ao) (@br _ _ _ (@kr _ _ _ _ _ _ gT ao))) (by rfl) (by first | exact .inl rfl | exact .inr rfl | assumption)))) (@au _ _ _ (@aN _ _ _ _ (@bR _ _ _ _ _ _ _ _ _ _ _ _ xw yO yP eU bW (@aa _ _ _ _ _ (pv 1) ae (by rfl)) (by rfl) (by rfl) (by rfl) (by rfl) (by rfl))))))),?_⟩
  refine ⟨(by show 0≤sizeLine;decide),fun l hl=>?_⟩
  refine ⟨_,rfl,_,rfl,iT (z:=toS u) (fun i σ H'=>∃ (v:Option V) (W:List L),σ = [some (tx u),some (.ref l),v]∧H' l=some (.lst (bK W))∧W.length≤i∧(∀ x∈W,x∈u)∧aA H H') ⟨none,[],rfl,ab,wJ _,(fun x hx=>by cases hx),aA.new hl⟩ ?_ ?_⟩
  ·rintro i cc σ H1 hc ⟨v,W,rfl,h1,hW,mW,s1⟩
   obtain ⟨x,hx,ex⟩:=eV hc
   rw [ex]
   have hi:i < u.length:=(wG.mp hx).1
   have push:∀ H2,aA H1 H2→∃ (v:Option V) (W':List L),[some (tx u),some (V.ref l),some (V.str (toS [x]))]=[some (tx u),some (V.ref l),v]∧(upd H2 l (.lst (bK W++[V.str (toS [x])]))) l=some (.lst (bK W'))∧W'.length≤i+1∧(∀ x∈W',x∈u)∧aA H (upd H2 l (.lst (bK W++[V.str (toS [x])]))):=fun H2 s2=>by
    refine ⟨_,W++[x],rfl,?_,by rw [wQ];simp;omega,fun y hy=>?_,fun b o e=>?_⟩
    ·rw [ab,← bZ]
     rfl
    ·rcases xm.mp hy with hy | hy
     ·exact mW y hy
     ·rw [wH.mp hy]
      exact wR hx
    ·rw [av (ag e hl)]
     exact s2 _ _ (s1 _ _ e)
   refine ⟨_,rfl,l,_,rfl,.inl (SqL.of h1),_,_,rfl,rfl,_,rfl,?_⟩
   by_cases h0:W=[]
   ·subst h0
    refine nZ (w6 (by simp [bK])) (m_ ?_)
    refine ⟨_,rfl,.inl ⟨rfl,_,SqL.of h1⟩,_,rfl,l,_,_,rfl,rfl,h1,(by rw [aY];simp;omega),?_⟩
    exact push H1 (aA.refl _)
   ·obtain ⟨V0,y,rfl⟩:∃ V0 y,W=V0++[y]:=⟨W.dropLast,W.getLast h0,(As h0).symm⟩
    have hl1:(bK (V0++[y])).length=V0.length+1:=by rw [aY];simp
    have al:atI (bK (V0++[y])) (-1)=some (tx [y]):=by
     unfold bK
     rw [wM]
     exact ji _ _
    refine nY (xC (by rw [hl1];omega)) ?_
    refine ⟨_,rfl,_,rfl,l,_,_,_,rfl,rfl,SqL.of h1,al,_,rfl,[x],rfl,(by show 1≤5000;decide),fun H2 s2=>?_⟩
    refine ⟨rfl,_,rfl,?_⟩
    rw [pD]
    by_cases hyx:y=inv x
    ·refine nY (by rw [hyx];exact xC rfl) ?_
     have h2:=s2 _ _ h1
     refine ⟨_,rfl,.inl ⟨rfl,_,SqL.of h2⟩,l,_,_,rfl,rfl,h2,tU _ _,_,V0,rfl,?_,by simp at hW;omega,fun z hz=>mW z (xp _ hz),fun b o e=>?_⟩
     ·rw [ab,oK]
     ·rw [av (ag e hl)]
      exact s2 _ _ (s1 _ _ e)
    ·refine nZ (w6 fun e=>hyx (Bv (pE e)).1) ?_
     refine ⟨_,rfl,.inl ⟨rfl,_,SqL.of (s2 _ _ h1)⟩,_,rfl,l,_,_,rfl,rfl,s2 _ _ h1,(by rw [hl1];simp at hW;omega),?_⟩
     exact push H2 s2
  ·rintro σ H1 ⟨v,W,rfl,h1,hW,mW,s1⟩
   rw [bV] at hW
   refine ⟨fun m σ H'=>∃ (v:Option V) (W:List L) (l2:Addr),σ = [some (tx u),some (.ref l2),v]∧H' l2=some (.lst (bK W))∧W.length≤u.length∧(∀ x∈W,x∈u)∧aA H H'∧m=W.length,⟨_,v,W,l,rfl,h1,hW,mW,s1,rfl⟩,?_⟩
   rintro m σ H2 ⟨v,W,l2,rfl,h2,hW2,mW2,s2,rfl⟩
   have fin:∀ H3,aA H2 H3→Q (tx W) H3:=fun H3 s3=>k W H3 hW2 mW2 (s2.trans s3)
   refine ⟨_,rfl,l2,_,rfl,.inl (SqL.of h2),_,_,rfl,rfl,_,rfl,?_⟩
   rw [aY]
   by_cases g1:1 < W.length
   ·refine nY (xC (by omega)) ?_
    obtain ⟨x,mid,y,rfl⟩:∃ x mid y,W=x::(mid++[y]):=by
     cases W with
     | nil=>simp at g1
     | cons x r =>
      have hr:r≠[]:=by
       intro e
       subst e
       simp at g1
      exact ⟨x,r.dropLast,r.getLast hr,by rw [As]⟩
    have a0:atI (bK (x::(mid++[y]))) 0=some (tx [x]):=mz rfl
    have al:atI (bK (x::(mid++[y]))) (-1)=some (tx [y]):=by
     have e:bK (x::(mid++[y]))=bK (x::mid)++[tx [y]]:=by rw [bZ];rfl
     rw [e]
     exact ji _ _
    refine ⟨_,rfl,l2,_,_,_,rfl,rfl,SqL.of h2,a0,_,rfl,_,rfl,l2,_,_,_,rfl,rfl,SqL.of h2,al,[y],rfl,(by show 1≤5000;decide),fun H3 s3=>?_⟩
    refine ⟨rfl,_,rfl,?_⟩
    rw [pD]
    by_cases hxy:x=inv y
    ·refine nY (by rw [hxy];exact xC rfl) ⟨_,fun σ' H' q=>q,?_⟩
     refine ⟨_,rfl,_,rfl,_,rfl,_,rfl,l2,_,rfl,SqL.of (s3 _ _ h2),fun l3 hl3=>?_⟩
     rw [oM]
     refine ⟨mid.length,by simp;omega,v,mid,l3,rfl,ab,by simp at hW2;omega,fun z hz=>mW2 z (w_ _ (xp _ hz)),(s2.trans s3).then hl3,rfl⟩
    ·refine nZ (w6 fun e=>hxy (Bv (pE e)).1) ?_
     exact ⟨rfl,_,rfl,_,l2,(_:List L).map fun x=>toS [x],rfl,rfl,SqL.of (by rw [s3 _ _ h2,cH]),b8 _ (by omega),by rw [b7];exact fin H3 s3⟩
   ·refine nZ (w6 (by omega)) (m_ ?_)
    exact ⟨rfl,_,rfl,_,l2,(_:List L).map fun x=>toS [x],rfl,rfl,SqL.of (by rw [(aA.refl _) _ _ h2,cH]),b8 _ (by omega),by rw [b7];exact fin H2 (aA.refl _)⟩
end
theorem tV {m:Nat}(h:m≤6){x:L}(hx:x∈sg (m:Int)):x.val % 6 < m:=by
 have q:∀ (m:Fin 7) (x:L),x∈([0,1,2,3,4,5]:List L).take m.val++([6,7,8,9,10,11]:List L).take m.val→x.val % 6 < m.val:=by decide
 exact q ⟨m,by omega⟩ x hx
theorem mI {u:List L}{x:L}:∀ {n:Nat},x∈rep n u→x∈u
 | 0,h=>by cases h
 | n+1,h=>by
  have h:x∈rep n u++u:=h
  rcases xm.mp h with h | h
  ·exact mI h
  ·exact h
section
variable {P:Program} {w:World} {K:PySem.W.Frag} {mg:Str→Option Value} {base:Heap} {aB:Addr}
abbrev tW:Stmt:=top 25
theorem vo:aJ ["_law_tape_here","_law_many","_law_long","_law_signs","_law_word","_law_at"] ["_law_tape_here","_law_many","_law_long"] (ak tW):=⟨rfl,rfl,rfl,by decide +kernel,rfl,by decide +kernel,by decide +kernel⟩
theorem wz (D:Df K mg "_law_any_way" tW)(T:Bt K w mg aB)(F_draw:Fnc P w K mg base "_law_draw" ["_law_tape_here","_law_many"] 1 cQ)(F_inner:Fnc P w K mg base "_law_inner" ["_law_word"] 2 gC)(F_lrooted:Fnc P w K mg base "_law_rooted" ["_law_word"] 1 gD):Fnc P w K mg base "_law_any_way" ["_law_tape_here","_law_many","_law_long"] 3 i3:=by
 have sc:=vo
 refine D.ok sc (fun _ _ _ _ _ _ us hl=>by obtain ⟨_,_,_,rfl⟩:=nc hl;rfl) (fun vs H Q E h=>?_) (fun f cdv A outer s H vs Q E hr h=>?_)
 ·obtain ⟨d,c,m,n,rfl,_⟩:=h
  rfl
 ·obtain ⟨d,c,m0,n,rfl,F,m1,m2,n1,n2,k⟩:=h
  have m1:(1:Int)≤(m0:Int):=by omega
  have m2:(m0:Int)≤6:=by omega
  have k:∀ (v:List L) (H2:Hp),v≠[]→v.length≤15→(∀ x∈v,x∈sg (m0:Int))→Tp H2 d c→bC d H H2→Q (tx v) H2:=fun v H2 a1 a2 a3=>k v H2 a1 a2 fun x hx=>tV (by omega) (a3 x hx)
  generalize (m0:Int)=m at m1 m2 k ⊢
  have l16:=aV
  refine ⟨_,(@ah _ _ _ _ _ (@aF _ _ (3) _ _ _ _ sc.nd rfl (Or.inr rfl) (@aX _ _ _ _ _ _ _ _ dG (@bb _ _ _ _ _ _ _ _ _ _ cZ bW bF (@br _ _ _ (pv 1))) (@bb _ _ _ _ _ _ _ _ _ _ cZ bW bF (@br _ _ _ (pv 1)))) (by rfl) (by first | exact .inl rfl | exact .inr rfl | assumption)) (@ah _ _ _ _ _ (@aF _ _ (4) _ _ _ _ sc.nd rfl (Or.inl rfl) (@bR _ _ _ _ _ _ _ _ _ _ _ _ xw yO yP eU bW (@aa _ _ _ _ _ (@bz _ _ _ _ _ _ _ (["_law_k","_law_signs","_law_tape_here","_law_many"]) (["_law_k"]) ([3,0,1]) _ _ _ _ (@bS _ _ _ _ _ _ rfl (by kernel_rfl)) rfl (@aT _ _ _ _ _ _ rfl T.range (@aa _ _ _ _ _ (@aX _ _ _ _ _ _ _ _ bU ao (@aM _ _ _ _ _ _ _ _ _ _ _ F_draw hr (by decide) rfl (@aa _ _ _ _ _ (pv 0) (@aa _ _ _ _ _ (pv 2) ae (by rfl)) (by rfl)) (by decide) (by rfl) (by rfl))) ae (by rfl)) (by rfl)) (fun _ _ _ _=>@aE _ _ (0) _ (show (["_law_k","_law_signs","_law_tape_here","_law_many"]:List Str).Nodup from by decide +kernel) rfl (Or.inl rfl) (by first | exact .inl rfl | exact .inr rfl | assumption)) (fun _ _ _ _=>bG) (fun _ _ _ _=>by (exact (@aK _ _ _ _ _ _ _ dX (pv 1) (@aM _ _ _ _ _ _ _ _ _ _ _ F_draw hr (by decide) rfl (@aa _ _ _ _ _ (pv 2) (@aa _ _ _ _ _ (@aX _ _ _ _ _ _ _ _ gS ao (pv 3)) ae (by rfl)) (by rfl)) (by decide) (by rfl) (by rfl)) (fun _ _=>rfl)))) (by intro _ ;rfl)) ae (by rfl)) (by rfl) (by rfl) (by rfl) (by rfl) (by rfl)) (by rfl) (by first | exact .inl rfl | exact .inr rfl | assumption)) (@ah _ _ _ _ _ (@d8 _ _ _ _ _ _ _ _ (@aR _ _ _ _ _ _ _ _ fV (@aM _ _ _ _ _ _ _ _ _ _ _ F_draw hr (by decide) rfl (@aa _ _ _ _ _ (pv 0) (@aa _ _ _ _ _ ao ae (by rfl)) (by rfl)) (by decide) (by rfl) (by rfl)) ao (bh _)) (@ah _ _ _ _ _ (@aF _ _ (5) _ _ _ _ sc.nd rfl (Or.inl rfl) (@aX _ _ _ _ _ _ _ _ bU ao (@aM _ _ _ _ _ _ _ _ _ _ _ F_draw hr (by decide) rfl (@aa _ _ _ _ _ (pv 0) (@aa _ _ _ _ _ ao ae (by rfl)) (by rfl)) (by decide) (by rfl) (by rfl))) (by rfl) (by first | exact .inl rfl | exact .inr rfl | assumption)) (@au _ _ _ (@aF _ _ (4) _ _ _ _ sc.nd rfl (Or.inl rfl) (@aX _ _ _ _ _ _ _ _ dG (@aX _ _ _ _ _ _ _ _ fF (@bb _ _ _ _ _ _ _ _ _ _ cZ (pv 4) bF (@br _ _ _ (pv 5))) (@aX _ _ _ _ _ _ _ _ bU ao (@aM _ _ _ _ _ _ _ _ _ _ _ F_draw hr (by decide) rfl (@aa _ _ _ _ _ (pv 0) (@aa _ _ _ _ _ ao ae (by rfl)) (by rfl)) (by decide) (by rfl) (by rfl)))) (@bb _ _ _ _ _ _ _ _ _ _ cZ (pv 4) (@br _ _ _ (pv 5)) bF)) (by rfl) (by first | exact .inl rfl | exact .inr rfl | assumption)))) bP) (@au _ _ _ (@aN _ _ _ _ (@sY _ _ _ _ _ _ _ (@aM _ _ _ _ _ _ _ _ _ _ _ F_lrooted hr (by decide) rfl (@aa _ _ _ _ _ (@aM _ _ _ _ _ _ _ _ _ _ _ F_inner hr (by decide) rfl (@aa _ _ _ _ _ (@bb _ _ _ _ _ _ _ _ _ _ cZ (pv 4) bF (@br _ _ _ (pv 2))) ae (by rfl)) (by decide) (by rfl) (by rfl)) ae (by rfl)) (by decide) (by rfl) (by rfl)) (@rQ _ _ _ _ _ (@aK _ _ _ _ _ _ _ dX (pv 3) ao (fun _ _=>rfl))))))))),?_⟩
  refine ⟨_,rfl,_,rfl,_,rfl,(by rw [lx];omega),_,rfl,_,rfl,_,rfl,(by rw [lA];omega),_,_,rfl,rfl,?_,?_⟩
  ·have h1:=Ad ("abcdef":Str) none (some m)
   have h2:=Ad ("ABCDEF":Str) none (some m)
   rw [lx] at h1
   rw [lA] at h2
   omega
  rw [nX m1]
  have hsg:=lu m1 m2
  refine ⟨rfl,_,rfl,_,rfl,d,c,_,rfl,F,by omega,by omega,fun r H1 r0 r1 F1 sb1=>?_⟩
  refine ⟨_,_,rfl,rfl,_,rfl,by omega,by omega,?_⟩
  refine cg (own:=["_law_k"]) (cap:=[3,0,1]) (J:=Itr 0 (1+r).toNat) (1+r).toNat (fun i ys σ H'=>∃ (v:Option V) (W:List L),σ = [v,some (tx (sg m)),some (.ref d),some (.int m)]∧ys=bK W∧W.length=i∧(∀ x∈W,x∈sg m)∧Tp H' d c∧bC d H H')
   ⟨none,[],rfl,rfl,rfl,(fun x hx=>by cases hx),F1,sb1⟩ (fun i ys σ H' hi ⟨v,W,_,e,e2,_⟩=>by rw [e,aY,e2];exact wJ _) (by omega) (fun i ys σ H' hi _=>hi) (fun ys σ H' _=>wJ _) ?_ ?_
  ·rintro i ys σ H2 x H3 N hi ⟨v,W,rfl,rfl,hW,mW,F2,sb2⟩ ⟨rfl,rfl⟩ hN
   refine ⟨_,rfl,_,rfl,_,rfl,_,_,rfl,rfl,.inl ⟨by decide,by decide⟩,d,c,_,rfl,F2,by omega,by omega,fun q H4 q0 q1 F4 sb4=>?_⟩
   have hq:q.toNat < (sg m).length:=by omega
   refine ⟨_,_,cp (sg m)[q.toNat],rfl,rfl,(by rw [af];omega),dM (k:=q.toNat) (by omega) (wF hq),hN _ _ _ ⟨_,W++[(sg m)[q.toNat]],rfl,(bZ _ _),by rw [wQ,hW];rfl,fun x hx=>(xm.mp hx).elim (mW x) (fun hx=>by rw [wH.mp hx];exact xM hq),F4,sb2.trans sb4⟩⟩
  rintro ys σ H2 l ⟨v,W,rfl,rfl,hW,mW,F2,sb2⟩ hl
  refine ⟨_,l,W.map fun x=>toS [x],rfl,rfl,SqL.of (by rw [ab,cH]),b8 _ (by omega),?_⟩
  rw [b7]
  have F3:=F2.new (o:=.lst (bK W)) hl
  have sb3:=sb2.trans (aA.new (o:=.lst (bK W)) hl).b
  generalize upd H2 l (.lst (bK W))=H3 at F3 sb3 ⊢
  have hW15:W.length≤15:=by omega
  -- what comes behind
  have hs0:∃ x,(sg m)[0]? = some x:=⟨(sg m)[0]'(by omega),wF (by omega)⟩
  obtain ⟨x0,hx0⟩:=hs0
  refine ⟨_,rfl,d,c,_,rfl,F3,by decide,by decide,fun q H4 q0 q1 F4 sb4=>?_⟩
  refine ⟨rfl,_,rfl,?_⟩
  have end_:∀ (Z:List L) (H5:Hp),Z.length≤60→Tp H5 d c→bC d H H5→(∀ (v:List L) (H6:Hp),v≠[]→v.length≤15→(∀ x∈v,x∈sg m)→aA H5 H6→Q (tx v) H6):=fun Z H5 _ F5 sb5 v H6 ne hv mv s6=>k v H6 ne hv mv (F5.same s6) (sb5.trans s6.b)
  refine iI (fun _=>?_) (fun _=>?_)
  ·refine ⟨_,rfl,d,c,_,rfl,F4,by decide,by decide,fun a H5 a0 a1 F5 sb5=>⟨_,_,rfl,rfl,?_⟩⟩
   have c1:Txt.slice (toS W) none (some (1+a))=toS (W.take (1+a).toNat):=by rw [bA,eW _ (by omega)]
   have c2:Txt.slice (toS W) (some (1+a)) none=toS (W.drop (1+a).toNat):=by rw [bA,cut_from _ (by omega)]
   refine ⟨_,rfl,_,rfl,_,rfl,_,rfl,(by rw [af];omega),?_⟩
   rw [c1]
   refine ⟨_,rfl,d,c,_,rfl,F5,by decide,by decide,fun b H6 b0 b1 F6 sb6=>⟨_,_,rfl,rfl,?_⟩⟩
   refine ⟨_,_,rfl,rfl,h_ _ (by omega) (by omega) (by rw [w9];omega),?_⟩
   rw [qo]
   have hrl:(rep (2+b).toNat (W.take (1+a).toNat)).length≤12:=by
    rw [fG,w9]
    exact xq (zd (show (2+b).toNat≤4 by omega) (show min (1+a).toNat W.length≤3 by omega)) (by decide)
   have hrm:∀ x∈rep (2+b).toNat (W.take (1+a).toNat),x∈sg m:=fun x hx=>mW x (xX (mI hx))
   generalize rep (2+b).toNat (W.take (1+a).toNat)=R1 at hrl hrm ⊢
   refine ⟨_,rfl,_,rfl,_,rfl,_,rfl,(by rw [af];omega),?_⟩
   rw [c2]
   refine ⟨_,_,rfl,rfl,(by rw [af,af,xO];omega),?_⟩
   rw [lq]
   have hZ:(R1++W.drop (1+a).toNat).length≤60:=by rw [wQ,xO];omega
   have hZm:∀ x∈R1++W.drop (1+a).toNat,x∈sg m:=fun x hx=>(xm.mp hx).elim (hrm x) fun hx=>mW x (yg hx)
   have sb06:=sb3.trans (sb4.trans (sb5.trans sb6))
   generalize R1++W.drop (1+a).toNat=Z at hZ hZm ⊢
   have cz:Txt.slice (toS Z) none (some n)=toS (Z.take n.toNat):=by rw [bA,eW _ (by omega)]
   refine ⟨_,rfl,_,rfl,_,rfl,_,rfl,(by rw [af];omega),?_⟩
   rw [cz]
   have hzl:(Z.take n.toNat).length≤15:=by rw [w9];omega
   refine ⟨Z.take n.toNat,rfl,by omega,fun v1 H7 hv1 mv1 s7=>⟨v1,rfl,by omega,fun v2 hv2 mv2=>?_⟩⟩
   refine ⟨_,rfl,(by rw [af];omega),iI (fun e2=>end_ Z _ hZ F6 sb06 v2 H7 (by rintro rfl;exact absurd e2 (by decide)) (by omega) (fun x hx=>hZm x (xX (mv1 x (mv2 x hx)))) s7) (fun _=>?_)⟩
   refine ⟨_,rfl,_,_,cp x0,rfl,rfl,(by rw [af];omega),dM (k:=0) rfl hx0,?_⟩
   exact end_ Z _ hZ F6 sb06 [x0] H7 (by intro z;cases z) (by show 1≤15;decide) (fun x hx=>by rw [wH.mp hx];exact wR hx0) s7
  ·have hZ:W.length≤60:=by omega
   have sb06:=sb3.trans sb4
   have hZm:=mW
   generalize W=Z at hZ hZm ⊢
   have cz:Txt.slice (toS Z) none (some n)=toS (Z.take n.toNat):=by rw [bA,eW _ (by omega)]
   refine ⟨_,rfl,_,rfl,_,rfl,_,rfl,(by rw [af];omega),?_⟩
   rw [cz]
   have hzl:(Z.take n.toNat).length≤15:=by rw [w9];omega
   refine ⟨Z.take n.toNat,rfl,by omega,fun v1 H7 hv1 mv1 s7=>⟨v1,rfl,by omega,fun v2 hv2 mv2=>?_⟩⟩
   refine ⟨_,rfl,(by rw [af];omega),iI (fun e2=>end_ Z _ hZ F4 sb06 v2 H7 (by rintro rfl;exact absurd e2 (by decide)) (by omega) (fun x hx=>hZm x (xX (mv1 x (mv2 x hx)))) s7) (fun _=>?_)⟩
   refine ⟨_,rfl,_,_,cp x0,rfl,rfl,(by rw [af];omega),dM (k:=0) rfl hx0,?_⟩
   exact end_ Z _ hZ F4 sb06 [x0] H7 (by intro z;cases z) (by show 1≤15;decide) (fun x hx=>by rw [wH.mp hx];exact wR hx0) s7
end
def GW (n:Nat)(w:List L):Prop:=w≠[]∧w.length≤15∧InM n w
theorem GW.bk {n:Nat}{w:List L}(h:GW n w):GW n (bk w):=⟨fun e=>h.1 (yZ.mp (by rw [← bY,e]; rfl)),by rw [bY]; exact h.2.1,InM.bk h.2.2⟩
theorem GW.turn {n:Nat}{w:List L}(h:GW n w)(a:Nat):GW n (w.drop a++w.take a):=by
 have hl:(w.drop a++w.take a).length=w.length:=by rw [wQ,xO,w9];omega
 refine ⟨fun e=>h.1 (yZ.mp (by rw [← hl,e];rfl)),by rw [hl];exact h.2.1,fun x hx=>?_⟩
 rcases xm.mp hx with hx | hx
 ·exact h.2.2 x (yg hx)
 ·exact h.2.2 x (xX hx)
theorem mJ {α:Type}{xs:List α}{j:Int}(h0:0≤j)(h1:j < xs.length):∃ v,v∈xs∧atI xs j=some v:=by
 have hj:j.toNat < xs.length:=by omega
 refine ⟨xs[j.toNat],xM hj,?_⟩
 unfold atI ixN
 rw [if_pos h0,if_pos (by omega)]
 exact wF hj
section
variable {P:Program} {w:World} {K:PySem.W.Frag} {mg:Str→Option Value} {base:Heap} {aB:Addr}
abbrev fe:Stmt:=top 26
theorem oO:aJ ["_law_tape_here","_law_many","_law_most","_law_long","_law_ways","_law_k","_law_word","_law_at"] ["_law_tape_here","_law_many","_law_most","_law_long"] (ak fe):=⟨rfl,rfl,rfl,by decide +kernel,rfl,by decide +kernel,by decide +kernel⟩
theorem qX (D:Df K mg "_law_some_ways" fe)(T:Bt K w mg aB)(F_draw:Fnc P w K mg base "_law_draw" ["_law_tape_here","_law_many"] 1 cQ)(F_lback:Fnc P w K mg base "_law_back" ["_law_word"] 1 qq)(F_aw:Fnc P w K mg base "_law_any_way" ["_law_tape_here","_law_many","_law_long"] 3 i3):Fnc P w K mg base "_law_some_ways" ["_law_tape_here","_law_many","_law_most","_law_long"] 4 i4:=by
 have sc:=oO
 refine D.ok sc (fun _ _ _ _ _ _ us hl=>by obtain ⟨_,_,_,_,rfl⟩:=wx hl;rfl) (fun vs H Q E h=>?_) (fun f cdv A outer s H vs Q E hr h=>?_)
 ·obtain ⟨d,c,m,n,rfl,_⟩:=h
  rfl
 ·obtain ⟨d,c,m,n,rfl,F,m1,m2,n1,n2,k⟩:=h
  have l16:=aV
  refine ⟨_,(@ah _ _ _ _ _ (@aF _ _ (4) _ _ _ _ sc.nd rfl (Or.inl rfl) (@bM _ _ _ _ (@aa _ _ _ _ _ (@aM _ _ _ _ _ _ _ _ _ _ _ F_aw hr (by decide) rfl (@aa _ _ _ _ _ (pv 0) (@aa _ _ _ _ _ (pv 1) (@aa _ _ _ _ _ (pv 3) ae (by rfl)) (by rfl)) (by rfl)) (by decide) (by rfl) (by rfl)) ae (by rfl))) (by rfl) (by first | exact .inl rfl | exact .inr rfl | assumption)) (@ah _ _ _ _ _ (@bt _ _ _ _ _ _ _ _ xA rfl (@aT _ _ _ _ _ _ rfl T.range (@aa _ _ _ _ _ (@aM _ _ _ _ _ _ _ _ _ _ _ F_draw hr (by decide) rfl (@aa _ _ _ _ _ (pv 0) (@aa _ _ _ _ _ (pv 2) ae (by rfl)) (by rfl)) (by decide) (by rfl) (by rfl)) ae (by rfl)) (by rfl)) (@aE _ _ (5) _ sc.nd rfl (Or.inl rfl) (by first | exact .inl rfl | exact .inr rfl | assumption)) (@ah _ _ _ _ _ (@aF _ _ (6) _ _ _ _ sc.nd rfl (Or.inl rfl) (@aM _ _ _ _ _ _ _ _ _ _ _ F_aw hr (by decide) rfl (@aa _ _ _ _ _ (pv 0) (@aa _ _ _ _ _ (pv 1) (@aa _ _ _ _ _ (pv 3) ae (by rfl)) (by rfl)) (by rfl)) (by decide) (by rfl) (by rfl)) (by rfl) (by first | exact .inl rfl | exact .inr rfl | assumption)) (@ah _ _ _ _ _ (@d8 _ _ _ _ _ _ _ _ (@aR _ _ _ _ _ _ _ _ fV (@aM _ _ _ _ _ _ _ _ _ _ _ F_draw hr (by decide) rfl (@aa _ _ _ _ _ (pv 0) (@aa _ _ _ _ _ ao ae (by rfl)) (by rfl)) (by decide) (by rfl) (by rfl)) ao (bh _)) (@ah _ _ _ _ _ (@aF _ _ (6) _ _ _ _ sc.nd rfl (Or.inl rfl) (@aK _ _ _ _ _ _ _ aU (pv 4) (@aM _ _ _ _ _ _ _ _ _ _ _ F_draw hr (by decide) rfl (@aa _ _ _ _ _ (pv 0) (@aa _ _ _ _ _ (@az _ _ _ _ _ _ _ _ _ aI (by rfl) T.len xt (@aa _ _ _ _ _ (pv 4) ae (by rfl)) (by decide) (by decide) (by rfl) (by rfl)) ae (by rfl)) (by rfl)) (by decide) (by rfl) (by rfl)) (fun _ _=>rfl)) (by rfl) (by first | exact .inl rfl | exact .inr rfl | assumption)) (@ah _ _ _ _ _ (@aF _ _ (7) _ _ _ _ sc.nd rfl (Or.inl rfl) (@aM _ _ _ _ _ _ _ _ _ _ _ F_draw hr (by decide) rfl (@aa _ _ _ _ _ (pv 0) (@aa _ _ _ _ _ (@az _ _ _ _ _ _ _ _ _ aP (by rfl) T.len xt (@aa _ _ _ _ _ (pv 6) ae (by rfl)) (by decide) (by decide) (by rfl) (by rfl)) ae (by rfl)) (by rfl)) (by decide) (by rfl) (by rfl)) (by rfl) (by first | exact .inl rfl | exact .inr rfl | assumption)) (@ah _ _ _ _ _ (@aF _ _ (6) _ _ _ _ sc.nd rfl (Or.inl rfl) (@aK _ _ _ _ _ _ _ aU (@bM _ _ _ _ (@aa _ _ _ _ _ (pv 6) (@aa _ _ _ _ _ (@aM _ _ _ _ _ _ _ _ _ _ _ F_lback hr (by decide) rfl (@aa _ _ _ _ _ (pv 6) ae (by rfl)) (by decide) (by rfl) (by rfl)) ae (by rfl)) (by rfl))) (@aM _ _ _ _ _ _ _ _ _ _ _ F_draw hr (by decide) rfl (@aa _ _ _ _ _ (pv 0) (@aa _ _ _ _ _ ao ae (by rfl)) (by rfl)) (by decide) (by rfl) (by rfl)) (fun _ _=>rfl)) (by rfl) (by first | exact .inl rfl | exact .inr rfl | assumption)) (@au _ _ _ (@aF _ _ (6) _ _ _ _ sc.nd rfl (Or.inl rfl) (@aX _ _ _ _ _ _ _ _ dG (@bb _ _ _ _ _ _ _ _ _ _ cZ (pv 6) (@br _ _ _ (pv 7)) bF) (@bb _ _ _ _ _ _ _ _ _ _ cZ (pv 6) bF (@br _ _ _ (pv 7)))) (by rfl) (by first | exact .inl rfl | exact .inr rfl | assumption)))))) bP) (@au _ _ _ (@bq _ _ _ _ (@bR _ _ _ _ _ _ _ _ _ _ _ _ xh yd yE cu (pv 4) (@aa _ _ _ _ _ (pv 6) ae (by rfl)) (by rfl) (by rfl) (by rfl) (by rfl) (by rfl)) (by rfl))))) (by intro _ ;rfl)) (@au _ _ _ (@aN _ _ _ _ (@cn _ _ _ _ _ _ _ _ _ cf (by rfl) T.tuple iU (@aa _ _ _ _ _ (pv 4) ae (by rfl)) (by decide) (by decide) (by rfl) (by rfl)))))),?_⟩
  refine ⟨_,rfl,_,rfl,_,rfl,d,c,m,n,rfl,F,m1,m2,n1,n2,fun v0 H1 ne0 hv0 iv0 F1 sb1=>⟨(aL (n:=1) (by decide)),fun l hl=>?_⟩⟩
  have hld:=F1.ne hl
  have hlc:=F1.nec hl
  have hlH:H l=none:=by
   cases e:H l with
   | none=>rfl
   | some o =>
    have:=sb1 _ _ hld e
    rw [hl] at this
    cases this
  refine ⟨_,rfl,_,rfl,d,c,4,rfl,F1.new hl,by decide,by decide,fun r H2 r0 r1 F2 sb2=>?_⟩
  have f2:=sb2 _ _ hld (ab (o:=.lst [tx v0]))
  have sb2:=(sb1.trans ((aA.new (o:=.lst [tx v0]) hl).b (d:=d))).trans sb2
  refine ⟨_,rfl,by omega,by omega,?_⟩
  refine bg (lo:=0) (n:=r.toNat) (fun i σ H'=>∃ (a5 a6 a7:Option V) (W:List (List L)),σ = [some (.ref d),some (.int (m:Int)),some (.int 4),some (.int n),some (.ref l),a5,a6,a7]∧H' l=some (.lst (W.map tx))∧W.length=i+1∧(∀ w∈W,GW m w)∧Tp H' d c∧bC d H H') ⟨none,none,none,[v0],rfl,f2,rfl,(fun w hw=>by rw [wH.mp hw];exact ⟨ne0,hv0,iv0⟩),F2,sb2⟩ ?_ ?_
  ·rintro i σ H3 hi ⟨a5,a6,a7,W,rfl,f3,hW,gW,F3,sb3⟩
   refine ⟨_,rfl,_,rfl,_,rfl,d,c,m,n,rfl,F3,m1,m2,n1,n2,fun v H4 ne hv iv F4 sb4=>?_⟩
   have f4:=sb4 _ _ hld f3
   have sb4:=sb3.trans sb4
   have fin:∀ (w:List L) (a7:Option V) (H':Hp),GW m w→H' l=some (.lst (W.map tx))→Tp H' d c→bC d H H'→∃ (a5 a6 a7':Option V) (W':List (List L)),[some (V.ref d),some (.int (m:Int)),some (.int 4),some (.int n),some (.ref l),some (.int (0+(i:Int))),some (tx w),a7]=[some (V.ref d),some (.int (m:Int)),some (.int 4),some (.int n),some (.ref l),a5,a6,a7']∧(upd H' l (.lst (W.map tx++[tx w]))) l=some (.lst (W'.map tx))∧W'.length=i+1+1∧(∀ w∈W',GW m w)∧Tp (upd H' l (.lst (W.map tx++[tx w]))) d c∧bC d H (upd H' l (.lst (W.map tx++[tx w]))):=by
    intro w a7 H' hw f' F' sb'
    refine ⟨_,_,_,W++[w],rfl,by rw [ab,wM];rfl,by rw [wQ,hW];rfl,fun x hx=>?_,F'.but hld hlc bC.upd,fun b o nb e=>?_⟩
    ·rcases xm.mp hx with hx | hx
     ·exact gW x hx
     ·rw [wH.mp hx];exact hw
    ·rw [av (ag e hlH)];exact sb' _ _ nb e
   refine ⟨_,rfl,d,c,_,rfl,F4,by decide,by decide,fun q H5 q0 q1 F5 sb5=>⟨rfl,_,rfl,?_⟩⟩
   have f5:=sb5 _ _ hld f4
   have sb5:=sb4.trans sb5
   refine iI (fun _=>?_) (fun _=>?_)
   ·refine ⟨_,rfl,_,rfl,_,rfl,l,_,rfl,.inl (SqL.of f5),d,c,_,rfl,F5,by rw [fu];omega,by rw [fu];omega,fun j H6 j0 j1 F6 sb6=>?_⟩
    have f6:=sb6 _ _ hld f5
    have sb6:=sb5.trans sb6
    obtain ⟨x,hx,ax⟩:=mJ j0 j1
    obtain ⟨w0,hw0,rfl⟩:=xH.mp hx
    have gw:=gW w0 hw0
    have wl:=gw.2.1
    have wp:0 < w0.length:=AB.mpr gw.1
    refine ⟨l,_,_,_,rfl,rfl,SqL.of f6,ax,?_⟩
    refine ⟨_,rfl,_,rfl,_,rfl,(by rw [af];omega),d,c,_,rfl,F6,by rw [af];omega,by rw [af];omega,fun a H7 a0 a1 F7 sb7=>?_⟩
    have f7:=sb7 _ _ hld f6
    have sb7:=sb6.trans sb7
    refine ⟨_,rfl,_,rfl,w0,rfl,by omega,fun H8 s8=>⟨(aL (n:=2) (by decide)),fun p hp=>?_⟩⟩
    have s9:=s8.then (o:=.lst [tx w0,tx (bk w0)]) hp
    have f9:=s9 _ _ f7
    have F9:=F7.same s9
    have sb9:=sb7.trans s9.b
    have hpd:=(F7.same s8).ne hp
    refine ⟨_,rfl,d,c,_,rfl,F9,by decide,by decide,fun b H10 b0 b1 F10 sb10=>?_⟩
    have f10:=sb10 _ _ hld f9
    have g10:=sb10 _ _ hpd (ab (o:=.lst [tx w0,tx (bk w0)]))
    have sb10:=sb9.trans sb10
    obtain ⟨x,hx,ax⟩:=mJ (xs:=[tx w0,tx (bk w0)]) b0 b1
    obtain ⟨w1,g1,rfl⟩:∃ w1,GW m w1∧x=tx w1:=by
     rcases xg.mp hx with rfl | hx
     ·exact ⟨w0,gw,rfl⟩
     ·rw [wH.mp hx]
      exact ⟨_,gw.bk,rfl⟩
    have w1l:=g1.2.1
    refine ⟨p,_,_,_,rfl,rfl,SqL.of g10,ax,?_⟩
    have c1:Txt.slice (toS w1) none (some a)=toS (w1.take a.toNat):=by rw [bA,eW _ (by omega)]
    have c2:Txt.slice (toS w1) (some a) none=toS (w1.drop a.toNat):=by rw [bA,cut_from _ (by omega)]
    refine ⟨_,rfl,_,rfl,_,rfl,_,rfl,(by rw [af];omega),?_⟩
    rw [c2]
    refine ⟨_,rfl,_,rfl,_,rfl,_,rfl,(by rw [af];omega),?_⟩
    rw [c1]
    refine ⟨_,_,rfl,rfl,(by rw [af,af,xO,w9];omega),?_⟩
    rw [lq]
    refine ⟨_,rfl,.inl ⟨rfl,_,SqL.of f10⟩,_,rfl,l,_,_,rfl,rfl,f10,by rw [fu];omega,?_⟩
    exact fin _ _ _ (g1.turn _) f10 F10 sb10
   ·refine ⟨_,rfl,.inl ⟨rfl,_,SqL.of f5⟩,_,rfl,l,_,_,rfl,rfl,f5,by rw [fu];omega,?_⟩
    exact fin _ _ _ ⟨ne,hv,iv⟩ f5 F5 sb5
  ·rintro σ H3 ⟨a5,a6,a7,W,rfl,f3,hW,gW,F3,sb3⟩
   refine ⟨_,rfl,l,_,rfl,.inl ⟨SqL.of f3,fun p hp=>?_⟩⟩
   exact k p W _ (F3.new hp) (sb3.trans (aA.new hp).b) ⟨ab,by omega,by omega,gW⟩
abbrev iB:Stmt:=top 27
theorem qY:aJ ["_law_ways","_law_found","_law_i"] ["_law_ways"] (ak iB):=⟨rfl,rfl,rfl,by decide +kernel,rfl,by decide +kernel,by decide +kernel⟩
theorem tX (D:Df K mg "_law_all_strands" iB)(T:Bt K w mg aB):Fnc P w K mg base "_law_all_strands" ["_law_ways"] 1 i0:=by
 have sc:=qY
 refine D.ok sc (fun _ _ _ _ _ _ us hl=>by obtain ⟨_,rfl⟩:=pM hl;rfl) (fun vs H Q E h=>?_) (fun f cdv A outer s H vs Q E hr h=>?_)
 ·obtain ⟨a,n,W,rfl,_⟩:=h
  rfl
 ·obtain ⟨a,n,W,rfl,hW,k⟩:=h
  have l16:=aV
  have w15:∀ w∈W,w.length≤15:=fun w hw=>(hW.ws w hw).2.1
  have hle:=hW.le
  refine ⟨_,(@ah _ _ _ _ _ (@aF _ _ (1) _ _ _ _ sc.nd rfl (Or.inl rfl) (@bM _ _ _ _ ae) (by rfl) (by first | exact .inl rfl | exact .inr rfl | assumption)) (@ah _ _ _ _ _ (@bt _ _ _ _ _ _ _ _ xA rfl (@aT _ _ _ _ _ _ rfl T.range (@aa _ _ _ _ _ (@az _ _ _ _ _ _ _ _ _ aI (by rfl) T.len xt (@aa _ _ _ _ _ (pv 0) ae (by rfl)) (by decide) (by decide) (by rfl) (by rfl)) ae (by rfl)) (by rfl)) (@aE _ _ (2) _ sc.nd rfl (Or.inr rfl) (by first | exact .inl rfl | exact .inr rfl | assumption)) (@au _ _ _ (@bq _ _ _ _ (@bR _ _ _ _ _ _ _ _ _ _ _ _ xh ym yn bX (pv 1) (@aa _ _ _ _ _ (@bz _ _ _ _ _ _ _ (["_law_p","_law_i"]) (["_law_p"]) ([2]) _ _ _ _ (@bS _ _ _ _ _ _ rfl (by kernel_rfl)) rfl (@aT _ _ _ _ _ _ rfl T.range (@aa _ _ _ _ _ (@az _ _ _ _ _ _ _ _ _ aP (by rfl) T.len xt (@aa _ _ _ _ _ (@aK _ _ _ _ _ _ _ bJ (pv 0) (pv 2) (fun _ _=>rfl)) ae (by rfl)) (by decide) (by decide) (by rfl) (by rfl)) ae (by rfl)) (by rfl)) (fun _ _ _ _=>@aE _ _ (0) _ (show (["_law_p","_law_i"]:List Str).Nodup from by decide +kernel) rfl (Or.inl rfl) (by first | exact .inl rfl | exact .inr rfl | assumption)) (fun _ _ _ _=>bG) (fun _ _ _ _=>by (exact (@bu _ _ _ _ _ (@aa _ _ _ _ _ (pv 1) (@aa _ _ _ _ _ (pv 0) ae (by rfl)) (by rfl))))) (by intro _ ;rfl)) ae (by rfl)) (by rfl) (by rfl) (by rfl) (by rfl) (by rfl)) (by rfl))) (by intro _ ;rfl)) (@au _ _ _ (@aN _ _ _ _ (pv 1))))),?_⟩
  refine ⟨(by show 0≤sizeLine;decide),fun l hl=>?_⟩
  have s1:aA H (upd H l (.lst [])):=aA.new hl
  have f1:(upd H l (.lst [])) l=some (.lst ((([]:List (Addr × Int × Int)).map (·.1)).map V.ref)):=ab
  generalize upd H l (.lst [])=H1 at s1 f1 ⊢
  refine ⟨_,rfl,a,_,rfl,.inr (SqT.of (s1 _ _ hW.at_)),_,rfl,by rw [fu];omega,by rw [fu];omega,?_⟩
  rw [fu,xu]
  refine bg (lo:=0) (n:=W.length) (fun i σ H'=>∃ (v2:Option V) (zs:List (Addr × Int × Int)),σ = [some (.ref a),some (.ref l),v2]∧H' l=some (.lst ((zs.map (·.1)).map V.ref))∧StA H' zs∧zs.map (·.2)=mB W i∧aA H H') ⟨none,[],rfl,f1,(fun z hz=>by cases hz),rfl,s1⟩ ?_ ?_
  ·rintro i σ H3 hil ⟨v2,zs,rfl,f3,hz3,ez,s3⟩
   rw [zr]
   have hw:W[i]? = some (W.getD i []):=by rw [xf,wF hil];rfl
   have aw:=e_ (W:=W) (i:=(i:Int)) (by omega) (by omega)
   rw [xu] at aw
   generalize W.getD i []=w' at hw aw
   have hwl:=w15 w' (wR hw)
   have zl:zs.length≤60:=by
    have:=ck w15 i
    rw [← ez,fu] at this
    omega
   refine ⟨_,rfl,.inl ⟨rfl,_,SqL.of f3⟩,_,rfl,_,rfl,a,_,_,_,rfl,rfl,SqT.of (s3 _ _ hW.at_),aw,_,rfl,(by rw [af];omega),_,rfl,(by rw [af];omega),(by rw [af];omega),?_⟩
   rw [af,xu]
   refine cg (own:=["_law_p"]) (cap:=[2]) (J:=Itr 0 w'.length) w'.length (fun j ys σ H'=>∃ (b:Option V) (ps:List (Addr × Int × Int)),σ = [b,some (.int (i:Int))]∧ys=(ps.map (·.1)).map V.ref∧StA H' ps∧ps.map (·.2)=(List.range j).map (fun p:Nat=>((i:Int),(p:Int)))∧aA H3 H') ⟨none,[],rfl,rfl,(fun z hz=>by cases hz),rfl,aA.refl _⟩
    (fun j ys σ H' hj ⟨_,ps,_,e,_,e2,_⟩=>?_) (by omega) (fun j ys σ H' hj _=>hj) (fun ys σ H' _=>wJ _) ?_ ?_
   ·have:=xF List.length e2
    rw [fu,fu,zD] at this
    rw [e,fu,fu]
    omega
   ·rintro j ys σ H4 x H5 N hj ⟨b,ps,rfl,rfl,hp,e2,s4⟩ ⟨rfl,rfl⟩ hN
    refine ⟨_,rfl,_,rfl,(aL (n:=2) (by decide)),fun q hq=>hN _ _ _ ⟨_,ps++[(q,(i:Int),(j:Int))],rfl,?_,?_,?_,s4.then hq⟩⟩
    ·rw [wM,wM];rfl
    ·rw [zr]
     exact (hp.same (aA.new hq)).app fun z hz=>by
      rw [wH] at hz
      subst hz
      exact ab
    ·rw [wM,e2,zp,wM];rfl
   ·rintro ys σ H4 q ⟨b,ps,rfl,rfl,hp,e2,s4⟩ hq
    have s5:aA H4 (upd H4 q (.lst ((ps.map (·.1)).map V.ref))):=aA.new hq
    have g5:(upd H4 q (.lst ((ps.map (·.1)).map V.ref))) q=some (.lst ((ps.map (·.1)).map V.ref)):=ab
    have f5:=s5 _ _ (s4 _ _ f3)
    have hp5:=hp.same s5
    have hz5:=(hz3.same s4).same s5
    have s6:=(s3.trans s4).trans s5
    generalize upd H4 q (.lst ((ps.map (·.1)).map V.ref))=H5 at g5 f5 hp5 hz5 s6 ⊢
    have pl:ps.length=w'.length:=by
     have:=xF List.length e2
     rwa [fu,fu,zD] at this
    refine ⟨l,q,_,_,rfl,rfl,f5,g5,by rw [fu,fu,fu,fu];omega,?_⟩
    have keepT:∀ b xs,H5 b=some (.tup xs)→(upd H5 l (.lst ((zs.map (·.1)).map V.ref++(ps.map (·.1)).map V.ref))) b=some (.tup xs):=fun b xs e=>by
     rw [av (b_ e f5 (by intro z;cases z))];exact e
    refine ⟨_,zs++ps,rfl,?_,fun z hz=>keepT _ _ ((hz5.app hp5) z hz),d7 hw ez e2,fun b o e=>?_⟩
    ·rw [ab,wM,wM]
    ·rw [av (ag e hl)];exact s6 _ _ e
  ·rintro σ H2 ⟨v2,zs,rfl,f2,hz,ez,s2⟩
   exact ⟨_,rfl,k l zs _ hl s2 f2 hz ez⟩
end
theorem pP {x:L}(h:x.val < 6):∃ rest,Builtin.Str.occurrences ("abcdef":Str) (toS [x]) 0 ("abcdef":Str).length 1=x.val::rest:=by
 have q:∀ x:L,x.val < 6→x∈([0,1,2,3,4,5]:List L)∧([0,1,2,3,4,5]:List L).idxOf x=x.val:=by decide
 obtain ⟨h1,h2⟩:=q x h
 obtain ⟨r,e⟩:=sR h1
 rw [qj,h2] at e
 exact ⟨r,e⟩
def tY (W:List (List L))(ps:List (Int × Int))(H:Hp)(m:Nat)(q:Addr):Prop:=∃ row:List (Addr × Int × Int),H q=some (.lst ((row.map (·.1)).map V.ref))∧StA H row∧(row.map (·.2)).Perm (ps.filter fun p=>decide (ltS W p=m))
theorem tY.to {W:List (List L)}{ps:List (Int × Int)}{H H':Hp}{m:Nat}{q:Addr}(h:tY W ps H m q)(k1:∀ xs,H q=some (.lst xs)→H' q=some (.lst xs))(k2:∀ a xs,H a=some (.tup xs)→H' a=some (.tup xs)):tY W ps H' m q:=by
 obtain ⟨row,h1,h2,h3⟩:=h
 exact ⟨row,k1 _ h1,fun z hz=>k2 _ _ (h2 z hz),h3⟩
structure Dw (n:Nat) (W:List (List L)) (H:Hp) (r:Addr) (rows:List (List (Int × Int))):Prop where
 ex:∃ bs:List Addr,H r=some (.tup (bs.map V.ref))∧bs.length=n∧∀ (i:Nat) (b:Addr),bs[i]? = some b→∃ row:List (Addr × Int × Int),H b=some (.tup ((row.map (·.1)).map V.ref))∧StA H row∧rows[i]? = some (row.map (·.2))
 len:rows.length=n
 pm:∀ (i:Nat) (row:List (Int × Int)),rows[i]? = some row→row.Perm (tD W i)
inductive i6 (vs:List V)(H:Hp)(Q:VK)(u3_:XK):Prop
 | mk:∀ (d c:Addr) (u:List L) (n:Nat) (a:Addr) (W:List (List L)),(vs=[.ref d,tx u,.ref a])→(Tp H d c)→(SK u n)→(Wy4 n W H a)→(∀ (r:Addr) (rows:List (List (Int × Int))) (H':Hp),Tp H' d c→bC d H H'→Dw n W H' r rows→Q (.ref r) H')→i6 vs H Q u3_
theorem mK {n:Nat}{W:List (List L)}(hW:∀ w∈W,InM n w){p:Int × Int}(o:okS W p=true):ltS W p < n:=by
 unfold okS at o
 simp only [xK,xR] at o
 obtain ⟨⟨o1,o2⟩,o3,o4⟩:=o
 have hi:p.1.toNat < W.length:=by omega
 have g:W.getD p.1.toNat []=W[p.1.toNat]:=by rw [xf,wF hi];rfl
 unfold ltS
 rw [g] at o4 ⊢
 have hj:p.2.toNat < W[p.1.toNat].length:=by omega
 rw [xf,wF hj]
 exact hW _ (xM hi) _ (xM hj)
section
variable {P:Program} {w:World} {K:PySem.W.Frag} {mg:Str→Option Value} {base:Heap} {aB:Addr}
abbrev iC:Stmt:=top 28
theorem qZ:aJ ["_law_tape_here","_law_surface","_law_ways","_law_rows","_law_i","_law_p","_law_row"] ["_law_tape_here","_law_surface","_law_ways"] (ak iC):=⟨rfl,rfl,rfl,by decide +kernel,rfl,by decide +kernel,by decide +kernel⟩
theorem tZ (D:Df K mg "_law_any_drawing" iC)(T:Bt K w mg aB)(F_draw:Fnc P w K mg base "_law_draw" ["_law_tape_here","_law_many"] 1 cQ)(F_alls:Fnc P w K mg base "_law_all_strands" ["_law_ways"] 1 i0):Fnc P w K mg base "_law_any_drawing" ["_law_tape_here","_law_surface","_law_ways"] 2 i6:=by
 have sc:=qZ
 refine D.ok sc (fun _ _ _ _ _ _ us hl=>by obtain ⟨_,_,_,rfl⟩:=nc hl;rfl) (fun vs H Q E h=>?_) (fun f cdv A outer s H vs Q E hr h=>?_)
 ·obtain ⟨d,c,u,n,a,W,rfl,_⟩:=h
  rfl
 ·obtain ⟨d,c,u,n,a,W,rfl,F,hu,hW,k⟩:=h
  have l16:=aV
  have h6:=hu.hi
  have hul:(toS u).length=2*n:=by rw [af,hu.len]
  have e2:((toS u).length:Int) / 2=(n:Int):=by omega
  refine ⟨_,(@ah _ _ _ _ _ (@qv _ (3) _ _ _ _ _ _ _ _ _ (["_law_k"]) (["_law_k"]) ([]) _ _ _ _ sc.nd rfl (Or.inl rfl) (@bS _ _ _ _ _ _ rfl (by kernel_rfl)) rfl (@aT _ _ _ _ _ _ rfl T.range (@aa _ _ _ _ _ (@aX _ _ _ _ _ _ _ _ dF (@az _ _ _ _ _ _ _ _ _ aP (by rfl) T.len xt (@aa _ _ _ _ _ (pv 1) ae (by rfl)) (by decide) (by decide) (by rfl) (by rfl)) ao) ae (by rfl)) (by rfl)) (fun _ _ _ _=>@aE _ _ (0) _ (show (["_law_k"]:List Str).Nodup from by decide +kernel) rfl (Or.inl rfl) (by first | exact .inl rfl | exact .inr rfl | assumption)) (fun _ _ _ _=>bG) (fun _ _ _ _=>by (exact (@bM _ _ _ _ ae))) (by intro _ ;rfl) (by rfl) (by first | exact .inl rfl | exact .inr rfl | assumption)) (@ah _ _ _ _ _ (@bt _ _ _ _ _ _ _ _ xA rfl (@cb _ _ _ _ (@aM _ _ _ _ _ _ _ _ _ _ _ F_alls hr (by decide) rfl (@aa _ _ _ _ _ (pv 2) ae (by rfl)) (by decide) (by rfl) (by rfl))) (@gP _ _ _ _ _ _ rfl (@bp _ _ _ _ _ (@aE _ _ (4) _ sc.nd rfl (Or.inl rfl) (by first | exact .inl rfl | exact .inr rfl | assumption)) (@bp _ _ _ _ _ (@aE _ _ (5) _ sc.nd rfl (Or.inl rfl) (by first | exact .inl rfl | exact .inr rfl | assumption)) dE (by rfl)) (by rfl)) (by rfl) (by rfl)) (@ah _ _ _ _ _ (@aF _ _ (6) _ _ _ _ sc.nd rfl (Or.inl rfl) (@aK _ _ _ _ _ _ _ aU (pv 3) (@bR _ _ _ _ _ _ _ _ _ _ _ _ xw zY zZ gs bW (@aa _ _ _ _ _ (@eO _ _ _ _ _ _ _ _ _ xw ze zf eA (@aK _ _ _ _ _ _ _ dX (@aK _ _ _ _ _ _ _ bJ (pv 2) (pv 4) (fun _ _=>rfl)) (pv 5) (fun _ _=>rfl)) (by rfl) (by rfl)) ae (by rfl)) (by rfl) (by rfl) (by rfl) (by rfl) (by rfl)) (fun _ _=>rfl)) (by rfl) (by first | exact .inl rfl | exact .inr rfl | assumption)) (@au _ _ _ (@bq _ _ _ _ (@bR _ _ _ _ _ _ _ _ _ _ _ _ xh zL A0 ia (pv 6) (@aa _ _ _ _ _ (@aM _ _ _ _ _ _ _ _ _ _ _ F_draw hr (by decide) rfl (@aa _ _ _ _ _ (pv 0) (@aa _ _ _ _ _ (@aX _ _ _ _ _ _ _ _ bU (@az _ _ _ _ _ _ _ _ _ aI (by rfl) T.len xt (@aa _ _ _ _ _ (pv 6) ae (by rfl)) (by decide) (by decide) (by rfl) (by rfl)) ao) ae (by rfl)) (by rfl)) (by decide) (by rfl) (by rfl)) (@aa _ _ _ _ _ (@bu _ _ _ _ _ (@aa _ _ _ _ _ (pv 4) (@aa _ _ _ _ _ (pv 5) ae (by rfl)) (by rfl))) ae (by rfl)) (by rfl)) (by rfl) (by rfl) (by rfl) (by rfl) (by rfl)) (by rfl)))) (by intro _ ;rfl)) (@au _ _ _ (@aN _ _ _ _ (@cn _ _ _ _ _ _ _ _ _ cf (by rfl) T.tuple iU (@aa _ _ _ _ _ (@bz _ _ _ _ _ _ _ (["_law_row"]) (["_law_row"]) ([]) _ _ _ _ (@bS _ _ _ _ _ _ rfl (by kernel_rfl)) rfl (@cb _ _ _ _ (pv 3)) (fun _ _ _ _=>@aE _ _ (0) _ (show (["_law_row"]:List Str).Nodup from by decide +kernel) rfl (Or.inl rfl) (by first | exact .inl rfl | exact .inr rfl | assumption)) (fun _ _ _ _=>bG) (fun _ _ _ _=>by (exact (@cn _ _ _ _ _ _ _ _ _ (@fy _ (K) rfl) (by rfl) T.tuple iU (@aa _ _ _ _ _ (pv 0) ae (by rfl)) (by decide) (by decide) (by rfl) (by rfl)))) (by intro _ ;rfl)) ae (by rfl)) (by decide) (by decide) (by rfl) (by rfl)))))),?_⟩
  refine ⟨_,rfl,_,rfl,(by omega),_,_,rfl,rfl,⟨by decide,by decide⟩,_,rfl,by omega,by omega,?_⟩
  rw [e2,xu]
  refine cg (own:=["_law_k"]) (cap:=[]) (J:=Itr 0 n) n (fun i ys σ H'=>∃ (v:Option V) (ls:List Addr),σ = [v]∧ys=ls.map V.ref∧ls.length=i∧ls.Nodup∧(∀ q∈ls,H q=none∧H' q=some (.lst []))∧aA H H') ⟨none,[],rfl,rfl,rfl,z8,(fun q hq=>by cases hq),aA.refl _⟩ (fun i ys σ H' hi ⟨_,ls,_,e,e3,_⟩=>by rw [e,fu];omega) (by omega) (fun i ys σ H' hi _=>hi) (fun ys σ H' _=>wJ _) ?_ ?_
  ·rintro i ys σ H1 x H2 N hi ⟨v,ls,rfl,rfl,hl,nd,hq,s1⟩ ⟨rfl,rfl⟩ hN
   refine ⟨(by show 0≤sizeLine;decide),fun q hqn=>hN _ _ _ ⟨_,ls++[q],rfl,by rw [wM];rfl,by rw [wQ,hl];rfl,?_,?_,s1.then hqn⟩⟩
   ·refine List.nodup_append.mpr ⟨nd,zQ.mpr ⟨xS,z8⟩,fun x hx y hy e=>?_⟩
    rw [wH.mp hy] at e
    subst e
    have:=(hq x hx).2
    rw [hqn] at this
    cases this
   ·intro x hx
    rcases xm.mp hx with hx | hx
    ·exact ⟨(hq x hx).1,(aA.new hqn) _ _ (hq x hx).2⟩
    ·rw [wH.mp hx]
     exact ⟨none_of s1 hqn,ab⟩
  rintro ys σ H1 R ⟨v,ls,rfl,rfl,hl,nd,hq,s1⟩ hR
  have s2:=s1.then (o:=.lst (ls.map V.ref)) hR
  have fR:(upd H1 R (.lst (ls.map V.ref))) R=some (.lst (ls.map V.ref)):=ab
  have q2:∀ q∈ls,(upd H1 R (.lst (ls.map V.ref))) q=some (.lst []):=fun q hm=>(aA.new hR) _ _ (hq q hm).2
  have nR:∀ q∈ls,q≠R:=fun q hm=>ag (hq q hm).2 hR
  have hRH:H R=none:=none_of s1 hR
  generalize upd H1 R (.lst (ls.map V.ref))=H2 at s2 fR q2 ⊢
  have hW2:=hW.same s2
  refine ⟨_,rfl,a,n,W,rfl,hW2,fun l zs H3 hl3 s3 f3 hz ez=>⟨l,rfl,⟨_,SqL.of f3⟩,?_⟩⟩
  have s03:=s2.trans s3
  have hlH:H l=none:=none_of s2 hl3
  have zl:zs.length≤60:=by
   have:=ck (fun w hw=>(hW.ws w hw).2.1) W.length
   have e:(bo W).length=(mB W W.length).length:=rfl
   have hle:=hW.le
   rw [← e,← ez,fu] at this
   omega
  have zok:∀ z∈zs,okS W z.2=true:=fun z hz'=>cR.mp (by rw [← ez];exact xH.mpr ⟨z,hz',rfl⟩)
  have nl:∀ q∈ls,q≠l:=fun q hm=>ag (q2 q hm) hl3
  have nRl:R≠l:=ag fR hl3
  have nd_:∀ q∈ls,q≠d∧q≠c:=fun q hm=>⟨F.ne (hq q hm).1,F.nec (hq q hm).1⟩
  have hRd:=F.ne hRH
  have hld:=F.ne hlH
  refine ef (xs:=(zs.map (·.1)).map V.ref) (fun j σ H'=>∃ v4 v5 v6:Option V,σ = [some (.ref d),some (tx u),some (.ref a),some (.ref R),v4,v5,v6]∧H' R=some (.lst (ls.map V.ref))∧H' l=some (.lst ((zs.map (·.1)).map V.ref))∧StA H' zs∧Wy4 n W H' a∧(∀ (m:Nat) (q:Addr),ls[m]? = some q→tY W ((zs.map (·.2)).take j) H' m q)∧Tp H' d c∧bC d H H') ⟨none,none,none,rfl,s3 _ _ fR,f3,hz,hW2.same s3,(fun m q hm=>⟨[],s3 _ _ (q2 q (wR hm)),(fun z hz=>by cases hz),.nil⟩),F.same s03,s03.b⟩ (fun j σ H' _ ⟨_,_,_,_,_,q,_⟩=>SqL.of q) ?_ ?_
  ·rintro j x σ H4 hx ⟨v4,v5,v6,rfl,gR,gl,hz4,hW4,rw4,F4,sb4⟩
   rw [wL,wL] at hx
   cases hz1:zs[j]? with
   | none=>rw [hz1] at hx;cases hx
   | some z =>
    rw [hz1] at hx
    obtain rfl:=wO hx
    have hm:=wR hz1
    have hj:j < zs.length:=(wG.mp hz1).1
    have ok1:=zok z hm
    have lt:=mK (fun w hw=>(hW.ws w hw).2.2) ok1
    have hz5:=hz4 z hm
    obtain ⟨z0,p1,p2⟩:=z
    have hz5:H4 z0=some (.tup [.int p1,.int p2]):=hz5
    have ok1:okS W (p1,p2)=true:=ok1
    have lt:ltS W (p1,p2) < n:=lt
    unfold okS at ok1
    simp only [xK,xR] at ok1
    obtain ⟨⟨o1,o2⟩,o3,o4⟩:=ok1
    have hwl:=dq hW p1.toNat
    refine ⟨z0,_,rfl,SqT.of hz5,rfl,_,_,rfl,_,_,rfl,rfl,?_⟩
    refine ⟨_,rfl,rfl,_,rfl,_,rfl,a,_,_,_,rfl,rfl,SqT.of hW4.at_,e_ o1 o2,_,rfl,_,_,_,rfl,rfl,(by rw [af];omega),jK o3 o4,?_⟩
    have lt':ltS W (p1,p2)=((W.getD p1.toNat []).getD p2.toNat 0).val % 6:=rfl
    generalize (W.getD p1.toNat []).getD p2.toNat 0=x1 at lt' ⊢
    refine ⟨rfl,_,rfl,rfl,(by show 1≤5592405;decide),?_⟩
    rw [show (⟨#[cp x1]⟩:Str)=toS [x1] from rfl,pO]
    have kx:x1.val % 6 < n:=by omega
    obtain ⟨rest,ho⟩:=pP (x:=⟨x1.val % 6,by omega⟩) (by show x1.val % 6 < 6;omega)
    have hk:x1.val % 6 < ls.length:=by omega
    obtain ⟨q,hqk⟩:∃ q,ls[x1.val % 6]? = some q:=⟨_,wF hk⟩
    have qm:=wR hqk
    obtain ⟨row,g1,g2,g3⟩:=rw4 _ q hqk
    have rl:row.length≤60:=by
     have h1:=g3.length_eq
     rw [fu] at h1
     rw [h1]
     refine xq (zt _ _) ?_
     rw [w9,fu]
     omega
    have el:((row.map (·.1)).map V.ref).length=row.length:=by rw [fu,fu]
    obtain ⟨nqd,nqc⟩:=nd_ q qm
    refine ⟨_,_,_,rest,rfl,rfl,ho,R,_,_,_,rfl,rfl,SqL.of gR,cq (v:=.ref q) (by rw [wL,hqk];rfl),?_⟩
    refine ⟨_,rfl,.inl ⟨rfl,_,SqL.of g1⟩,_,rfl,_,rfl,q,_,rfl,.inl (SqL.of g1),_,_,rfl,rfl,d,c,_,rfl,F4,by omega,by omega,fun b H5 b0 b1 F5 sb5=>?_⟩
    rw [el] at b1
    have g5:=sb5 _ _ nqd g1
    refine ⟨_,rfl,_,rfl,(aL (n:=2) (by decide)),fun t ht=>?_⟩
    have s6:aA H5 (upd H5 t (.tup [.int p1,.int p2])):=aA.new ht
    have g6:=s6 _ _ g5
    have F6:=F5.same s6
    have t6:(upd H5 t (.tup [.int p1,.int p2])) t=some (.tup [.int p1,.int p2]):=ab
    generalize upd H5 t (.tup [.int p1,.int p2])=H6 at s6 g6 F6 t6 ⊢
    refine ⟨q,_,b,_,rfl,rfl,g6,b0,by omega,by omega,?_⟩
    have ei:((row.map (·.1)).map V.ref).take b.toNat++V.ref t::((row.map (·.1)).map V.ref).drop b.toNat=((row.take b.toNat++(t,p1,p2)::row.drop b.toNat).map (·.1)).map V.ref:=by
     rw [← Ap,← Ap,← zT,← zT,wM,wM]
     rfl
    rw [ei]
    have keep:∀ (zz:List V) b o,b≠d→b≠q→H4 b=some o→(upd H6 q (.lst zz)) b=some o:=fun zz b o n1 n2 e=>by rw [av n2];exact s6 _ _ (sb5 _ _ n1 e)
    have keepT:∀ (zz:List V) b xs,H4 b=some (.tup xs)→(upd H6 q (.lst zz)) b=some (.tup xs):=fun zz b xs e=>keep zz b _ (F4.nt e) (b_ e g1 (by intro z;cases z)) e
    refine ⟨_,_,_,rfl,keep _ _ _ hRd (nR q qm).symm gR,keep _ _ _ hld (nl q qm).symm gl,fun z hz'=>keepT _ _ _ (hz4 z hz'),⟨keepT _ _ _ hW4.at_,hW4.le,hW4.lo,hW4.ws⟩,fun m' q' hq'=>?_,F6.but nqd nqc bC.upd,fun b o nb e=>?_⟩
    ·have et:(zs.map (·.2)).take (j+1)=(zs.map (·.2)).take j++[(p1,p2)]:=by
      rw [yl,wL,hz1]
      rfl
     by_cases eq:q'=q
     ·subst eq
      have em:m'=x1.val % 6:=by
       have a1:=(wG.mp hq').1
       have a2:=(wG.mp hq').2
       have a3:=(wG.mp hqk).2
       have e1:=nd.idxOf_getElem m' a1
       have e3:=nd.idxOf_getElem (x1.val % 6) hk
       rw [a2] at e1
       rw [a3] at e3
       exact e1.symm.trans e3
      subst em
      refine ⟨row.take b.toNat++(t,p1,p2)::row.drop b.toNat,ab,fun z hz'=>?_,?_⟩
      ·have hz':z=(t,p1,p2) ∨ z∈row:=by
        rcases xm.mp hz' with hz' | hz'
        ·exact .inr (xX hz')
        ·rcases xg.mp hz' with hz' | hz'
         ·exact .inl hz'
         ·exact .inr (yg hz')
       rcases hz' with rfl | hz'
       ·show (upd H6 q' _) t=_
        rw [av (b_ t6 g6 (by intro z;cases z))]
        exact t6
       ·exact keepT _ _ _ (g2 z hz')
      ·rw [et,yQ,x6 (by show decide (ltS W (p1,p2)=x1.val % 6)=true;exact xC lt')]
       refine List.Perm.trans (List.Perm.map _ (Ba.trans (List.Perm.cons _ (List.Perm.of_eq (xo _ _))))) ?_
       exact (List.Perm.cons _ g3).trans (yB (l₁:=[(p1,p2)]))
     ·have ne:¬ m'=x1.val % 6:=fun e=>eq (by rw [e,hqk] at hq';exact (wO hq').symm)
      have:=(rw4 m' q' hq').to (H':=upd H6 q (.lst (((row.take b.toNat++(t,p1,p2)::row.drop b.toNat).map (·.1)).map V.ref))) (fun xs e=>keep _ _ _ (nd_ q' (wR hq')).1 eq e) (keepT _)
      rw [et]
      obtain ⟨row',h1,h2,h3⟩:=this
      refine ⟨row',h1,h2,?_⟩
      rw [yQ,xV (by show ¬ decide (ltS W (p1,p2)=m')=true;rw [lt'];simpa using fun e=>ne e.symm),List.filter_nil,yf]
      exact h3
    ·rw [av (ag e (hq q qm).1)];exact s6 _ _ (sb5 _ _ nb (sb4 _ _ nb e))
  ·rintro σ H4 ⟨v4,v5,v6,rfl,gR,gl,hz4,hW4,rw4,F4,sb4⟩
   rw [fu,fu] at rw4
   have rw5:∀ (m:Nat) (q:Addr),ls[m]? = some q→tY W (bo W) H4 m q:=fun m q h=>by
    have:=rw4 m q h
    rwa [xv (by rw [fu];exact wJ _),ez] at this
   refine ⟨_,rfl,R,rfl,⟨_,SqL.of gR⟩,?_⟩
   refine cA (xs:=ls.map V.ref) (own:=["_law_row"]) (cap:=[]) (fun i ys σ H'=>∃ (v:Option V) (bs:List Addr) (rows:List (List (Int × Int))),σ = [v]∧ys=bs.map V.ref∧bs.length=i∧rows.length=i∧(∀ (m:Nat) (b:Addr),bs[m]? = some b→∃ row:List (Addr × Int × Int),H' b=some (.tup ((row.map (·.1)).map V.ref))∧StA H' row∧rows[m]? = some (row.map (·.2)))∧(∀ (m:Nat) (row:List (Int × Int)),rows[m]? = some row→row.Perm (tD W m))∧aA H4 H') ⟨none,[],[],rfl,rfl,rfl,rfl,(fun m b e=>by simp at e),(fun m b e=>by simp at e),aA.refl _⟩ (fun i ys σ H' hi ⟨_,bs,_,_,e,e2,_⟩=>by rw [e,fu];omega) (by rw [fu];omega) (fun i ys σ H' ⟨_,_,_,_,_,_,_,_,_,q⟩=>SqL.of (q _ _ gR)) ?_ ?_
   ·rintro i ys σ H5 y N hy ⟨v,bs,rows,rfl,rfl,hbl,hrl,hb,hpm,s5⟩ hN
    rw [wL] at hy
    cases hqi:ls[i]? with
    | none=>rw [hqi] at hy;cases hy
    | some q =>
     rw [hqi] at hy
     obtain rfl:=wO hy
     obtain ⟨row,g1,g2,g3⟩:=rw5 i q hqi
     refine ⟨_,rfl,q,_,rfl,.inl ⟨SqL.of (s5 _ _ g1),fun t ht=>hN _ _ _ ⟨_,bs++[t],rows++[row.map (·.2)],rfl,by rw [wM];rfl,by rw [wQ,hbl];rfl,by rw [wQ,hrl];rfl,fun m b e=>?_,fun m rw e=>?_,s5.then ht⟩⟩⟩
     ·by_cases hm:m < bs.length
      ·rw [xW hm] at e
       obtain ⟨row',h1,h2,h3⟩:=hb m b e
       exact ⟨row',aA.new ht _ _ h1,h2.same (aA.new ht),by rw [xW (by omega)];exact h3⟩
      ·have em:m=bs.length:=by
        have:=(wG.mp e).1
        rw [wQ] at this
        have:m < bs.length+1:=this
        omega
       subst em
       rw [zu] at e
       obtain rfl:=wO e
       exact ⟨row,ab,(g2.same s5).same (aA.new ht),by rw [hbl,← hrl,zu]⟩
     ·by_cases hm:m < rows.length
      ·rw [xW hm] at e
       exact hpm m rw e
      ·have em:m=rows.length:=by
        have:=(wG.mp e).1
        rw [wQ] at this
        have:m < rows.length+1:=this
        omega
       subst em
       rw [zu] at e
       rw [← wO e,hrl]
       exact g3
   ·rintro ys σ H5 L5 ⟨v,bs,rows,rfl,rfl,hbl,hrl,hb,hpm,s5⟩ hL
    rw [fu] at hbl hrl
    have s6:=s5.then (o:=.lst (bs.map V.ref)) hL
    have s56:aA H5 (upd H5 L5 (.lst (bs.map V.ref))):=aA.new hL
    have g6:(upd H5 L5 (.lst (bs.map V.ref))) L5=some (.lst (bs.map V.ref)):=ab
    generalize upd H5 L5 (.lst (bs.map V.ref))=H6 at s6 s56 g6 ⊢
    refine ⟨L5,_,rfl,.inl ⟨SqL.of g6,fun r hr=>?_⟩⟩
    refine k r rows _ ((F4.same s6).new hr) (sb4.trans (s6.then hr).b) ⟨⟨bs,ab,by omega,fun m b e=>?_⟩,by omega,hpm⟩
    obtain ⟨row',h1,h2,h3⟩:=hb m b e
    have s7:=s56.then (o:=.tup (bs.map V.ref)) hr
    exact ⟨row',s7 _ _ h1,h2.same s7,h3⟩
def nxZ (W:List (List L))(p:Int × Int):Int × Int:=(p.1,(p.2+1) % ((W.getD p.1.toNat []).length:Int))
inductive vp (vs:List V)(H:Hp)(Q:VK)(u3_:XK):Prop
 | mk:∀ (a p:Addr) (n:Nat) (W:List (List L)) (i j s:Int),(vs=[.ref a,.ref p,.int s])→(Wy4 n W H a)→(H p=some (.tup [.int i,.int j]))→(okS W (i,j)=true)→(∀ t,H t=none→Q (.ref t) (upd H t (.tup [.int i,.int ((j+s) % ((W.getD i.toNat []).length:Int))])))→vp vs H Q u3_
inductive ff (vs:List V)(H:Hp)(Q:VK)(u3_:XK):Prop
 | mk:∀ (a p:Addr) (n:Nat) (W:List (List L)) (i j:Int),(vs=[.ref a,.ref p])→(Wy4 n W H a)→(H p=some (.tup [.int i,.int j]))→(okS W (i,j)=true)→(∀ t,H t=none→Q (.ref t) (upd H t (.tup [.int (nxZ W (i,j)).1,.int (nxZ W (i,j)).2])))→ff vs H Q u3_
def iD (rows:List (List (Int × Int)))(x:L):List (Int × Int):=if x.val < 6 then rows.getD (x.val % 6) [] else (rows.getD (x.val % 6) []).reverse
inductive i7 (vs:List V)(H:Hp)(Q:VK)(u3_:XK):Prop
 | mk:∀ (r:Addr) (n:Nat) (W:List (List L)) (rows:List (List (Int × Int))) (x:L),(vs=[.ref r,tx [x]])→(Dw n W H r rows)→(x.val % 6 < n)→(∀ (b:Addr) (row:List (Addr × Int × Int)) (H':Hp),aA H H'→H' b=some (.tup ((row.map (·.1)).map V.ref))→StA H' row→row.map (·.2)=iD rows x→Q (.ref b) H')→i7 vs H Q u3_
theorem Dw.same {n:Nat}{W:List (List L)}{H H':Hp}{r:Addr}{rows:List (List (Int × Int))}(h:Dw n W H r rows)(s:aA H H'):Dw n W H' r rows:=by
 obtain ⟨⟨bs,h1,h2,h3⟩,h4,h5⟩:=h
 exact ⟨⟨bs,s _ _ h1,h2,fun i b e=>let ⟨row,g1,g2,g3⟩:=h3 i b e;⟨row,s _ _ g1,g2.same s,g3⟩⟩,h4,h5⟩
abbrev t_:Stmt:=top 9
theorem vq:aJ ["ways","strand","step"] ["ways","strand","step"] (ak t_):=⟨rfl,rfl,rfl,by decide +kernel,rfl,by decide +kernel,by decide +kernel⟩
theorem wA (D:Df K mg "strand_on" t_)(T:Bt K w mg aB):Fnc P w K mg base "strand_on" ["ways","strand","step"] 1 vp:=by
 have sc:=vq
 refine D.ok sc (fun _ _ _ _ _ _ us hl=>by obtain ⟨_,_,_,rfl⟩:=nc hl;rfl) (fun vs H Q E h=>?_) (fun f cdv A outer s H vs Q E hr h=>?_)
 ·obtain ⟨a,p,n,W,i,j,s,rfl,_⟩:=h
  rfl
 ·obtain ⟨a,p,n,W,i,j,s,rfl,hW,hp,ok,k⟩:=h
  have l16:=aV
  unfold okS at ok
  simp only [xK,xR] at ok
  obtain ⟨⟨o1,o2⟩,o3,o4⟩:=ok
  have hl:=dq hW i.toNat
  refine ⟨_,(@au _ _ _ (@aN _ _ _ _ (@bu _ _ _ _ _ (@aa _ _ _ _ _ (@aK _ _ _ _ _ _ _ bJ (pv 1) ao (fun _ _=>rfl)) (@aa _ _ _ _ _ (@aX _ _ _ _ _ _ _ _ dU (@aX _ _ _ _ _ _ _ _ bU (@aK _ _ _ _ _ _ _ bJ (pv 1) ao (fun _ _=>rfl)) (pv 2)) (@az _ _ _ _ _ _ _ _ _ aP (by rfl) T.len xt (@aa _ _ _ _ _ (@aK _ _ _ _ _ _ _ bJ (pv 0) (@aK _ _ _ _ _ _ _ bJ (pv 1) ao (fun _ _=>rfl)) (fun _ _=>rfl)) ae (by rfl)) (by decide) (by decide) (by rfl) (by rfl))) ae (by rfl)) (by rfl))))),?_⟩
  refine ⟨_,rfl,p,_,_,_,rfl,rfl,SqT.of hp,rfl,_,rfl,p,_,_,_,rfl,rfl,SqT.of hp,rfl,_,rfl,_,_,rfl,rfl,_,rfl,_,rfl,p,_,_,_,rfl,rfl,SqT.of hp,rfl,a,_,_,_,rfl,rfl,SqT.of hW.at_,e_ o1 o2,_,rfl,(by rw [af];omega),_,_,rfl,rfl,(by rw [af];omega),(aL (n:=2) (by decide)),fun t ht=>?_⟩
  rw [af]
  exact k t ht
abbrev du:Stmt:=top 8
theorem mL:aJ ["ways","strand"] ["ways","strand"] (ak du):=⟨rfl,rfl,rfl,by decide +kernel,rfl,by decide +kernel,by decide +kernel⟩
theorem oP (D:Df K mg "strand_behind" du)(T:Bt K w mg aB)(F_on:Fnc P w K mg base "strand_on" ["ways","strand","step"] 1 vp):Fnc P w K mg base "strand_behind" ["ways","strand"] 2 ff:=by
 have sc:=mL
 refine D.ok sc (fun _ _ _ _ _ _ us hl=>by obtain ⟨_,_,rfl⟩:=pN hl;rfl) (fun vs H Q E h=>?_) (fun f cdv A outer s H vs Q E hr h=>?_)
 ·obtain ⟨a,p,n,W,i,j,rfl,_⟩:=h
  rfl
 ·obtain ⟨a,p,n,W,i,j,rfl,hW,hp,ok,k⟩:=h
  refine ⟨_,(@au _ _ _ (@aN _ _ _ _ (@aM _ _ _ _ _ _ _ _ _ _ _ F_on hr (by decide) rfl (@aa _ _ _ _ _ (pv 0) (@aa _ _ _ _ _ (pv 1) (@aa _ _ _ _ _ ao ae (by rfl)) (by rfl)) (by rfl)) (by decide) (by rfl) (by rfl)))),?_⟩
  exact ⟨_,rfl,_,rfl,a,p,n,W,i,j,1,rfl,hW,hp,ok,k⟩
abbrev fg:Stmt:=top 14
theorem oQ:aJ ["drawing","end","order"] ["drawing","end"] (ak fg):=⟨rfl,rfl,rfl,by decide +kernel,rfl,by decide +kernel,by decide +kernel⟩
theorem q8 (D:Df K mg "met_at" fg)(T:Bt K w mg aB)(F_num:Fnc P w K mg base "number_of" ["letter"] 1 qu):Fnc P w K mg base "met_at" ["drawing","end"] 2 i7:=by
 have sc:=oQ
 refine D.ok sc (fun _ _ _ _ _ _ us hl=>by obtain ⟨_,_,rfl⟩:=pN hl;rfl) (fun vs H Q E h=>?_) (fun f cdv A outer s H vs Q E hr h=>?_)
 ·obtain ⟨r,n,W,rows,x,rfl,_⟩:=h
  rfl
 ·obtain ⟨r,n,W,rows,x,rfl,dw,hx,k⟩:=h
  have l16:=aV
  obtain ⟨bs,h1,h2,h3⟩:=dw.ex
  obtain ⟨b,hb⟩:∃ b,bs[x.val % 6]? = some b:=⟨_,wF (by omega)⟩
  obtain ⟨row,g1,g2,g3⟩:=h3 _ b hb
  have er:rows.getD (x.val % 6) []=row.map (·.2):=by rw [xf,g3];rfl
  refine ⟨_,(@ah _ _ _ _ _ (@aF _ _ (2) _ _ _ _ sc.nd rfl (Or.inl rfl) (@aK _ _ _ _ _ _ _ bJ (pv 0) (@aM _ _ _ _ _ _ _ _ _ _ _ F_num hr (by decide) rfl (@aa _ _ _ _ _ (pv 1) ae (by rfl)) (by decide) (by rfl) (by rfl)) (fun _ _=>rfl)) (by rfl) (by first | exact .inl rfl | exact .inr rfl | assumption)) (@au _ _ _ (@aN _ _ _ _ (@fU _ _ _ _ _ _ _ _ (@fW _ _ _ (@eO _ _ _ _ _ _ _ _ _ xw PySem.F.slot_str_islower PySem.F.type_str_islower j5 (pv 1) (by rfl) (by rfl)) (fun _=>rfl)) (pv 2) (@qK _ _ _ _ _ _ _ (pv 2) (@kr _ _ _ _ _ _ gT ao)))))),?_⟩
  refine ⟨_,rfl,_,rfl,x,rfl,r,_,_,_,rfl,rfl,SqT.of h1,cq (v:=.ref b) (by rw [wL,hb];rfl),?_⟩
  refine ⟨_,rfl,rfl,_,rfl,rfl,_,rfl,?_⟩
  rw [lI]
  by_cases c:x.val < 6
  ·rw [xC c]
   refine ux ⟨_,rfl,k b row H (aA.refl _) g1 g2 ?_⟩
   unfold iD
   rw [if_pos c,er]
  ·rw [w6 c]
   refine m_ ⟨_,rfl,_,rfl,b,_,rfl,rfl,g1,fun t ht=>?_⟩
   refine k t row.reverse _ (aA.new ht) (by rw [ab,y9,y9]) (fun z hz=>aA.new ht _ _ (g2 z (zI.mp hz))) ?_
   unfold iD
   rw [if_neg c,er,y9]
abbrev Pt:=Addr × L × Addr × Int × Int
def PtA (H:Hp)(zs:List Pt):Prop:=∀ z∈zs,H z.1=some (.tup [tx [z.2.1],.ref z.2.2.1])∧H z.2.2.1=some (.tup [.int z.2.2.2.1,.int z.2.2.2.2])
theorem PtA.to {H H':Hp}{zs:List Pt}(h:PtA H zs)(k:∀ a xs,H a=some (.tup xs)→H' a=some (.tup xs)):PtA H' zs:=fun z hz=>⟨k _ _ (h z hz).1,k _ _ (h z hz).2⟩
theorem PtA.app {H:Hp}{zs ys:List Pt}(h:PtA H zs)(g:PtA H ys):PtA H (zs++ys):=fun z hz=>(xm.mp hz).elim (h z) (g z)
def ptZ (z:Pt):L × (Int × Int):=(z.2.1,z.2.2.2)
def bf (rows:List (List (Int × Int)))(u:List L):List (L × (Int × Int)):=u.flatMap fun x=>(iD rows x).map fun p=>(x,p)
inductive oR (vs:List V)(H:Hp)(Q:VK)(u3_:XK):Prop
 | mk:∀ (u:List L) (a r:Addr) (n:Nat) (W:List (List L)) (rows:List (List (Int × Int))),(vs=[tx u,.ref a,.ref r])→(SK u n)→(Wy4 n W H a)→(Dw n W H r rows)→(∀ (l:Addr) (zs:List Pt) (H':Hp),H l=none→aA H H'→H' l=some (.lst ((zs.map (·.1)).map V.ref))→PtA H' zs→zs.map ptZ=bf rows u→Q (.ref l) H')→oR vs H Q u3_
theorem cS {n:Nat}{W:List (List L)}{H H':Hp}{a r:Addr}{rows:List (List (Int × Int))}(hW:Wy4 n W H a)(dw:Dw n W H' r rows)(x:L):(iD rows x).length≤60:=by
 have g:(rows.getD (x.val % 6) []).length≤60:=by
  rw [xf]
  cases e:rows[x.val % 6]? with
  | none=>exact xE _
  | some row =>
   show row.length≤60
   rw [(dw.pm _ _ e).length_eq]
   refine xq (zt _ _) ?_
   have:=ck (fun w hw=>(hW.ws w hw).2.1) W.length
   have hle:=hW.le
   have:(bo W).length≤15*W.length:=this
   omega
 unfold iD
 split
 ·exact g
 ·rw [yH];exact g
abbrev mM:Stmt:=top 13
theorem ua:aJ ["surface","ways","drawing","told","end"] ["surface","ways","drawing"] (ak mM):=⟨rfl,rfl,rfl,by decide +kernel,rfl,by decide +kernel,by decide +kernel⟩
theorem vt (D:Df K mg "points" mM)(T:Bt K w mg aB)(F_metat:Fnc P w K mg base "met_at" ["drawing","end"] 2 i7):Fnc P w K mg base "points" ["surface","ways","drawing"] 3 oR:=by
 have sc:=ua
 refine D.ok sc (fun _ _ _ _ _ _ us hl=>by obtain ⟨_,_,_,rfl⟩:=nc hl;rfl) (fun vs H Q E h=>?_) (fun f cdv A outer s H vs Q E hr h=>?_)
 ·obtain ⟨u,a,r,n,W,rows,rfl,_⟩:=h
  rfl
 ·obtain ⟨u,a,r,n,W,rows,rfl,U,hW,dw,k⟩:=h
  have l16:=aV
  have hul:=U.len
  have h6:=U.hi
  refine ⟨_,(@ah _ _ _ _ _ (@aF _ _ (3) _ _ _ _ sc.nd rfl (Or.inl rfl) (@bM _ _ _ _ ae) (by rfl) (by first | exact .inl rfl | exact .inr rfl | assumption)) (@ah _ _ _ _ _ (@bt _ _ _ _ _ _ _ _ xA rfl (@jm _ _ _ _ (pv 0)) (@aE _ _ (4) _ sc.nd rfl (Or.inr rfl) (by first | exact .inl rfl | exact .inr rfl | assumption)) (@au _ _ _ (@bq _ _ _ _ (@bR _ _ _ _ _ _ _ _ _ _ _ _ xh ym yn bX (pv 3) (@aa _ _ _ _ _ (@bz _ _ _ _ _ _ _ (["strand","end"]) (["strand"]) ([4]) _ _ _ _ (@bS _ _ _ _ _ _ rfl (by kernel_rfl)) rfl (@je _ _ _ _ (@aM _ _ _ _ _ _ _ _ _ _ _ F_metat hr (by decide) rfl (@aa _ _ _ _ _ (pv 2) (@aa _ _ _ _ _ (pv 4) ae (by rfl)) (by rfl)) (by decide) (by rfl) (by rfl))) (fun _ _ _ _=>@aE _ _ (0) _ (show (["strand","end"]:List Str).Nodup from by decide +kernel) rfl (Or.inl rfl) (by first | exact .inl rfl | exact .inr rfl | assumption)) (fun _ _ _ _=>bG) (fun _ _ _ _=>by (exact (@bu _ _ _ _ _ (@aa _ _ _ _ _ (pv 1) (@aa _ _ _ _ _ (pv 0) ae (by rfl)) (by rfl))))) (by intro _ ;rfl)) ae (by rfl)) (by rfl) (by rfl) (by rfl) (by rfl) (by rfl)) (by rfl))) (by intro _ ;rfl)) (@au _ _ _ (@aN _ _ _ _ (pv 3))))),?_⟩
  refine ⟨(by show 0≤sizeLine;decide),fun l hl=>?_⟩
  have s1:aA H (upd H l (.lst [])):=aA.new hl
  have f1:(upd H l (.lst [])) l=some (.lst ((([]:List Pt).map (·.1)).map V.ref)):=ab
  generalize upd H l (.lst [])=H1 at s1 f1 ⊢
  refine ⟨_,rfl,_,rfl,iT (z:=toS u) (fun i σ H'=>∃ (v4:Option V) (zs:List Pt),σ = [some (tx u),some (.ref a),some (.ref r),some (.ref l),v4]∧H' l=some (.lst ((zs.map (·.1)).map V.ref))∧PtA H' zs∧zs.length≤60*i∧zs.map ptZ=bf rows (u.take i)∧aA H H') ⟨none,[],rfl,f1,(fun z hz=>by cases hz),wJ _,rfl,s1⟩ ?_ ?_⟩
  ·rintro i cc σ H2 hc ⟨v4,zs,rfl,f2,hz,zl,ez,s2⟩
   obtain ⟨x,hx,ex⟩:=eV hc
   rw [ex]
   have hi:i < u.length:=(wG.mp hx).1
   have hxn:x.val % 6 < n:=(U.mem x).mp (wR hx)
   refine ⟨_,rfl,.inl ⟨rfl,_,SqL.of f2⟩,_,rfl,_,rfl,r,n,W,rows,x,rfl,dw.same s2,hxn,fun b row H3 s3 hb st er=>⟨b,rfl,⟨_,SqT.of hb⟩,?_⟩⟩
   have rl:row.length≤60:=by
    have:=cS hW dw x
    rw [← er,fu] at this
    exact this
   refine gu (xs:=(row.map (·.1)).map V.ref) (own:=["strand"]) (cap:=[4]) (fun j ys σ H'=>∃ (v:Option V) (ps:List Pt),σ = [v,some (tx [x])]∧ys=(ps.map (·.1)).map V.ref∧ps.length=j∧PtA H' ps∧ps.map ptZ=(row.take j).map (fun z=>(x,z.2))∧aA H3 H') ⟨none,[],rfl,rfl,rfl,(fun z hz=>by cases hz),rfl,aA.refl _⟩ (fun j ys σ H' hj ⟨_,ps,_,e,e2,_⟩=>by rw [e,fu,fu];omega) (by rw [fu,fu];omega) (fun j ys σ H' ⟨_,_,_,_,_,_,_,q⟩=>SqT.of (q _ _ hb)) ?_ ?_
   ·rintro j ys σ H4 y N hy ⟨v,ps,rfl,rfl,pl,hp,ep,s4⟩ hN
    rw [wL,wL] at hy
    cases hzj:row[j]? with
    | none=>rw [hzj] at hy;cases hy
    | some z =>
     rw [hzj] at hy
     obtain rfl:=wO hy
     have hm:=wR hzj
     refine ⟨_,rfl,_,rfl,(aL (n:=2) (by decide)),fun t ht=>hN _ _ _ ⟨_,ps++[(t,x,z.1,z.2)],rfl,by rw [wM,wM];rfl,by rw [wQ,pl];rfl,?_,?_,s4.then ht⟩⟩
     ·refine (hp.to fun c xs e=>aA.new ht _ _ e).app fun y hy=>?_
      rw [wH.mp hy]
      exact ⟨ab,aA.new ht _ _ (s4 _ _ (st z hm))⟩
     ·rw [wM,ep,yl,hzj,zg,wM]
      rfl
   ·rintro ys σ H4 q ⟨v,ps,rfl,rfl,pl,hp,ep,s4⟩ hq
    rw [fu,fu] at pl ep
    rw [xQ] at ep
    have s5:aA H4 (upd H4 q (.lst ((ps.map (·.1)).map V.ref))):=aA.new hq
    have g5:(upd H4 q (.lst ((ps.map (·.1)).map V.ref))) q=some (.lst ((ps.map (·.1)).map V.ref)):=ab
    generalize upd H4 q (.lst ((ps.map (·.1)).map V.ref))=H5 at s5 g5 ⊢
    have s25:=s3.trans (s4.trans s5)
    have f5:=s25 _ _ f2
    refine ⟨l,q,_,_,rfl,rfl,f5,g5,by rw [fu,fu,fu,fu];omega,?_⟩
    have keepT:∀ (zz:List V) b xs,H5 b=some (.tup xs)→(upd H5 l (.lst zz)) b=some (.tup xs):=fun zz b xs e=>by
     rw [av (b_ e f5 (by intro z;cases z))];exact e
    refine ⟨_,zs++ps,rfl,by rw [ab,wM,wM],?_,by rw [wQ];omega,?_,fun b o e=>?_⟩
    ·exact ((hz.to fun c xs e=>s25 _ _ e).app (hp.to fun c xs e=>s5 _ _ e)).to (keepT _)
    ·rw [wM,ez,ep,b9 hx]
     unfold bf
     rw [yI,yV,zJ,yf,← er,AK]
     rfl
    ·rw [av (ag e hl)];exact s25 _ _ (s2 _ _ e)
  ·rintro σ H2 ⟨v4,zs,rfl,f2,hz,zl,ez,s2⟩
   rw [bV,xQ] at ez
   exact ⟨_,rfl,k l zs _ hl s2 f2 hz ez⟩
inductive gE (vs:List V)(H:Hp)(Q:VK)(u3_:XK):Prop
 | mk:∀ (u:List L) (r:Addr) (n:Nat) (W:List (List L)) (rows:List (List (Int × Int))),(vs=[tx u,.ref r])→(SK u n)→(Dw n W H r rows)→(∀ x,(iD rows x).length≤60)→(∀ (l:Addr) (zs:List Pt) (H':Hp),H l=none→aA H H'→H' l=some (.lst ((zs.map (·.1)).map V.ref))→PtA H' zs→zs.map ptZ=bf rows u→Q (.ref l) H')→gE vs H Q u3_
theorem mN {t u:TS}{D:gM}{σ:L2.St}{H:Hp}(R:L2.St→Hp→Prop)(h1:∀ D':gM,(∀ σ2 H2,R σ2 H2→D'.nx σ2 H2)→t D' σ H)(h2:∀ σ2 H2,R σ2 H2→u D σ2 H2):vA t u D σ H:=h1 _ h2
theorem mO {nx:L2.St→Hp→Prop}{rt:VK}{bk ct:L2.St→Hp→Prop}{i:Nat}{σ:L2.St}{x:V}{H:Hp}(h:nx (σ.set i (some x)) H):eJ (iO i) ⟨nx,rt,bk,ct⟩ σ x H:=h
abbrev fh:Stmt:=top 29
theorem oS:aJ ["_law_surface","_law_drawing","_law_found","_law_end","_law_row"] ["_law_surface","_law_drawing"] (ak fh):=⟨rfl,rfl,rfl,by decide +kernel,rfl,by decide +kernel,by decide +kernel⟩
theorem q9 (D:Df K mg "_law_all_spots" fh)(T:Bt K w mg aB):Fnc P w K mg base "_law_all_spots" ["_law_surface","_law_drawing"] 1 gE:=by
 have sc:=oS
 refine D.ok sc (fun _ _ _ _ _ _ us hl=>by obtain ⟨_,_,rfl⟩:=pN hl;rfl) (fun vs H Q E h=>?_) (fun f cdv A outer s H vs Q E hr h=>?_)
 ·obtain ⟨u,r,n,W,rows,rfl,_⟩:=h
  rfl
 ·obtain ⟨u,r,n,W,rows,rfl,U,dw,rlen,k⟩:=h
  have l16:=aV
  have hul:=U.len
  have h6:=U.hi
  refine ⟨_,(@ah _ _ _ _ _ (@aF _ _ (2) _ _ _ _ sc.nd rfl (Or.inl rfl) (@bM _ _ _ _ ae) (by rfl) (by first | exact .inl rfl | exact .inr rfl | assumption)) (@ah _ _ _ _ _ (@bt _ _ _ _ _ _ _ _ xA rfl (@jm _ _ _ _ (pv 0)) (@aE _ _ (3) _ sc.nd rfl (Or.inr rfl) (by first | exact .inl rfl | exact .inr rfl | assumption)) (@ah _ _ _ _ _ (@aF _ _ (4) _ _ _ _ sc.nd rfl (Or.inl rfl) (@cn _ _ _ _ _ _ _ _ _ dY (by rfl) T.list pF (@aa _ _ _ _ _ (@aK _ _ _ _ _ _ _ bJ (pv 1) (@bR _ _ _ _ _ _ _ _ _ _ _ _ xw zY zZ gs bW (@aa _ _ _ _ _ (@eO _ _ _ _ _ _ _ _ _ xw ze zf eA (pv 3) (by rfl) (by rfl)) ae (by rfl)) (by rfl) (by rfl) (by rfl) (by rfl) (by rfl)) (fun _ _=>rfl)) ae (by rfl)) (by decide) (by decide) (by rfl) (by rfl)) (by rfl) (by first | exact .inl rfl | exact .inr rfl | assumption)) (@ah _ _ _ _ _ (@d8 _ _ _ _ _ _ _ _ (@aR _ _ _ _ _ _ _ _ gX (pv 3) bW rfl) (@au _ _ _ (@bq _ _ _ _ (@eO _ _ _ _ _ _ _ _ _ xh PySem.F.slot_list_reverse PySem.F.type_list_reverse jZ (pv 4) (by rfl) (by rfl)) (by rfl))) bP) (@au _ _ _ (@bq _ _ _ _ (@bR _ _ _ _ _ _ _ _ _ _ _ _ xh ym yn bX (pv 2) (@aa _ _ _ _ _ (@bz _ _ _ _ _ _ _ (["_law_strand","_law_end"]) (["_law_strand"]) ([3]) _ _ _ _ (@bS _ _ _ _ _ _ rfl (by kernel_rfl)) rfl (@cb _ _ _ _ (pv 4)) (fun _ _ _ _=>@aE _ _ (0) _ (show (["_law_strand","_law_end"]:List Str).Nodup from by decide +kernel) rfl (Or.inl rfl) (by first | exact .inl rfl | exact .inr rfl | assumption)) (fun _ _ _ _=>bG) (fun _ _ _ _=>by (exact (@bu _ _ _ _ _ (@aa _ _ _ _ _ (pv 1) (@aa _ _ _ _ _ (pv 0) ae (by rfl)) (by rfl))))) (by intro _ ;rfl)) ae (by rfl)) (by rfl) (by rfl) (by rfl) (by rfl) (by rfl)) (by rfl))))) (by intro _ ;rfl)) (@au _ _ _ (@aN _ _ _ _ (pv 2))))),?_⟩
  refine ⟨(by show 0≤sizeLine;decide),fun l hl=>?_⟩
  have s1:aA H (upd H l (.lst [])):=aA.new hl
  have f1:(upd H l (.lst [])) l=some (.lst ((([]:List Pt).map (·.1)).map V.ref)):=ab
  generalize upd H l (.lst [])=H1 at s1 f1 ⊢
  refine ⟨_,rfl,_,rfl,iT (z:=toS u) (fun i σ H'=>∃ (v3 v4:Option V) (zs:List Pt),σ = [some (tx u),some (.ref r),some (.ref l),v3,v4]∧H' l=some (.lst ((zs.map (·.1)).map V.ref))∧PtA H' zs∧zs.length≤60*i∧zs.map ptZ=bf rows (u.take i)∧aA H H') ⟨none,none,[],rfl,f1,(fun z hz=>by cases hz),wJ _,rfl,s1⟩ ?_ ?_⟩
  ·rintro i cc σ H2 hc ⟨v3,v4,zs,rfl,f2,hz,zl,ez,s2⟩
   obtain ⟨x,hx,ex⟩:=eV hc
   rw [ex]
   have hi:i < u.length:=(wG.mp hx).1
   have hxn:x.val % 6 < n:=(U.mem x).mp (wR hx)
   obtain ⟨bs,h1,h2,h3⟩:=(dw.same s2).ex
   obtain ⟨b,hb⟩:∃ b,bs[x.val % 6]? = some b:=⟨_,wF (by omega)⟩
   obtain ⟨row,g1,g2,g3⟩:=h3 _ b hb
   have er:rows.getD (x.val % 6) []=row.map (·.2):=by rw [xf,g3];rfl
   obtain ⟨rest,ho⟩:=pP (x:=⟨x.val % 6,by omega⟩) (by show x.val % 6 < 6;omega)
   refine ⟨_,rfl,rfl,_,rfl,rfl,_,rfl,rfl,(by show 1≤5592405;decide),?_⟩
   rw [pO]
   refine ⟨_,_,_,rest,rfl,rfl,ho,r,_,_,_,rfl,rfl,SqT.of h1,cq (v:=.ref b) (by rw [wL,hb];rfl),b,_,rfl,.inr (SqT.of g1),fun lr hlr=>?_⟩
   have s3:aA H2 (upd H2 lr (.lst ((row.map (·.1)).map V.ref))):=aA.new hlr
   have f3:(upd H2 lr (.lst ((row.map (·.1)).map V.ref))) lr=some (.lst ((row.map (·.1)).map V.ref)):=ab
   have nlr:l≠lr:=ag f2 hlr
   generalize upd H2 lr (.lst ((row.map (·.1)).map V.ref))=H3 at s3 f3 ⊢
   refine mO ?_
   refine mN (fun σ2 H4=>∃ row':List (Addr × Int × Int),σ2=[some (tx u),some (.ref r),some (.ref l),some (tx [x]),some (.ref lr)]∧H4 lr=some (.lst ((row'.map (·.1)).map V.ref))∧StA H4 row'∧row'.map (·.2)=iD rows x∧aA H2 H4) (fun D' nx=>?_) ?_
   ·refine ⟨_,rfl,_,_,rfl,rfl,_,rfl,?_⟩
    rw [pI]
    by_cases c:x.val < 6
    ·rw [w6 (show ¬ ¬ x.val < 6 from fun q=>q c)]
     refine uz (nx _ _ ⟨row,rfl,f3,g2.same s3,?_,s3⟩)
     unfold iD
     rw [if_pos c,er]
    ·rw [xC c]
     refine vL ⟨_,rfl,.inl ⟨rfl,_,SqL.of f3⟩,lr,_,rfl,rfl,f3,nx _ _ ⟨row.reverse,rfl,by rw [ab,y9,y9],fun z hz'=>?_,?_,fun q o e=>?_⟩⟩
     ·have:=s3 _ _ (g2 z (zI.mp hz'))
      rw [av (b_ this f3 (by intro z;cases z))]
      exact this
     ·unfold iD
      rw [if_neg c,er,y9]
     ·rw [av (ag e hlr)]
      exact s3 _ _ e
   rintro σ2 H4 ⟨row',rfl,f4,st,er',s4⟩
   have rl:row'.length≤60:=by
    have:=rlen x
    rw [← er',fu] at this
    exact this
   have fl4:=s4 _ _ f2
   refine ⟨_,rfl,.inl ⟨rfl,_,SqL.of fl4⟩,_,rfl,lr,rfl,⟨_,SqL.of f4⟩,?_⟩
   refine cA (xs:=(row'.map (·.1)).map V.ref) (own:=["_law_strand"]) (cap:=[3]) (fun j ys σ H'=>∃ (v:Option V) (ps:List Pt),σ = [v,some (tx [x])]∧ys=(ps.map (·.1)).map V.ref∧ps.length=j∧PtA H' ps∧ps.map ptZ=(row'.take j).map (fun z=>(x,z.2))∧aA H4 H') ⟨none,[],rfl,rfl,rfl,(fun z hz=>by cases hz),rfl,aA.refl _⟩ (fun j ys σ H' hj ⟨_,ps,_,e,e2,_⟩=>by rw [e,fu,fu];omega) (by rw [fu,fu];omega) (fun j ys σ H' ⟨_,_,_,_,_,_,_,q⟩=>SqL.of (q _ _ f4)) ?_ ?_
   ·rintro j ys σ H5 y N hy ⟨v,ps,rfl,rfl,pl,hp,ep,s5⟩ hN
    rw [wL,wL] at hy
    cases hzj:row'[j]? with
    | none=>rw [hzj] at hy;cases hy
    | some z =>
     rw [hzj] at hy
     obtain rfl:=wO hy
     have hm:=wR hzj
     refine ⟨_,rfl,_,rfl,(aL (n:=2) (by decide)),fun t ht=>hN _ _ _ ⟨_,ps++[(t,x,z.1,z.2)],rfl,by rw [wM,wM];rfl,by rw [wQ,pl];rfl,?_,?_,s5.then ht⟩⟩
     ·refine (hp.to fun c xs e=>aA.new ht _ _ e).app fun y hy=>?_
      rw [wH.mp hy]
      exact ⟨ab,aA.new ht _ _ (s5 _ _ (st z hm))⟩
     ·rw [wM,ep,yl,hzj,zg,wM]
      rfl
   ·rintro ys σ H5 q ⟨v,ps,rfl,rfl,pl,hp,ep,s5⟩ hq
    rw [fu,fu] at pl ep
    rw [xQ] at ep
    have s6:aA H5 (upd H5 q (.lst ((ps.map (·.1)).map V.ref))):=aA.new hq
    have g6:(upd H5 q (.lst ((ps.map (·.1)).map V.ref))) q=some (.lst ((ps.map (·.1)).map V.ref)):=ab
    generalize upd H5 q (.lst ((ps.map (·.1)).map V.ref))=H6 at s6 g6 ⊢
    have s26:=s4.trans (s5.trans s6)
    have f6:=s26 _ _ f2
    refine ⟨l,q,_,_,rfl,rfl,f6,g6,by rw [fu,fu,fu,fu];omega,?_⟩
    have keepT:∀ (zz:List V) b xs,H6 b=some (.tup xs)→(upd H6 l (.lst zz)) b=some (.tup xs):=fun zz b xs e=>by
     rw [av (b_ e f6 (by intro z;cases z))];exact e
    refine ⟨_,_,zs++ps,rfl,by rw [ab,wM,wM],?_,by rw [wQ];omega,?_,fun b o e=>?_⟩
    ·exact ((hz.to fun c xs e=>s26 _ _ e).app (hp.to fun c xs e=>s6 _ _ e)).to (keepT _)
    ·rw [wM,ez,ep,b9 hx]
     unfold bf
     rw [yI,yV,zJ,yf,← er',AK]
     rfl
    ·rw [av (ag e hl)];exact s26 _ _ (s2 _ _ e)
  ·rintro σ H2 ⟨v3,v4,zs,rfl,f2,hz,zl,ez,s2⟩
   rw [bV,xQ] at ez
   exact ⟨_,rfl,k l zs _ hl s2 f2 hz ez⟩
abbrev mP:Stmt:=top 11
theorem ub:aJ ["one","other","low","high"] ["one","other"] (ak mP):=⟨rfl,rfl,rfl,by decide +kernel,rfl,by decide +kernel,by decide +kernel⟩
theorem vw (D:Df K mg "are_met_by_turns" mP)(T:Bt K w mg aB):Fnc P w K mg base "are_met_by_turns" ["one","other"] 1 qU:=by
 have sc:=ub
 refine D.ok sc (fun _ _ _ _ _ _ us hl=>by obtain ⟨_,_,rfl⟩:=pN hl;rfl) (fun vs H Q E h=>?_) (fun f cdv A outer s H vs Q E hr h=>?_)
 ·obtain ⟨p,q,a,b,c,d,rfl,_⟩:=h
  rfl
 ·obtain ⟨p,q,a,b,c,d,rfl,hp,hq,k⟩:=h
  have l16:=aV
  refine ⟨_,(@ah _ _ _ _ _ (@aF _ _ (2) _ _ _ _ sc.nd rfl (Or.inl rfl) (@az _ _ _ _ _ _ _ _ _ (@iV _ rfl) (by rfl) T.min sM (@aa _ _ _ _ _ (pv 0) ae (by rfl)) (by decide) (by decide) (by rfl) (by rfl)) (by rfl) (by first | exact .inl rfl | exact .inr rfl | assumption)) (@ah _ _ _ _ _ (@aF _ _ (3) _ _ _ _ sc.nd rfl (Or.inl rfl) (@az _ _ _ _ _ _ _ _ _ (@iW _ rfl) (by rfl) T.max sL (@aa _ _ _ _ _ (pv 0) ae (by rfl)) (by decide) (by decide) (by rfl) (by rfl)) (by rfl) (by first | exact .inl rfl | exact .inr rfl | assumption)) (@au _ _ _ (@aN _ _ _ _ (@iP _ _ _ _ _ _ _ _ nu (@jg _ _ _ _ _ _ _ _ _ _ _ _ gU gU (pv 2) (@aK _ _ _ _ _ _ _ bJ (pv 1) ao (fun _ _=>rfl)) (pv 3) (by with_unfolding_all rfl)) (@jg _ _ _ _ _ _ _ _ _ _ _ _ gU gU (pv 2) (@aK _ _ _ _ _ _ _ bJ (pv 1) ao (fun _ _=>rfl)) (pv 3) (by with_unfolding_all rfl)) (bh _)))))),?_⟩
  refine ⟨_,rfl,p,_,_,rfl,SqT.of hp,?_⟩
  refine ⟨_,rfl,p,_,_,rfl,SqT.of hp,?_⟩
  have e1:(if (b:Int) < (a:Int) then (b:Int) else (a:Int))=((min a b:Nat):Int):=by split <;> omega
  have e2:(if (b:Int) > (a:Int) then (b:Int) else (a:Int))=((max a b:Nat):Int):=by split <;> omega
  rw [e1,e2]
  have fin:∀ v1 v2:Bool,v1=decide (min a b < c∧c < max a b)→v2=decide (min a b < d∧d < max a b)→Q (.bl (!decide (V.bl v1=V.bl v2))) H:=fun v1 v2 e1 e2=>by
   subst e1 e2
   have e:∀ x y:Bool,(!decide (V.bl x=V.bl y))=(x != y):=by intro x y;cases x <;> cases y <;> rfl
   rw [e]
   exact k
  refine ⟨_,rfl,_,rfl,q,_,_,_,rfl,rfl,SqT.of hq,rfl,_,_,rfl,rfl,_,rfl,?_⟩
  by_cases h1:min a b < c
  ·refine nY (xC (by omega)) ⟨_,rfl,_,_,rfl,rfl,?_⟩
   refine ⟨_,rfl,_,rfl,q,_,_,_,rfl,rfl,SqT.of hq,rfl,_,_,rfl,rfl,_,rfl,?_⟩
   by_cases h2:min a b < d
   ·exact nY (xC (by omega)) ⟨_,rfl,_,_,rfl,rfl,rfl,fin _ _ (by rw [x8,xB,xB];omega) (by rw [x8,xB,xB];omega)⟩
   ·exact nZ (w6 (by omega)) ⟨rfl,fin _ _ (by rw [x8,xB,xB];omega) (w6 (by omega)).symm⟩
  ·refine nZ (w6 (by omega)) ?_
   refine ⟨_,rfl,_,rfl,q,_,_,_,rfl,rfl,SqT.of hq,rfl,_,_,rfl,rfl,_,rfl,?_⟩
   by_cases h2:min a b < d
   ·exact nY (xC (by omega)) ⟨_,rfl,_,_,rfl,rfl,rfl,fin _ _ (w6 (by omega)).symm (by rw [x8,xB,xB];omega)⟩
   ·exact nZ (w6 (by omega)) ⟨rfl,fin _ _ (w6 (by omega)).symm (w6 (by omega)).symm⟩
theorem j8 {zs:List Int}{a b:Nat}(p:zs.Perm [(a:Int),(b:Int)])(so:zs.Pairwise (· ≤ ·)):zs=[((min a b:Nat):Int),((max a b:Nat):Int)]:=by
 have hl:=p.length_eq
 match zs,hl with
 | [x,y],_ =>
  have hxy:x≤y:=by
   have:=yq.mp so
   exact this.1 y w4
  have hx:x=a ∨ x=b:=by
   have:=p.mem_iff.mp (w4 (a:=x) (l:=[y]))
   simpa using this
  have hy:y=a ∨ y=b:=by
   have:=p.mem_iff.mp (w_ x (w4 (a:=y) (l:=[])))
   simpa using this
  have ha:(a:Int)=x ∨ (a:Int)=y:=by
   have:=p.mem_iff.mpr (w4 (a:=(a:Int)) (l:=[(b:Int)]))
   simpa using this
  have hb:(b:Int)=x ∨ (b:Int)=y:=by
   have:=p.mem_iff.mpr (w_ (a:Int) (w4 (a:=(b:Int)) (l:=[])))
   simpa using this
  have:((min a b:Nat):Int)=x∧((max a b:Nat):Int)=y:=by omega
  rw [this.1,this.2]
inductive q_ (vs:List V)(H:Hp)(Q:VK)(u3_:XK):Prop
 | mk:∀ (p q:Addr) (x y:V) (a b c d:Nat),(vs=[.ref p,.ref q])→(H p=some (.tup [x,.int (a:Int),.int (b:Int)]))→(H q=some (.tup [y,.int (c:Int),.int (d:Int)]))→(∀ H',aA H H'→Q (.bl (rG a b c d)) H')→q_ vs H Q u3_
def btw (lo hi:Nat)(z:Nat):Bool:=decide (lo < z∧z < hi)
theorem rf (lo hi c d:Nat):decide (V.int ((([c,d].filter (btw lo hi)).length:Nat):Int)=V.int 1)=(btw lo hi c != btw lo hi d):=by
 cases h1:btw lo hi c <;> cases h2:btw lo hi d
 ·rw [xV (by rw [h1];decide),xV (by rw [h2];decide)];rfl
 ·rw [xV (by rw [h1];decide),x6 h2];rfl
 ·rw [x6 h1,xV (by rw [h2];decide)];rfl
 ·rw [x6 h1,x6 h2];rfl
abbrev mQ:Stmt:=top 31
theorem uc:aJ ["_law_one","_law_other","_law_low","_law_high"] ["_law_one","_law_other"] (ak mQ):=⟨rfl,rfl,rfl,by decide +kernel,rfl,by decide +kernel,by decide +kernel⟩
theorem vx (D:Df K mg "_law_crosses" mQ)(T:Bt K w mg aB):Fnc P w K mg base "_law_crosses" ["_law_one","_law_other"] 1 q_:=by
 have sc:=uc
 refine D.ok sc (fun _ _ _ _ _ _ us hl=>by obtain ⟨_,_,rfl⟩:=pN hl;rfl) (fun vs H Q E h=>?_) (fun f cdv A outer s H vs Q E hr h=>?_)
 ·obtain ⟨p,q,x,y,a,b,c,d,rfl,_⟩:=h
  rfl
 ·obtain ⟨p,q,x,y,a,b,c,d,rfl,hp,hq,k⟩:=h
  have l16:=aV
  refine ⟨_,(@ah _ _ _ _ _ (@gQ _ _ _ _ _ _ (@az _ _ _ _ _ _ _ _ _ (@bL _ _ rfl) (by rfl) T.sorted gr (@aa _ _ _ _ _ (@bb _ _ _ _ _ _ _ _ _ _ lL (pv 0) (@br _ _ _ ao) bF) ae (by rfl)) (by decide) (by decide) (by rfl) (by rfl)) (@sV _ _ _ _ _ _ rfl (@bp _ _ _ _ _ (@aE _ _ (2) _ sc.nd rfl (Or.inr rfl) (by first | exact .inl rfl | exact .inr rfl | assumption)) (@bp _ _ _ _ _ (@aE _ _ (3) _ sc.nd rfl (Or.inr rfl) (by first | exact .inl rfl | exact .inr rfl | assumption)) dE (by rfl)) (by rfl)) (by rfl) (by rfl)) (by rfl) (by rfl) (by rfl)) (@au _ _ _ (@aN _ _ _ _ (@iP _ _ _ _ _ _ _ _ fV (@az _ _ _ _ _ _ _ _ _ aI (by rfl) T.len xt (@aa _ _ _ _ _ (@bz _ _ _ _ _ _ _ (["_law_place","_law_low","_law_high"]) (["_law_place"]) ([2,3]) _ _ _ _ (@bS _ _ _ _ _ _ rfl (by kernel_rfl)) rfl (@je _ _ _ _ (@bb _ _ _ _ _ _ _ _ _ _ lL (pv 1) (@br _ _ _ ao) bF)) (fun _ _ _ _=>@aE _ _ (0) _ (show (["_law_place","_law_low","_law_high"]:List Str).Nodup from by decide +kernel) rfl (Or.inl rfl) (by first | exact .inl rfl | exact .inr rfl | assumption)) (fun _ _ _ _=>(@cY _ _ _ (by exact (@ny _ _ _ _ _ _ _ _ _ _ _ _ gU gU (pv 1) (pv 0) (pv 2) (by with_unfolding_all rfl))))) (fun _ _ _ _=>by (exact (pv 0))) (by intro _ ;rfl)) ae (by rfl)) (by decide) (by decide) (by rfl) (by rfl)) ao (bh _))))),?_⟩
  refine ⟨_,rfl,_,rfl,p,_,rfl,hp,fun r1 H1 s1 g1=>?_⟩
  have g1:H1 r1=some (.tup ([(a:Int),(b:Int)].map V.int)):=g1
  refine ⟨r1,_,rfl,.inr (SqT.of g1),fun p2 zs hp2 pm so=>?_⟩
  obtain rfl:=j8 pm so
  have s2:=s1.then (o:=.lst ([((min a b:Nat):Int),((max a b:Nat):Int)].map V.int)) hp2
  have g2:(upd H1 p2 (.lst ([((min a b:Nat):Int),((max a b:Nat):Int)].map V.int))) p2=some (.lst [.int ((min a b:Nat):Int),.int ((max a b:Nat):Int)]):=ab
  generalize upd H1 p2 (.lst ([((min a b:Nat):Int),((max a b:Nat):Int)].map V.int))=H2 at s2 g2 ⊢
  refine ⟨p2,_,rfl,SqL.of g2,rfl,_,_,rfl,_,_,rfl,rfl,?_⟩
  generalize hlo:min a b=lo
  generalize hhi:max a b=hi
  refine ⟨_,rfl,_,rfl,q,_,rfl,s2 _ _ hq,fun r2 H3 s3 g3=>⟨r2,rfl,⟨_,SqT.of g3⟩,?_⟩⟩
  have g3:H3 r2=some (.tup ([c,d].map fun z:Nat=>V.int (z:Int))):=g3
  refine gu (xs:=[c,d].map fun z:Nat=>V.int (z:Int)) (own:=["_law_place"]) (cap:=[2,3]) (fun j ys σ H'=>∃ v:Option V,σ = [v,some (.int (lo:Int)),some (.int (hi:Int))]∧ys=(([c,d].take j).filter (btw lo hi)).map (fun z:Nat=>V.int (z:Int))∧H'=H3) ⟨none,rfl,rfl,rfl⟩ (fun j ys σ H' hj ⟨_,_,e,_⟩=>?_) (aL (n:=2) (by decide)) (fun j ys σ H' ⟨_,_,_,e⟩=>SqT.of (by rw [e];exact g3)) ?_ ?_
  ·rw [e,fu]
   exact xq (zt _ _) (by rw [w9];omega)
  ·rintro j ys σ H4 z N hz ⟨v,rfl,rfl,rfl⟩ hN
   rw [wL] at hz
   cases hzj:[c,d][j]? with
   | none=>rw [hzj] at hz;cases hz
   | some m =>
    rw [hzj] at hz
    obtain rfl:=wO hz
    have et:(([c,d].take (j+1)).filter (btw lo hi))=(([c,d].take j).filter (btw lo hi))++(if btw lo hi m=true then [m] else []):=by
     rw [yl,hzj,zg,yQ]
     congr 1
     by_cases q:btw lo hi m=true
     ·rw [if_pos q,x6 q];rfl
     ·rw [if_neg q,xV q];rfl
    have yes:btw lo hi m=true→N ((([c,d].take j).filter (btw lo hi)).map (fun z:Nat=>V.int (z:Int))++[V.int (m:Int)]) [some (V.int (m:Int)),some (.int (lo:Int)),some (.int (hi:Int))] H4:=fun q=>hN _ _ _ ⟨_,rfl,by rw [et,if_pos q,wM];rfl,rfl⟩
    have no:¬ btw lo hi m=true→N ((([c,d].take j).filter (btw lo hi)).map (fun z:Nat=>V.int (z:Int))) [some (V.int (m:Int)),some (.int (lo:Int)),some (.int (hi:Int))] H4:=fun q=>hN _ _ _ ⟨_,rfl,by rw [et,if_neg q,yf],rfl⟩
    refine ⟨_,rfl,_,rfl,_,_,rfl,rfl,_,rfl,?_⟩
    by_cases h1:lo < m
    ·refine nY (xC (by omega)) ⟨_,rfl,_,_,rfl,rfl,_,rfl,?_⟩
     by_cases h2:m < hi
     ·exact nY (xC (by omega)) ⟨_,rfl,yes (xC ⟨h1,h2⟩)⟩
     ·exact nZ (w6 (by omega)) (no (by unfold btw;rw [xB];omega))
    ·exact nZ (w6 (by omega)) ⟨_,rfl,m_ (no (by unfold btw;rw [xB];omega))⟩
  ·rintro ys σ H4 l ⟨v,rfl,rfl,rfl⟩ hl
   refine ⟨l,_,rfl,.inl (SqL.of ab),rfl,?_⟩
   rw [fu]
   have e:=rf lo hi c d
   have k:=k _ ((s2.trans s3).then (o:=.lst (([c,d].filter (btw lo hi)).map fun z:Nat=>V.int (z:Int))) hl)
   have em:rG a b c d=(btw lo hi c != btw lo hi d):=by unfold rG btw;rw [hlo,hhi]
   rw [em,← e] at k
   exact k
abbrev Cx5:=Addr × (Addr × Int × Int) × (Addr × Int × Int)
def CrA (H:Hp)(zs:List Cx5):Prop:=∀ z∈zs,H z.1=some (.tup [.ref z.2.1.1,.ref z.2.2.1])∧H z.2.1.1=some (.tup [.int z.2.1.2.1,.int z.2.1.2.2])∧H z.2.2.1=some (.tup [.int z.2.2.2.1,.int z.2.2.2.2])
theorem CrA.same {H H':Hp}{zs:List Cx5}(h:CrA H zs)(s:aA H H'):CrA H' zs:=fun z hz=>⟨s _ _ (h z hz).1,s _ _ (h z hz).2.1,s _ _ (h z hz).2.2⟩
def crZ (z:Cx5):(Int × Int) × (Int × Int):=(z.2.1.2,z.2.2.2)
def iE (i j:Int)(c:(Int × Int) × (Int × Int)):Bool:=[c.1.1,c.2.1].isPerm [i,j]
inductive gF (vs:List V)(H:Hp)(Q:VK)(u3_:XK):Prop
 | mk:∀ (l:Addr) (zs:List Cx5) (i j:Int),(vs=[.ref l,.int i,.int j])→(H l=some (.lst ((zs.map (·.1)).map V.ref)))→(CrA H zs)→(zs.length≤4000)→(∀ H',aA H H'→Q (.int (((zs.map crZ).countP (iE i j):Nat):Int)) H')→gF vs H Q u3_
theorem fi {H:Hp}:∀ r:List Int,Dts H (r.map V.int) (r.map .int)
 | []=>.nil
 | i::r=>.cons (.int _) (fi r)
theorem rg {H:Hp}{p q:Addr}{Q:VK}{r t:List Int}(h1:H p=some (.lst (r.map V.int)))(h2:H q=some (.lst (t.map V.int)))(h:Q (.bl (decide (r=t))) H):sX (.ref p) (.ref q) H Q:=by
 have lay:∀ r:List Int,(PyData.list (r.map .int)).canLay0=true:=fun r=>by unfold PyData.canLay0;exact eE r
 refine ⟨_,_,.lst h1 (fi r),.lst h2 (fi t),lay _,lay _,?_,?_⟩
 ·show PyData.depthAll (r.map .int)+1≤10
  rw [dk]
  decide
 ·show Q (.bl (PyData.eqvAll (r.map .int) (t.map .int))) H
  rw [eD]
  exact h
theorem mR {a b x y:List Int}(p:a.Perm x)(q:b.Perm y)(ha:a.Pairwise (· ≤ ·))(hb:b.Pairwise (· ≤ ·)):decide (a=b)=x.isPerm y:=by
 rw [x8,xR,List.isPerm_iff]
 constructor
 ·rintro rfl
  exact p.symm.trans q
 ·intro r
  exact List.Perm.eq_of_pairwise (fun x y _ _ h1 h2=>Int.le_antisymm h1 h2) ha hb (p.trans (r.trans q.symm))
abbrev fj:Stmt:=top 33
theorem oT:aJ ["_law_found","_law_i","_law_j"] ["_law_found","_law_i","_law_j"] (ak fj):=⟨rfl,rfl,rfl,by decide +kernel,rfl,by decide +kernel,by decide +kernel⟩
theorem rh (D:Df K mg "_law_count" fj)(T:Bt K w mg aB):Fnc P w K mg base "_law_count" ["_law_found","_law_i","_law_j"] 1 gF:=by
 have sc:=oT
 refine D.ok sc (fun _ _ _ _ _ _ us hl=>by obtain ⟨_,_,_,rfl⟩:=nc hl;rfl) (fun vs H Q E h=>?_) (fun f cdv A outer s H vs Q E hr h=>?_)
 ·obtain ⟨l,zs,i,j,rfl,_⟩:=h
  rfl
 ·obtain ⟨l,zs,i,j,rfl,hl,hz,zl,k⟩:=h
  have l16:=aV
  refine ⟨_,(@au _ _ _ (@aN _ _ _ _ (@az _ _ _ _ _ _ _ _ _ aI (by rfl) T.len xt (@aa _ _ _ _ _ (@bz _ _ _ _ _ _ _ (["_law_one","_law_other","_law_i","_law_j"]) (["_law_one","_law_other"]) ([1,2]) _ _ _ _ (@bS _ _ _ _ _ _ rfl (by kernel_rfl)) rfl (@cb _ _ _ _ (pv 0)) (fun _ _ _ _=>@qr _ (K) _ _ _ (2) _ rfl rfl (@bp _ _ _ _ _ (@aE _ _ (0) _ (show (["_law_one","_law_other","_law_i","_law_j"]:List Str).Nodup from by decide +kernel) rfl (Or.inl rfl) (by first | exact .inl rfl | exact .inr rfl | assumption)) (@bp _ _ _ _ _ (@aE _ _ (1) _ (show (["_law_one","_law_other","_law_i","_law_j"]:List Str).Nodup from by decide +kernel) rfl (Or.inl rfl) (by first | exact .inl rfl | exact .inr rfl | assumption)) dE (by rfl)) (by rfl)) (by rfl) (by rfl)) (fun _ _ _ _=>(@cY _ _ _ (by exact (@aR _ _ _ _ _ _ _ _ (@ij _ (by exact hr.units)) (@az _ _ _ _ _ _ _ _ _ (@bL _ _ rfl) (by rfl) T.sorted gr (@aa _ _ _ _ _ (@bM _ _ _ _ (@aa _ _ _ _ _ (@aK _ _ _ _ _ _ _ (@cC _ (K) rfl) (pv 0) ao (fun _ _=>rfl)) (@aa _ _ _ _ _ (@aK _ _ _ _ _ _ _ (@cC _ (K) rfl) (pv 1) ao (fun _ _=>rfl)) ae (by rfl)) (by rfl))) ae (by rfl)) (by decide) (by decide) (by rfl) (by rfl)) (@az _ _ _ _ _ _ _ _ _ (@bL _ _ rfl) (by rfl) T.sorted gr (@aa _ _ _ _ _ (@bM _ _ _ _ (@aa _ _ _ _ _ (pv 2) (@aa _ _ _ _ _ (pv 3) ae (by rfl)) (by rfl))) ae (by rfl)) (by decide) (by decide) (by rfl) (by rfl)) (bh _))))) (fun _ _ _ _=>by (exact (pv 0))) (by intro _ ;rfl)) ae (by rfl)) (by decide) (by decide) (by rfl) (by rfl)))),?_⟩
  refine ⟨_,rfl,l,rfl,⟨_,SqL.of hl⟩,?_⟩
  refine cA (xs:=(zs.map (·.1)).map V.ref) (own:=["_law_one","_law_other"]) (cap:=[1,2]) (fun m ys σ H'=>∃ v w:Option V,σ = [v,w,some (.int i),some (.int j)]∧ys.length=((zs.take m).map crZ).countP (iE i j)∧aA H H') ⟨none,none,rfl,rfl,aA.refl _⟩ (fun m ys σ H' hm ⟨_,_,_,e,_⟩=>?_) (by rw [fu,fu];omega) (fun m ys σ H' ⟨_,_,_,_,q⟩=>SqL.of (q _ _ hl)) ?_ ?_
  ·rw [e]
   refine xq (yC) ?_
   rw [fu,w9]
   omega
  ·rintro m ys σ H1 y N hy ⟨v,w',rfl,ey,s1⟩ hN
   rw [wL,wL] at hy
   cases hzm:zs[m]? with
   | none=>rw [hzm] at hy;cases hy
   | some z =>
    rw [hzm] at hy
    obtain rfl:=wO hy
    obtain ⟨z1,z2,z3⟩:=(hz.same s1) z (wR hzm)
    have et:((zs.take (m+1)).map crZ).countP (iE i j)=((zs.take m).map crZ).countP (iE i j)+(if iE i j (crZ z)=true then 1 else 0):=by
     rw [yl,hzm,zg,wM,List.countP_append]
     congr 1
     rw [xr,zh,List.countP_cons,List.countP_nil,zq]
    refine ⟨z.1,_,rfl,SqT.of z1,rfl,_,_,rfl,_,_,rfl,rfl,?_⟩
    refine ⟨_,rfl,z.2.1.1,_,_,_,rfl,rfl,SqT.of z2,rfl,_,rfl,z.2.2.1,_,_,_,rfl,rfl,SqT.of z3,rfl,(aL (n:=2) (by decide)),fun t1 ht1=>?_⟩
    have s2:=s1.then (o:=.lst ([z.2.1.2.1,z.2.2.2.1].map V.int)) ht1
    have g2:(upd H1 t1 (.lst ([z.2.1.2.1,z.2.2.2.1].map V.int))) t1=some (.lst ([z.2.1.2.1,z.2.2.2.1].map V.int)):=ab
    change bc K [.ref t1] (upd H1 t1 (.lst ([z.2.1.2.1,z.2.2.2.1].map V.int))) _
    generalize upd H1 t1 (.lst ([z.2.1.2.1,z.2.2.2.1].map V.int))=H2 at s2 g2 ⊢
    refine ⟨t1,_,rfl,.inl (SqL.of g2),fun p a hp pa sa=>?_⟩
    have s3:=s2.then (o:=.lst (a.map V.int)) hp
    have g3:(upd H2 p (.lst (a.map V.int))) p=some (.lst (a.map V.int)):=ab
    generalize upd H2 p (.lst (a.map V.int))=H3 at s3 g3 ⊢
    refine ⟨_,rfl,_,rfl,(aL (n:=2) (by decide)),fun t2 ht2=>?_⟩
    have s4:aA H3 (upd H3 t2 (.lst ([i,j].map V.int))):=aA.new ht2
    have g4:(upd H3 t2 (.lst ([i,j].map V.int))) t2=some (.lst ([i,j].map V.int)):=ab
    change bc K [.ref t2] (upd H3 t2 (.lst ([i,j].map V.int))) _
    generalize upd H3 t2 (.lst ([i,j].map V.int))=H4 at s4 g4 ⊢
    refine ⟨t2,_,rfl,.inl (SqL.of g4),fun q b hq pb sb=>?_⟩
    have s5:aA H4 (upd H4 q (.lst (b.map V.int))):=aA.new hq
    have g5:(upd H4 q (.lst (b.map V.int))) q=some (.lst (b.map V.int)):=ab
    generalize upd H4 q (.lst (b.map V.int))=H5 at s5 g5 ⊢
    have s6:=s3.trans (s4.trans s5)
    refine rg ((s4.trans s5) _ _ g3) g5 ⟨_,rfl,?_⟩
    rw [mR pa pb sa sb]
    refine iI (fun c=>?_) (fun c=>?_)
    ·have c:iE i j (crZ z)=true:=c
     exact ⟨_,rfl,hN _ _ _ ⟨_,_,rfl,by rw [wQ,ey,et,if_pos c];rfl,s6⟩⟩
    ·have c:¬ iE i j (crZ z)=true:=c
     exact hN _ _ _ ⟨_,_,rfl,by rw [ey,et,if_neg c];rfl,s6⟩
  ·rintro ys σ H1 q ⟨v,w',rfl,ey,s1⟩ hq
   refine ⟨q,_,rfl,.inl (SqL.of ab),?_⟩
   rw [ey,fu,fu,xQ]
   exact k _ (s1.then hq)
end
def ltZ (W:List (List L))(p:Int × Int):L:=(W.getD p.1.toNat []).getD p.2.toNat 0
def dR (z:L × (Int × Int)):Str × List Int:=(toS [z.1],[z.2.1,z.2.2])
theorem gG {y z:L × (Int × Int)}(h:dR y=dR z):y=z:=by
 obtain ⟨a,b,c⟩:=y
 obtain ⟨a',b',c'⟩:=z
 have h1:toS [a]=toS [a']:=xF Prod.fst h
 have h2:[b,c]=[b',c']:=xF Prod.snd h
 have h1:=kY h1
 cases h1
 cases h2
 rfl
theorem fk (z:L × (Int × Int)):PyData.strOk (dR z).1=true:=by
 have q:∀ x:L,PyData.strOk (toS [x])=true:=by decide +kernel
 exact q z.1
def cdZ (pts:List (L × (Int × Int)))(W:List (List L))(p:Int × Int):Nat × Nat:=(pts.idxOf (inv (ltZ W p),p),pts.idxOf (ltZ W (nxZ W p),nxZ W p))
def crB (pts:List (L × (Int × Int)))(W:List (List L))(p q:Int × Int):Bool:=rG (cdZ pts W p).1 (cdZ pts W p).2 (cdZ pts W q).1 (cdZ pts W q).2
theorem rj {n:Nat}{W:List (List L)}{H:Hp}{r:Addr}{rows:List (List (Int × Int))}(dw:Dw n W H r rows)(x:L):(iD rows x).Nodup:=by
 have g:(rows.getD (x.val % 6) []).Nodup:=by
  rw [xf]
  cases e:rows[x.val % 6]? with
  | none=>exact z8
  | some row=>exact (dw.pm _ _ e).nodup_iff.mpr (mf (oz W _))
 unfold iD
 split
 ·exact g
 ·exact (List.reverse_perm _).nodup_iff.mpr g
theorem oU {n:Nat}{W:List (List L)}{H:Hp}{r:Addr}{rows:List (List (Int × Int))}(dw:Dw n W H r rows){x:L}(hx:x.val % 6 < n){p:Int × Int}(ok:okS W p=true)(h:ltS W p=x.val % 6):p∈iD rows x:=by
 have hl:x.val % 6 < rows.length:=by rw [dw.len];exact hx
 have e:rows[x.val % 6]? = some rows[x.val % 6]:=wF hl
 have m:p∈rows[x.val % 6]:=by
  rw [(dw.pm _ _ e).mem_iff]
  unfold tD
  rw [zP]
  exact ⟨cR.mpr ok,by simpa using h⟩
 unfold iD
 rw [xf,e,Option.getD_some]
 split
 ·exact m
 ·exact zI.mpr m
theorem ud {n:Nat}{W:List (List L)}{H:Hp}{r:Addr}{rows:List (List (Int × Int))}{u:List L}(U:SK u n)(dw:Dw n W H r rows):(bf rows u).Nodup:=by
 have nd:u.Nodup:=U.pm.nodup_iff.mpr (ib ⟨n,by have:=U.hi;omega⟩).1
 unfold bf List.Nodup
 rw [List.pairwise_flatMap]
 refine ⟨fun x _=>?_,zC ?_ nd⟩
 ·rw [List.pairwise_map]
  exact zC (fun h e=>h (xF Prod.snd e)) (rj dw x)
 ·intro a b h y hy z hz e
  obtain ⟨_,_,rfl⟩:=xH.mp hy
  obtain ⟨_,_,rfl⟩:=xH.mp hz
  exact h (xF Prod.fst e)
theorem mS {n:Nat}{W:List (List L)}{H:Hp}{r:Addr}{rows:List (List (Int × Int))}{u:List L}(U:SK u n)(dw:Dw n W H r rows){x:L}(hx:x.val % 6 < n){p:Int × Int}(ok:okS W p=true)(h:ltS W p=x.val % 6):(x,p)∈bf rows u:=by
 unfold bf
 rw [Ak]
 exact ⟨x,(U.mem x).mpr hx,xH.mpr ⟨p,oU dw hx ok h,rfl⟩⟩
theorem oV {W:List (List L)}{p:Int × Int}(ok:okS W p=true):okS W (nxZ W p)=true:=by
 unfold okS at ok ⊢
 unfold nxZ
 simp only [xK,xR] at ok ⊢
 obtain ⟨⟨h1,h2⟩,h3,h4⟩:=ok
 have hp:0 < ((W.getD p.1.toNat []).length:Int):=by omega
 exact ⟨⟨h1,h2⟩,yy _ (by omega),yi _ hp⟩
theorem ue {n:Nat}{W:List (List L)}{H:Hp}{r:Addr}{rows:List (List (Int × Int))}{u:List L}(U:SK u n)(dw:Dw n W H r rows)(hW:∀ w∈W,InM n w){p:Int × Int}(ok:okS W p=true):(inv (ltZ W p),p)∈bf rows u∧(ltZ W (nxZ W p),nxZ W p)∈bf rows u:=by
 have l1:=mK hW ok
 have l2:=mK hW (oV ok)
 exact ⟨mS U dw (by rw [lJ];exact l1) ok (by rw [lJ];rfl),mS U dw l2 (oV ok) rfl⟩
def esZ:Nat→List Pt→List NE
 | _,[]=>[]
 | k,z::r=>(dR (ptZ z),z.1,(k:Int))::esZ (k+1) r
theorem pQ:∀ (k:Nat) (zs:List Pt),(esZ k zs).length=zs.length
 | _,[]=>rfl
 | k,z::r=>by show (esZ (k+1) r).length+1=_;rw [pQ];rfl
theorem pR:∀ (k:Nat) (zs:List Pt) (z:Pt),esZ k (zs++[z])=esZ k zs++[(dR (ptZ z),z.1,((k+zs.length:Nat):Int))]
 | _,[],_=>rfl
 | k,y::r,z=>by
  show _::esZ (k+1) (r++[z])=_
  rw [pR (k+1) r z]
  show _=_::(esZ (k+1) r++_)
  rw [show k+1+r.length=k+(y::r).length by rw [xN];omega]
theorem mT:∀ (k:Nat) (zs:List Pt),(esZ k zs).map (·.1)=(zs.map ptZ).map dR
 | _,[]=>rfl
 | k,z::r=>by show dR (ptZ z)::(esZ (k+1) r).map (·.1)=_;rw [mT];rfl
theorem mU:∀ (k:Nat) (zs:List Pt) {q:L × (Int × Int)},q∈zs.map ptZ→qM (esZ k zs) (dR q)=some ((k+(zs.map ptZ).idxOf q:Nat):Int)
 | _,[],q,h=>by cases h
 | k,z::r,q,h=>by
  rw [xr] at h ⊢
  unfold qM
  show ((((dR (ptZ z),z.1,(k:Int)):NE)::esZ (k+1) r).find? _).map _=_
  by_cases c:ptZ z=q
  ·rw [Bg (by simpa using xF dR c),c,List.idxOf_cons_self]
   rfl
  ·have hq:q∈r.map ptZ:=by
    rcases xg.mp h with h | h
    ·exact absurd h.symm c
    ·exact h
   have ih:=mU (k+1) r hq
   unfold qM at ih
   rw [Bh (by simpa using fun e=>c (gG e)),ih,List.idxOf_cons,show (ptZ z == q)=false from zK.mpr c]
   show some (((k+1+_:Nat):Int))=some (((k+(_+1):Nat):Int))
   congr 2
   omega
theorem uf {zs:List Pt}{z:Pt}(h:ptZ z∉zs.map ptZ):oA (esZ 0 zs) (dR (ptZ z)) z.1 (zs.length:Int)=esZ 0 (zs++[z]):=by
 unfold oA
 rw [pR,zq,if_neg]
 rw [mT]
 intro q
 obtain ⟨y,hy,e⟩:=xH.mp q
 exact h (gG e ▸ hy)
theorem pS:∀ (k:Nat) (zs:List Pt) {x:NE},x∈esZ k zs→∃ z∈zs,x.1=dR (ptZ z)∧x.2.1=z.1
 | _,[],_,h=>by cases h
 | k,z::r,x,h=>by
  rcases xg.mp h with h | h
  ·exact ⟨z,w4,by rw [h],by rw [h]⟩
  ·obtain ⟨y,hy,e⟩:=pS (k+1) r h
   exact ⟨y,w_ _ hy,e⟩
theorem pT {H:Hp}{z:Pt}(h:H z.1=some (.tup [tx [z.2.1],.ref z.2.2.1])∧H z.2.2.1=some (.tup [.int z.2.2.2.1,.int z.2.2.2.2])):kc H (dR (ptZ z)) z.1:=⟨⟨z.2.2.1,h.1,h.2⟩,fk _⟩
theorem rk {H:Hp}{zs:List Pt}(h:PtA H zs):∀ x∈esZ 0 zs,kc H x.1 x.2.1:=fun x hx=>by
 obtain ⟨z,hz,e1,e2⟩:=pS 0 zs hx
 rw [e1,e2]
 exact pT (h z hz)
def keyT (p:Int × Int):List Key:=[.inl p.1,.inl p.2]
theorem jL {p q:Int × Int}(h:keyT p=keyT q):p=q:=by
 obtain ⟨a,b⟩:=p
 obtain ⟨c,d⟩:=q
 cases h
 rfl
structure CdA (H:Hp) (pts:List (L × (Int × Int))) (W:List (List L)) (ps:List (Int × Int)) (kvs:List (List Key × V)):Prop where
 ks:kvs.map (·.1)=ps.map keyT
 vl:∀ p∈ps,∃ b,eP kvs (keyT p)=some (.ref b)∧H b=some (.tup [.int ((cdZ pts W p).1:Int),.int ((cdZ pts W p).2:Int)])
theorem CdA.to {H H':Hp}{pts:List (L × (Int × Int))}{W:List (List L)}{ps:List (Int × Int)}{kvs:List (List Key × V)}(h:CdA H pts W ps kvs)(k:∀ a xs,H a=some (.tup xs)→H' a=some (.tup xs)):CdA H' pts W ps kvs:=⟨h.ks,fun p hp=>let ⟨b,h1,h2⟩:=h.vl p hp; ⟨b,h1,k _ _ h2⟩⟩
theorem oW {kvs:List (List Key × V)}{ps:List (Int × Int)}(h:kvs.map (·.1)=ps.map keyT){p:Int × Int}(hp:p∉ps):eP kvs (keyT p)=none:=by
 unfold eP
 rw [Option.map_eq_none_iff,List.find?_eq_none]
 intro x hx e
 have e:x.1=keyT p:=by simpa using e
 have:keyT p∈ps.map keyT:=by rw [← h,← e];exact xH.mpr ⟨x,hx,rfl⟩
 obtain ⟨q,hq,e2⟩:=xH.mp this
 exact hp (jL e2 ▸ hq)
theorem CdA.put {H H':Hp}{pts:List (L × (Int × Int))}{W:List (List L)}{ps:List (Int × Int)}{kvs:List (List Key × V)}{p:Int × Int}{b:Addr}(h:CdA H pts W ps kvs)(hp:p∉ps)(k:∀ a xs,H a=some (.tup xs)→H' a=some (.tup xs))(hb:H' b=some (.tup [.int ((cdZ pts W p).1:Int),.int ((cdZ pts W p).2:Int)])):CdA H' pts W (ps++[p]) (gO kvs (keyT p) (.ref b)):=by
 refine ⟨by rw [nJ _ (oW h.ks hp),wM,wM,h.ks];rfl,fun q hq=>?_⟩
 rw [nI]
 by_cases e:q=p
 ·subst e
  rw [if_pos rfl]
  exact ⟨b,rfl,hb⟩
 ·rw [if_neg fun z=>e (jL z)]
  rcases xm.mp hq with hq | hq
  ·obtain ⟨c,h1,h2⟩:=h.vl q hq
   exact ⟨c,h1,k _ _ h2⟩
  ·exact absurd (wH.mp hq) e
def crT (f:Int × Int→Int × Int→Bool)(zs:List (Int × Int))(i:Nat):List ((Int × Int) × (Int × Int)):=(List.range i).flatMap fun k=>((zs.drop (k+1)).filter (f (zs.getD k (0,0)))).map fun q=>(zs.getD k (0,0),q)
theorem jM {f:Int × Int→Int × Int→Bool}{zs:List (Int × Int)}{i:Nat}{p:Int × Int}(h:zs[i]? = some p):crT f zs (i+1)=crT f zs i++((zs.drop (i+1)).filter (f p)).map fun q=>(p,q):=by
 unfold crT
 rw [zp,yI,yV,zJ,yf,xf,h]
 rfl
theorem gH (p q:Int × Int):HT.bI [p.1,p.2] [q.1,q.2]=true ↔ ltp p q:=by
 rw [HT.dH,HT.dH,HT.cU]
 unfold ltp
 by_cases h:p.1=q.1
 ·rw [if_pos h]
  by_cases h2:p.2=q.2
  ·rw [if_pos h2];simp;omega
  ·rw [if_neg h2,xB];omega
 ·rw [if_neg h,xB];omega
theorem jN {p q:Int × Int}(h:ltp p q):¬ ltp q p:=by unfold ltp at *; omega
theorem vy {zs:List (Int × Int)}(h:zs.Pairwise ltp){k:Nat}{p:Int × Int}(hk:zs[k]? = some p)(f:Int × Int→Bool):zs.filter (fun q=>HT.bI [p.1,p.2] [q.1,q.2] && f q)=(zs.drop (k+1)).filter f:=by
 obtain ⟨hl,e⟩:=wG.mp hk
 have ez:zs=zs.take k++p::zs.drop (k+1):=by
  rw [← e,← xI hl,xo]
 have h':=h
 rw [ez,List.pairwise_append] at h'
 obtain ⟨_,h2,h3⟩:=h'
 obtain ⟨h4,_⟩:=yq.mp h2
 conv=>lhs;rw [ez]
 rw [yQ,xV,List.filter_eq_nil_iff.mpr,List.nil_append]
 ·refine List.filter_congr fun q hq=>?_
  rw [(gH p q).mpr (h4 q hq),Bx]
 ·intro q hq
  have:=h3 q hq p w4
  have n:¬ HT.bI [p.1,p.2] [q.1,q.2]=true:=fun e=>jN this ((gH _ _).mp e)
  simp [n]
 ·have n:¬ HT.bI [p.1,p.2] [p.1,p.2]=true:=fun e=>jN ((gH _ _).mp e) ((gH _ _).mp e)
  simp [n]
theorem pU {f:Int × Int→Int × Int→Bool}{zs:List (Int × Int)}(h:zs.Pairwise ltp){i:Nat}(hi:i≤zs.length){c:(Int × Int) × (Int × Int)}(hc:c∈crT f zs i):ltp c.1 c.2∧c.1∈zs∧c.2∈zs:=by
 unfold crT at hc
 obtain ⟨k,hk,hc⟩:=Ak.mp hc
 have hk:k < zs.length:=by have:=zF.mp hk;omega
 obtain ⟨q,hq,rfl⟩:=xH.mp hc
 have hq:=(zP.mp hq).1
 have e:zs.getD k (0,0)=zs[k]:=by rw [xf,wF hk];rfl
 rw [e]
 refine ⟨?_,xM hk,yg hq⟩
 have hd:=h.sublist (List.drop_sublist k zs)
 rw [xI hk] at hd
 exact (yq.mp hd).1 q hq
theorem dS {f:Int × Int→Int × Int→Bool}{zs:List (Int × Int)}:∀ i,(crT f zs i).length≤i*zs.length
 | 0=>xE _
 | i+1=>by
  have ih:=dS (f:=f) (zs:=zs) i
  unfold crT at ih ⊢
  rw [zp,yI,yV,zJ,yf,wQ,fu,By]
  have:=zt (f (zs.getD i (0,0))) (zs.drop (i+1))
  rw [xO] at this
  omega
theorem oX {a b i j:Int}(h:a≤b):[a,b].isPerm [i,j]=decide ((a,b)=(min i j,max i j)):=by
 rw [x8,List.isPerm_iff,xB,Prod.mk.injEq]
 constructor
 ·intro p
  have h1:=p.mem_iff.mp (w4 (a:=a) (l:=[b]))
  have h2:=p.mem_iff.mp (w_ a (w4 (a:=b) (l:=[])))
  have h3:=p.mem_iff.mpr (w4 (a:=i) (l:=[j]))
  have h4:=p.mem_iff.mpr (w_ i (w4 (a:=j) (l:=[])))
  simp only [xg,xS,zH] at h1 h2 h3 h4
  omega
 ·rintro ⟨h1,h2⟩
  by_cases c:i≤j
  ·rw [h1,h2,Int.min_eq_left c,Int.max_eq_right c]
  ·rw [h1,h2,Int.min_eq_right (by omega),Int.max_eq_left (by omega)]
   exact List.Perm.swap _ _ _
def stD (p:Int × Int):PyData:=.tuple ([p.1,p.2].map .int)
def crD (c:(Int × Int) × (Int × Int)):PyData:=.tuple [stD c.1,stD c.2]
theorem oY {H:Hp}{a:Addr}{i j:Int}(h:H a=some (.tup [.int i,.int j])):Dt H (.ref a) (stD (i,j)):=.tup h (.cons (.int _) (.cons (.int _) .nil))
theorem rm {H:Hp}{zs:List Pt}(h:PtA H zs):Dts H ((zs.map (·.1)).map V.ref) ((zs.map ptZ).map fun z=>cJ (dR z)):=by
 induction zs with
 | nil=>exact .nil
 | cons z r ih =>
  have h1:=h z w4
  exact .cons (.tup h1.1 (.cons (.str _) (.cons (oY h1.2) .nil))) (ih fun y hy=>h y (w_ _ hy))
theorem ug {H:Hp}{zs:List Cx5}(h:CrA H zs):Dts H ((zs.map (·.1)).map V.ref) ((zs.map crZ).map crD):=by
 induction zs with
 | nil=>exact .nil
 | cons z r ih =>
  have h1:=h z w4
  exact .cons (.tup h1.1 (.cons (oY h1.2.1) (.cons (oY h1.2.2) .nil))) (ih fun y hy=>h y (w_ _ hy))
theorem jO {α:Type}{l:List α}(nd:l.Nodup){j:Nat}{p:α}(h:l[j]? = some p):p∉l.take j:=by
 intro m
 obtain ⟨hl,e⟩:=wG.mp h
 have nd':=nd
 rw [← xo j l,List.nodup_append] at nd'
 exact nd'.2.2 p m p (by rw [xI hl,e];exact w4) rfl
theorem fm (rows:List (List (Int × Int)))(h:∀ x,(iD rows x).length≤60):∀ u:List L,(bf rows u).length≤60*u.length
 | []=>xE _
 | x::r=>by
  have ih:=fm rows h r
  unfold bf at ih ⊢
  rw [yV,wQ,fu,xN]
  have:=h x
  omega
theorem cE {α:Type}{l:List α}{i:Nat}{x:α}(h:l[i]? = some x):l.take (i+1)=l.take i++[x]:=by
 rw [yl,h]
 rfl
section
variable {P:Program} {w:World} {K:PySem.W.Frag} {mg:Str→Option Value} {base:Heap} {aB:Addr}
inductive gI (vs:List V)(H:Hp)(Q:VK)(u3_:XK):Prop
 | mk:∀ (u:List L) (a r:Addr) (n:Nat) (W:List (List L)) (rows:List (List (Int × Int))),(vs=[tx u,.ref a,.ref r])→(SK u n)→(Wy4 n W H a)→(Dw n W H r rows)→(∀ (d:Addr) (kvs:List (List Key × V)) (H':Hp),H d=none→aA H H'→H' d=some (.dT kvs)→CdA H' (bf rows u) W (bo W) kvs→Q (.ref d) H')→gI vs H Q u3_
abbrev dz:Stmt:=top 15
theorem mV:aJ ["surface","ways","drawing","numbers","number","point","found","strand","onward","start"] ["surface","ways","drawing"] (ak dz):=⟨rfl,rfl,rfl,by decide +kernel,rfl,by decide +kernel,by decide +kernel⟩
theorem oZ (D:Df K mg "chords" dz)(T:Bt K w mg aB)(Te:mg "enumerate" = none)(F_back:Fnc P w K mg base "back" ["word"] 1 qq)(F_lof:Fnc P w K mg base "letter_of" ["ways","strand"] 1 qL)(F_behind:Fnc P w K mg base "strand_behind" ["ways","strand"] 2 ff)(F_pts:Fnc P w K mg base "points" ["surface","ways","drawing"] 3 oR)(F_str:Fnc P w K mg base "strands_of" ["ways"] 1 i0):Fnc P w K mg base "chords" ["surface","ways","drawing"] 4 gI:=by
 have sc:=mV
 refine D.ok sc (fun _ _ _ _ _ _ us hl=>by obtain ⟨_,_,_,rfl⟩:=nc hl;rfl) (fun vs H Q E h=>?_) (fun f cdv A outer s H vs Q E hr h=>?_)
 ·obtain ⟨u,a,r,n,W,rows,rfl,_⟩:=h
  rfl
 ·obtain ⟨u,a,r,n,W,rows,rfl,U,hW,dw,k⟩:=h
  have l16:=aV
  have hu:=qg hr
  have iw:∀ w∈W,InM n w:=fun w hw=>(hW.ws w hw).2.2
  refine ⟨_,(@ah _ _ _ _ _ (@aF _ _ (3) _ _ _ _ sc.nd rfl (Or.inl rfl) (oE (P:=P) (w:=w) rfl rfl) (by rfl) (by first | exact .inl rfl | exact .inr rfl | assumption)) (@ah _ _ _ _ _ (@bt _ _ _ _ _ _ _ _ xA rfl (@sT _ _ rfl _ _ _ _ _ _ _ rfl Te pK (@aa _ _ _ _ _ (@aM _ _ _ _ _ _ _ _ _ _ _ F_pts hr (by decide) rfl (@aa _ _ _ _ _ (pv 0) (@aa _ _ _ _ _ (pv 1) (@aa _ _ _ _ _ (pv 2) ae (by rfl)) (by rfl)) (by rfl)) (by decide) (by rfl) (by rfl)) ae (by rfl)) (by rfl)) (@gP _ _ _ _ _ _ rfl (@bp _ _ _ _ _ (@aE _ _ (4) _ sc.nd rfl (Or.inl rfl) (by first | exact .inl rfl | exact .inr rfl | assumption)) (@bp _ _ _ _ _ (@aE _ _ (5) _ sc.nd rfl (Or.inl rfl) (by first | exact .inl rfl | exact .inr rfl | assumption)) dE (by rfl)) (by rfl)) (by rfl) (by rfl)) (@au _ _ _ (oF (P:=P) (w:=w) rfl rfl (lt9 hr.units) (pv 3) (pv 5) (pv 4) rfl)) (by intro _ ;rfl)) (@ah _ _ _ _ _ (@aF _ _ (6) _ _ _ _ sc.nd rfl (Or.inl rfl) nN (by rfl) (by first | exact .inl rfl | exact .inr rfl | assumption)) (@ah _ _ _ _ _ (@bt _ _ _ _ _ _ _ _ xA rfl (@cb _ _ _ _ (@aM _ _ _ _ _ _ _ _ _ _ _ F_str hr (by decide) rfl (@aa _ _ _ _ _ (pv 1) ae (by rfl)) (by decide) (by rfl) (by rfl))) (@aE _ _ (7) _ sc.nd rfl (Or.inl rfl) (by first | exact .inl rfl | exact .inr rfl | assumption)) (@ah _ _ _ _ _ (@aF _ _ (8) _ _ _ _ sc.nd rfl (Or.inl rfl) (@aM _ _ _ _ _ _ _ _ _ _ _ F_behind hr (by decide) rfl (@aa _ _ _ _ _ (pv 1) (@aa _ _ _ _ _ (pv 7) ae (by rfl)) (by rfl)) (by decide) (by rfl) (by rfl)) (by rfl) (by first | exact .inl rfl | exact .inr rfl | assumption)) (@ah _ _ _ _ _ (@aF _ _ (9) _ _ _ _ sc.nd rfl (Or.inl rfl) (@bu _ _ _ _ _ (@aa _ _ _ _ _ (@aM _ _ _ _ _ _ _ _ _ _ _ F_back hr (by decide) rfl (@aa _ _ _ _ _ (@aM _ _ _ _ _ _ _ _ _ _ _ F_lof hr (by decide) rfl (@aa _ _ _ _ _ (pv 1) (@aa _ _ _ _ _ (pv 7) ae (by rfl)) (by rfl)) (by decide) (by rfl) (by rfl)) ae (by rfl)) (by decide) (by rfl) (by rfl)) (@aa _ _ _ _ _ (pv 7) ae (by rfl)) (by rfl))) (by rfl) (by first | exact .inl rfl | exact .inr rfl | assumption)) (@au _ _ _ (@qf _ _ _ _ _ _ _ _ _ hu (pv 6) (pv 7) (@bu _ _ _ _ _ (@aa _ _ _ _ _ (jH (P:=P) (w:=w) rfl rfl (lt9 hr.units) (pv 3) (pv 9) (fun _ _=>rfl)) (@aa _ _ _ _ _ (jH (P:=P) (w:=w) rfl rfl (lt9 hr.units) (pv 3) (@bu _ _ _ _ _ (@aa _ _ _ _ _ (@aM _ _ _ _ _ _ _ _ _ _ _ F_lof hr (by decide) rfl (@aa _ _ _ _ _ (pv 1) (@aa _ _ _ _ _ (pv 8) ae (by rfl)) (by rfl)) (by decide) (by rfl) (by rfl)) (@aa _ _ _ _ _ (pv 8) ae (by rfl)) (by rfl))) (fun _ _=>rfl)) ae (by rfl)) (by rfl))) rfl)))) (by intro _ ;rfl)) (@au _ _ _ (@aN _ _ _ _ (pv 6))))))),?_⟩
  refine ⟨fun nd hnd=>?_⟩
  have s1:aA H (upd H nd (Nd P w nd [])):=aA.new hnd
  have f1:(upd H nd (Nd P w nd [])) nd=some (Nd P w nd []):=ab
  generalize upd H nd (Nd P w nd [])=H1 at s1 f1 ⊢
  refine ⟨_,rfl,_,rfl,_,rfl,u,a,r,n,W,rows,rfl,U,hW.same s1,dw.same s1,fun l zs H2 hl s2 g2 hz ez=>⟨l,rfl,⟨_,SqL.of g2⟩,?_⟩⟩
  have nl:nd≠l:=ag f1 hl
  have ndp:(zs.map ptZ).Nodup:=by rw [ez];exact ud U dw
  have zl:zs.length≤720:=by
   have:=fm rows (fun x=>cS hW dw x) u
   rw [← ez,fu] at this
   have:=U.len
   have:=U.hi
   omega
  have s02:=s1.trans s2
  refine qx (xs:=(zs.map (·.1)).map V.ref) (fun i σ H'=>∃ (v4 v5:Option V),σ = [some (tx u),some (.ref a),some (.ref r),some (.ref nd),v4,v5,none,none,none,none]∧H' nd=some (Nd P w nd (esZ 0 (zs.take i)))∧H' l=some (.lst ((zs.map (·.1)).map V.ref))∧PtA H' zs∧Wy4 n W H' a∧aA H H') ⟨none,none,rfl,s2 _ _ f1,g2,hz,hW.same s02,s02⟩ (fun i σ H' _ ⟨_,_,_,_,q,_⟩=>SqL.of q) ?_ ?_
  ·rintro i x σ H3 t hx ⟨v4,v5,rfl,f3,g3,hz3,hW3,s3⟩ ht
   rw [wL,wL] at hx
   cases hzi:zs[i]? with
   | none=>rw [hzi] at hx;cases hx
   | some z =>
    rw [hzi] at hx
    obtain rfl:=wO hx
    have hi:i < zs.length:=(wG.mp hzi).1
    have hm:=wR hzi
    have s4:aA H3 (upd H3 t (.tup [.int (i:Int),.ref z.1])):=aA.new ht
    have g4:(upd H3 t (.tup [.int (i:Int),.ref z.1])) t=some (.tup [.int (i:Int),.ref z.1]):=ab
    refine ⟨t,_,rfl,SqT.of ab,rfl,_,_,rfl,_,_,rfl,rfl,?_⟩
    generalize upd H3 t (.tup [.int (i:Int),.ref z.1])=H4 at s4 g4 ⊢
    have f4:=s4 _ _ f3
    have hz4:PtA H4 zs:=hz3.to fun b xs e=>s4 _ _ e
    have tl:(zs.take i).length=i:=by rw [w9];omega
    have np:ptZ z∉(zs.take i).map ptZ:=by
     rw [Ap]
     exact jO ndp (by rw [wL,hzi];rfl)
    have ep:oA (esZ 0 (zs.take i)) (dR (ptZ z)) z.1 (i:Int)=esZ 0 (zs.take (i+1)):=by
     have:=uf np
     rw [tl] at this
     rw [this,cE hzi]
    refine ⟨_,rfl,_,rfl,_,rfl,nd,z.1,_,_,(i:Int),rfl,rfl,rfl,f4,rk (fun y hy=>hz4 y (xX hy)),pT (hz4 z hm),(by rw [pQ,tl];omega),?_⟩
    rw [ep]
    have keepT:∀ b xs,H4 b=some (.tup xs)→(upd H4 nd (Nd P w nd (esZ 0 (zs.take (i+1))))) b=some (.tup xs):=fun b xs e=>by
     rw [av (b_ e f4 (by intro z;cases z))];exact e
    refine ⟨_,_,rfl,ab,?_,hz4.to keepT,⟨keepT _ _ (s4 _ _ hW3.at_),hW3.le,hW3.lo,hW3.ws⟩,fun b o e=>?_⟩
    ·rw [av nl.symm];exact s4 _ _ g3
    ·rw [av (ag e hnd)];exact s4 _ _ (s3 _ _ e)
  ·rintro σ H3 ⟨v4,v5,rfl,f3,g3,hz3,hW3,s3⟩
   rw [fu,fu,xQ] at f3
   refine fun fd hfd=>?_
   have s4:aA H3 (upd H3 fd (.dT [])):=aA.new hfd
   have d4:(upd H3 fd (.dT [])) fd=some (.dT []):=ab
   have nfd:nd≠fd:=ag f3 hfd
   have hfH:H fd=none:=none_of s3 hfd
   generalize upd H3 fd (.dT [])=H4 at s4 d4 ⊢
   refine ⟨_,rfl,a,n,W,rfl,hW3.same s4,fun l2 ss H5 hl2 s5 g5 hst est=>⟨l2,rfl,⟨_,SqL.of g5⟩,?_⟩⟩
   have s35:=s4.trans s5
   have nl2:fd≠l2:=ag d4 hl2
   have nda:(bo W).Nodup:=mf (dj W)
   have sl:ss.length≤60:=by
    have:=ck (fun w hw=>(hW.ws w hw).2.1) W.length
    have e:(bo W).length=(mB W W.length).length:=rfl
    have hle:=hW.le
    rw [← e,← est,fu] at this
    omega
   refine ef (xs:=(ss.map (·.1)).map V.ref) (fun j σ H'=>∃ (v7 v8 v9:Option V) (kvs:List (List Key × V)),σ = [some (tx u),some (.ref a),some (.ref r),some (.ref nd),v4,v5,some (.ref fd),v7,v8,v9]∧H' nd=some (Nd P w nd (esZ 0 zs))∧PtA H' zs∧H' fd=some (.dT kvs)∧H' l2=some (.lst ((ss.map (·.1)).map V.ref))∧StA H' ss∧Wy4 n W H' a∧CdA H' (bf rows u) W ((bo W).take j) kvs∧aA H H') ⟨none,none,none,[],rfl,s35 _ _ f3,(hz3.to fun b xs e=>s35 _ _ e),s5 _ _ d4,g5,hst,hW3.same s35,⟨rfl,fun p hp=>by cases hp⟩,s3.trans s35⟩ (fun j σ H' _ ⟨_,_,_,_,_,_,_,_,q,_⟩=>SqL.of q) ?_ ?_
   ·rintro j x σ H6 hx ⟨v7,v8,v9,kvs,rfl,f6,hz6,d6,g6,st6,hW6,cd6,s6⟩
    rw [wL,wL] at hx
    cases hzj:ss[j]? with
    | none=>rw [hzj] at hx;cases hx
    | some z =>
     rw [hzj] at hx
     obtain rfl:=wO hx
     have hm:=wR hzj
     have hj:j < ss.length:=(wG.mp hzj).1
     have aj:(bo W)[j]? = some z.2:=by rw [← est,wL,hzj];rfl
     have ok:okS W z.2=true:=cR.mp (wR aj)
     have hz0:=st6 z hm
     obtain ⟨z0,p1,p2⟩:=z
     have hz0:H6 z0=some (.tup [.int p1,.int p2]):=hz0
     have ok:okS W (p1,p2)=true:=ok
     obtain ⟨in1,in2⟩:=ue U dw iw ok
     have okn:=oV ok
     refine ⟨_,rfl,_,rfl,a,z0,n,W,p1,p2,rfl,hW6,hz0,ok,fun t ht=>?_⟩
     have s7:aA H6 (upd H6 t (.tup [.int (nxZ W (p1,p2)).1,.int (nxZ W (p1,p2)).2])):=aA.new ht
     have t7:(upd H6 t (.tup [.int (nxZ W (p1,p2)).1,.int (nxZ W (p1,p2)).2])) t=some (.tup [.int (nxZ W (p1,p2)).1,.int (nxZ W (p1,p2)).2]):=ab
     generalize upd H6 t (.tup [.int (nxZ W (p1,p2)).1,.int (nxZ W (p1,p2)).2])=H7 at s7 t7 ⊢
     refine ⟨_,rfl,_,rfl,a,z0,n,W,p1,p2,rfl,hW6.same s7,s7 _ _ hz0,ok,[ltZ W (p1,p2)],rfl,(by show 1≤_;decide),fun H8 s8=>⟨_,rfl,(aL (n:=2) (by decide)),fun b ht1=>?_⟩⟩
     have s9:aA H8 (upd H8 b (.tup [tx [inv (ltZ W (p1,p2))],.ref z0])):=aA.new ht1
     have t9:(upd H8 b (.tup [tx [inv (ltZ W (p1,p2))],.ref z0])) b=some (.tup [tx [inv (ltZ W (p1,p2))],.ref z0]):=ab
     change eJ (iO 9) _ _ (.ref b) (upd H8 b (.tup [tx [inv (ltZ W (p1,p2))],.ref z0]))
     generalize upd H8 b (.tup [tx [inv (ltZ W (p1,p2))],.ref z0])=H9 at s9 t9 ⊢
     have s69:=s7.trans (s8.trans s9)
     have hz9:=s69 _ _ hz0
     have hn9:=(s8.trans s9) _ _ t7
     refine ⟨_,rfl,_,rfl,nd,b,_,dR (inv (ltZ W (p1,p2)),(p1,p2)),_,rfl,rfl,s69 _ _ f6,rk (hz6.to fun c xs e=>s69 _ _ e),⟨⟨z0,t9,hz9⟩,fk _⟩,mU 0 zs (by rw [ez];exact in1),?_⟩
     refine ⟨_,rfl,_,rfl,_,rfl,a,t,n,W,(nxZ W (p1,p2)).1,(nxZ W (p1,p2)).2,rfl,hW6.same s69,hn9,okn,_,rfl,(aL (n:=2) (by decide)),fun b2 ht2=>?_⟩
     have s10:aA H9 (upd H9 b2 (.tup [tx [ltZ W (nxZ W (p1,p2))],.ref t])):=aA.new ht2
     have t10:(upd H9 b2 (.tup [tx [ltZ W (nxZ W (p1,p2))],.ref t])) b2=some (.tup [tx [ltZ W (nxZ W (p1,p2))],.ref t]):=ab
     change qN P w _ (.ref b2) (upd H9 b2 (.tup [tx [ltZ W (nxZ W (p1,p2))],.ref t])) _
     generalize upd H9 b2 (.tup [tx [ltZ W (nxZ W (p1,p2))],.ref t])=H10 at s10 t10 ⊢
     have s610:=s69.trans s10
     refine ⟨nd,b2,_,dR (ltZ W (nxZ W (p1,p2)),nxZ W (p1,p2)),_,rfl,rfl,s610 _ _ f6,rk (hz6.to fun c xs e=>s610 _ _ e),⟨⟨t,t10,s10 _ _ hn9⟩,fk _⟩,mU 0 zs (by rw [ez];exact in2),(aL (n:=2) (by decide)),fun b3 ht3=>?_⟩
     rw [ez,zq,zq]
     have s11:aA H10 (upd H10 b3 (.tup [.int ((cdZ (bf rows u) W (p1,p2)).1:Int),.int ((cdZ (bf rows u) W (p1,p2)).2:Int)])):=aA.new ht3
     have t11:(upd H10 b3 (.tup [.int ((cdZ (bf rows u) W (p1,p2)).1:Int),.int ((cdZ (bf rows u) W (p1,p2)).2:Int)])) b3=some (.tup [.int ((cdZ (bf rows u) W (p1,p2)).1:Int),.int ((cdZ (bf rows u) W (p1,p2)).2:Int)]):=ab
     have s611:=s610.trans s11
     refine ⟨_,rfl,_,rfl,fd,_,rfl,nK.t (k:=keyT (p1,p2)) (s611 _ _ d6) (s611 _ _ hz0) (by
      have:=xF List.length cd6.ks
      rw [fu,fu,w9] at this
      omega),?_⟩
     have d11:=s611 _ _ d6
     have keepT:∀ (kv:List (List Key × V)) c xs,(upd H10 b3 (.tup [.int ((cdZ (bf rows u) W (p1,p2)).1:Int),.int ((cdZ (bf rows u) W (p1,p2)).2:Int)])) c=some (.tup xs)→(upd (upd H10 b3 (.tup [.int ((cdZ (bf rows u) W (p1,p2)).1:Int),.int ((cdZ (bf rows u) W (p1,p2)).2:Int)])) fd (.dT kv)) c=some (.tup xs):=fun kv c xs e=>by
      rw [av (b_ e d11 (by intro z;cases z))];exact e
     have keep6:∀ (kv:List (List Key × V)) c xs,H6 c=some (.tup xs)→(upd (upd H10 b3 (.tup [.int ((cdZ (bf rows u) W (p1,p2)).1:Int),.int ((cdZ (bf rows u) W (p1,p2)).2:Int)])) fd (.dT kv)) c=some (.tup xs):=fun kv c xs e=>keepT kv _ _ (s611 _ _ e)
     refine ⟨_,_,_,_,rfl,?_,hz6.to (keep6 _),ab,?_,fun y hy=>keep6 _ _ _ (st6 y hy),⟨keep6 _ _ _ hW6.at_,hW6.le,hW6.lo,hW6.ws⟩,?_,fun c o e=>?_⟩
     ·rw [av nfd];exact s611 _ _ f6
     ·rw [av nl2.symm];exact s611 _ _ g6
     ·rw [cE aj]
      exact cd6.put (jO nda aj) (keep6 _) (keepT _ _ _ t11)
     ·rw [av (ag e hfH)];exact s611 _ _ (s6 _ _ e)
   ·rintro σ H6 ⟨v7,v8,v9,kvs,rfl,f6,hz6,d6,g6,st6,hW6,cd6,s6⟩
    have al:(bo W).length=ss.length:=by rw [← est,fu]
    rw [fu,fu,← al,xQ] at cd6
    exact ⟨_,rfl,k fd kvs _ hfH s6 d6 cd6⟩
inductive gJ (vs:List V)(H:Hp)(Q:VK)(u3_:XK):Prop
 | mk:∀ (u:List L) (a r:Addr) (n:Nat) (W:List (List L)) (rows:List (List (Int × Int))),(vs=[tx u,.ref a,.ref r])→(SK u n)→(Wy4 n W H a)→(Dw n W H r rows)→(∀ (l:Addr) (zs:List Cx5) (H':Hp),H l=none→aA H H'→H' l=some (.lst ((zs.map (·.1)).map V.ref))→CrA H' zs→zs.map crZ=crT (crB (bf rows u) W) (bo W) (bo W).length→Q (.ref l) H')→gJ vs H Q u3_
theorem CrA.to {H H':Hp}{zs:List Cx5}(h:CrA H zs)(k:∀ a xs,H a=some (.tup xs)→H' a=some (.tup xs)):CrA H' zs:=fun z hz=>⟨k _ _ (h z hz).1,k _ _ (h z hz).2.1,k _ _ (h z hz).2.2⟩
theorem CrA.app {H:Hp}{zs ys:List Cx5}(h:CrA H zs)(g:CrA H ys):CrA H (zs++ys):=fun z hz=>(xm.mp hz).elim (h z) (g z)
theorem fQ {n:Nat}{W:List (List L)}{H:Hp}{a:Addr}(hW:Wy4 n W H a):(bo W).length≤60:=by
 have:=ck (fun w hw=>(hW.ws w hw).2.1) W.length
 have e:(bo W).length=(mB W W.length).length:=rfl
 have hle:=hW.le
 omega
theorem CdA.at {H:Hp}{pts:List (L × (Int × Int))}{W:List (List L)}{ps:List (Int × Int)}{kvs:List (List Key × V)}(h:CdA H pts W ps kvs){m:Nat}{key:List Key}{val:V}(e:kvs[m]? = some (key,val)):∃ q,ps[m]? = some q∧key=keyT q:=by
 have:=xF (fun l=>l[m]?) h.ks
 simp only [wL] at this
 rw [e] at this
 cases hq:ps[m]? with
 | none=>rw [hq] at this;cases this
 | some q=>rw [hq] at this;exact ⟨q,rfl,wO this⟩
theorem CdA.len {H:Hp}{pts:List (L × (Int × Int))}{W:List (List L)}{ps:List (Int × Int)}{kvs:List (List Key × V)}(h:CdA H pts W ps kvs):kvs.length=ps.length:=by
 have:=xF List.length h.ks
 rwa [fu,fu] at this
abbrev fo:Stmt:=top 16
theorem o7:aJ ["surface","ways","drawing","found","told","one"] ["surface","ways","drawing"] (ak fo):=⟨rfl,rfl,rfl,by decide +kernel,rfl,by decide +kernel,by decide +kernel⟩
theorem rn (D:Df K mg "crossings" fo)(T:Bt K w mg aB)(F_str:Fnc P w K mg base "strands_of" ["ways"] 1 i0)(F_chords:Fnc P w K mg base "chords" ["surface","ways","drawing"] 4 gI)(F_met:Fnc P w K mg base "are_met_by_turns" ["one","other"] 1 qU):Fnc P w K mg base "crossings" ["surface","ways","drawing"] 5 gJ:=by
 have sc:=o7
 refine D.ok sc (fun _ _ _ _ _ _ us hl=>by obtain ⟨_,_,_,rfl⟩:=nc hl;rfl) (fun vs H Q E h=>?_) (fun f cdv A outer s H vs Q E hr h=>?_)
 ·obtain ⟨u,a,r,n,W,rows,rfl,_⟩:=h
  rfl
 ·obtain ⟨u,a,r,n,W,rows,rfl,U,hW,dw,k⟩:=h
  have l16:=aV
  have hu:=qg hr
  have al:=fQ hW
  refine ⟨_,(@ah _ _ _ _ _ (@aF _ _ (3) _ _ _ _ sc.nd rfl (Or.inr rfl) (@aM _ _ _ _ _ _ _ _ _ _ _ F_chords hr (by decide) rfl (@aa _ _ _ _ _ (pv 0) (@aa _ _ _ _ _ (pv 1) (@aa _ _ _ _ _ (pv 2) ae (by rfl)) (by rfl)) (by rfl)) (by decide) (by rfl) (by rfl)) (by rfl) (by first | exact .inl rfl | exact .inr rfl | assumption)) (@ah _ _ _ _ _ (@aF _ _ (4) _ _ _ _ sc.nd rfl (Or.inl rfl) (@bM _ _ _ _ ae) (by rfl) (by first | exact .inl rfl | exact .inr rfl | assumption)) (@ah _ _ _ _ _ (@bt _ _ _ _ _ _ _ _ xA rfl (@cb _ _ _ _ (@aM _ _ _ _ _ _ _ _ _ _ _ F_str hr (by decide) rfl (@aa _ _ _ _ _ (pv 1) ae (by rfl)) (by decide) (by rfl) (by rfl))) (@aE _ _ (5) _ sc.nd rfl (Or.inr rfl) (by first | exact .inl rfl | exact .inr rfl | assumption)) (@au _ _ _ (@bq _ _ _ _ (@bR _ _ _ _ _ _ _ _ _ _ _ _ xh ym yn bX (pv 4) (@aa _ _ _ _ _ (@bz _ _ _ _ _ _ _ (["other","one","found"]) (["other"]) ([5,3]) _ _ _ _ (@bS _ _ _ _ _ _ rfl (by kernel_rfl)) rfl (oH (pv 3)) (fun _ _ _ _=>@aE _ _ (0) _ (show (["other","one","found"]:List Str).Nodup from by decide +kernel) rfl (Or.inl rfl) (by first | exact .inl rfl | exact .inr rfl | assumption)) (fun _ _ _ _=>(@cY _ _ _ (by exact (@PW.pt _ _ _ (@jb _ _ _ _ _ _ _ (@aR _ _ _ _ _ _ _ _ (qP (K:=K) rfl (by exact lt0 hr.units)) (pv 1) (pv 0) (bh _)) (@fT _ _ _ _ (@sP _ _ _ (@aM _ _ _ _ _ _ _ _ _ _ _ F_met hr (by decide) rfl (@aa _ _ _ _ _ (@kP _ _ _ _ _ _ hu (pv 2) (pv 1) (fun _ _=>rfl)) (@aa _ _ _ _ _ (@kP _ _ _ _ _ _ hu (pv 2) (pv 0) (fun _ _=>rfl)) ae (by rfl)) (by rfl)) (by decide) (by rfl) (by rfl)) (fun _=>rfl)))))))) (fun _ _ _ _=>by (exact (@bu _ _ _ _ _ (@aa _ _ _ _ _ (pv 1) (@aa _ _ _ _ _ (pv 0) ae (by rfl)) (by rfl))))) (by intro _ ;rfl)) ae (by rfl)) (by rfl) (by rfl) (by rfl) (by rfl) (by rfl)) (by rfl))) (by intro _ ;rfl)) (@au _ _ _ (@aN _ _ _ _ (pv 4)))))),?_⟩
  refine ⟨_,rfl,_,rfl,_,rfl,u,a,r,n,W,rows,rfl,U,hW,dw,fun d kvs H1 hd s1 d1 cd1=>?_⟩
  refine ⟨(by show 0≤sizeLine;decide),fun l hl=>?_⟩
  have s2:aA H1 (upd H1 l (.lst [])):=aA.new hl
  have f2:(upd H1 l (.lst [])) l=some (.lst ((([]:List Cx5).map (·.1)).map V.ref)):=ab
  have nld:l≠d:=(ag d1 hl).symm
  have hlH:H l=none:=none_of s1 hl
  generalize upd H1 l (.lst [])=H2 at s2 f2 ⊢
  have s02:=s1.trans s2
  refine ⟨_,rfl,a,n,W,rfl,hW.same s02,fun l2 ss H3 hl2 s3 g3 hst est=>⟨l2,rfl,⟨_,SqL.of g3⟩,?_⟩⟩
  have s03:=s02.trans s3
  have nl2:l≠l2:=ag f2 hl2
  have nl2d:l2≠d:=(ag (s2 _ _ d1) hl2).symm
  refine ef (xs:=(ss.map (·.1)).map V.ref) (fun j σ H'=>∃ (v5:Option V) (zs:List Cx5),σ = [some (tx u),some (.ref a),some (.ref r),some (.ref d),some (.ref l),v5]∧Rd H' d (.dT kvs)∧CdA H' (bf rows u) W (bo W) kvs∧H' l2=some (.lst ((ss.map (·.1)).map V.ref))∧StA H' ss∧H' l=some (.lst ((zs.map (·.1)).map V.ref))∧CrA H' zs∧zs.map crZ=crT (crB (bf rows u) W) (bo W) j∧aA H H') ⟨none,[],rfl,.inl (s3 _ _ (s2 _ _ d1)),cd1.to (fun b xs e=>s3 _ _ (s2 _ _ e)),g3,hst,s3 _ _ f2,(fun z hz=>by cases hz),rfl,s03⟩ (fun j σ H' _ ⟨_,_,_,_,_,q,_⟩=>SqL.of q) ?_ ?_
  ·rintro j x σ H4 hx ⟨v5,zs,rfl,rd,cd4,g4,st4,f4,hz4,ez4,s4⟩
   rw [wL,wL] at hx
   cases hzj:ss[j]? with
   | none=>rw [hzj] at hx;cases hx
   | some z =>
    rw [hzj] at hx
    obtain rfl:=wO hx
    have hm:=wR hzj
    have aj:(bo W)[j]? = some z.2:=by rw [← est,wL,hzj];rfl
    have hj:j < (bo W).length:=(wG.mp aj).1
    have hz0:=st4 z hm
    obtain ⟨z0,p1,p2⟩:=z
    have hz0:H4 z0=some (.tup [.int p1,.int p2]):=hz0
    have aj:(bo W)[j]? = some (p1,p2):=aj
    have zl:zs.length≤3600:=by
     have:=dS (f:=crB (bf rows u) W) (zs:=bo W) j
     rw [← ez4,fu] at this
     have:j*(bo W).length≤60*60:=zd (by omega) al
     omega
    refine ⟨_,rfl,.inl ⟨rfl,_,SqL.of f4⟩,_,rfl,d,kvs,rfl,rd,fun o H5 e5 k5=>?_⟩
    have n0:∀ {b:Addr} {xs:List V},H4 b=some (.tup xs)→b≠d:=fun {b xs} e=>by
     rcases rd with q | ⟨o,q⟩
     ·exact b_ e q (by intro z;cases z)
     ·exact b_ e q (by intro z;cases z)
    have k5T:∀ b xs,H4 b=some (.tup xs)→H5 b=some (.tup xs):=fun b xs e=>by rw [k5 b (n0 e)];exact e
    have hz5:=k5T _ _ hz0
    have cd5:=cd4.to k5T
    have f5:H5 l=some (.lst ((zs.map (·.1)).map V.ref)):=by rw [k5 l nld];exact f4
    obtain ⟨c1,hc1,hb1⟩:=cd5.vl (p1,p2) (wR aj)
    have kl:=cd5.len
    refine cg (own:=["other"]) (cap:=[5,3]) (J:=tK d o kvs) kvs.length (fun m ys σ H'=>∃ (v:Option V) (cs:List Cx5),σ = [v,some (.ref z0),some (.ref d)]∧ys=(cs.map (·.1)).map V.ref∧cs.length≤m∧CrA H' cs∧cs.map crZ=(((bo W).take m).filter (fun q=>HT.bI [p1,p2] [q.1,q.2] && crB (bf rows u) W (p1,p2) q)).map (fun q=>((p1,p2),q))∧aA H5 H') ⟨none,[],rfl,rfl,wJ _,(fun z hz=>by cases hz),rfl,aA.refl _⟩ (fun m ys σ H' hm ⟨_,cs,_,e,e2,_⟩=>by rw [e,fu,fu];exact e2) (by omega) (fun m ys σ H' hm ⟨_,_,_,_,_,_,_,q⟩=>⟨hm,q _ _ e5⟩) (fun ys σ H' ⟨_,_,_,_,_,_,_,q⟩=>⟨rfl,q _ _ e5⟩) ?_ ?_
    ·rintro m ys σ H7 x H6 N hm ⟨v,cs,rfl,rfl,cl,hcs,ecs,s6⟩ ⟨rfl,key,val,b,hkv,rfl,hb⟩ hN
     obtain ⟨⟨q1,q2⟩,aq,rfl⟩:=cd5.at hkv
     have hb:H6 b=some (.tup [.int q1,.int q2]):=hb
     obtain ⟨c2,hc2,hb2⟩:=cd5.vl (q1,q2) (wR aq)
     have et:(((bo W).take (m+1)).filter (fun q=>HT.bI [p1,p2] [q.1,q.2] && crB (bf rows u) W (p1,p2) q))=(((bo W).take m).filter (fun q=>HT.bI [p1,p2] [q.1,q.2] && crB (bf rows u) W (p1,p2) q))++(if (HT.bI [p1,p2] [q1,q2] && crB (bf rows u) W (p1,p2) (q1,q2))=true then [(q1,q2)] else []):=by
      rw [cE aq,yQ]
      congr 1
      by_cases c:(HT.bI [p1,p2] [q1,q2] && crB (bf rows u) W (p1,p2) (q1,q2))=true
      ·rw [if_pos c,x6 (by exact c)];rfl
      ·rw [if_neg c,xV (by exact c)];rfl
     have no:¬ (HT.bI [p1,p2] [q1,q2] && crB (bf rows u) W (p1,p2) (q1,q2))=true→N ((cs.map (·.1)).map V.ref) [some (.ref b),some (.ref z0),some (.ref d)] H6:=fun c=>hN _ _ _ ⟨_,cs,rfl,rfl,by omega,hcs,by rw [et,if_neg c,yf];exact ecs,s6⟩
     refine ⟨_,rfl,_,rfl,z0,b,[p1,p2],[q1,q2],rfl,rfl,SqT.of (s6 _ _ hz5),SqT.of hb,_,rfl,?_⟩
     cases c:HT.bI [p1,p2] [q1,q2] with
     | false=>exact tF (m_ (no (by rw [c,Bo];exact xj)))
     | true =>
      refine tE ?_
      refine ⟨_,rfl,_,rfl,d,.ref c1,rfl,(by rw [← hc1];exact .inr ⟨kvs,keyT (p1,p2),z0,.inr ⟨o,s6 _ _ e5⟩,rfl,s6 _ _ hz5,rfl⟩),?_⟩
      refine ⟨_,rfl,_,rfl,d,.ref c2,rfl,(by rw [← hc2];exact .inr ⟨kvs,keyT (q1,q2),b,.inr ⟨o,s6 _ _ e5⟩,rfl,hb,rfl⟩),?_⟩
      refine ⟨c1,c2,_,_,_,_,rfl,s6 _ _ hb1,s6 _ _ hb2,_,rfl,?_⟩
      refine iI (fun c2'=>?_) (fun c2'=>?_)
      ·have c3:(HT.bI [p1,p2] [q1,q2] && crB (bf rows u) W (p1,p2) (q1,q2))=true:=by rw [c,Bx];exact c2'
       refine ⟨_,rfl,_,rfl,(aL (n:=2) (by decide)),fun t ht=>hN _ _ _ ⟨_,cs++[(t,(z0,p1,p2),(b,q1,q2))],rfl,by rw [wM,wM];rfl,by rw [wQ];exact Bb cl,?_,?_,s6.then ht⟩⟩
       ·refine (hcs.same (aA.new ht)).app fun y hy=>?_
        rw [wH.mp hy]
        exact ⟨ab,aA.new ht _ _ (s6 _ _ hz5),aA.new ht _ _ hb⟩
       ·rw [et,if_pos c3,wM,wM,ecs];rfl
      ·exact no (by rw [c,Bx];exact c2')
    ·rintro ys σ H6 q ⟨v,cs,rfl,rfl,cl,hcs,ecs,s6⟩ hq
     rw [kl] at cl
     rw [kl,xQ,vy (dj W) aj] at ecs
     have s7:aA H6 (upd H6 q (.lst ((cs.map (·.1)).map V.ref))):=aA.new hq
     have g7:(upd H6 q (.lst ((cs.map (·.1)).map V.ref))) q=some (.lst ((cs.map (·.1)).map V.ref)):=ab
     generalize upd H6 q (.lst ((cs.map (·.1)).map V.ref))=H7 at s7 g7 ⊢
     have s57:=s6.trans s7
     have f7:=s57 _ _ f5
     refine ⟨l,q,_,_,rfl,rfl,f7,g7,by rw [fu,fu,fu,fu];omega,?_⟩
     have keepT:∀ (vv:List V) b xs,H7 b=some (.tup xs)→(upd H7 l (.lst vv)) b=some (.tup xs):=fun vv b xs e=>by
      rw [av (b_ e f7 (by intro z;cases z))];exact e
     have keep4:∀ (vv:List V) b xs,H4 b=some (.tup xs)→(upd H7 l (.lst vv)) b=some (.tup xs):=fun vv b xs e=>keepT vv _ _ (s57 _ _ (k5T _ _ e))
     refine ⟨_,zs++cs,rfl,?_,cd4.to (keep4 _),?_,fun y hy=>keep4 _ _ _ (st4 y hy),by rw [ab,wM,wM],?_,?_,fun b o' e=>?_⟩
     ·exact .inr ⟨o,by rw [av nld.symm];exact s57 _ _ e5⟩
     ·rw [av nl2.symm]
      exact s57 _ _ (by rw [k5 l2 nl2d];exact g4)
     ·exact (hz4.to (keep4 _)).app ((hcs.same s7).to (keepT _))
     ·rw [wM,ez4,ecs,jM aj]
     ·rw [av (ag e hlH)]
      exact s57 _ _ (by rw [k5 b (ag e hd)];exact s4 _ _ e)
  ·rintro σ H4 ⟨v5,zs,rfl,rd,cd4,g4,st4,f4,hz4,ez4,s4⟩
   have e:(bo W).length=ss.length:=by rw [← est,fu]
   rw [fu,fu,← e] at ez4
   exact ⟨_,rfl,k l zs _ hlH s4 f4 hz4 ez4⟩
inductive fq (vs:List V)(H:Hp)(Q:VK)(u3_:XK):Prop
 | mk:∀ (u:List L) (a r:Addr) (n:Nat) (W:List (List L)) (rows:List (List (Int × Int))) (i j:Int),(vs=[tx u,.ref a,.ref r,.int i,.int j])→(SK u n)→(Wy4 n W H a)→(Dw n W H r rows)→(∀ (H':Hp),aA H H'→Q (.int (((crT (crB (bf rows u) W) (bo W) (bo W).length).countP (iE i j):Nat):Int)) H')→fq vs H Q u3_
theorem rq {H:Hp}{p q:Addr}{Q:VK}{r t:List Int}(h1:H p=some (.tup (r.map V.int)))(h2:H q=some (.tup (t.map V.int)))(h:Q (.bl (decide (r=t))) H):sX (.ref p) (.ref q) H Q:=by
 have lay:∀ r:List Int,(PyData.tuple (r.map .int)).canLay0=true:=fun r=>by unfold PyData.canLay0;exact eE r
 refine ⟨_,_,.tup h1 (fi r),.tup h2 (fi t),lay _,lay _,?_,?_⟩
 ·show PyData.depthAll (r.map .int)+1≤10
  rw [dk]
  decide
 ·show Q (.bl (PyData.eqvAll (r.map .int) (t.map .int))) H
  rw [eD]
  exact h
theorem rz {f:Int × Int→Int × Int→Bool}{W:List (List L)}{c:(Int × Int) × (Int × Int)}(hc:c∈crT f (bo W) (bo W).length)(i j:Int):iE i j c=decide ([c.1.1,c.2.1]=[min i j,max i j]):=by
 have h:=(pU (dj W) (wJ _) hc).1
 have hle:c.1.1≤c.2.1:=by unfold ltp at h;omega
 unfold iE
 rw [oX hle]
 simp
abbrev cF:Stmt:=top 17
theorem j9:aJ ["surface","ways","drawing","i","j","wanted"] ["surface","ways","drawing","i","j"] (ak cF):=⟨rfl,rfl,rfl,by decide +kernel,rfl,by decide +kernel,by decide +kernel⟩
theorem mX (D:Df K mg "crossed" cF)(T:Bt K w mg aB)(F_cross:Fnc P w K mg base "crossings" ["surface","ways","drawing"] 5 gJ):Fnc P w K mg base "crossed" ["surface","ways","drawing","i","j"] 6 fq:=by
 have sc:=j9
 refine D.ok sc (fun _ _ _ _ _ _ us hl=>by obtain ⟨_,_,_,_,_,rfl⟩:=wy hl;rfl) (fun vs H Q E h=>?_) (fun f cdv A outer s H vs Q E hr h=>?_)
 ·obtain ⟨u,a,r,n,W,rows,i,j,rfl,_⟩:=h
  rfl
 ·obtain ⟨u,a,r,n,W,rows,i,j,rfl,U,hW,dw,k⟩:=h
  have l16:=aV
  have al:=fQ hW
  refine ⟨_,(@ah _ _ _ _ _ (@aF _ _ (5) _ _ _ _ sc.nd rfl (Or.inr rfl) (@bu _ _ _ _ _ (@aa _ _ _ _ _ (@az _ _ _ _ _ _ _ _ _ (@kC _ rfl) (by rfl) T.min sM (@aa _ _ _ _ _ (pv 3) (@aa _ _ _ _ _ (pv 4) ae (by rfl)) (by rfl)) (by decide) (by decide) (by rfl) (by rfl)) (@aa _ _ _ _ _ (@az _ _ _ _ _ _ _ _ _ (@kA _ rfl) (by rfl) T.max sL (@aa _ _ _ _ _ (pv 3) (@aa _ _ _ _ _ (pv 4) ae (by rfl)) (by rfl)) (by decide) (by decide) (by rfl) (by rfl)) ae (by rfl)) (by rfl))) (by rfl) (by first | exact .inl rfl | exact .inr rfl | assumption)) (@au _ _ _ (@aN _ _ _ _ (@az _ _ _ _ _ _ _ _ _ aI (by rfl) T.len xt (@aa _ _ _ _ _ (@bz _ _ _ _ _ _ _ (["pair","wanted"]) (["pair"]) ([5]) _ _ _ _ (@bS _ _ _ _ _ _ rfl (by kernel_rfl)) rfl (@cb _ _ _ _ (@aM _ _ _ _ _ _ _ _ _ _ _ F_cross hr (by decide) rfl (@aa _ _ _ _ _ (pv 0) (@aa _ _ _ _ _ (pv 1) (@aa _ _ _ _ _ (pv 2) ae (by rfl)) (by rfl)) (by rfl)) (by decide) (by rfl) (by rfl))) (fun _ _ _ _=>@aE _ _ (0) _ (show (["pair","wanted"]:List Str).Nodup from by decide +kernel) rfl (Or.inl rfl) (by first | exact .inl rfl | exact .inr rfl | assumption)) (fun _ _ _ _=>(@cY _ _ _ (by exact (@aR _ _ _ _ _ _ _ _ (@ij _ (by exact hr.units)) (@bu _ _ _ _ _ (@aa _ _ _ _ _ (@aK _ _ _ _ _ _ _ (@cC _ (K) rfl) (@aK _ _ _ _ _ _ _ (@cC _ (K) rfl) (pv 0) ao (fun _ _=>rfl)) ao (fun _ _=>rfl)) (@aa _ _ _ _ _ (@aK _ _ _ _ _ _ _ (@cC _ (K) rfl) (@aK _ _ _ _ _ _ _ (@cC _ (K) rfl) (pv 0) ao (fun _ _=>rfl)) ao (fun _ _=>rfl)) ae (by rfl)) (by rfl))) (pv 1) (bh _))))) (fun _ _ _ _=>by (exact (pv 0))) (by intro _ ;rfl)) ae (by rfl)) (by decide) (by decide) (by rfl) (by rfl))))),?_⟩
  refine ⟨_,rfl,_,rfl,_,_,rfl,_,rfl,_,rfl,_,_,rfl,(aL (n:=2) (by decide)),fun b hb=>?_⟩
  have e1:(if j < i then j else i)=min i j:=by split <;> omega
  have e2:(if j > i then j else i)=max i j:=by split <;> omega
  rw [e1,e2]
  have s1:aA H (upd H b (.tup ([min i j,max i j].map V.int))):=aA.new hb
  have g1:(upd H b (.tup ([min i j,max i j].map V.int))) b=some (.tup ([min i j,max i j].map V.int)):=ab
  change eJ (iO 5) _ _ (.ref b) (upd H b (.tup ([min i j,max i j].map V.int)))
  generalize upd H b (.tup ([min i j,max i j].map V.int))=H1 at s1 g1 ⊢
  refine ⟨_,rfl,_,rfl,_,rfl,u,a,r,n,W,rows,rfl,U,hW.same s1,dw.same s1,fun l zs H2 hl s2 f2 hz ez=>⟨l,rfl,⟨_,SqL.of f2⟩,?_⟩⟩
  have zl:zs.length≤3600:=by
   have:=dS (f:=crB (bf rows u) W) (zs:=bo W) (bo W).length
   rw [← ez,fu] at this
   have:(bo W).length*(bo W).length≤60*60:=zd al al
   omega
  have zc:∀ z∈zs,iE i j (crZ z)=decide ([(crZ z).1.1,(crZ z).2.1]=[min i j,max i j]):=fun z hz'=>rz (by rw [← ez];exact xH.mpr ⟨z,hz',rfl⟩) i j
  refine cA (xs:=(zs.map (·.1)).map V.ref) (own:=["pair"]) (cap:=[5]) (fun m ys σ H'=>∃ v:Option V,σ = [v,some (.ref b)]∧ys.length=((zs.take m).map crZ).countP (iE i j)∧aA H2 H') ⟨none,rfl,rfl,aA.refl _⟩ (fun m ys σ H' hm ⟨_,_,e,_⟩=>?_) (by rw [fu,fu];omega) (fun m ys σ H' ⟨_,_,_,q⟩=>SqL.of (q _ _ f2)) ?_ ?_
  ·rw [e]
   refine xq (yC) ?_
   rw [fu,w9]
   omega
  ·rintro m ys σ H3 y N hy ⟨v,rfl,ey,s3⟩ hN
   rw [wL,wL] at hy
   cases hzm:zs[m]? with
   | none=>rw [hzm] at hy;cases hy
   | some z =>
    rw [hzm] at hy
    obtain rfl:=wO hy
    have hm:=wR hzm
    obtain ⟨z1,z2,z3⟩:=(hz.same s3) z hm
    have et:((zs.take (m+1)).map crZ).countP (iE i j)=((zs.take m).map crZ).countP (iE i j)+(if iE i j (crZ z)=true then 1 else 0):=by
     rw [yl,hzm,zg,wM,List.countP_append]
     congr 1
     rw [xr,zh,List.countP_cons,List.countP_nil,zq]
    refine ⟨_,rfl,z.1,_,_,_,rfl,rfl,SqT.of z1,rfl,z.2.1.1,_,_,_,rfl,rfl,SqT.of z2,rfl,?_⟩
    refine ⟨_,rfl,z.1,_,_,_,rfl,rfl,SqT.of z1,rfl,z.2.2.1,_,_,_,rfl,rfl,SqT.of z3,rfl,(aL (n:=2) (by decide)),fun t ht=>?_⟩
    have s4:aA H3 (upd H3 t (.tup ([z.2.1.2.1,z.2.2.2.1].map V.int))):=aA.new ht
    have g4:(upd H3 t (.tup ([z.2.1.2.1,z.2.2.2.1].map V.int))) t=some (.tup ([z.2.1.2.1,z.2.2.2.1].map V.int)):=ab
    refine ⟨_,rfl,?_⟩
    change sX (.ref t) (.ref b) (upd H3 t (.tup ([z.2.1.2.1,z.2.2.2.1].map V.int))) _
    generalize upd H3 t (.tup ([z.2.1.2.1,z.2.2.2.1].map V.int))=H4 at s4 g4 ⊢
    have s24:=s3.trans s4
    refine rq g4 (s24 _ _ (s2 _ _ g1)) ⟨_,rfl,?_⟩
    refine iI (fun c=>?_) (fun c=>?_)
    ·have c:iE i j (crZ z)=true:=(zc z hm).trans c
     exact ⟨_,rfl,hN _ _ _ ⟨_,rfl,by rw [wQ,ey,et,if_pos c];rfl,s24⟩⟩
    ·have c:¬ iE i j (crZ z)=true:=fun e=>c ((zc z hm).symm.trans e)
     exact hN _ _ _ ⟨_,rfl,by rw [ey,et,if_neg c];rfl,s24⟩
  ·rintro ys σ H3 q ⟨v,rfl,ey,s3⟩ hq
   refine ⟨q,_,rfl,.inl (SqL.of ab),?_⟩
   rw [ey,fu,fu,xQ,ez]
   exact k _ (((s1.trans s2).trans s3).then hq)
abbrev Ln5:=Addr × (Addr × Int × Int) × Nat × Nat
def LnA (H:Hp)(zs:List Ln5):Prop:=∀ z∈zs,H z.1=some (.tup [.ref z.2.1.1,.int (z.2.2.1:Int),.int (z.2.2.2:Int)])∧H z.2.1.1=some (.tup [.int z.2.1.2.1,.int z.2.1.2.2])
theorem LnA.to {H H':Hp}{zs:List Ln5}(h:LnA H zs)(k:∀ a xs,H a=some (.tup xs)→H' a=some (.tup xs)):LnA H' zs:=fun z hz=>⟨k _ _ (h z hz).1,k _ _ (h z hz).2⟩
theorem LnA.same {H H':Hp}{zs:List Ln5}(h:LnA H zs)(s:aA H H'):LnA H' zs:=h.to fun _ _ e=>s _ _ e
def lnZ (pts:List (L × (Int × Int)))(W:List (List L))(p:Int × Int):(Int × Int) × Nat × Nat:=(p,cdZ pts W p)
inductive ft (vs:List V)(H:Hp)(Q:VK)(u3_:XK):Prop
 | mk:∀ (u:List L) (a r:Addr) (n:Nat) (W:List (List L)) (rows:List (List (Int × Int))),(vs=[tx u,.ref a,.ref r])→(SK u n)→(Wy4 n W H a)→(Dw n W H r rows)→(∀ (l:Addr) (zs:List Ln5) (H':Hp),H l=none→aA H H'→H' l=some (.lst ((zs.map (·.1)).map V.ref))→LnA H' zs→zs.map (fun z=>(z.2.1.2,z.2.2))=(bo W).map (lnZ (bf rows u) W)→Q (.ref l) H')→ft vs H Q u3_
theorem iF:∀ zs:List (L × (Int × Int)),PyData.canLayAll0 (zs.map fun z=>cJ (dR z))=true
 | []=>rfl
 | z::r=>by rw [xr,PyData.canLayAll0,iF r,eF (fk z)];rfl
theorem fS:∀ zs:List (L × (Int × Int)),PyData.depthAll (zs.map fun z=>cJ (dR z))≤2
 | []=>xE _
 | z::r=>by
  have:=fS r
  have h:=iu (dR z)
  show max (cJ (dR z)).depth (PyData.depthAll (r.map fun z=>cJ (dR z)))≤2
  omega
theorem iG {α:Type}[BEq α][LawfulBEq α]{a:α}:∀ {l:List α} {i:Nat} (h:i < l.length),l[i]=a→l.idxOf a≤i
 | [],_,h,_=>absurd h (Nat.not_lt_zero _)
 | x::r,i,h,e=>by
  rw [List.idxOf_cons]
  cases c:x == a with
  | true=>exact xE _
  | false =>
   cases i with
   | zero =>
    have e:x=a:=e
    rw [e,beq_self_eq_true] at c
    cases c
   | succ i=>exact Bb (iG (l:=r) (by simpa using h) e)
theorem mY {H:Hp}{l b c:Addr}{zs:List Pt}{x:L}{p:Int × Int}{Q:VK}(hl:H l=some (.lst ((zs.map (·.1)).map V.ref)))(hz:PtA H zs)(hn:zs.length≤1000)(hb:H b=some (.tup [tx [x],.ref c]))(hc:H c=some (.tup [.int p.1,.int p.2]))(hm:(x,p)∈zs.map ptZ)(h:Q (.int (((zs.map ptZ).idxOf (x,p):Nat):Int)) H):tJ (.ref l) [.ref b] H Q:=by
 have hd:Dt H (.ref b) (cJ (dR (x,p))):=.tup hb (.cons (.str _) (.cons (oY hc) .nil))
 have hi:=AC hm
 have ge:∀ i (hi:i < (zs.map ptZ).length),(((zs.map ptZ).map fun z=>cJ (dR z))[i]?).map (fun d=>PyData.eqv d (cJ (dR (x,p))))=some (decide ((zs.map ptZ)[i]=(x,p))):=fun i hi=>by
  rw [wL,wF hi,zj,zj,jF]
  congr 1
  rw [x8,xB,xB]
  exact ⟨gG,fun e=>by rw [e]⟩
 refine ⟨l,_,_,_,_,_,rfl,rfl,hl,rm hz,hd,iF _,eF (fk _),xq (fS _) (by decide),by rw [fu,fu];omega,?_,fun i hij=>?_,h⟩
 ·rw [ge _ hi,xC (List.getElem_idxOf hi)]
 ·have hi2:i < (zs.map ptZ).length:=by omega
  rw [ge _ hi2,w6]
  intro e
  have:=iG hi2 e
  omega
abbrev cG:Stmt:=top 30
theorem j_:aJ ["_law_surface","_law_ways","_law_drawing","_law_spots","_law_found","_law_i","_law_p","_law_follower","_law_begin"] ["_law_surface","_law_ways","_law_drawing"] (ak cG):=⟨rfl,rfl,rfl,by decide +kernel,rfl,by decide +kernel,by decide +kernel⟩
theorem mZ (D:Df K mg "_law_all_chords" cG)(T:Bt K w mg aB)(F_lback:Fnc P w K mg base "_law_back" ["_law_word"] 1 qq)(F_spots:Fnc P w K mg base "_law_all_spots" ["_law_surface","_law_drawing"] 1 gE)(F_alls:Fnc P w K mg base "_law_all_strands" ["_law_ways"] 1 i0):Fnc P w K mg base "_law_all_chords" ["_law_surface","_law_ways","_law_drawing"] 2 ft:=by
 have sc:=j_
 refine D.ok sc (fun _ _ _ _ _ _ us hl=>by obtain ⟨_,_,_,rfl⟩:=nc hl;rfl) (fun vs H Q E h=>?_) (fun f cdv A outer s H vs Q E hr h=>?_)
 ·obtain ⟨u,a,r,n,W,rows,rfl,_⟩:=h
  rfl
 ·obtain ⟨u,a,r,n,W,rows,rfl,U,hW,dw,k⟩:=h
  have l16:=aV
  have al:=fQ hW
  have iw:∀ w∈W,InM n w:=fun w hw=>(hW.ws w hw).2.2
  refine ⟨_,(@ah _ _ _ _ _ (@aF _ _ (3) _ _ _ _ sc.nd rfl (Or.inl rfl) (@aM _ _ _ _ _ _ _ _ _ _ _ F_spots hr (by decide) rfl (@aa _ _ _ _ _ (pv 0) (@aa _ _ _ _ _ (pv 2) ae (by rfl)) (by rfl)) (by decide) (by rfl) (by rfl)) (by rfl) (by first | exact .inl rfl | exact .inr rfl | assumption)) (@ah _ _ _ _ _ (@aF _ _ (4) _ _ _ _ sc.nd rfl (Or.inl rfl) (@bM _ _ _ _ ae) (by rfl) (by first | exact .inl rfl | exact .inr rfl | assumption)) (@ah _ _ _ _ _ (@bt _ _ _ _ _ _ _ _ xA rfl (@cb _ _ _ _ (@aM _ _ _ _ _ _ _ _ _ _ _ F_alls hr (by decide) rfl (@aa _ _ _ _ _ (pv 1) ae (by rfl)) (by decide) (by rfl) (by rfl))) (@gP _ _ _ _ _ _ rfl (@bp _ _ _ _ _ (@aE _ _ (5) _ sc.nd rfl (Or.inl rfl) (by first | exact .inl rfl | exact .inr rfl | assumption)) (@bp _ _ _ _ _ (@aE _ _ (6) _ sc.nd rfl (Or.inl rfl) (by first | exact .inl rfl | exact .inr rfl | assumption)) dE (by rfl)) (by rfl)) (by rfl) (by rfl)) (@ah _ _ _ _ _ (@aF _ _ (7) _ _ _ _ sc.nd rfl (Or.inl rfl) (@aX _ _ _ _ _ _ _ _ dU (@aX _ _ _ _ _ _ _ _ bU (pv 6) ao) (@az _ _ _ _ _ _ _ _ _ aP (by rfl) T.len xt (@aa _ _ _ _ _ (@aK _ _ _ _ _ _ _ bJ (pv 1) (pv 5) (fun _ _=>rfl)) ae (by rfl)) (by decide) (by decide) (by rfl) (by rfl))) (by rfl) (by first | exact .inl rfl | exact .inr rfl | assumption)) (@ah _ _ _ _ _ (@aF _ _ (8) _ _ _ _ sc.nd rfl (Or.inl rfl) (@bR _ _ _ _ _ _ _ _ _ _ _ _ xh A7 A8 (fM (by exact hr.units)) (pv 3) (@aa _ _ _ _ _ (@bu _ _ _ _ _ (@aa _ _ _ _ _ (@aM _ _ _ _ _ _ _ _ _ _ _ F_lback hr (by decide) rfl (@aa _ _ _ _ _ (@aK _ _ _ _ _ _ _ dX (@aK _ _ _ _ _ _ _ bJ (pv 1) (pv 5) (fun _ _=>rfl)) (pv 6) (fun _ _=>rfl)) ae (by rfl)) (by decide) (by rfl) (by rfl)) (@aa _ _ _ _ _ (@bu _ _ _ _ _ (@aa _ _ _ _ _ (pv 5) (@aa _ _ _ _ _ (pv 6) ae (by rfl)) (by rfl))) ae (by rfl)) (by rfl))) ae (by rfl)) (by rfl) (by rfl) (by rfl) (by rfl) (by rfl)) (by rfl) (by first | exact .inl rfl | exact .inr rfl | assumption)) (@au _ _ _ (@bq _ _ _ _ (@bR _ _ _ _ _ _ _ _ _ _ _ _ xh yd yE cu (pv 4) (@aa _ _ _ _ _ (@bu _ _ _ _ _ (@aa _ _ _ _ _ (@bu _ _ _ _ _ (@aa _ _ _ _ _ (pv 5) (@aa _ _ _ _ _ (pv 6) ae (by rfl)) (by rfl))) (@aa _ _ _ _ _ (pv 8) (@aa _ _ _ _ _ (@bR _ _ _ _ _ _ _ _ _ _ _ _ xh A7 A8 (fM (by exact hr.units)) (pv 3) (@aa _ _ _ _ _ (@bu _ _ _ _ _ (@aa _ _ _ _ _ (@aK _ _ _ _ _ _ _ dX (@aK _ _ _ _ _ _ _ bJ (pv 1) (pv 5) (fun _ _=>rfl)) (pv 7) (fun _ _=>rfl)) (@aa _ _ _ _ _ (@bu _ _ _ _ _ (@aa _ _ _ _ _ (pv 5) (@aa _ _ _ _ _ (pv 7) ae (by rfl)) (by rfl))) ae (by rfl)) (by rfl))) ae (by rfl)) (by rfl) (by rfl) (by rfl) (by rfl) (by rfl)) ae (by rfl)) (by rfl)) (by rfl))) ae (by rfl)) (by rfl) (by rfl) (by rfl) (by rfl) (by rfl)) (by rfl))))) (by intro _ ;rfl)) (@au _ _ _ (@aN _ _ _ _ (pv 4)))))),?_⟩
  refine ⟨_,rfl,_,rfl,u,r,n,W,rows,rfl,U,dw,(fun x=>cS hW dw x),fun sp zs H1 hsp s1 f1 hz ez=>?_⟩
  have zl:zs.length≤1000:=by
   have:=fm rows (fun x=>cS hW dw x) u
   rw [← ez,fu] at this
   have:=U.len
   have:=U.hi
   omega
  refine ⟨(by show 0≤sizeLine;decide),fun l hl=>?_⟩
  have s2:aA H1 (upd H1 l (.lst [])):=aA.new hl
  have f2:(upd H1 l (.lst [])) l=some (.lst ((([]:List Ln5).map (·.1)).map V.ref)):=ab
  have nl:sp≠l:=ag f1 hl
  have hlH:H l=none:=none_of s1 hl
  generalize upd H1 l (.lst [])=H2 at s2 f2 ⊢
  have s02:=s1.trans s2
  refine ⟨_,rfl,a,n,W,rfl,hW.same s02,fun l2 ss H3 hl2 s3 g3 hst est=>⟨l2,rfl,⟨_,SqL.of g3⟩,?_⟩⟩
  have s03:=s02.trans s3
  have nl2:l≠l2:=ag f2 hl2
  have s13:=s2.trans s3
  refine ef (xs:=(ss.map (·.1)).map V.ref) (fun j σ H'=>∃ (v5 v6 v7 v8:Option V) (ls:List Ln5),σ = [some (tx u),some (.ref a),some (.ref r),some (.ref sp),some (.ref l),v5,v6,v7,v8]∧H' sp=some (.lst ((zs.map (·.1)).map V.ref))∧PtA H' zs∧H' l2=some (.lst ((ss.map (·.1)).map V.ref))∧StA H' ss∧Wy4 n W H' a∧H' l=some (.lst ((ls.map (·.1)).map V.ref))∧LnA H' ls∧ls.map (fun z=>(z.2.1.2,z.2.2))=((bo W).take j).map (lnZ (bf rows u) W)∧aA H H') ⟨none,none,none,none,[],rfl,s13 _ _ f1,hz.to (fun b xs e=>s13 _ _ e),g3,hst,hW.same s03,s3 _ _ f2,(fun z hz=>by cases hz),rfl,s03⟩ (fun j σ H' _ ⟨_,_,_,_,_,_,_,_,q,_⟩=>SqL.of q) ?_ ?_
  ·rintro j x σ H4 hx ⟨v5,v6,v7,v8,ls,rfl,f4,hz4,g4,st4,hW4,l4,hl4,el4,s4⟩
   rw [wL,wL] at hx
   cases hzj:ss[j]? with
   | none=>rw [hzj] at hx;cases hx
   | some z =>
    rw [hzj] at hx
    obtain rfl:=wO hx
    have hm:=wR hzj
    have aj:(bo W)[j]? = some z.2:=by rw [← est,wL,hzj];rfl
    have hj:j < (bo W).length:=(wG.mp aj).1
    have ok:okS W z.2=true:=cR.mp (wR aj)
    have hz0:=st4 z hm
    obtain ⟨z0,p1,p2⟩:=z
    have hz0:H4 z0=some (.tup [.int p1,.int p2]):=hz0
    have aj:(bo W)[j]? = some (p1,p2):=aj
    have ok:okS W (p1,p2)=true:=ok
    obtain ⟨in1,in2⟩:=ue U dw iw ok
    have okn:=oV ok
    have ok':=ok
    have okn':=okn
    unfold okS at ok' okn'
    simp only [xK,xR] at ok' okn'
    obtain ⟨⟨o1,o2⟩,o3,o4⟩:=ok'
    obtain ⟨_,o5,o6⟩:=okn'
    have hwl:=dq hW p1.toNat
    have aw:=e_ (W:=W) o1 o2
    refine ⟨z0,_,rfl,SqT.of hz0,rfl,_,_,rfl,_,_,rfl,rfl,?_⟩
    refine ⟨_,rfl,_,_,rfl,rfl,_,rfl,_,rfl,a,_,_,_,rfl,rfl,SqT.of hW4.at_,aw,_,rfl,(by rw [af];omega),_,_,rfl,rfl,(by rw [af];omega),?_⟩
    rw [af]
    change eJ (iO 7) _ _ (.int (nxZ W (p1,p2)).2) H4
    refine ⟨_,rfl,.inl ⟨rfl,_,SqL.of f4⟩,_,rfl,_,rfl,a,_,_,_,rfl,rfl,SqT.of hW4.at_,aw,_,rfl,_,_,_,rfl,rfl,(by rw [af];omega),jK o3 o4,[ltZ W (p1,p2)],rfl,(by show 1≤5000;decide),fun H5 s5=>?_⟩
    refine ⟨_,rfl,_,rfl,(aL (n:=2) (by decide)),fun b1 hb1=>?_⟩
    have s6:aA H5 (upd H5 b1 (.tup [.int p1,.int p2])):=aA.new hb1
    have g6:(upd H5 b1 (.tup [.int p1,.int p2])) b1=some (.tup [.int p1,.int p2]):=ab
    generalize upd H5 b1 (.tup [.int p1,.int p2])=H6 at s6 g6 ⊢
    refine ⟨(aL (n:=2) (by decide)),fun b2 hb2=>?_⟩
    have s7:aA H6 (upd H6 b2 (.tup [tx [inv (ltZ W (p1,p2))],.ref b1])):=aA.new hb2
    have g7:(upd H6 b2 (.tup [tx [inv (ltZ W (p1,p2))],.ref b1])) b2=some (.tup [tx [inv (ltZ W (p1,p2))],.ref b1]):=ab
    change tJ (.ref sp) [.ref b2] (upd H6 b2 (.tup [tx [inv (ltZ W (p1,p2))],.ref b1])) _
    generalize upd H6 b2 (.tup [tx [inv (ltZ W (p1,p2))],.ref b1])=H7 at s7 g7 ⊢
    have s47:=s5.trans (s6.trans s7)
    refine mY (p:=(p1,p2)) (s47 _ _ f4) (hz4.to fun c xs e=>s47 _ _ e) zl g7 (s7 _ _ g6) (by rw [ez];exact in1) ?_
    rw [ez]
    refine ⟨_,rfl,.inl ⟨rfl,_,SqL.of (s47 _ _ l4)⟩,_,rfl,_,rfl,(aL (n:=2) (by decide)),fun b3 hb3=>?_⟩
    have s8:aA H7 (upd H7 b3 (.tup [.int p1,.int p2])):=aA.new hb3
    have g8:(upd H7 b3 (.tup [.int p1,.int p2])) b3=some (.tup [.int p1,.int p2]):=ab
    generalize upd H7 b3 (.tup [.int p1,.int p2])=H8 at s8 g8 ⊢
    have s48:=s47.trans s8
    have hW8:=hW4.same s48
    refine ⟨_,rfl,_,rfl,.inl ⟨rfl,_,SqL.of (s48 _ _ f4)⟩,_,rfl,_,rfl,a,_,_,_,rfl,rfl,SqT.of hW8.at_,aw,_,rfl,_,_,_,rfl,rfl,(by rw [af];omega),jK o5 o6,?_⟩
    refine ⟨_,rfl,_,rfl,(aL (n:=2) (by decide)),fun b4 hb4=>?_⟩
    have s9:aA H8 (upd H8 b4 (.tup [.int p1,.int (nxZ W (p1,p2)).2])):=aA.new hb4
    have g9:(upd H8 b4 (.tup [.int p1,.int (nxZ W (p1,p2)).2])) b4=some (.tup [.int p1,.int (nxZ W (p1,p2)).2]):=ab
    generalize upd H8 b4 (.tup [.int p1,.int (nxZ W (p1,p2)).2])=H9 at s9 g9 ⊢
    refine ⟨(aL (n:=2) (by decide)),fun b5 hb5=>?_⟩
    have s10:aA H9 (upd H9 b5 (.tup [tx [ltZ W (nxZ W (p1,p2))],.ref b4])):=aA.new hb5
    have g10:(upd H9 b5 (.tup [tx [ltZ W (nxZ W (p1,p2))],.ref b4])) b5=some (.tup [tx [ltZ W (nxZ W (p1,p2))],.ref b4]):=ab
    change tJ (.ref sp) [.ref b5] (upd H9 b5 (.tup [tx [ltZ W (nxZ W (p1,p2))],.ref b4])) _
    generalize upd H9 b5 (.tup [tx [ltZ W (nxZ W (p1,p2))],.ref b4])=H10 at s10 g10 ⊢
    have s410:=s48.trans (s9.trans s10)
    refine mY (p:=nxZ W (p1,p2)) (s410 _ _ f4) (hz4.to fun c xs e=>s410 _ _ e) zl g10 (s10 _ _ g9) (by rw [ez];exact in2) ?_
    rw [ez]
    refine ⟨(aL (n:=3) (by decide)),fun b6 hb6=>?_⟩
    have s11:aA H10 (upd H10 b6 (.tup [.ref b3,.int ((cdZ (bf rows u) W (p1,p2)).1:Int),.int ((cdZ (bf rows u) W (p1,p2)).2:Int)])):=aA.new hb6
    have g11:(upd H10 b6 (.tup [.ref b3,.int ((cdZ (bf rows u) W (p1,p2)).1:Int),.int ((cdZ (bf rows u) W (p1,p2)).2:Int)])) b6=some (.tup [.ref b3,.int ((cdZ (bf rows u) W (p1,p2)).1:Int),.int ((cdZ (bf rows u) W (p1,p2)).2:Int)]):=ab
    have s411:=s410.trans s11
    have l11:=s411 _ _ l4
    have lsl:ls.length≤60:=by
     have:=xF List.length el4
     rw [fu,fu,w9] at this
     omega
    refine ⟨l,_,_,rfl,rfl,l11,by rw [fu,fu];omega,?_⟩
    have keepT:∀ (vv:List V) c xs,(upd H10 b6 (.tup [.ref b3,.int ((cdZ (bf rows u) W (p1,p2)).1:Int),.int ((cdZ (bf rows u) W (p1,p2)).2:Int)])) c=some (.tup xs)→(upd (upd H10 b6 (.tup [.ref b3,.int ((cdZ (bf rows u) W (p1,p2)).1:Int),.int ((cdZ (bf rows u) W (p1,p2)).2:Int)])) l (.lst vv)) c=some (.tup xs):=fun vv c xs e=>by
     rw [av (b_ e l11 (by intro z;cases z))];exact e
    have keep4:∀ (vv:List V) c xs,H4 c=some (.tup xs)→(upd (upd H10 b6 (.tup [.ref b3,.int ((cdZ (bf rows u) W (p1,p2)).1:Int),.int ((cdZ (bf rows u) W (p1,p2)).2:Int)])) l (.lst vv)) c=some (.tup xs):=fun vv c xs e=>keepT vv _ _ (s411 _ _ e)
    refine ⟨_,_,_,_,ls++[(b6,(b3,p1,p2),cdZ (bf rows u) W (p1,p2))],rfl,?_,hz4.to (keep4 _),?_,fun y hy=>keep4 _ _ _ (st4 y hy),⟨keep4 _ _ _ hW4.at_,hW4.le,hW4.lo,hW4.ws⟩,by rw [ab,wM,wM];rfl,fun y hy=>?_,?_,fun c o e=>?_⟩
    ·rw [av nl];exact s411 _ _ f4
    ·rw [av nl2.symm];exact s411 _ _ g4
    ·rcases xm.mp hy with hy | hy
     ·exact ⟨keep4 _ _ _ (hl4 y hy).1,keep4 _ _ _ (hl4 y hy).2⟩
     ·rw [wH.mp hy]
      exact ⟨keepT _ _ _ g11,keepT _ _ _ ((s9.trans (s10.trans s11)) _ _ g8)⟩
    ·rw [wM,el4,cE aj,wM]
     rfl
    ·rw [av (ag e hlH)];exact s411 _ _ (s4 _ _ e)
  ·rintro σ H4 ⟨v5,v6,v7,v8,ls,rfl,f4,hz4,g4,st4,hW4,l4,hl4,el4,s4⟩
   have e:(bo W).length=ss.length:=by rw [← est,fu]
   rw [fu,fu,← e,xQ] at el4
   exact ⟨_,rfl,k l ls _ hlH s4 l4 hl4 el4⟩
inductive gK (vs:List V)(H:Hp)(Q:VK)(u3_:XK):Prop
 | mk:∀ (u:List L) (a r:Addr) (n:Nat) (W:List (List L)) (rows:List (List (Int × Int))),(vs=[tx u,.ref a,.ref r])→(SK u n)→(Wy4 n W H a)→(Dw n W H r rows)→(∀ (l:Addr) (zs:List Cx5) (H':Hp),H l=none→aA H H'→H' l=some (.lst ((zs.map (·.1)).map V.ref))→CrA H' zs→zs.map crZ=crT (crB (bf rows u) W) (bo W) (bo W).length→Q (.ref l) H')→gK vs H Q u3_
theorem cut_from {xs:List V}{i:Nat}(h:i+1≤xs.length):gN xs (some ((i:Int)+1)) none=xs.drop (i+1):=by
 have e:HT.sIx xs.length 0 (some ((i:Int)+1))=i+1:=by
  unfold HT.sIx
  simp only []
  split <;> omega
 have e2:HT.sIx xs.length xs.length none=xs.length:=rfl
 unfold gN
 rw [e,e2,xv (by rw [xO];omega)]
abbrev dA:Stmt:=top 32
theorem m3:aJ ["_law_surface","_law_ways","_law_drawing","_law_lines","_law_found","_law_k","_law_more"] ["_law_surface","_law_ways","_law_drawing"] (ak dA):=⟨rfl,rfl,rfl,by decide +kernel,rfl,by decide +kernel,by decide +kernel⟩
theorem o8 (D:Df K mg "_law_all_crossings" dA)(T:Bt K w mg aB)(F_lcr:Fnc P w K mg base "_law_crosses" ["_law_one","_law_other"] 1 q_)(F_lchords:Fnc P w K mg base "_law_all_chords" ["_law_surface","_law_ways","_law_drawing"] 2 ft):Fnc P w K mg base "_law_all_crossings" ["_law_surface","_law_ways","_law_drawing"] 3 gK:=by
 have sc:=m3
 refine D.ok sc (fun _ _ _ _ _ _ us hl=>by obtain ⟨_,_,_,rfl⟩:=nc hl;rfl) (fun vs H Q E h=>?_) (fun f cdv A outer s H vs Q E hr h=>?_)
 ·obtain ⟨u,a,r,n,W,rows,rfl,_⟩:=h
  rfl
 ·obtain ⟨u,a,r,n,W,rows,rfl,U,hW,dw,k⟩:=h
  have l16:=aV
  have al:=fQ hW
  refine ⟨_,(@ah _ _ _ _ _ (@aF _ _ (3) _ _ _ _ sc.nd rfl (Or.inr rfl) (@aM _ _ _ _ _ _ _ _ _ _ _ F_lchords hr (by decide) rfl (@aa _ _ _ _ _ (pv 0) (@aa _ _ _ _ _ (pv 1) (@aa _ _ _ _ _ (pv 2) ae (by rfl)) (by rfl)) (by rfl)) (by decide) (by rfl) (by rfl)) (by rfl) (by first | exact .inl rfl | exact .inr rfl | assumption)) (@ah _ _ _ _ _ (@aF _ _ (4) _ _ _ _ sc.nd rfl (Or.inl rfl) (@bM _ _ _ _ ae) (by rfl) (by first | exact .inl rfl | exact .inr rfl | assumption)) (@ah _ _ _ _ _ (@bt _ _ _ _ _ _ _ _ xA rfl (@aT _ _ _ _ _ _ rfl T.range (@aa _ _ _ _ _ (@az _ _ _ _ _ _ _ _ _ aI (by rfl) T.len xt (@aa _ _ _ _ _ (pv 3) ae (by rfl)) (by decide) (by decide) (by rfl) (by rfl)) ae (by rfl)) (by rfl)) (@aE _ _ (5) _ sc.nd rfl (Or.inr rfl) (by first | exact .inl rfl | exact .inr rfl | assumption)) (@ah _ _ _ _ _ (@aF _ _ (6) _ _ _ _ sc.nd rfl (Or.inl rfl) (@bb _ _ _ _ _ _ _ _ _ _ iR (pv 3) (@br _ _ _ (@aX _ _ _ _ _ _ _ _ bU (pv 5) ao)) bF) (by rfl) (by first | exact .inl rfl | exact .inr rfl | assumption)) (@au _ _ _ (@bq _ _ _ _ (@bR _ _ _ _ _ _ _ _ _ _ _ _ xh ym yn bX (pv 4) (@aa _ _ _ _ _ (@bz _ _ _ _ _ _ _ (["_law_other","_law_lines","_law_k"]) (["_law_other"]) ([3,5]) _ _ _ _ (@bS _ _ _ _ _ _ rfl (by kernel_rfl)) rfl (@cb _ _ _ _ (pv 6)) (fun _ _ _ _=>@aE _ _ (0) _ (show (["_law_other","_law_lines","_law_k"]:List Str).Nodup from by decide +kernel) rfl (Or.inl rfl) (by first | exact .inl rfl | exact .inr rfl | assumption)) (fun _ _ _ _=>(@cY _ _ _ (by exact (@sP _ _ _ (@aM _ _ _ _ _ _ _ _ _ _ _ F_lcr hr (by decide) rfl (@aa _ _ _ _ _ (@aK _ _ _ _ _ _ _ (@jq _ (K) rfl) (pv 1) (pv 2) (fun _ _=>rfl)) (@aa _ _ _ _ _ (pv 0) ae (by rfl)) (by rfl)) (by decide) (by rfl) (by rfl)) (fun _=>rfl))))) (fun _ _ _ _=>by (exact (@bu _ _ _ _ _ (@aa _ _ _ _ _ (@aK _ _ _ _ _ _ _ (@cC _ (K) rfl) (@aK _ _ _ _ _ _ _ (@jq _ (K) rfl) (pv 1) (pv 2) (fun _ _=>rfl)) ao (fun _ _=>rfl)) (@aa _ _ _ _ _ (@aK _ _ _ _ _ _ _ (@cC _ (K) rfl) (pv 0) ao (fun _ _=>rfl)) ae (by rfl)) (by rfl))))) (by intro _ ;rfl)) ae (by rfl)) (by rfl) (by rfl) (by rfl) (by rfl) (by rfl)) (by rfl)))) (by intro _ ;rfl)) (@au _ _ _ (@aN _ _ _ _ (pv 4)))))),?_⟩
  refine ⟨_,rfl,_,rfl,_,rfl,u,a,r,n,W,rows,rfl,U,hW,dw,fun ln ls H1 hln s1 f1 hl1 el=>?_⟩
  have ll:ls.length=(bo W).length:=by
   have:=xF List.length el
   rwa [fu,fu] at this
  have lat:∀ (i:Nat) (z:Ln5),ls[i]? = some z→(bo W)[i]? = some z.2.1.2∧z.2.2=cdZ (bf rows u) W z.2.1.2:=fun i z h=>by
   have:=xF (fun l=>l[i]?) el
   simp only [wL] at this
   rw [h] at this
   cases hq:(bo W)[i]? with
   | none=>rw [hq] at this;cases this
   | some q =>
    rw [hq] at this
    have e:=wO this
    have e1:z.2.1.2=q:=xF Prod.fst e
    have e2:z.2.2=cdZ (bf rows u) W q:=xF Prod.snd e
    exact ⟨by rw [e1],by rw [e1,e2]⟩
  refine ⟨(by show 0≤sizeLine;decide),fun l hl=>?_⟩
  have s2:aA H1 (upd H1 l (.lst [])):=aA.new hl
  have f2:(upd H1 l (.lst [])) l=some (.lst ((([]:List Cx5).map (·.1)).map V.ref)):=ab
  have nl:ln≠l:=ag f1 hl
  have hlH:H l=none:=none_of s1 hl
  generalize upd H1 l (.lst [])=H2 at s2 f2 ⊢
  refine ⟨_,rfl,ln,_,rfl,.inl (SqL.of (s2 _ _ f1)),_,rfl,by rw [fu,fu];omega,by rw [fu,fu];omega,?_⟩
  rw [fu,fu,xu]
  refine bg (lo:=0) (n:=ls.length) (fun i σ H'=>∃ (v5 v6:Option V) (zs:List Cx5),σ = [some (tx u),some (.ref a),some (.ref r),some (.ref ln),some (.ref l),v5,v6]∧H' ln=some (.lst ((ls.map (·.1)).map V.ref))∧LnA H' ls∧H' l=some (.lst ((zs.map (·.1)).map V.ref))∧CrA H' zs∧zs.map crZ=crT (crB (bf rows u) W) (bo W) i∧aA H H') ⟨none,none,[],rfl,s2 _ _ f1,hl1.same s2,f2,(fun z hz=>by cases hz),rfl,s1.trans s2⟩ ?_ ?_
  ·rintro i σ H3 hi ⟨v5,v6,zs,rfl,f3,hl3,g3,hz3,ez3,s3⟩
   rw [zr]
   obtain ⟨z,hz⟩:∃ z,ls[i]? = some z:=⟨_,wF hi⟩
   obtain ⟨ai,ci⟩:=lat i z hz
   obtain ⟨y1,y2⟩:=hl3 z (wR hz)
   have zl:zs.length≤3600:=by
    have:=dS (f:=crB (bf rows u) W) (zs:=bo W) i
    rw [← ez3,fu] at this
    have:i*(bo W).length≤60*60:=zd (by omega) al
    omega
   refine ⟨_,rfl,_,rfl,_,_,rfl,rfl,_,rfl,ln,_,rfl,SqL.of f3,fun mr hmr=>?_⟩
   have ec:gN ((ls.map (·.1)).map V.ref) (some ((i:Int)+1)) none=((ls.drop (i+1)).map (·.1)).map V.ref:=by
    rw [cut_from (by rw [fu,fu];omega),zT,zT]
   rw [ec]
   have s4:aA H3 (upd H3 mr (.lst (((ls.drop (i+1)).map (·.1)).map V.ref))):=aA.new hmr
   have g4:(upd H3 mr (.lst (((ls.drop (i+1)).map (·.1)).map V.ref))) mr=some (.lst (((ls.drop (i+1)).map (·.1)).map V.ref)):=ab
   generalize upd H3 mr (.lst (((ls.drop (i+1)).map (·.1)).map V.ref))=H4 at s4 g4 ⊢
   have f4:=s4 _ _ f3
   have ati:((ls.map (·.1)).map V.ref)[i]? = some (.ref z.1):=by rw [wL,wL,hz];rfl
   refine ⟨_,rfl,.inl ⟨rfl,_,SqL.of (s4 _ _ g3)⟩,_,rfl,mr,rfl,⟨_,SqL.of g4⟩,?_⟩
   refine cA (xs:=((ls.drop (i+1)).map (·.1)).map V.ref) (own:=["_law_other"]) (cap:=[3,5]) (fun m ys σ H'=>∃ (v:Option V) (cs:List Cx5),σ = [v,some (.ref ln),some (.int (i:Int))]∧ys=(cs.map (·.1)).map V.ref∧cs.length≤m∧CrA H' cs∧cs.map crZ=((((bo W).drop (i+1)).take m).filter (crB (bf rows u) W z.2.1.2)).map (fun q=>(z.2.1.2,q))∧aA H4 H') ⟨none,[],rfl,rfl,wJ _,(fun z hz=>by cases hz),rfl,aA.refl _⟩ (fun m ys σ H' hm ⟨_,cs,_,e,e2,_⟩=>by rw [e,fu,fu];exact e2) (by rw [fu,fu,xO];omega) (fun m ys σ H' ⟨_,_,_,_,_,_,_,q⟩=>SqL.of (q _ _ g4)) ?_ ?_
   ·rintro m ys σ H5 x N hx ⟨v,cs,rfl,rfl,cl,hcs,ecs,s5⟩ hN
    rw [wL,wL,xZ] at hx
    cases hym:ls[i+1+m]? with
    | none=>rw [hym] at hx;cases hx
    | some y =>
     rw [hym] at hx
     obtain rfl:=wO hx
     obtain ⟨ay,cy⟩:=lat _ y hym
     have s35:=s4.trans s5
     obtain ⟨x1,x2⟩:=(hl3.same s35) y (wR hym)
     have y1':=s35 _ _ y1
     have et:((((bo W).drop (i+1)).take (m+1)).filter (crB (bf rows u) W z.2.1.2))=((((bo W).drop (i+1)).take m).filter (crB (bf rows u) W z.2.1.2))++(if crB (bf rows u) W z.2.1.2 y.2.1.2=true then [y.2.1.2] else []):=by
      rw [cE (x:=y.2.1.2) (by rw [xZ];exact ay),yQ]
      congr 1
      by_cases c:crB (bf rows u) W z.2.1.2 y.2.1.2=true
      ·rw [if_pos c,x6 (by exact c)];rfl
      ·rw [if_neg c,xV (by exact c)];rfl
     refine ⟨_,rfl,_,rfl,ln,_,_,_,rfl,rfl,SqL.of (s5 _ _ f4),cq ati,_,rfl,z.1,y.1,_,_,_,_,_,_,rfl,y1',x1,fun H6 s6=>⟨_,rfl,?_⟩⟩
     have em:rG z.2.2.1 z.2.2.2 y.2.2.1 y.2.2.2=crB (bf rows u) W z.2.1.2 y.2.1.2:=by unfold crB;rw [ci,cy]
     rw [em]
     have s46:=s5.trans s6
     have s56:=s35.trans s6
     refine iI (fun c=>?_) (fun c=>?_)
     ·refine ⟨_,rfl,_,rfl,ln,_,_,_,rfl,rfl,SqL.of (s46 _ _ f4),cq ati,z.1,_,_,_,rfl,rfl,SqT.of (s6 _ _ y1'),rfl,?_⟩
      refine ⟨_,rfl,y.1,_,_,_,rfl,rfl,SqT.of (s6 _ _ x1),rfl,(aL (n:=2) (by decide)),fun t ht=>hN _ _ _ ⟨_,cs++[(t,z.2.1,y.2.1)],rfl,by rw [wM,wM];rfl,by rw [wQ];exact Bb cl,?_,?_,s46.then ht⟩⟩
      ·refine ((hcs.same s6).same (aA.new ht)).app fun w' hw=>?_
       rw [wH.mp hw]
       exact ⟨ab,aA.new ht _ _ (s56 _ _ y2),aA.new ht _ _ (s6 _ _ x2)⟩
      ·rw [et,if_pos c,wM,wM,ecs];rfl
     ·exact hN _ _ _ ⟨_,cs,rfl,rfl,by omega,hcs.same s6,by rw [et,if_neg c,yf];exact ecs,s46⟩
   ·rintro ys σ H5 q ⟨v,cs,rfl,rfl,cl,hcs,ecs,s5⟩ hq
    rw [fu,fu,xO] at cl ecs
    rw [xv (by rw [xO];omega)] at ecs
    have s6:aA H5 (upd H5 q (.lst ((cs.map (·.1)).map V.ref))):=aA.new hq
    have g6:(upd H5 q (.lst ((cs.map (·.1)).map V.ref))) q=some (.lst ((cs.map (·.1)).map V.ref)):=ab
    generalize upd H5 q (.lst ((cs.map (·.1)).map V.ref))=H6 at s6 g6 ⊢
    have s36:=s4.trans (s5.trans s6)
    have f6:=s36 _ _ g3
    refine ⟨l,q,_,_,rfl,rfl,f6,g6,by rw [fu,fu,fu,fu];omega,?_⟩
    have keepT:∀ (vv:List V) b xs,H6 b=some (.tup xs)→(upd H6 l (.lst vv)) b=some (.tup xs):=fun vv b xs e=>by
     rw [av (b_ e f6 (by intro z;cases z))];exact e
    refine ⟨_,_,zs++cs,rfl,?_,(hl3.same s36).to (keepT _),by rw [ab,wM,wM],?_,?_,fun b o' e=>?_⟩
    ·rw [av nl];exact s36 _ _ f3
    ·exact ((hz3.same s36).to (keepT _)).app ((hcs.same s6).to (keepT _))
    ·rw [wM,ez3,ecs,jM ai]
    ·rw [av (ag e hlH)];exact s36 _ _ (s3 _ _ e)
  ·rintro σ H3 ⟨v5,v6,zs,rfl,f3,hl3,g3,hz3,ez3,s3⟩
   rw [ll] at ez3
   exact ⟨_,rfl,k l zs _ hlH s3 g3 hz3 ez3⟩
structure SmW (n k:Nat) (d:PyData):Prop where
 sh:d.showable=true
 nd:d.hasDict=false
 dp:d.depth≤k
 lv:d.leavesShort 40=true
 wt:d.weight≤n
theorem i8 {n k:Nat}:∀ {ds:List PyData},(∀ d∈ds,SmW n k d)→PyData.showableAll ds=true∧PyData.hasDictAll ds=false∧PyData.depthAll ds≤k∧PyData.leavesShortAll 40 ds=true∧PyData.weightAll ds≤ds.length*(n+1)
 | [],_=>⟨rfl,rfl,xE _,rfl,xE _⟩
 | d::r,h=>by
  obtain ⟨a,b,c,e,f⟩:=i8 (ds:=r) fun x hx=>h x (w_ _ hx)
  have S:=h d w4
  refine ⟨?_,?_,?_,?_,?_⟩
  ·show (PyData.showable d && PyData.showableAll r)=true
   rw [S.sh,a];rfl
  ·show (PyData.hasDict d || PyData.hasDictAll r)=false
   rw [S.nd,b];rfl
  ·show max (PyData.depth d) (PyData.depthAll r)≤k
   have:=S.dp
   omega
  ·show (PyData.leavesShort 40 d && PyData.leavesShortAll 40 r)=true
   rw [S.lv,e];rfl
  ·show PyData.weight d+1+PyData.weightAll r≤(r.length+1)*(n+1)
   have:=S.wt
   rw [By]
   omega
theorem i9 {n k m:Nat}{ds:List PyData}(h:∀ d∈ds,SmW n k d)(hm:ds.length*(n+1)≤m):SmW m (k+1) (.tuple ds):=by
 obtain ⟨a,b,c,e,f⟩:=i8 h
 exact ⟨a,b,by show PyData.depthAll ds+1≤_;omega,e,xq f hm⟩
theorem m4 {n k:Nat}{ds:List PyData}(h:∀ d∈ds,SmW n k d)(hk:k≤9)(hm:ds.length*(n+1)≤2 ^ 18):Sh (.list ds):=by
 obtain ⟨a,b,c,e,f⟩:=i8 h
 exact ⟨a,b,by show PyData.depthAll ds+1≤10;omega,s_ e (xq f hm)⟩
theorem m5 {i:Int}(h0:0≤i)(h1:i < 64):SmW 8 0 (.int i):=by
 have q:∀ x:Fin 64,PyData.showable (.int (x.val:Int))=true∧PyData.leavesShort 40 (.int (x.val:Int))=true∧PyData.weight (.int (x.val:Int))≤8:=by decide +kernel
 have:=q ⟨i.toNat,by omega⟩
 rw [show ((⟨i.toNat,by omega⟩:Fin 64).val:Int)=i by show ((i.toNat:Nat):Int)=i;omega] at this
 exact ⟨this.1,rfl,wJ _,this.2.1,this.2.2⟩
theorem o9 (x:L):SmW 1 0 (.str (toS [x])):=by
 have q:∀ x:L,PyData.showable (.str (toS [x]))=true∧PyData.leavesShort 40 (.str (toS [x]))=true∧PyData.weight (.str (toS [x]))≤1:=by decide +kernel
 exact ⟨(q x).1,rfl,wJ _,(q x).2.1,(q x).2.2⟩
def Lo (p:Int × Int):Prop:=(0≤p.1∧p.1 < 64)∧0≤p.2∧p.2 < 64
theorem rA {n:Nat}{W:List (List L)}{H:Hp}{a:Addr}(hW:Wy4 n W H a){p:Int × Int}(ok:okS W p=true):Lo p:=by
 unfold okS at ok
 simp only [xK,xR] at ok
 obtain ⟨⟨o1,o2⟩,o3,o4⟩:=ok
 have:=dq hW p.1.toNat
 have:=hW.le
 exact ⟨⟨o1,by omega⟩,o3,by omega⟩
theorem m7 {p:Int × Int}(h:Lo p):SmW 18 1 (stD p):=by
 refine i9 (n:=8) (fun d hd=>?_) (wJ _)
 simp only [xr,zh,xg,xS,zH] at hd
 rcases hd with rfl | rfl
 ·exact m5 h.1.1 h.1.2
 ·exact m5 h.2.1 h.2.2
theorem SmW.up {n k n' k':Nat}{d:PyData}(h:SmW n k d)(hn:n≤n')(hk:k≤k'):SmW n' k' d:=⟨h.sh,h.nd,xq h.dp hk,h.lv,xq h.wt hn⟩
theorem uh {c:(Int × Int) × (Int × Int)}(h1:Lo c.1)(h2:Lo c.2):SmW 38 2 (crD c):=by
 refine i9 (n:=18) (fun d hd=>?_) (wJ _)
 simp only [xg,xS,zH] at hd
 rcases hd with rfl | rfl
 ·exact m7 h1
 ·exact m7 h2
theorem uk {z:L × (Int × Int)}(h:Lo z.2):SmW 38 2 (cJ (dR z)):=by
 refine i9 (n:=18) (fun d hd=>?_) (wJ _)
 have hd:d∈[PyData.str (toS [z.1]),stD z.2]:=hd
 simp only [xg,xS,zH] at hd
 rcases hd with rfl | rfl
 ·exact (o9 z.1).up (by decide) (by decide)
 ·exact m7 h
theorem um {n:Nat}{W:List (List L)}{H H':Hp}{a r:Addr}{rows:List (List (Int × Int))}(hW:Wy4 n W H a)(dw:Dw n W H' r rows){x:L}{p:Int × Int}(h:p∈iD rows x):Lo p:=by
 have g:p∈rows.getD (x.val % 6) []:=by
  unfold iD at h
  split at h
  ·exact h
  ·exact zI.mp h
 rw [xf] at g
 cases e:rows[x.val % 6]? with
 | none=>rw [e] at g;cases g
 | some row =>
  rw [e] at g
  have g:p∈tD W (x.val % 6):=(dw.pm _ _ e).mem_iff.mp g
  exact rA hW (cR.mp (zP.mp g).1)
theorem uo {n:Nat}{W:List (List L)}{H H':Hp}{a r:Addr}{rows:List (List (Int × Int))}(hW:Wy4 n W H a)(dw:Dw n W H' r rows){u:List L}(U:SK u n):Sh (.list ((bf rows u).map fun z=>cJ (dR z))):=by
 refine m4 (n:=38) (k:=2) (fun d hd=>?_) (by decide) ?_
 ·obtain ⟨z,hz,rfl⟩:=xH.mp hd
  unfold bf at hz
  obtain ⟨x,_,hz⟩:=Ak.mp hz
  obtain ⟨p,hp,rfl⟩:=xH.mp hz
  exact uk (um hW dw hp)
 ·have:=fm rows (fun x=>cS hW dw x) u
  have:=U.len
  have:=U.hi
  rw [fu]
  omega
theorem uq {n:Nat}{W:List (List L)}{H:Hp}{a:Addr}(hW:Wy4 n W H a)(f:Int × Int→Int × Int→Bool):Sh (.list ((crT f (bo W) (bo W).length).map crD)):=by
 have al:=fQ hW
 refine m4 (n:=38) (k:=2) (fun d hd=>?_) (by decide) ?_
 ·obtain ⟨c,hc,rfl⟩:=xH.mp hd
  obtain ⟨_,h1,h2⟩:=pU (dj W) (wJ _) hc
  exact uh (rA hW (cR.mp h1)) (rA hW (cR.mp h2))
 ·have:=dS (f:=f) (zs:=bo W) (bo W).length
  have:(bo W).length*(bo W).length≤60*60:=zd al al
  rw [fu]
  omega
inductive gL (vs:List V)(H:Hp)(Q:VK)(u3_:XK):Prop
 | mk:∀ (u:List L) (a r:Addr) (n:Nat) (W:List (List L)) (rows:List (List (Int × Int))),(vs=[tx u,.ref a,.ref r])→(SK u n)→(Wy4 n W H a)→(Dw n W H r rows)→(∀ (H':Hp),aA H H'→Q (.bl true) H')→gL vs H Q u3_
theorem dC {n:Nat}(h:n≤3600):(n:Int).natAbs.log2 < 1920:=by
 rw [Int.natAbs_natCast]
 by_cases c:n=0
 ·rw [c];decide
 ·exact (Nat.log2_lt c).mpr (Nat.lt_of_le_of_lt h (xi (show 3600 < 2 ^ 12 by decide) (Nat.pow_le_pow_right (by decide) (by decide))))
abbrev fv:Stmt:=top 34
theorem o_:aJ ["_law_surface","_law_ways","_law_drawing","_law_due","_law_again","_law_told","_law_found","_law_few","_law_i","_law_j"] ["_law_surface","_law_ways","_law_drawing"] (ak fv):=⟨rfl,rfl,rfl,by decide +kernel,rfl,by decide +kernel,by decide +kernel⟩
theorem rB (D:Df K mg "_law_right" fv)(T:Bt K w mg aB)(Tsum:mg "sum" = none)(F_cross:Fnc P w K mg base "crossings" ["surface","ways","drawing"] 5 gJ)(F_spots:Fnc P w K mg base "_law_all_spots" ["_law_surface","_law_drawing"] 1 gE)(F_pts:Fnc P w K mg base "points" ["surface","ways","drawing"] 3 oR)(F_crossed:Fnc P w K mg base "crossed" ["surface","ways","drawing","i","j"] 6 fq)(F_lcross:Fnc P w K mg base "_law_all_crossings" ["_law_surface","_law_ways","_law_drawing"] 3 gK)(F_count:Fnc P w K mg base "_law_count" ["_law_found","_law_i","_law_j"] 1 gF):Fnc P w K mg base "_law_right" ["_law_surface","_law_ways","_law_drawing"] 7 gL:=by
 have sc:=o_
 refine D.ok sc (fun _ _ _ _ _ _ us hl=>by obtain ⟨_,_,_,rfl⟩:=nc hl;rfl) (fun vs H Q E h=>?_) (fun f cdv A outer s H vs Q E hr h=>?_)
 ·obtain ⟨u,a,r,n,W,rows,rfl,_⟩:=h
  rfl
 ·obtain ⟨u,a,r,n,W,rows,rfl,U,hW,dw,k⟩:=h
  have l16:=aV
  have al:=fQ hW
  have hle:=hW.le
  have shp:=uo hW dw U
  have shc:=uq hW (crB (bf rows u) W)
  have cl:(crT (crB (bf rows u) W) (bo W) (bo W).length).length≤3600:=by
   have:=dS (f:=crB (bf rows u) W) (zs:=bo W) (bo W).length
   have:(bo W).length*(bo W).length≤60*60:=zd al al
   omega
  refine ⟨_,(@ah _ _ _ _ _ (@aF _ _ (3) _ _ _ _ sc.nd rfl (Or.inl rfl) (@aM _ _ _ _ _ _ _ _ _ _ _ F_lcross hr (by decide) rfl (@aa _ _ _ _ _ (pv 0) (@aa _ _ _ _ _ (pv 1) (@aa _ _ _ _ _ (pv 2) ae (by rfl)) (by rfl)) (by rfl)) (by decide) (by rfl) (by rfl)) (by rfl) (by first | exact .inl rfl | exact .inr rfl | assumption)) (@ah _ _ _ _ _ (@bt _ _ _ _ _ _ _ _ xA rfl (@aT _ _ _ _ _ _ rfl T.range (@aa _ _ _ _ _ ao ae (by rfl)) (by rfl)) (@aE _ _ (4) _ sc.nd rfl (Or.inl rfl) (by first | exact .inl rfl | exact .inr rfl | assumption)) (@ah _ _ _ _ _ (@aF _ _ (5) _ _ _ _ sc.nd rfl (Or.inl rfl) (@aM _ _ _ _ _ _ _ _ _ _ _ F_pts hr (by decide) rfl (@aa _ _ _ _ _ (pv 0) (@aa _ _ _ _ _ (pv 1) (@aa _ _ _ _ _ (pv 2) ae (by rfl)) (by rfl)) (by rfl)) (by decide) (by rfl) (by rfl)) (by rfl) (by first | exact .inl rfl | exact .inr rfl | assumption)) (@ah _ _ _ _ _ (@aF _ _ (6) _ _ _ _ sc.nd rfl (Or.inl rfl) (@aM _ _ _ _ _ _ _ _ _ _ _ F_cross hr (by decide) rfl (@aa _ _ _ _ _ (pv 0) (@aa _ _ _ _ _ (pv 1) (@aa _ _ _ _ _ (pv 2) ae (by rfl)) (by rfl)) (by rfl)) (by decide) (by rfl) (by rfl)) (by rfl) (by first | exact .inl rfl | exact .inr rfl | assumption)) (@ah _ _ _ _ _ (@d8 _ _ _ _ _ _ _ _ (@PW.pt _ _ _ (@rO _ _ _ _ _ _ _ (@aR _ _ _ _ _ _ _ _ nu (@az _ _ _ _ _ _ _ _ _ (@bN _ (by exact hr.gd) (by exact hr.units)) (by rfl) T.repr fJ (@aa _ _ _ _ _ (pv 5) ae (by rfl)) (by decide) (by decide) (by rfl) (by rfl)) (@az _ _ _ _ _ _ _ _ _ (@bN _ (by exact hr.gd) (by exact hr.units)) (by rfl) T.repr fJ (@aa _ _ _ _ _ (@aM _ _ _ _ _ _ _ _ _ _ _ F_spots hr (by decide) rfl (@aa _ _ _ _ _ (pv 0) (@aa _ _ _ _ _ (pv 2) ae (by rfl)) (by rfl)) (by decide) (by rfl) (by rfl)) ae (by rfl)) (by decide) (by decide) (by rfl) (by rfl)) (bh _)) (@ph _ _ _ _ (@aR _ _ _ _ _ _ _ _ nu (@az _ _ _ _ _ _ _ _ _ (@bN _ (by exact hr.gd) (by exact hr.units)) (by rfl) T.repr fJ (@aa _ _ _ _ _ (pv 6) ae (by rfl)) (by decide) (by decide) (by rfl) (by rfl)) (@az _ _ _ _ _ _ _ _ _ (@bN _ (by exact hr.gd) (by exact hr.units)) (by rfl) T.repr fJ (@aa _ _ _ _ _ (pv 3) ae (by rfl)) (by decide) (by decide) (by rfl) (by rfl)) (bh _))))) (@au _ _ _ (@aN _ _ _ _ kj)) bP) (@ah _ _ _ _ _ (@bq _ _ _ _ (@bR _ _ _ _ _ _ _ _ _ _ _ _ xh yd yE cu (pv 5) (@aa _ _ _ _ _ pg ae (by rfl)) (by rfl) (by rfl) (by rfl) (by rfl) (by rfl)) (by rfl)) (@au _ _ _ (@bq _ _ _ _ (@bR _ _ _ _ _ _ _ _ _ _ _ _ xh yd yE cu (pv 6) (@aa _ _ _ _ _ pg ae (by rfl)) (by rfl) (by rfl) (by rfl) (by rfl) (by rfl)) (by rfl))))))) (by intro _ ;rfl)) (@ah _ _ _ _ _ (@aF _ _ (7) _ _ _ _ sc.nd rfl (Or.inl rfl) (@iP _ _ _ _ _ _ _ _ gU (@az _ _ _ _ _ _ _ _ _ (@oI _ rfl) (by rfl) Tsum vi (@aa _ _ _ _ _ (@bz _ _ _ _ _ _ _ (["_law_word"]) (["_law_word"]) ([]) _ _ _ _ (@bS _ _ _ _ _ _ rfl (by kernel_rfl)) rfl (@je _ _ _ _ (pv 1)) (fun _ _ _ _=>@aE _ _ (0) _ (show (["_law_word"]:List Str).Nodup from by decide +kernel) rfl (Or.inl rfl) (by first | exact .inl rfl | exact .inr rfl | assumption)) (fun _ _ _ _=>bG) (fun _ _ _ _=>by (exact (@az _ _ _ _ _ _ _ _ _ aP (by rfl) T.len xt (@aa _ _ _ _ _ (pv 0) ae (by rfl)) (by decide) (by decide) (by rfl) (by rfl)))) (by intro _ ;rfl)) ae (by rfl)) (by decide) (by decide) (by rfl) (by rfl)) ao (bh _)) (by rfl) (by first | exact .inl rfl | exact .inr rfl | assumption)) (@ah _ _ _ _ _ (@bt _ _ _ _ _ _ _ _ xA rfl (@aT _ _ _ _ _ _ rfl T.range (@aa _ _ _ _ _ (@az _ _ _ _ _ _ _ _ _ aI (by rfl) T.len xt (@aa _ _ _ _ _ (pv 1) ae (by rfl)) (by decide) (by decide) (by rfl) (by rfl)) ae (by rfl)) (by rfl)) (@aE _ _ (8) _ sc.nd rfl (Or.inl rfl) (by first | exact .inl rfl | exact .inr rfl | assumption)) (@au _ _ _ (@bt _ _ _ _ _ _ _ _ xA rfl (@aT _ _ _ _ _ _ rfl T.range (@aa _ _ _ _ _ (@fU _ _ _ _ _ _ _ _ (@fW _ _ _ (pv 7) (fun _=>rfl)) (@az _ _ _ _ _ _ _ _ _ aI (by rfl) T.len xt (@aa _ _ _ _ _ (pv 1) ae (by rfl)) (by decide) (by decide) (by rfl) (by rfl)) (@aX _ _ _ _ _ _ _ _ bU (pv 8) ao)) ae (by rfl)) (by rfl)) (@aE _ _ (9) _ sc.nd rfl (Or.inl rfl) (by first | exact .inl rfl | exact .inr rfl | assumption)) (@au _ _ _ (@d8 _ _ _ _ _ _ _ _ (@aR _ _ _ _ _ _ _ _ nu (@az _ _ _ _ _ _ _ _ _ c_ (by rfl) T.repr fJ (@aa _ _ _ _ _ (@aM _ _ _ _ _ _ _ _ _ _ _ F_crossed hr (by decide) rfl (@sN _ _ _ _ _ (pv 0) (@sN _ _ _ _ _ (pv 1) (@sN _ _ _ _ _ (pv 2) (@sN _ _ _ _ _ (pv 8) (@sN _ _ _ _ _ (pv 9) ae (by rfl)) (by rfl)) (by rfl)) (by rfl)) (by rfl)) (by decide) (by rfl) (by rfl)) ae (by rfl)) (by decide) (by decide) (by rfl) (by rfl)) (@az _ _ _ _ _ _ _ _ _ c_ (by rfl) T.repr fJ (@aa _ _ _ _ _ (@aM _ _ _ _ _ _ _ _ _ _ _ F_count hr (by decide) rfl (@aa _ _ _ _ _ (pv 3) (@aa _ _ _ _ _ (pv 8) (@aa _ _ _ _ _ (pv 9) ae (by rfl)) (by rfl)) (by rfl)) (by decide) (by rfl) (by rfl)) ae (by rfl)) (by decide) (by decide) (by rfl) (by rfl)) (bh _)) (@au _ _ _ (@aN _ _ _ _ kj)) bP)) (by intro _ ;rfl))) (by intro _ ;rfl)) (@au _ _ _ (@aN _ _ _ _ kj)))))),?_⟩
  refine ⟨_,rfl,_,rfl,_,rfl,u,a,r,n,W,rows,rfl,U,hW,dw,fun dl ds H1 hdl s1 f1 hd ed=>?_⟩
  have dsl:ds.length≤3600:=by
   have:=xF List.length ed
   rw [fu] at this
   omega
  refine ⟨_,rfl,by decide,by decide,bg (lo:=0) (n:=2) (fun i σ H'=>∃ (v4 v5 v6:Option V),σ = [some (tx u),some (.ref a),some (.ref r),some (.ref dl),v4,v5,v6,none,none,none]∧H' dl=some (.lst ((ds.map (·.1)).map V.ref))∧CrA H' ds∧aA H H') ⟨none,none,none,rfl,f1,hd,s1⟩ ?_ ?_⟩
  ·rintro i σ H2 hi ⟨v4,v5,v6,rfl,f2,hd2,s2⟩
   refine ⟨_,rfl,_,rfl,_,rfl,u,a,r,n,W,rows,rfl,U,hW.same s2,dw.same s2,fun tl ts H3 htl s3 f3 hts ets=>?_⟩
   refine ⟨_,rfl,_,rfl,_,rfl,u,a,r,n,W,rows,rfl,U,(hW.same s2).same s3,(dw.same s2).same s3,fun cl' cs H4 hcl s4 f4 hcs ecs=>?_⟩
   have ntl:dl≠tl:=ag f2 htl
   have ncl:dl≠cl':=ag (s3 _ _ f2) hcl
   have ntc:tl≠cl':=ag f3 hcl
   have htlH:H tl=none:=none_of s2 htl
   have hclH:H cl'=none:=none_of (s2.trans s3) hcl
   have csl:cs.length≤3600:=by
    have:=xF List.length ecs
    rw [fu] at this
    omega
   have tsl:ts.length≤720:=by
    have:=fm rows (fun x=>cS hW dw x) u
    rw [← ets,fu] at this
    have:=U.len
    have:=U.hi
    omega
   refine ⟨_,rfl,tl,_,rfl,.lst (s4 _ _ f3) (rm (hts.to fun b xs e=>s4 _ _ e)),(by rw [ets];exact shp),?_⟩
   refine ⟨_,rfl,_,rfl,u,r,n,W,rows,rfl,U,((dw.same s2).same s3).same s4,(fun x=>cS hW dw x),fun sl ss H5 hsl s5 f5 hss ess=>⟨sl,_,rfl,.lst f5 (rm hss),(by rw [ess];exact shp),rfl,_,rfl,?_⟩⟩
   rw [ets,ess]
   have s25:=s3.trans (s4.trans s5)
   have f45:=s5 _ _ f4
   refine nP rfl ?_
   refine ⟨_,rfl,cl',_,rfl,.lst f45 (ug (hcs.same s5)),(by rw [ecs];exact shc),_,rfl,dl,_,rfl,.lst (s25 _ _ f2) (ug (hd2.same s25)),(by rw [ed];exact shc),rfl,_,rfl,?_⟩
   rw [ecs,ed]
   refine nP rfl ?_
   have f35:=(s4.trans s5) _ _ f3
   refine ⟨_,rfl,.inl ⟨rfl,_,SqL.of f35⟩,tl,_,_,rfl,rfl,f35,by rw [fu,fu];omega,?_⟩
   have f6:(upd H5 tl (.lst ((ts.map (·.1)).map V.ref++[.non]))) cl'=some (.lst ((cs.map (·.1)).map V.ref)):=by rw [av ntc.symm];exact f45
   have k6:∀ b o,b≠tl→H5 b=some o→(upd H5 tl (.lst ((ts.map (·.1)).map V.ref++[.non]))) b=some o:=fun b o nb e=>by rw [av nb];exact e
   generalize upd H5 tl (.lst ((ts.map (·.1)).map V.ref++[.non]))=H6 at f6 k6 ⊢
   refine ⟨_,rfl,.inl ⟨rfl,_,SqL.of f6⟩,cl',_,_,rfl,rfl,f6,by rw [fu,fu];omega,?_⟩
   have k7:∀ (vv:List V) b o,b≠tl→b≠cl'→H5 b=some o→(upd H6 cl' (.lst vv)) b=some o:=fun vv b o n1 n2 e=>by rw [av n2];exact k6 _ _ n1 e
   refine ⟨_,_,_,rfl,k7 _ _ _ ntl ncl (s25 _ _ f2),fun z hz=>?_,fun b o e=>k7 _ _ _ (ag e htlH) (ag e hclH) (s25 _ _ (s2 _ _ e))⟩
   have tt:∀ b xs,H5 b=some (.tup xs)→(upd H6 cl' (.lst ((cs.map (·.1)).map V.ref++[.non]))) b=some (.tup xs):=fun b xs e=>k7 _ _ _ (b_ e f35 (by intro z;cases z)) (b_ e f45 (by intro z;cases z)) e
   exact ((hd2.same s25).to tt) z hz
  ·rintro σ H2 ⟨v4,v5,v6,rfl,f2,hd2,s2⟩
   refine ⟨_,rfl,a,rfl,⟨_,SqT.of (s2 _ _ hW.at_)⟩,?_⟩
   have f2':=hW.same s2
   refine gu (xs:=W.map tx) (own:=["_law_word"]) (cap:=[]) (fun m ys σ H'=>∃ (v:Option V) (ns:List Int),σ = [v]∧ys=ns.map V.int∧ns.length=m∧H'=H2) ⟨none,[],rfl,rfl,rfl,rfl⟩ (fun m ys σ H' hm ⟨_,ns,_,e,e2,_⟩=>by rw [e,fu];omega) (by rw [fu];omega) (fun m ys σ H' ⟨_,_,_,_,_,q⟩=>by rw [q];exact SqT.of f2'.at_) ?_ ?_
   ·rintro m ys σ H3 x N hx ⟨v,ns,rfl,rfl,nl,rfl⟩ hN
    rw [wL] at hx
    cases hwm:W[m]? with
    | none=>rw [hwm] at hx;cases hx
    | some w' =>
     rw [hwm] at hx
     obtain rfl:=wO hx
     have:=(hW.ws w' (wR hwm)).2.1
     exact ⟨_,rfl,_,rfl,(by rw [af];omega),hN _ _ _ ⟨_,ns++[((toS w').length:Int)],rfl,by rw [wM];rfl,by rw [wQ,nl];rfl,rfl⟩⟩
   ·rintro ys σ H3 q ⟨v,ns,rfl,rfl,nl,rfl⟩ hq
    have s3:aA H3 (upd H3 q (.lst (ns.map V.int))):=aA.new hq
    refine ⟨q,ns,rfl,SqL.of ab,_,_,rfl,rfl,?_⟩
    generalize upd H3 q (.lst (ns.map V.int))=H4 at s3 ⊢
    have s4:=s2.trans s3
    have f4:=s3 _ _ f2
    have hd4:=hd2.same s3
    have hW4:=hW.same s4
    refine ⟨_,rfl,a,_,rfl,.inr (SqT.of hW4.at_),_,rfl,by rw [fu];omega,by rw [fu];omega,?_⟩
    rw [fu,xu]
    refine bg (lo:=0) (n:=W.length) (fun i σ H'=>∃ (v8 v9:Option V),σ = [some (tx u),some (.ref a),some (.ref r),some (.ref dl),v4,v5,v6,some (.bl (decide (ns.sum < 31))),v8,v9]∧H' dl=some (.lst ((ds.map (·.1)).map V.ref))∧CrA H' ds∧aA H H') ⟨none,none,rfl,f4,hd4,s4⟩ ?_ ?_
    ·rintro i σ H5 hi ⟨v8,v9,rfl,f5,hd5,s5⟩
     rw [zr]
     have hW5:=hW.same s5
     generalize decide (ns.sum < 31)=few
     cases few
     ·refine ⟨_,rfl,_,rfl,?_⟩
      refine m_ ⟨_,rfl,_,_,rfl,rfl,_,rfl,by omega,by omega,?_⟩
      rw [show ((i:Int)+1).toNat=i+1 by omega]
      refine bg (lo:=0) (n:=i+1) (fun j σ H'=>∃ (v9:Option V),σ = [some (tx u),some (.ref a),some (.ref r),some (.ref dl),v4,v5,v6,some (.bl false),some (.int (i:Int)),v9]∧H' dl=some (.lst ((ds.map (·.1)).map V.ref))∧CrA H' ds∧aA H H') ⟨_,rfl,f5,hd5,s5⟩ ?_ ?_
      ·rintro j σ H6 hj ⟨v9,rfl,f6,hd6,s6⟩
       rw [zr]
       refine ⟨_,rfl,_,rfl,_,rfl,_,rfl,_,rfl,u,a,r,n,W,rows,(i:Int),(j:Int),rfl,U,hW.same s6,dw.same s6,fun H7 s7=>⟨_,rfl,dC (xq yC cl),?_⟩⟩
       refine ⟨_,rfl,_,rfl,_,rfl,dl,ds,(i:Int),(j:Int),rfl,s7 _ _ f6,hd6.same s7,by omega,fun H8 s8=>⟨_,rfl,dC (by rw [ed];exact xq yC cl),rfl,_,rfl,nP (by rw [ed]) ?_⟩⟩
       exact ⟨_,rfl,(s7.trans s8) _ _ f6,hd6.same (s7.trans s8),s6.trans (s7.trans s8)⟩
      ·rintro σ H6 ⟨v9,rfl,f6,hd6,s6⟩
       exact ⟨_,_,rfl,f6,hd6,s6⟩
     ·refine ⟨_,rfl,_,rfl,ux ⟨_,rfl,a,_,rfl,.inr (SqT.of hW5.at_),_,rfl,by rw [fu];omega,by rw [fu];omega,?_⟩⟩
      rw [fu,xu]
      refine bg (lo:=0) (n:=W.length) (fun j σ H'=>∃ (v9:Option V),σ = [some (tx u),some (.ref a),some (.ref r),some (.ref dl),v4,v5,v6,some (.bl true),some (.int (i:Int)),v9]∧H' dl=some (.lst ((ds.map (·.1)).map V.ref))∧CrA H' ds∧aA H H') ⟨_,rfl,f5,hd5,s5⟩ ?_ ?_
      ·rintro j σ H6 hj ⟨v9,rfl,f6,hd6,s6⟩
       rw [zr]
       refine ⟨_,rfl,_,rfl,_,rfl,_,rfl,_,rfl,u,a,r,n,W,rows,(i:Int),(j:Int),rfl,U,hW.same s6,dw.same s6,fun H7 s7=>⟨_,rfl,dC (xq yC cl),?_⟩⟩
       refine ⟨_,rfl,_,rfl,_,rfl,dl,ds,(i:Int),(j:Int),rfl,s7 _ _ f6,hd6.same s7,by omega,fun H8 s8=>⟨_,rfl,dC (by rw [ed];exact xq yC cl),rfl,_,rfl,nP (by rw [ed]) ?_⟩⟩
       exact ⟨_,rfl,(s7.trans s8) _ _ f6,hd6.same (s7.trans s8),s6.trans (s7.trans s8)⟩
      ·rintro σ H6 ⟨v9,rfl,f6,hd6,s6⟩
       exact ⟨_,_,rfl,f6,hd6,s6⟩
    ·rintro σ H5 ⟨v8,v9,rfl,f5,hd5,s5⟩
     exact k _ s5
end
inductive m8 (K:PySem.W.Frag)(vs:List V)(H:Hp)(Q:VK)(u3_:XK):Prop
 | mk:∀ (a:Addr) (ns:List Int),(vs=[.ref a])→(SqL K H a (ns.map V.int))→(ns.length≤63)→(∀ H',Q (.bl true) H')→m8 K vs H Q u3_
section
variable {P:Program} {w:World} {K:PySem.W.Frag} {mg:Str→Option Value} {base:Heap} {aB:Addr}
theorem pe {α:Type}{xs:List α}{j:Int}(h0:0≤j)(h1:j < xs.length):∃ v,v∈xs∧atI xs j=some v:=by
 have hj:j.toNat < xs.length:=by omega
 refine ⟨xs[j.toNat],xM hj,?_⟩
 unfold atI ixN
 rw [if_pos h0,if_pos (by omega)]
 exact wF hj
abbrev iH:Stmt:=top 35
theorem ur:aJ ["_law_script","_law_tape_here","_law_k","_law_surface","_law_long","_law_ways","_law_j"] ["_law_script"] (ak iH):=⟨rfl,rfl,rfl,by decide +kernel,rfl,by decide +kernel,by decide +kernel⟩
theorem vz {f:Addr}{fd:FuncData}(D:Fun K "law" "law" iH f fd)(T:Bt K w mg aB)(F_tape:Fnc P w K mg base "_law_tape" ["_law_script"] 1 (lG K))(F_draw:Fnc P w K mg base "_law_draw" ["_law_tape_here","_law_many"] 1 cQ)(F_row:Fnc P w K mg base "_law_any_row" ["_law_tape_here","_law_most"] 2 my)(F_sways:Fnc P w K mg base "_law_some_ways" ["_law_tape_here","_law_many","_law_most","_law_long"] 4 i4)
  (F_adrw:Fnc P w K mg base "_law_any_drawing" ["_law_tape_here","_law_surface","_law_ways"] 2 i6) (F_right:Fnc P w K mg base "_law_right" ["_law_surface","_law_ways","_law_drawing"] 7 gL):m9 P w K mg base CX0 8 f fd ["_law_script"] (m8 K):=by
 have sc:=ur
 refine D.ok sc (fun vs H Q E h=>?_) (fun cdv A outer s H vs Q E hr h=>?_)
 ·obtain ⟨a,ns,rfl,_⟩:=h
  rfl
 ·obtain ⟨a,ns,rfl,hS,hlen,q⟩:=h
  have l16:=aV
  refine ⟨_,(@ah _ _ _ _ _ (@aF _ _ (1) _ _ _ _ sc.nd rfl (Or.inl rfl) (@aM _ _ _ _ _ _ _ _ _ _ _ F_tape hr (by decide) rfl (@aa _ _ _ _ _ (pv 0) ae (by rfl)) (by decide) (by rfl) (by rfl)) (by rfl) (by first | exact .inl rfl | exact .inr rfl | assumption)) (@ah _ _ _ _ _ (@bt _ _ _ _ _ _ _ _ xA rfl (@aT _ _ _ _ _ _ rfl T.range (@aa _ _ _ _ _ ao ae (by rfl)) (by rfl)) (@aE _ _ (2) _ sc.nd rfl (Or.inl rfl) (by first | exact .inl rfl | exact .inr rfl | assumption)) (@ah _ _ _ _ _ (@aF _ _ (3) _ _ _ _ sc.nd rfl (Or.inl rfl) (@aM _ _ _ _ _ _ _ _ _ _ _ F_row hr (by decide) rfl (@aa _ _ _ _ _ (pv 1) (@aa _ _ _ _ _ ao ae (by rfl)) (by rfl)) (by decide) (by rfl) (by rfl)) (by rfl) (by first | exact .inl rfl | exact .inr rfl | assumption)) (@ah _ _ _ _ _ (@aF _ _ (4) _ _ _ _ sc.nd rfl (Or.inl rfl) (@aK _ _ _ _ _ _ _ aU (@bM _ _ _ _ (@aa _ _ _ _ _ ao (@aa _ _ _ _ _ ao (@aa _ _ _ _ _ ao (@aa _ _ _ _ _ ao ae (by rfl)) (by rfl)) (by rfl)) (by rfl))) (@aM _ _ _ _ _ _ _ _ _ _ _ F_draw hr (by decide) rfl (@aa _ _ _ _ _ (pv 1) (@aa _ _ _ _ _ ao ae (by rfl)) (by rfl)) (by decide) (by rfl) (by rfl)) (fun _ _=>rfl)) (by rfl) (by first | exact .inl rfl | exact .inr rfl | assumption)) (@ah _ _ _ _ _ (@d8 _ _ _ _ _ _ _ _ (@PW.pt _ _ _ (@jb _ _ _ _ _ _ _ (@aR _ _ _ _ _ _ _ _ fV (pv 2) ao (bh _)) (@fT _ _ _ _ (@aR _ _ _ _ _ _ _ _ fV (@aM _ _ _ _ _ _ _ _ _ _ _ F_draw hr (by decide) rfl (@aa _ _ _ _ _ (pv 1) (@aa _ _ _ _ _ ao ae (by rfl)) (by rfl)) (by decide) (by rfl) (by rfl)) ao (bh _))))) (@au _ _ _ (@aF _ _ (4) _ _ _ _ sc.nd rfl (Or.inl rfl) ao (by rfl) (by first | exact .inl rfl | exact .inr rfl | assumption))) bP) (@ah _ _ _ _ _ (@aF _ _ (5) _ _ _ _ sc.nd rfl (Or.inl rfl) (@aM _ _ _ _ _ _ _ _ _ _ _ F_sways hr (by decide) rfl (@aa _ _ _ _ _ (pv 1) (@aa _ _ _ _ _ (@aX _ _ _ _ _ _ _ _ dF (@az _ _ _ _ _ _ _ _ _ aP (by rfl) T.len xt (@aa _ _ _ _ _ (pv 3) ae (by rfl)) (by decide) (by decide) (by rfl) (by rfl)) ao) (@aa _ _ _ _ _ ao (@aa _ _ _ _ _ (pv 4) ae (by rfl)) (by rfl)) (by rfl)) (by rfl)) (by decide) (by rfl) (by rfl)) (by rfl) (by first | exact .inl rfl | exact .inr rfl | assumption)) (@au _ _ _ (@bt _ _ _ _ _ _ _ _ xA rfl (@aT _ _ _ _ _ _ rfl T.range (@aa _ _ _ _ _ ao ae (by rfl)) (by rfl)) (@aE _ _ (6) _ sc.nd rfl (Or.inl rfl) (by first | exact .inl rfl | exact .inr rfl | assumption)) (@au _ _ _ (@d8 _ _ _ _ _ _ _ _ (@rP _ _ _ _ (@fW _ _ _ (@aM _ _ _ _ _ _ _ _ _ _ _ F_right hr (by decide) rfl (@aa _ _ _ _ _ (pv 3) (@aa _ _ _ _ _ (pv 5) (@aa _ _ _ _ _ (@aM _ _ _ _ _ _ _ _ _ _ _ F_adrw hr (by decide) rfl (@aa _ _ _ _ _ (pv 1) (@aa _ _ _ _ _ (pv 3) (@aa _ _ _ _ _ (pv 5) ae (by rfl)) (by rfl)) (by rfl)) (by decide) (by rfl) (by rfl)) ae (by rfl)) (by rfl)) (by rfl)) (by decide) (by rfl) (by rfl)) (fun _=>rfl))) (@au _ _ _ (@aN _ _ _ _ kj)) bP)) (by intro _ ;rfl))))))) (by intro _ ;rfl)) (@au _ _ _ (@aN _ _ _ _ kj)))),?_⟩
  refine ⟨_,rfl,a,ns,rfl,hS,hlen,fun d c H1 _ _ F1 _=>?_⟩
  refine ⟨_,rfl,by decide,by decide,bg (lo:=0) (n:=3) (fun i σ H'=>∃ (b2 b3 b4 b5 b6:Option V),σ = [some (.ref a),some (.ref d),b2,b3,b4,b5,b6]∧Tp H' d c) ⟨none,none,none,none,none,rfl,F1⟩ ?_ ?_⟩
  ·rintro i σ H1 hi ⟨b2,b3,b4,b5,b6,rfl,F1⟩
   refine ⟨_,rfl,d,c,_,rfl,F1,by decide,by decide,fun u n H2 U hn F2 _=>?_⟩
   have hul:=U.len
   have h1:=U.lo
   have h6:=U.hi
   have hll:(toS u).length≤sizeLine:=by rw [af];omega
   have e2:((toS u).length:Int) / 2=(n:Int):=by rw [af];omega
   refine ⟨(aL (n:=4) (by decide)),fun l0 hl0=>⟨_,rfl,d,c,_,rfl,F2.new hl0,by decide,by decide,fun y H3 y0 y1 F3 sb3=>?_⟩⟩
   have f3:=sb3 _ _ (F2.ne hl0) (ab (o:=.lst [.int 3,.int 6,.int 9,.int 5]))
   obtain ⟨x,hx,ax⟩:=pe (xs:=[V.int 3,.int 6,.int 9,.int 5]) y0 y1
   obtain ⟨lng,rfl,lo,hi2⟩:∃ z:Int,x = .int z∧1≤z∧z≤15:=by
    simp only [xg,xS,zH] at hx
    rcases hx with rfl | rfl | rfl | rfl
    ·exact ⟨3,rfl,by decide,by decide⟩
    ·exact ⟨6,rfl,by decide,by decide⟩
    ·exact ⟨9,rfl,by decide,by decide⟩
    ·exact ⟨5,rfl,by decide,by decide⟩
   refine ⟨l0,_,_,_,rfl,rfl,SqL.of f3,ax,?_⟩
   refine mO ?_
   refine mN (fun σ2 H4=>∃ lng:Int,σ2=[some (.ref a),some (.ref d),some (.int (0+(i:Int))),some (tx u),some (.int lng),b5,b6]∧1≤lng∧lng≤15∧Tp H4 d c) (fun D' nx=>?_) ?_
   ·refine ⟨_,rfl,rfl,_,rfl,?_⟩
    generalize decide (V.int (0+(i:Int))=V.int 0)=b
    cases b
    ·exact tF (uz (nx _ _ ⟨lng,rfl,lo,hi2,F3⟩))
    ·refine tE ⟨_,rfl,d,c,_,rfl,F3,by decide,by decide,fun y H5 _ _ F5 _=>⟨rfl,_,rfl,?_⟩⟩
     generalize decide (V.int y=V.int 0)=b
     cases b
     ·exact uz (nx _ _ ⟨lng,rfl,lo,hi2,F5⟩)
     ·exact vL (nx _ _ ⟨15,rfl,by decide,by decide,F5⟩)
   ·rintro σ2 H4 ⟨lng,rfl,lo,hi2,F4⟩
    refine ⟨_,rfl,_,rfl,_,rfl,hll,_,_,rfl,rfl,⟨by decide,by decide⟩,_,rfl,d,c,n,lng,xF (fun z=>[V.ref d,.int z,.int 4,.int lng]) e2,F4,h1,h6,lo,hi2,fun aw W H5 F5 sb5 hW=>?_⟩
    refine ⟨_,rfl,by decide,by decide,bg (lo:=0) (n:=2) (fun j σ H'=>∃ (b6:Option V),σ = [some (.ref a),some (.ref d),some (.int (0+(i:Int))),some (tx u),some (.int lng),some (.ref aw),b6]∧Wy4 n W H' aw∧Tp H' d c) ⟨_,rfl,hW,F5⟩ ?_ ?_⟩
    ·rintro j σ H6 hj ⟨b6,rfl,hW6,F6⟩
     refine ⟨_,rfl,_,rfl,_,rfl,_,rfl,_,rfl,d,c,u,n,aw,W,rfl,F6,U,hW6,fun r rows H7 F7 sb7 dw=>?_⟩
     have hW7:=hW6.sb F6 sb7
     refine ⟨u,aw,r,n,W,rows,rfl,U,hW7,dw,fun H8 s8=>⟨_,rfl,nkT (uz ⟨_,rfl,hW7.same s8,F7.same s8⟩)⟩⟩
    ·rintro σ H6 ⟨b6,rfl,hW6,F6⟩
     exact ⟨_,_,_,_,_,rfl,F6⟩
  ·rintro σ H1 ⟨b2,b3,b4,b5,b6,rfl,F1⟩
   exact q _
end
theorem bD {K:PySem.W.Frag}{h:Heap}{mg:Str→Option Value}{x:Str}{st:Stmt}{f:Addr}{oc:Value}{od an:Option Addr}{osl:Array (Option Value)}{kV doc pm cdv ct:Value}(X:K.In h)(G:h.Ns mainGlobals mg)(a:PySem.W.nsIn K mainGlobals x=some (some (.ref f)))
  (l:K.lookup f=some ⟨oc,od,.func (PySem.W.fnOf x x (aH st) (aG st) (ak st) .none kV doc pm an cdv ct),osl⟩) (c:PySem.W.codeIn K cdv x=true) (k:PySem.W.keepIn K (.ref f)=true):Df K mg x st:=⟨f,_,Ao X G a,pz l c k⟩
theorem uu {l:PySem.W.OpenLaw}{w:World}{K:PySem.W.Frag}{h:Heap}{mg:Str→Option Value}{fa:Addr}(X:K.In h)(G:h.Ns mainGlobals mg)(hfa:mg "law" = some (.ref fa))
  {f0:Addr} {od0 an0:Option Addr} {sl0:Array (Option Value)} {oc0 kV0 dc0 pm0 cd0 ct0:Value} {f1:Addr} {od1 an1:Option Addr} {sl1:Array (Option Value)} {oc1 kV1 dc1 pm1 cd1 ct1:Value} {f2:Addr} {od2 an2:Option Addr} {sl2:Array (Option Value)} {oc2 kV2 dc2 pm2 cd2 ct2:Value} {f3:Addr} {od3 an3:Option Addr} {sl3:Array (Option Value)} {oc3 kV3 dc3 pm3 cd3 ct3:Value} {f4:Addr} {od4 an4:Option Addr} {sl4:Array (Option Value)} {oc4 kV4 dc4 pm4 cd4 ct4:Value} {f5:Addr} {od5 an5:Option Addr} {sl5:Array (Option Value)} {oc5 kV5 dc5 pm5 cd5 ct5:Value} {f6:Addr} {od6 an6:Option Addr} {sl6:Array (Option Value)} {oc6 kV6 dc6 pm6 cd6 ct6:Value} {f7:Addr} {od7 an7:Option Addr} {sl7:Array (Option Value)} {oc7 kV7 dc7 pm7 cd7 ct7:Value} {f8:Addr} {od8 an8:Option Addr} {sl8:Array (Option Value)} {oc8 kV8 dc8 pm8 cd8 ct8:Value} {f9:Addr} {od9 an9:Option Addr} {sl9:Array (Option Value)} {oc9 kV9 dc9 pm9 cd9 ct9:Value} {f10:Addr} {od10 an10:Option Addr} {sl10:Array (Option Value)} {oc10 kV10 dc10 pm10 cd10 ct10:Value} {f11:Addr} {od11 an11:Option Addr} {sl11:Array (Option Value)} {oc11 kV11 dc11 pm11 cd11 ct11:Value} {f12:Addr} {od12 an12:Option Addr} {sl12:Array (Option Value)} {oc12 kV12 dc12 pm12 cd12 ct12:Value} {f13:Addr} {od13 an13:Option Addr} {sl13:Array (Option Value)} {oc13 kV13 dc13 pm13 cd13 ct13:Value} {f14:Addr} {od14 an14:Option Addr} {sl14:Array (Option Value)} {oc14 kV14 dc14 pm14 cd14 ct14:Value} {f15:Addr} {od15 an15:Option Addr} {sl15:Array (Option Value)} {oc15 kV15 dc15 pm15 cd15 ct15:Value} {f16:Addr} {od16 an16:Option Addr} {sl16:Array (Option Value)} {oc16 kV16 dc16 pm16 cd16 ct16:Value} {f17:Addr} {od17 an17:Option Addr} {sl17:Array (Option Value)} {oc17 kV17 dc17 pm17 cd17 ct17:Value} {f18:Addr} {od18 an18:Option Addr} {sl18:Array (Option Value)} {oc18 kV18 dc18 pm18 cd18 ct18:Value} {f19:Addr} {od19 an19:Option Addr} {sl19:Array (Option Value)} {oc19 kV19 dc19 pm19 cd19 ct19:Value} {f20:Addr} {od20 an20:Option Addr} {sl20:Array (Option Value)} {oc20 kV20 dc20 pm20 cd20 ct20:Value} {f21:Addr} {od21 an21:Option Addr} {sl21:Array (Option Value)} {oc21 kV21 dc21 pm21 cd21 ct21:Value} {f22:Addr} {od22 an22:Option Addr} {sl22:Array (Option Value)} {oc22 kV22 dc22 pm22 cd22 ct22:Value} {f23:Addr} {od23 an23:Option Addr} {sl23:Array (Option Value)} {oc23 kV23 dc23 pm23 cd23 ct23:Value} {f24:Addr} {od24 an24:Option Addr} {sl24:Array (Option Value)} {oc24 kV24 dc24 pm24 cd24 ct24:Value} {f25:Addr} {od25 an25:Option Addr} {sl25:Array (Option Value)} {oc25 kV25 dc25 pm25 cd25 ct25:Value} {f26:Addr} {od26 an26:Option Addr} {sl26:Array (Option Value)} {oc26 kV26 dc26 pm26 cd26 ct26:Value} {f27:Addr} {od27 an27:Option Addr} {sl27:Array (Option Value)} {oc27 kV27 dc27 pm27 cd27 ct27:Value} {f28:Addr} {od28 an28:Option Addr} {sl28:Array (Option Value)} {oc28 kV28 dc28 pm28 cd28 ct28:Value} {aB:Addr} {es:Array DictEntry} {en:Nat} {tS:Tok}   {t0 t1 t2 t3 t4 t5 t6 t7 t8 t9 t10 t11:Tok}
  (a0:PySem.W.nsIn K mainGlobals "number_of" = some (some (.ref f0)))
  (l0:K.lookup f0=some ⟨oc0,od0,.func (PySem.W.fnOf "number_of" "number_of" (aH mD) (aG mD) (ak mD) .none kV0 dc0 pm0 an0 cd0 ct0),sl0⟩)
  (c0:PySem.W.codeIn K cd0 "number_of" = true)
  (k0:PySem.W.keepIn K (.ref f0)=true)
  (a1:PySem.W.nsIn K mainGlobals "back" = some (some (.ref f1)))
  (l1:K.lookup f1=some ⟨oc1,od1,.func (PySem.W.fnOf "back" "back" (aH iz) (aG iz) (ak iz) .none kV1 dc1 pm1 an1 cd1 ct1),sl1⟩)
  (c1:PySem.W.codeIn K cd1 "back" = true)
  (k1:PySem.W.keepIn K (.ref f1)=true)
  (a2:PySem.W.nsIn K mainGlobals "strands_of" = some (some (.ref f2)))
  (l2:K.lookup f2=some ⟨oc2,od2,.func (PySem.W.fnOf "strands_of" "strands_of" (aH mE) (aG mE) (ak mE) .none kV2 dc2 pm2 an2 cd2 ct2),sl2⟩)
  (c2:PySem.W.codeIn K cd2 "strands_of" = true)
  (k2:PySem.W.keepIn K (.ref f2)=true)
  (a3:PySem.W.nsIn K mainGlobals "letter_of" = some (some (.ref f3)))
  (l3:K.lookup f3=some ⟨oc3,od3,.func (PySem.W.fnOf "letter_of" "letter_of" (aH mF) (aG mF) (ak mF) .none kV3 dc3 pm3 an3 cd3 ct3),sl3⟩)
  (c3:PySem.W.codeIn K cd3 "letter_of" = true)
  (k3:PySem.W.keepIn K (.ref f3)=true)
  (a4:PySem.W.nsIn K mainGlobals "strand_behind" = some (some (.ref f4)))
  (l4:K.lookup f4=some ⟨oc4,od4,.func (PySem.W.fnOf "strand_behind" "strand_behind" (aH du) (aG du) (ak du) .none kV4 dc4 pm4 an4 cd4 ct4),sl4⟩)
  (c4:PySem.W.codeIn K cd4 "strand_behind" = true)
  (k4:PySem.W.keepIn K (.ref f4)=true)
  (a5:PySem.W.nsIn K mainGlobals "strand_on" = some (some (.ref f5)))
  (l5:K.lookup f5=some ⟨oc5,od5,.func (PySem.W.fnOf "strand_on" "strand_on" (aH t_) (aG t_) (ak t_) .none kV5 dc5 pm5 an5 cd5 ct5),sl5⟩)
  (c5:PySem.W.codeIn K cd5 "strand_on" = true)
  (k5:PySem.W.keepIn K (.ref f5)=true)
  (a6:PySem.W.nsIn K mainGlobals "are_met_by_turns" = some (some (.ref f6)))
  (l6:K.lookup f6=some ⟨oc6,od6,.func (PySem.W.fnOf "are_met_by_turns" "are_met_by_turns" (aH mP) (aG mP) (ak mP) .none kV6 dc6 pm6 an6 cd6 ct6),sl6⟩)
  (c6:PySem.W.codeIn K cd6 "are_met_by_turns" = true)
  (k6:PySem.W.keepIn K (.ref f6)=true)
  (a7:PySem.W.nsIn K mainGlobals "points" = some (some (.ref f7)))
  (l7:K.lookup f7=some ⟨oc7,od7,.func (PySem.W.fnOf "points" "points" (aH mM) (aG mM) (ak mM) .none kV7 dc7 pm7 an7 cd7 ct7),sl7⟩)
  (c7:PySem.W.codeIn K cd7 "points" = true)
  (k7:PySem.W.keepIn K (.ref f7)=true)
  (a8:PySem.W.nsIn K mainGlobals "met_at" = some (some (.ref f8)))
  (l8:K.lookup f8=some ⟨oc8,od8,.func (PySem.W.fnOf "met_at" "met_at" (aH fg) (aG fg) (ak fg) .none kV8 dc8 pm8 an8 cd8 ct8),sl8⟩)
  (c8:PySem.W.codeIn K cd8 "met_at" = true)
  (k8:PySem.W.keepIn K (.ref f8)=true)
  (a9:PySem.W.nsIn K mainGlobals "chords" = some (some (.ref f9)))
  (l9:K.lookup f9=some ⟨oc9,od9,.func (PySem.W.fnOf "chords" "chords" (aH dz) (aG dz) (ak dz) .none kV9 dc9 pm9 an9 cd9 ct9),sl9⟩)
  (c9:PySem.W.codeIn K cd9 "chords" = true)
  (k9:PySem.W.keepIn K (.ref f9)=true)
  (a10:PySem.W.nsIn K mainGlobals "crossings" = some (some (.ref f10)))
  (l10:K.lookup f10=some ⟨oc10,od10,.func (PySem.W.fnOf "crossings" "crossings" (aH fo) (aG fo) (ak fo) .none kV10 dc10 pm10 an10 cd10 ct10),sl10⟩)
  (c10:PySem.W.codeIn K cd10 "crossings" = true)
  (k10:PySem.W.keepIn K (.ref f10)=true)
  (a11:PySem.W.nsIn K mainGlobals "crossed" = some (some (.ref f11)))
  (l11:K.lookup f11=some ⟨oc11,od11,.func (PySem.W.fnOf "crossed" "crossed" (aH cF) (aG cF) (ak cF) .none kV11 dc11 pm11 an11 cd11 ct11),sl11⟩)
  (c11:PySem.W.codeIn K cd11 "crossed" = true)
  (k11:PySem.W.keepIn K (.ref f11)=true)
  (a12:PySem.W.nsIn K mainGlobals "_law_tape" = some (some (.ref f12)))
  (l12:K.lookup f12=some ⟨oc12,od12,.func (PySem.W.fnOf "_law_tape" "_law_tape" (aH ix) (aG ix) (ak ix) .none kV12 dc12 pm12 an12 cd12 ct12),sl12⟩)
  (c12:PySem.W.codeIn K cd12 "_law_tape" = true)
  (k12:PySem.W.keepIn K (.ref f12)=true)
  (a13:PySem.W.nsIn K mainGlobals "_law_draw" = some (some (.ref f13)))
  (l13:K.lookup f13=some ⟨oc13,od13,.func (PySem.W.fnOf "_law_draw" "_law_draw" (aH iy) (aG iy) (ak iy) .none kV13 dc13 pm13 an13 cd13 ct13),sl13⟩)
  (c13:PySem.W.codeIn K cd13 "_law_draw" = true)
  (k13:PySem.W.keepIn K (.ref f13)=true)
  (a14:PySem.W.nsIn K mainGlobals "_law_back" = some (some (.ref f14)))
  (l14:K.lookup f14=some ⟨oc14,od14,.func (PySem.W.fnOf "_law_back" "_law_back" (aH e9) (aG e9) (ak e9) .none kV14 dc14 pm14 an14 cd14 ct14),sl14⟩)
  (c14:PySem.W.codeIn K cd14 "_law_back" = true)
  (k14:PySem.W.keepIn K (.ref f14)=true)
  (a15:PySem.W.nsIn K mainGlobals "_law_any_row" = some (some (.ref f15)))
  (l15:K.lookup f15=some ⟨oc15,od15,.func (PySem.W.fnOf "_law_any_row" "_law_any_row" (aH mG) (aG mG) (ak mG) .none kV15 dc15 pm15 an15 cd15 ct15),sl15⟩)
  (c15:PySem.W.codeIn K cd15 "_law_any_row" = true)
  (k15:PySem.W.keepIn K (.ref f15)=true)
  (a16:PySem.W.nsIn K mainGlobals "_law_inner" = some (some (.ref f16)))
  (l16:K.lookup f16=some ⟨oc16,od16,.func (PySem.W.fnOf "_law_inner" "_law_inner" (aH fc) (aG fc) (ak fc) .none kV16 dc16 pm16 an16 cd16 ct16),sl16⟩)
  (c16:PySem.W.codeIn K cd16 "_law_inner" = true)
  (k16:PySem.W.keepIn K (.ref f16)=true)
  (a17:PySem.W.nsIn K mainGlobals "_law_rooted" = some (some (.ref f17)))
  (l17:K.lookup f17=some ⟨oc17,od17,.func (PySem.W.fnOf "_law_rooted" "_law_rooted" (aH cD) (aG cD) (ak cD) .none kV17 dc17 pm17 an17 cd17 ct17),sl17⟩)
  (c17:PySem.W.codeIn K cd17 "_law_rooted" = true)
  (k17:PySem.W.keepIn K (.ref f17)=true)
  (a18:PySem.W.nsIn K mainGlobals "_law_any_way" = some (some (.ref f18)))
  (l18:K.lookup f18=some ⟨oc18,od18,.func (PySem.W.fnOf "_law_any_way" "_law_any_way" (aH tW) (aG tW) (ak tW) .none kV18 dc18 pm18 an18 cd18 ct18),sl18⟩)
  (c18:PySem.W.codeIn K cd18 "_law_any_way" = true)
  (k18:PySem.W.keepIn K (.ref f18)=true)
  (a19:PySem.W.nsIn K mainGlobals "_law_some_ways" = some (some (.ref f19)))
  (l19:K.lookup f19=some ⟨oc19,od19,.func (PySem.W.fnOf "_law_some_ways" "_law_some_ways" (aH fe) (aG fe) (ak fe) .none kV19 dc19 pm19 an19 cd19 ct19),sl19⟩)
  (c19:PySem.W.codeIn K cd19 "_law_some_ways" = true)
  (k19:PySem.W.keepIn K (.ref f19)=true)
  (a20:PySem.W.nsIn K mainGlobals "_law_all_strands" = some (some (.ref f20)))
  (l20:K.lookup f20=some ⟨oc20,od20,.func (PySem.W.fnOf "_law_all_strands" "_law_all_strands" (aH iB) (aG iB) (ak iB) .none kV20 dc20 pm20 an20 cd20 ct20),sl20⟩)
  (c20:PySem.W.codeIn K cd20 "_law_all_strands" = true)
  (k20:PySem.W.keepIn K (.ref f20)=true)
  (a21:PySem.W.nsIn K mainGlobals "_law_any_drawing" = some (some (.ref f21)))
  (l21:K.lookup f21=some ⟨oc21,od21,.func (PySem.W.fnOf "_law_any_drawing" "_law_any_drawing" (aH iC) (aG iC) (ak iC) .none kV21 dc21 pm21 an21 cd21 ct21),sl21⟩)
  (c21:PySem.W.codeIn K cd21 "_law_any_drawing" = true)
  (k21:PySem.W.keepIn K (.ref f21)=true)
  (a22:PySem.W.nsIn K mainGlobals "_law_all_spots" = some (some (.ref f22)))
  (l22:K.lookup f22=some ⟨oc22,od22,.func (PySem.W.fnOf "_law_all_spots" "_law_all_spots" (aH fh) (aG fh) (ak fh) .none kV22 dc22 pm22 an22 cd22 ct22),sl22⟩)
  (c22:PySem.W.codeIn K cd22 "_law_all_spots" = true)
  (k22:PySem.W.keepIn K (.ref f22)=true)
  (a23:PySem.W.nsIn K mainGlobals "_law_all_chords" = some (some (.ref f23)))
  (l23:K.lookup f23=some ⟨oc23,od23,.func (PySem.W.fnOf "_law_all_chords" "_law_all_chords" (aH cG) (aG cG) (ak cG) .none kV23 dc23 pm23 an23 cd23 ct23),sl23⟩)
  (c23:PySem.W.codeIn K cd23 "_law_all_chords" = true)
  (k23:PySem.W.keepIn K (.ref f23)=true)
  (a24:PySem.W.nsIn K mainGlobals "_law_crosses" = some (some (.ref f24)))
  (l24:K.lookup f24=some ⟨oc24,od24,.func (PySem.W.fnOf "_law_crosses" "_law_crosses" (aH mQ) (aG mQ) (ak mQ) .none kV24 dc24 pm24 an24 cd24 ct24),sl24⟩)
  (c24:PySem.W.codeIn K cd24 "_law_crosses" = true)
  (k24:PySem.W.keepIn K (.ref f24)=true)
  (a25:PySem.W.nsIn K mainGlobals "_law_all_crossings" = some (some (.ref f25)))
  (l25:K.lookup f25=some ⟨oc25,od25,.func (PySem.W.fnOf "_law_all_crossings" "_law_all_crossings" (aH dA) (aG dA) (ak dA) .none kV25 dc25 pm25 an25 cd25 ct25),sl25⟩)
  (c25:PySem.W.codeIn K cd25 "_law_all_crossings" = true)
  (k25:PySem.W.keepIn K (.ref f25)=true)
  (a26:PySem.W.nsIn K mainGlobals "_law_count" = some (some (.ref f26)))
  (l26:K.lookup f26=some ⟨oc26,od26,.func (PySem.W.fnOf "_law_count" "_law_count" (aH fj) (aG fj) (ak fj) .none kV26 dc26 pm26 an26 cd26 ct26),sl26⟩)
  (c26:PySem.W.codeIn K cd26 "_law_count" = true)
  (k26:PySem.W.keepIn K (.ref f26)=true)
  (a27:PySem.W.nsIn K mainGlobals "_law_right" = some (some (.ref f27)))
  (l27:K.lookup f27=some ⟨oc27,od27,.func (PySem.W.fnOf "_law_right" "_law_right" (aH fv) (aG fv) (ak fv) .none kV27 dc27 pm27 an27 cd27 ct27),sl27⟩)
  (c27:PySem.W.codeIn K cd27 "_law_right" = true)
  (k27:PySem.W.keepIn K (.ref f27)=true)
  (a28:PySem.W.nsIn K mainGlobals "law" = some (some (.ref f28)))
  (l28:K.lookup f28=some ⟨oc28,od28,.func (PySem.W.fnOf "law" "law" (aH iH) (aG iH) (ak iH) .none kV28 dc28 pm28 an28 cd28 ct28),sl28⟩)
  (c28:PySem.W.codeIn K cd28 "law" = true)
  (k28:PySem.W.keepIn K (.ref f28)=true)
  (z_len:PySem.W.nsIn K mainGlobals "len" = some none)
  (z_repr:PySem.W.nsIn K mainGlobals "repr" = some none)
  (z_abs:PySem.W.nsIn K mainGlobals "abs" = some none)
  (z_max:PySem.W.nsIn K mainGlobals "max" = some none)
  (z_int:PySem.W.nsIn K mainGlobals "int" = some none)
  (z_list:PySem.W.nsIn K mainGlobals "list" = some none)
  (z_range:PySem.W.nsIn K mainGlobals "range" = some none)
  (z_reversed:PySem.W.nsIn K mainGlobals "reversed" = some none)
  (z_min:PySem.W.nsIn K mainGlobals "min" = some none)
  (z_sorted:PySem.W.nsIn K mainGlobals "sorted" = some none)
  (z_tuple:PySem.W.nsIn K mainGlobals "tuple" = some none)
  (z_isinstance:PySem.W.nsIn K mainGlobals "isinstance" = some none)
  (z_all:PySem.W.nsIn K mainGlobals "all" = some none)
  (z_str:PySem.W.nsIn K mainGlobals "str" = some none)
  (z_zip:PySem.W.nsIn K mainGlobals "zip" = some none)
  (aBk:PySem.W.nsIn K mainGlobals "BACKS" = some (some (.ref aB)))
  (lB:K.lookup aB=some ⟨.type "dict",none,.dict es en,#[]⟩)
  (kB:PySem.W.KeysLit w.params es.toList)
  (aS:PySem.W.nsIn K mainGlobals "SMALL" = some (some (.str "abcdef" tS)))
  (zE:PySem.W.nsIn K mainGlobals "enumerate" = some none)
  (zM:PySem.W.nsIn K mainGlobals "sum" = some none)
  (gl0:PySem.W.nsIn K aB "a" = some (some (.str "A" t0)))
  (gl1:PySem.W.nsIn K aB "b" = some (some (.str "B" t1)))
  (gl2:PySem.W.nsIn K aB "c" = some (some (.str "C" t2)))
  (gl3:PySem.W.nsIn K aB "d" = some (some (.str "D" t3)))
  (gl4:PySem.W.nsIn K aB "e" = some (some (.str "E" t4)))
  (gl5:PySem.W.nsIn K aB "f" = some (some (.str "F" t5)))
  (gl6:PySem.W.nsIn K aB "A" = some (some (.str "a" t6)))
  (gl7:PySem.W.nsIn K aB "B" = some (some (.str "b" t7)))
  (gl8:PySem.W.nsIn K aB "C" = some (some (.str "c" t8)))
  (gl9:PySem.W.nsIn K aB "D" = some (some (.str "d" t9)))
  (gl10:PySem.W.nsIn K aB "E" = some (some (.str "e" t10)))
  (gl11:PySem.W.nsIn K aB "F" = some (some (.str "f" t11))) :
  ∃ fd:FuncData,(∀ (s:Shared) (v:Value),BindsTo s fd ⟨[v],[]⟩ [("_law_script",v)])∧∀ base:Heap,K.In base→base.Ns mainGlobals mg→m9 l.prog w K mg base CX0 8 fa fd ["_law_script"] (m8 K):=by
 have e:=hfa.symm.trans (Ao X G a28)
 cases e
 have gB:∀ x:L,∃ t,PySem.W.nsIn K aB (toS [x])=some (some (.str (toS [inv x]) t)):=by
  have q:∀ (x:L) (u v:Str) (t:Tok),PySem.W.nsIn K aB u=some (some (.str v t))→toS [x]=u→toS [inv x]=v→∃ t,PySem.W.nsIn K aB (toS [x])=some (some (.str (toS [inv x]) t)):=fun x u v t g e1 e2=>⟨t,by rw [e1,e2];exact g⟩
  intro x
  match x with
  | ⟨0,_⟩=>exact q 0 "a" "A" _ gl0 (by decide +kernel) (by decide +kernel)
  | ⟨1,_⟩=>exact q 1 "b" "B" _ gl1 (by decide +kernel) (by decide +kernel)
  | ⟨2,_⟩=>exact q 2 "c" "C" _ gl2 (by decide +kernel) (by decide +kernel)
  | ⟨3,_⟩=>exact q 3 "d" "D" _ gl3 (by decide +kernel) (by decide +kernel)
  | ⟨4,_⟩=>exact q 4 "e" "E" _ gl4 (by decide +kernel) (by decide +kernel)
  | ⟨5,_⟩=>exact q 5 "f" "F" _ gl5 (by decide +kernel) (by decide +kernel)
  | ⟨6,_⟩=>exact q 6 "A" "a" _ gl6 (by decide +kernel) (by decide +kernel)
  | ⟨7,_⟩=>exact q 7 "B" "b" _ gl7 (by decide +kernel) (by decide +kernel)
  | ⟨8,_⟩=>exact q 8 "C" "c" _ gl8 (by decide +kernel) (by decide +kernel)
  | ⟨9,_⟩=>exact q 9 "D" "d" _ gl9 (by decide +kernel) (by decide +kernel)
  | ⟨10,_⟩=>exact q 10 "E" "e" _ gl10 (by decide +kernel) (by decide +kernel)
  | ⟨11,_⟩=>exact q 11 "F" "f" _ gl11 (by decide +kernel) (by decide +kernel)
 have T:Bt K w mg aB:=⟨xx X G z_len,xx X G z_repr,xx X G z_abs,xx X G z_max,xx X G z_int,xx X G z_list,xx X G z_range,xx X G z_reversed,xx X G z_min,xx X G z_sorted,xx X G z_tuple,xx X G z_isinstance,xx X G z_all,xx X G z_str,xx X G z_zip,Ao X G aBk,⟨es,en,lB,kB⟩,gB⟩
 have S:∃ t,mg "SMALL" = some (.str "abcdef" t):=⟨_,Ao X G aS⟩
 have Te:mg "enumerate" = none:=xx X G zE
 have Tsum:mg "sum" = none:=xx X G zM
 refine ⟨PySem.W.fnOf "law" "law" (aH iH) (aG iH) (ak iH) .none kV28 dc28 pm28 an28 cd28 ct28,fun s v=>.of_eq rfl,fun base _ _=>?_⟩
 have F_tape:=tM (P:=l.prog) (w:=w) (base:=base) (bD X G a12 l12 c12 k12) T
 have F_draw:=tN (P:=l.prog) (w:=w) (base:=base) (bD X G a13 l13 c13 k13) T
 have F_back:=tO (P:=l.prog) (w:=w) (base:=base) (bD X G a1 l1 c1 k1) T
 have F_lback:=qT (P:=l.prog) (w:=w) (base:=base) (bD X G a14 l14 c14 k14)
 have F_num:=vj (P:=l.prog) (w:=w) (base:=base) (bD X G a0 l0 c0 k0) T S
 have F_str:=vk (P:=l.prog) (w:=w) (base:=base) (bD X G a2 l2 c2 k2) T Te
 have F_lof:=vm (P:=l.prog) (w:=w) (base:=base) (bD X G a3 l3 c3 k3) T
 have F_row:=vn (P:=l.prog) (w:=w) (base:=base) (bD X G a15 l15 c15 k15) T F_draw
 have F_lrooted:=mH (P:=l.prog) (w:=w) (base:=base) (bD X G a17 l17 c17 k17) T
 have F_inner:=qW (P:=l.prog) (w:=w) (base:=base) (bD X G a16 l16 c16 k16) T F_lback
 have F_aw:=wz (P:=l.prog) (w:=w) (base:=base) (bD X G a18 l18 c18 k18) T F_draw F_inner F_lrooted
 have F_sways:=qX (P:=l.prog) (w:=w) (base:=base) (bD X G a19 l19 c19 k19) T F_draw F_lback F_aw
 have F_alls:=tX (P:=l.prog) (w:=w) (base:=base) (bD X G a20 l20 c20 k20) T
 have F_adrw:=tZ (P:=l.prog) (w:=w) (base:=base) (bD X G a21 l21 c21 k21) T F_draw F_alls
 have F_on:=wA (P:=l.prog) (w:=w) (base:=base) (bD X G a5 l5 c5 k5) T
 have F_behind:=oP (P:=l.prog) (w:=w) (base:=base) (bD X G a4 l4 c4 k4) T F_on
 have F_metat:=q8 (P:=l.prog) (w:=w) (base:=base) (bD X G a8 l8 c8 k8) T F_num
 have F_pts:=vt (P:=l.prog) (w:=w) (base:=base) (bD X G a7 l7 c7 k7) T F_metat
 have F_spots:=q9 (P:=l.prog) (w:=w) (base:=base) (bD X G a22 l22 c22 k22) T
 have F_met:=vw (P:=l.prog) (w:=w) (base:=base) (bD X G a6 l6 c6 k6) T
 have F_lcr:=vx (P:=l.prog) (w:=w) (base:=base) (bD X G a24 l24 c24 k24) T
 have F_count:=rh (P:=l.prog) (w:=w) (base:=base) (bD X G a26 l26 c26 k26) T
 have F_chords:=oZ (P:=l.prog) (w:=w) (base:=base) (bD X G a9 l9 c9 k9) T Te F_back F_lof F_behind F_pts F_str
 have F_cross:=rn (P:=l.prog) (w:=w) (base:=base) (bD X G a10 l10 c10 k10) T F_str F_chords F_met
 have F_crossed:=mX (P:=l.prog) (w:=w) (base:=base) (bD X G a11 l11 c11 k11) T F_cross
 have F_lchords:=mZ (P:=l.prog) (w:=w) (base:=base) (bD X G a23 l23 c23 k23) T F_lback F_spots F_alls
 have F_lcross:=o8 (P:=l.prog) (w:=w) (base:=base) (bD X G a25 l25 c25 k25) T F_lcr F_lchords
 have F_right:=rB (P:=l.prog) (w:=w) (base:=base) (bD X G a27 l27 c27 k27) T Tsum F_cross F_spots F_pts F_crossed F_lcross F_count
 exact vz (pz l28 c28 k28) T F_tape F_draw F_row F_sways F_adrw F_right
theorem wB {l:PySem.W.OpenLaw}{q:Program}{loose:List Str}{XP:(Str→Option Value)→Heap→Prop}{YP:World→Heap→Prop}{d:DefRec}{K:Params→PySem.W.Frag}(hn:l.most=some 63)(hdf:d.params.defaults=[])
  (hY:∀ (w:World) (h:Heap),YP w h→(K w.params).In h)
  (F:∀ (w:World) (mg:Str→Option Value) (fa:Addr) (h:Heap),(K w.params).In h→h.Ns mainGlobals mg→mg d.name=some (.ref fa) →
   ∃ fd:FuncData,(∀ (s:Shared) (u:Value),BindsTo s fd ⟨[u],[]⟩ [("_law_script",u)])∧∀ base:Heap,(K w.params).In base→base.Ns mainGlobals mg→m9 l.prog w (K w.params) mg base CX0 8 fa fd ["_law_script"] (m8 (K w.params))) :
  PySem.W.WalkO q loose XP YP l.row.toRowW d [] (fun f vs=>PySem.call f vs) :=
 L2.kT (n:=63) (k:=8) (x:="_law_script") (CX:=fun _=>CX0) (sp:=fun w=>m8 (K w.params)) hn (by decide) hdf ⟨rfl,by decide,by decide,rfl⟩ hY F (fun _ _ a ns hl _ hS=>⟨a,ns,rfl,hS,hl,fun _=>rfl⟩) fun _ _ _ _ _ z=>z
end Kx
namespace Kx
open PySem
def uv (s:String):Str:=⟨⟨PySem.W.R.mapR Char.toNat (PySem.W.S.toListS s)⟩⟩
theorem pf:Str.ofString=uv:=by
 funext s
 rw [Str.ofString_eq_toList,PySem.W.S.toListS_eq]
 show _=(⟨⟨PySem.W.R.mapR Char.toNat (PySem.W.S.toListS s)⟩⟩:Str)
 rw [← PySem.W.R.mapR_eq]
def apG (G:(String→Str)→Program)(x:String→Str):Program:=G x
def Gs:{ G:(String→Str)→Program // apG G Str.ofString=PySem.Challenge.pw_ringwords_k35_points_and_crossings }:=by
 refine ⟨?G,?h⟩
 case h =>
  delta PySem.Challenge.pw_ringwords_k35_points_and_crossings
  generalize Str.ofString=x
  exact rfl
end Kx
def PySem.W.Fast.tw13593843588217869738:PySem.Program:=Kx.Gs.1 Kx.uv
theorem PySem.W.Fast.te13593843588217869738:PySem.Challenge.pw_ringwords_k35_points_and_crossings=PySem.W.Fast.tw13593843588217869738:=Kx.Gs.2.symm.trans (xF (Kx.apG Kx.Gs.1) Kx.pf)
theorem PySem.W.Fast.te6116917852289256174:True:=trivial
theorem PySem.W.Fast.tw17859686740574041491:True:=trivial
theorem PySem.W.Fast.tw8833355972767599989:True:=trivial
theorem PySem.W.Fast.tw6955857234540854948:True:=trivial
theorem PySem.W.Fast.tw1273209014508001654:True:=trivial
theorem PySem.W.Fast.tw5649159799831597172:True:=trivial
theorem PySem.W.Fast.tw14218211569380048175:True:=trivial
theorem PySem.W.Fast.tw6026240981327947884:True:=trivial
theorem PySem.W.Fast.tw7263881325338161788:True:=trivial
theorem PySem.W.Fast.tw3233362783156716129:True:=trivial
theorem PySem.W.Fast.tw17625690738291340942:True:=trivial
open PySem PySem.W PyProof.Rows
set_option maxRecDepth 100000 in
set_option maxHeartbeats 0 in
theorem PySem.Challenge.cw_ringwords_k35_points_and_crossings_holds : PySem.Challenge.rw_ringwords_k35_points_and_crossings.Holds := by
 w_on; o_law; k_head; (case hw=>w_witness2)
 k_fill
 refine Kx.wB (l:=PySem.Challenge.rw_ringwords_k35_points_and_crossings) rfl rfl (fun w h Y=>PySem.W.kIn_of Y) ?F
 case F =>
  intro w mg fa h KX G hmg
  refine' Kx.uu KX G hmg ?a0 ?l0 ?c0 ?k0 ?a1 ?l1 ?c1 ?k1 ?a2 ?l2 ?c2 ?k2 ?a3 ?l3 ?c3 ?k3 ?a4 ?l4 ?c4 ?k4 ?a5 ?l5 ?c5 ?k5 ?a6 ?l6 ?c6 ?k6 ?a7 ?l7 ?c7 ?k7 ?a8 ?l8 ?c8 ?k8 ?a9 ?l9 ?c9 ?k9 ?a10 ?l10 ?c10 ?k10 ?a11 ?l11 ?c11 ?k11 ?a12 ?l12 ?c12 ?k12 ?a13 ?l13 ?c13 ?k13 ?a14 ?l14 ?c14 ?k14 ?a15 ?l15 ?c15 ?k15 ?a16 ?l16 ?c16 ?k16 ?a17 ?l17 ?c17 ?k17 ?a18 ?l18 ?c18 ?k18 ?a19 ?l19 ?c19 ?k19 ?a20 ?l20 ?c20 ?k20 ?a21 ?l21 ?c21 ?k21 ?a22 ?l22 ?c22 ?k22 ?a23 ?l23 ?c23 ?k23 ?a24 ?l24 ?c24 ?k24 ?a25 ?l25 ?c25 ?k25 ?a26 ?l26 ?c26 ?k26 ?a27 ?l27 ?c27 ?k27 ?a28 ?l28 ?c28 ?k28 ?z_len ?z_repr ?z_abs ?z_max ?z_int ?z_list ?z_range ?z_reversed ?z_min ?z_sorted ?z_tuple ?z_isinstance ?z_all ?z_str ?z_zip ?aBk ?lB ?kB ?aS ?zE ?zM ?gl0 ?gl1 ?gl2 ?gl3 ?gl4 ?gl5 ?gl6 ?gl7 ?gl8 ?gl9 ?gl10 ?gl11
  (case a0=>k_is)
  (case l0=>k_is)
  (case c0=>k_is)
  (case k0=>k_is)
  (case a1=>k_is)
  (case l1=>k_is)
  (case c1=>k_is)
  (case k1=>k_is)
  (case a2=>k_is)
  (case l2=>k_is)
  (case c2=>k_is)
  (case k2=>k_is)
  (case a3=>k_is)
  (case l3=>k_is)
  (case c3=>k_is)
  (case k3=>k_is)
  (case a4=>k_is)
  (case l4=>k_is)
  (case c4=>k_is)
  (case k4=>k_is)
  (case a5=>k_is)
  (case l5=>k_is)
  (case c5=>k_is)
  (case k5=>k_is)
  (case a6=>k_is)
  (case l6=>k_is)
  (case c6=>k_is)
  (case k6=>k_is)
  (case a7=>k_is)
  (case l7=>k_is)
  (case c7=>k_is)
  (case k7=>k_is)
  (case a8=>k_is)
  (case l8=>k_is)
  (case c8=>k_is)
  (case k8=>k_is)
  (case a9=>k_is)
  (case l9=>k_is)
  (case c9=>k_is)
  (case k9=>k_is)
  (case a10=>k_is)
  (case l10=>k_is)
  (case c10=>k_is)
  (case k10=>k_is)
  (case a11=>k_is)
  (case l11=>k_is)
  (case c11=>k_is)
  (case k11=>k_is)
  (case a12=>k_is)
  (case l12=>k_is)
  (case c12=>k_is)
  (case k12=>k_is)
  (case a13=>k_is)
  (case l13=>k_is)
  (case c13=>k_is)
  (case k13=>k_is)
  (case a14=>k_is)
  (case l14=>k_is)
  (case c14=>k_is)
  (case k14=>k_is)
  (case a15=>k_is)
  (case l15=>k_is)
  (case c15=>k_is)
  (case k15=>k_is)
  (case a16=>k_is)
  (case l16=>k_is)
  (case c16=>k_is)
  (case k16=>k_is)
  (case a17=>k_is)
  (case l17=>k_is)
  (case c17=>k_is)
  (case k17=>k_is)
  (case a18=>k_is)
  (case l18=>k_is)
  (case c18=>k_is)
  (case k18=>k_is)
  (case a19=>k_is)
  (case l19=>k_is)
  (case c19=>k_is)
  (case k19=>k_is)
  (case a20=>k_is)
  (case l20=>k_is)
  (case c20=>k_is)
  (case k20=>k_is)
  (case a21=>k_is)
  (case l21=>k_is)
  (case c21=>k_is)
  (case k21=>k_is)
  (case a22=>k_is)
  (case l22=>k_is)
  (case c22=>k_is)
  (case k22=>k_is)
  (case a23=>k_is)
  (case l23=>k_is)
  (case c23=>k_is)
  (case k23=>k_is)
  (case a24=>k_is)
  (case l24=>k_is)
  (case c24=>k_is)
  (case k24=>k_is)
  (case a25=>k_is)
  (case l25=>k_is)
  (case c25=>k_is)
  (case k25=>k_is)
  (case a26=>k_is)
  (case l26=>k_is)
  (case c26=>k_is)
  (case k26=>k_is)
  (case a27=>k_is)
  (case l27=>k_is)
  (case c27=>k_is)
  (case k27=>k_is)
  (case a28=>k_is)
  (case l28=>k_is)
  (case c28=>k_is)
  (case k28=>k_is)
  (case z_len=>k_is)
  (case z_repr=>k_is)
  (case z_abs=>k_is)
  (case z_max=>k_is)
  (case z_int=>k_is)
  (case z_list=>k_is)
  (case z_range=>k_is)
  (case z_reversed=>k_is)
  (case z_min=>k_is)
  (case z_sorted=>k_is)
  (case z_tuple=>k_is)
  (case z_isinstance=>k_is)
  (case z_all=>k_is)
  (case z_str=>k_is)
  (case z_zip=>k_is)
  (case aBk=>k_is)
  (case lB=>k_is)
  (case kB=>exact ⟨⟨_,_,rfl,rfl⟩,⟨_,_,rfl,rfl⟩,⟨_,_,rfl,rfl⟩,⟨_,_,rfl,rfl⟩,⟨_,_,rfl,rfl⟩,⟨_,_,rfl,rfl⟩,⟨_,_,rfl,rfl⟩,⟨_,_,rfl,rfl⟩,⟨_,_,rfl,rfl⟩,⟨_,_,rfl,rfl⟩,⟨_,_,rfl,rfl⟩,⟨_,_,rfl,rfl⟩,trivial⟩)
  (case aS=>k_is)
  (case zE=>k_is)
  (case zM=>k_is)
  (case gl0=>k_is)
  (case gl1=>k_is)
  (case gl2=>k_is)
  (case gl3=>k_is)
  (case gl4=>k_is)
  (case gl5=>k_is)
  (case gl6=>k_is)
  (case gl7=>k_is)
  (case gl8=>k_is)
  (case gl9=>k_is)
  (case gl10=>k_is)
  (case gl11=>k_is)
end
