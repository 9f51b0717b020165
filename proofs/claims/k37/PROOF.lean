import PyProof.Rows.All
import Wide.All
import OpenK.AllK
import Wide.FinOn
import Lean
import PyProof.EqAt
import PyProof.EqKinds
import PyProof.TupleCall
import KE.KRevIter
import PyProof.Rows.SortShellK
import PyProof.FString5
import PyProof.NeData
import PyProof.TupleOfStr
import PyProof.IsRules
import PyProof.ListRange
import PyProof.FactsAll.tuple_3
import PyProof.ExcInit
import PyProof.InstStoreFacts
import PyProof.NsDelKeeps
import PyProof.ListMulRoad
import PyProof.FactsAll.tuple_2
import PyProof.TupleKey
import PyProof.DictKinds
import PyProof.P3Eq
import PyProof.DictWalks
import PyProof.Rows.DictUnroll
import PyProof.Rows.SumAny
import PyProof.AttrMiss
import KE.KDictOf
import PyProof.DictValues
import PyProof.WalksMore
import PyProof.MeetsDictList
import PyProof.DictTruth
import PySem.Challenge.RW_ringwords_k37_words_of_pictures
set_option Elab.async false
set_option linter.all false
set_option maxRecDepth 100000
set_option maxHeartbeats 0
set_option maxHeartbeats 400000
noncomputable section
def fu:=@List.length_map
def xR:=@PySem.wpAny_bind
def xS:=@List.getElem?_eq_getElem
def xT:=@Nat.le_refl
def xU:=@List.getD_eq_getElem?_getD
def xV:=@List.getElem?_eq_some_iff
def xW:=@PySem.Heap.get?_push_of_some
def xX:=@List.length_append
def xY:=@List.getElem?_map
def xZ:=@List.map_append
def x3:=@List.mem_cons_of_mem
def x4:=@List.mem_singleton
def x5:=@Option.some.inj
def x6:=@List.mem_append_right
def x8:=@List.size_toArray
def x9:=@PySem.wpAny_pure
def x_:=@List.mem_of_getElem?
def ya:=@PySem.Heap.get?_push_size
def yb:=@List.mem_cons_self
def yc:=@Bool.false_ne_true
def yd:=@PySem.Heap.lt_size
def ye:=@List.mem_cons
def yf:=@Int.toNat_natCast
def yg:=@List.length_take
def yh:=@PySem.F.plainAttrs_str
def yi:=@Bool.and_eq_true
def yj:=@Nat.lt_of_lt_of_le
def yk:=@List.map_cons
def yn:=@List.mem_append
def yo:=@List.length_range
def yp:=@List.length_replicate
def yq:=@List.mem_map
def yr:=@PySem.PassesOwn.never
def yt:=@PySem.F.plainAttrs_list
def yu:=@PySem.boot_len
def yw:=@decide_eq_true_eq
def yy:=@decide_eq_false
def yz:=@List.idxOf_lt_length_of_mem
def yA:=@Nat.mod_eq_of_lt
def yB:=@congrArg
def yC:=@PySem.W.mg_none_of
def yD:=@List.not_mem_nil
def yE:=@List.mem_append_left
def yF:=@List.length_cons
def yG:=@List.mem_range
def yH:=@Nat.ne_of_lt
def yI:=@Nat.le_trans
def yJ:=@decide_eq_true
def yK:=@List.length_drop
def yL:=@List.take_length
def yM:=@PySem.wpAny_callSpecial?_slot
def yN:=@List.getElem?_append_left
def yO:=@Nat.lt_irrefl
def yP:=@List.getElem_mem
def yQ:=@Nat.zero_le
def yR:=@List.map_map
def yS:=@Int.eq_ofNat_of_zero_le
def yT:=@PySem.Heap.get?_update_other
def yU:=@List.take_of_length_le
def yV:=@PySem.F.slot_list_append
def yW:=@Int.emod_lt_of_pos
def yX:=@PyProof.Rows.callWith_type1
def yY:=@List.replicate_succ
def yZ:=@PySem.wpAny_call_entry
def y6:=@List.mem_flatMap
def y7:=@PySem.wpAny_newObj_type
def y8:=@List.getElem?_append_right
def y9:=@List.nodup_cons
def y_:=@List.length_pos_iff
def za:=@List.take_append_drop
def zb:=@Bool.eq_iff_iff
def zc:=@PySem.Obj.data_mapFields
def zd:=@Int.emod_nonneg
def ze:=@List.mem_of_mem_take
def zf:=@beq_eq_false_iff_ne
def zg:=@PySem.mem_of_lookup
def zh:=@PySem.wpAny_field
def zi:=@List.flatMap_cons
def zj:=@Nat.add_mod_right
def zk:=@Array.getElem?_eq_getElem
def zm:=@List.length_set
def zo:=@List.getElem?_reverse
def zp:=@PySem.F.slot_str_join
def zq:=@PySem.F.type_str_join
def zr:=@List.length_filter_le
def zt:=@PySem.wpAny_mono
def zu:=@List.getElem_idxOf
def zv:=@PySem.F.type_list_append
def zw:=@List.eraseIdx_cons_succ
def zx:=@PySem.wpAny_getItem_str_slice
def zy:=@Array.length_toList
def zA:=@List.append_nil
def zB:=@List.foldl_cons
def zC:=@List.map_congr_left
def zD:=@List.range_succ
def zF:=@PySem.F.slot_str_lower
def zG:=@PySem.F.type_str_lower
def zH:=@Array.getElem?_eq_some_iff
def zI:=@PySem.F.slot_tuple_iterator_next
def zJ:=@List.getElem_map
def zK:=@PySem.Heap.get?_update_self
def zL:=@List.drop_eq_getElem_cons
def zN:=@List.getElem?_set_ne
def zO:=@PySem.wpAny_passesOwn
def zP:=@List.eraseIdxIfInBounds_toArray
def zQ:=@List.length_nil
def zR:=@List.Pairwise.imp
def zS:=@Int.zero_add
def zT:=@PySem.Heap.SameBut.update
def zU:=@List.flatMap_append
def zV:=@or_false
def zW:=@List.length_reverse
def zX:=@List.eq_nil_of_length_eq_zero
def zY:=@List.nodup_nil
def zZ:=@PySem.wpAny_setField
def z1:=@List.getElem?_set_self
def z3:=@PySem.F.slot_str_index
def z4:=@PySem.F.type_str_index
def z5:=@PySem.wpAny_pyIter_tuple
def z6:=@List.mem_filter
def z7:=@List.find?_cons
def z8:=@PySem.wpAny_specialOf
def z9:=@PySem.builtinLookup_eq_fast
def z_:=@PySem.Obj.isFreed_of_fields
def Aa:=@List.getElem?_eq_none
def Ab:=@Nat.zero_add
def Ac:=@List.length_filter_lt_length_iff_exists
def Ad:=@List.getElem?_concat_length
def Ae:=@List.flatten_cons
def Af:=@PySem.call_meets
def Ag:=@List.cons.inj
def Ah:=@List.pairwise_map
def Ai:=@List.all_eq_true
def Aj:=@List.mem_reverse
def Ak:=@PySem.typeIs_str
def Al:=@PySem.F.slot_list_insert
def Am:=@PySem.F.slot_list_extend
def An:=@PySem.F.type_list_extend
def Ao:=@List.Pairwise.imp_of_mem
def Ap:=@PySem.Paired.length
def Aq:=@PySem.wpAny_holding
def Ar:=@List.getElem?_replicate
def As:=@Option.map_some
def Au:=@PySem.tupleKind_room_in1
def Av:=@List.forIn_cons
def Aw:=@Bool.false_eq_true
def Ax:=@PySem.post_val_or_str
def Ay:=@PySem.wpAny_attempt
def Az:=@List.getElem_range
def AA:=@PySem.F.args_dict_valueiterator_next_1
def AB:=@PySem.Calls.callWith_builtin
def AC:=@List.pairwise_lt_range
def AD:=@List.find?_cons_of_pos
def AE:=@List.find?_cons_of_neg
def AF:=@List.append_assoc
def AG:=@Option.isSome_map
def AH:=@PySem.wpAny_of_eq
def AI:=@List.take_add_one
def AJ:=@PySem.wpAny_pyIter_enum
def AK:=@PyProof.Rows.slot_tuple_getitem
def AL:=@PySem.F.entry_dict_valueiterator_next
def AM:=@PySem.wpAny_loadPart_at
def AN:=@PySem.wpAny_dictEntries
def AO:=@List.length_singleton
def AQ:=@Array.getElem?_toList
def AR:=@PySem.Txt.slice_le
def AS:=@List.pairwise_flatMap
def AU:=@PySem.F.slot_dict_valueiterator_next
def AV:=@PySem.wpAny_isOneOf_valiter
def AW:=@PySem.F.slot_list_pop
def AX:=@PySem.F.type_list_pop
def AY:=@List.map_set
def AZ:=@List.lookup_cons
def A0:=@Nat.lt_succ_self
def A1:=@PySem.wpAny_isInstance
def A2:=@List.map_reverse
def A3:=@Array.toList_inj
def A4:=@PySem.wpAny_typeNameOfWhole_valiter
def A5:=@PySem.F.args_list_append_2
def A6:=@List.mem_iff_getElem
def A7:=@List.mem_of_mem_drop
def A8:=@List.any_cons
def A9:=@PySem.W.mg_of
def A_:=@List.map_take
def Ba:=@List.sum_cons
def Bb:=@PySem.F.args_tuple_iterator_next_1
def Bc:=@List.dropLast_concat_getLast
def Bd:=@Sum.inl.inj
def Be:=@List.filterMap_cons
def Bf:=@PySem.wpAny_execs_nil
def Bg:=@PySem.sizeLine_eq
def Bh:=@PySem.F.entry_list_append
def Bi:=@PySem.typeLookup_type
def Bj:=@PySem.F.entry_tuple_iterator_next
def Bk:=@List.idxOf_cons
def Bl:=@Nat.not_lt_zero
def Bm:=@List.filter_sublist
def Bn:=@Int.toNat_of_nonneg
def Bo:=@PySem.Calls.Name_function_global
def Bp:=@List.perm_ext_iff_of_nodup
def Bq:=@PySem.wpAny_Call_Name_kw
def Br:=@List.map_nil
def Bs:=@Nat.sub_zero
def Bu:=@List.filter_filter
def Bv:=@PySem.Heap.size_push
def Bw:=@PySem.isSubtype_type
def Bx:=@List.append_eq_append_iff
def By:=@List.mem_or_eq_of_mem_set
def Bz:=@PySem.wpAny_truthy_bool
def BA:=@Option.isSome_iff_exists
def BB:=@List.getElem?_take_of_lt
def BC:=@PyProof.Rows.Subscript_
def BD:=@PySem.list_append
def BE:=@PySem.wpAny_comprehension_free
def BF:=@PySem.Obj.cls_mapFields
def BG:=@PySem.EqBoolInt.of_rcne
def BH:=@PySem.F.slot_dict_values
def BI:=@List.filter_congr
def BJ:=@PySem.F.type_list_insert
def BK:=@List.nodup_append
def BL:=@PySem.F.slot_list_remove
def BM:=@PySem.F.type_list_remove
def BN:=@PySem.evalPart_none
def BO:=@Nat.le_succ
def BP:=@List.map_drop
def BQ:=@List.length_eq_zero_iff
def BR:=@PySem.IsL.update
def BS:=@PySem.wpAny_Dict_empty
def BU:=@Option.getD_some
def BV:=@beq_self_eq_true
def BW:=@List.flatMap_nil
def BX:=@List.ext_getElem
def BY:=@Int.natCast_emod
def BZ:=@PySem.W.cellsFrom_some
def B0:=@List.not_of_lt_findIdx
def B1:=@List.append_eq_nil_iff
def B2:=@Array.getElem?_eq_none
def B3:=@List.of_mem_zip
def B4:=@Nat.succ_mul
def B5:=@List.le_refl
def B6:=@PySem.wpAny_dictEpoch
def B7:=@Nat.add_zero
def B8:=@List.erase_cons
def B9:=@Int.natCast_add
def B_:=@Nat.mod_lt
def Ca:=@PySem.isSubtype_stop
def Cb:=@List.drop_zero
def Cc:=@Nat.mul_le_mul
def Cd:=@PySem.wpAny_seqItems
def Ce:=@if_true
def Cf:=@Bool.or_false
def Cg:=@Prod.ext
def Ci:=@Nat.le_of_lt
def Cj:=@if_false
namespace L2
open PySem PySem.Spec PyProof.Rows
abbrev Key := Sum Int Str
def j5 : Key → Value → Bool
  | .inl k, v => Value.isInt k v
  | .inr x, v => Value.isStrOf x v
def xc (w : World) : Key → Int
  | .inl k => hashInt k
  | .inr x => hashStr w x
theorem aP : ∀ {k : Key} {v : Value}, j5 k v=true → (∃ i t, k=Sum.inl i ∧ v=Value.int i t) ∨ (∃ x t, k=Sum.inr x ∧ v=Value.str x t)
  | .inl i, v, h => by
    obtain ⟨t, e⟩ := Value.isInt_shape (k := i) (v := v) h
    exact .inl ⟨i, t, rfl, e⟩
  | .inr x, v, h => by
    obtain ⟨t, e⟩ := Value.isStrOf_shape (x := x) (v := v) h
    exact .inr ⟨x, t, rfl, e⟩
theorem kG (i : Int)(t : Tok) : j5 (.inl i) (.int i t)=true := by simp [j5, Value.isInt]
theorem kH (x : Str)(t : Tok) : j5 (.inr x) (.str x t)=true := by simp [j5, Value.isStrOf]
theorem sV (a b : Int) : decide ((Sum.inl a : Key)=Sum.inl b)=(a == b) := by
  by_cases e : a=b
  · subst e;simp
  · have h : ¬ (Sum.inl a : Key)=Sum.inl b := fun q => e (Bd q)
    rw [yy h]
    exact (zf.mpr e).symm
theorem sW (a b : Str) : decide ((Sum.inr a : Key)=Sum.inr b)=decide (a=b) := by
  by_cases e : a=b
  · subst e;simp
  · have h : ¬ (Sum.inr a : Key)=Sum.inr b := fun q => e (Sum.inr.inj q)
    rw [yy h, yy e]
theorem sX (a : Int)(b : Str) : decide ((Sum.inl a : Key)=Sum.inr b)=false := yy (fun q => nomatch q)
theorem sY (a : Str)(b : Int) : decide ((Sum.inr a : Key)=Sum.inl b)=false := yy (fun q => nomatch q)
def ba (prog : Program)(w : World) : PySem.KeyKind prog w Key where
  is := j5
  hash := xc w
  inj := fun v a b ha hb => by
    rcases aP ha with ⟨i, t, rfl, rfl⟩ | ⟨x, t, rfl, rfl⟩
    · rcases aP hb with ⟨j, u, rfl, e⟩ | ⟨y, u, rfl, e⟩
      · injection e with e1 _;rw [e1]
      · exact nomatch e
    · rcases aP hb with ⟨j, u, rfl, e⟩ | ⟨y, u, rfl, e⟩
      · exact nomatch e
      · injection e with e1 _;rw [e1]
  byValue := fun k v h => by
    rcases aP h with ⟨i, t, rfl, rfl⟩ | ⟨x, t, rfl, rfl⟩ <;> rfl
  pyHash := fun hv h => by
    rcases aP hv with ⟨i, t, rfl, rfl⟩ | ⟨x, t, rfl, rfl⟩
    · exact wpAny_pyHash_int h
    · exact wpAny_pyHash_str h
  eqBool := fun hu hv h => by
    rcases aP hu with ⟨i, t, rfl, rfl⟩ | ⟨x, t, rfl, rfl⟩
    · rcases aP hv with ⟨j, u, rfl, rfl⟩ | ⟨y, u, rfl, rfl⟩
      · rw [sV] at h;exact wpAny_eqBool_int h
      · rw [sX] at h;exact SeqAt.EqAt.int_str i t y u _ _ _ _ h
    · rcases aP hv with ⟨j, u, rfl, rfl⟩ | ⟨y, u, rfl, rfl⟩
      · rw [sY] at h;exact SeqAt.EqAt.str_int x t j u _ _ _ _ h
      · rw [sW] at h;exact wpAny_eqBool_str h
  «strs» := fun k x t v h => by
    rcases aP h with ⟨i, u, rfl, e⟩ | ⟨y, u, rfl, e⟩
    · exact nomatch e
    · injection e with e1 _
      subst e1
      cases v <;> rfl
theorem iH (prog : Program)(w : World)(i : Int)(t : Tok) : (ba prog w).is (.inl i) (.int i t)=true := kG i t
theorem iI (prog : Program)(w : World)(x : Str)(t : Tok) : (ba prog w).is (.inr x) (.str x t)=true := kH x t
inductive V where
  | non | bl (b : Bool) | int (i : Int) | str (x : Str) | byt (b : Array UInt8) | flt (b : UInt64) | ref (a : Addr) | ty (n : String)
  deriving DecidableEq
def bf : V → Value → Prop
  | .non, u => u=Value.none
  | .bl b, u => u=Value.bool b
  | .int i, u => ∃ t, u=Value.int i t
  | .str x, u => ∃ t, u=Value.str x t
  | .byt b, u => ∃ t, u=Value.bytes b t
  | .flt b, u => ∃ t, u=Value.float b t
  | .ref a, u => u=Value.ref a
  | .ty n, u => u=Value.type n
abbrev aL : List V → List Value → Prop := Paired bf
theorem aL.length {xs : List V}{us : List Value}(r : aL xs us) : xs.length=us.length := Ap r
theorem aL.get : ∀ {xs : List V} {us : List Value} {i : Nat} {x : V}, aL xs us → xs[i]? = some x → ∃ u, us[i]? = some u ∧ bf x u
  | _, _, _, _, .nil, e => by simp at e
  | _, _, 0, _, .cons r _, e => by simp at e;subst e;exact ⟨_, rfl, r⟩
  | _, _, i+1, x, .cons _ t, e => by
    obtain ⟨u, h1, h2⟩ := aL.get (i := i) (x := x) t (by simpa using e)
    exact ⟨u, by simpa using h1, h2⟩
theorem aL.set {x : V}{u : Value}(r : bf x u) : ∀ {xs : List V} {us : List Value} (i : Nat), aL xs us → aL (xs.set i x) (us.set i u)
  | _, _, _, .nil => .nil
  | _, _, 0, .cons _ t => .cons r t
  | _, _, i+1, .cons q t => .cons q (aL.set r i t)
theorem aL.append : ∀ {xs ys : List V} {us ws : List Value}, aL xs us → aL ys ws → aL (xs++ys) (us++ws)
  | _, _, _, _, .nil, s => s
  | _, _, _, _, .cons r t, s => .cons r (aL.append t s)
theorem aL.take : ∀ {xs : List V} {us : List Value} (n : Nat), aL xs us → aL (xs.take n) (us.take n)
  | _, _, 0, _ => .nil
  | _, _, _+1, .nil => .nil
  | _, _, n+1, .cons r t => .cons r (aL.take n t)
theorem aL.drop : ∀ {xs : List V} {us : List Value} (n : Nat), aL xs us → aL (xs.drop n) (us.drop n)
  | _, _, 0, r => r
  | _, _, _+1, .nil => .nil
  | _, _, n+1, .cons _ t => aL.drop n t
def kI : Option V → Option Value → Prop
  | some v, some u => bf v u
  | none, none => True
  | _, _ => False
def KV {κ : Type} : List (κ × V) → List (κ × Value) → Prop := Paired fun (p : κ × V) (q : κ × Value) => p.1=q.1 ∧ bf p.2 q.2
def kV : Key → V
  | .inl i => .int i
  | .inr x => .str x
inductive HO where
  | lst (xs : List V)
  | tup (xs : List V)
  | dK (kvs : List (Key × V)) | dT (kvs : List (List Key × V))
  | set (S : Int → Bool) (n : Nat)
  | ins (C dx : Addr) (fs : List (Str × V))
  | own (x : Addr)
  | xd (fs : List (Str × V))
  | met (f x : Addr)
  | rng (lo hi : Int)
  | frz (o : Obj) (u : HO)
  | tbl (ps : Array Value)
  | ext (φ : Heap → Prop)
abbrev Hp := Addr → Option HO
def upd (H : Hp)(a : Addr)(o : HO) : Hp := fun b => if b=a then some o else H b
theorem ab {H : Hp}{a : Addr}{o : HO} : upd H a o a=some o := by unfold upd; rw [if_pos rfl]
theorem ak {H : Hp}{a b : Addr}{o : HO}(h : b≠a) : upd H a o b=H b := by unfold upd; rw [if_neg h]
theorem c_ {H : Hp}{a : Addr}{o u : HO} : upd (upd H a o) a u=upd H a u := by
  funext b;unfold upd;split <;> rfl
theorem cM {H : Hp}{a b : Addr}{o u : HO}(h : H a=some o)(h' : H b=some u)(d : o≠u) : a≠b := by
  intro e;subst e;rw [h] at h';exact d (x5 h')
theorem ah {H : Hp}{a b : Addr}{o : HO}(h : H a=some o)(h' : H b=none) : a≠b := by
  intro e;subst e;rw [h] at h';cases h'
section
variable (P : Program) (w : World)
def NoD (h : Heap)(a : Addr) : Prop := ∃ o, h.get? a=some o ∧ o.dict=none
theorem NoD.new (h : Heap)(o : Obj)(e : o.dict=none)(hf : o.isFreed=false := by rfl) : NoD (h.push o) h.objs.size := ⟨o, ya _ hf, e⟩
def bg (H : Hp)(h : Heap)(a : Addr) : HO → Prop
  | .lst xs => xs.length≤sizeLine ∧ ∃ (its : List Value) (n : Nat), aL xs its ∧ h.get? a=some { cls := .type "list", data := .seq its.toArray n }
  | .tup xs => xs.length≤sizeLine ∧ ∃ its : List Value, aL xs its ∧ IsTup h a its.toArray ∧ NoD h a
  | .dK kvs => kvs.length≤sizeLine ∧ (a == sysModules)=false ∧ ∃ vs, KV kvs vs ∧ h.DictOf (ba P w) a vs
  | .dT kvs => kvs.length≤sizeLine ∧ (a == sysModules)=false ∧ ∃ xs : List (List Key × Addr × Value),
      Paired (fun (p : List Key × V) (q : List Key × Addr × Value) => p.1=q.1 ∧ H q.2.1=some (.tup (p.1.map kV)) ∧ bf p.2 q.2.2) kvs xs ∧
      ∃ o es ep, h.get? a=some o ∧ o.ExactDict ∧ o.data = .dict es ep ∧ es.toList=xs.map (entryOfKey (tupleKind (ba P w))) ∧ (xs.map (·.1)).Nodup
  | .set S n => h.SetOf (intKind P w) a S n
  | .ins C dx fs => H dx=some (.own a) ∧ fs.length≤1000 ∧ dx≠a ∧ h.get? a=some (PySem.W.instObj C dx) ∧
      ∃ mA, h.Ns1 dx mA ∧ (∀ f, kI (fs.lookup f) (mA f)) ∧ PySem.Within mA (fs.map (·.1))
  | .own _ => ∃ o, h.get? a=some o
  | .xd fs => ∃ mA, h.Ns1 a mA ∧ ∀ f, kI (fs.lookup f) (mA f)
  | .rng lo hi => ∃ t u v, h.get? a=some { cls := .type "range", data := .fields #[.int lo t, .int hi u, .int 1 v] }
  | .frz o u => h.get? a=some o ∧ bg H h a u
  | .tbl ps => h.get? a=some { cls := .none, data := .fields ps }
  | .met f x => h.get? a=some (PySem.W.methodObj (.ref f) (.ref x))
  | .ext φ => φ h ∧ (∃ o, h.get? a=some o) ∧ ∀ h1 h2 : Heap, φ h1 → (∀ o, h1.get? a=some o → h2.get? a=some o) → φ h2
def HOk (H : Hp)(h : Heap) : Prop := ∀ a o, H a=some o → bg P w H h a o
end
section
variable {P : Program} {w : World} {H H' : Hp} {h h' : Heap} {a : Addr} {o : HO}
theorem bg.lt (x : bg P w H h a o) : a < h.objs.size := by
  cases o with
  | lst xs => obtain ⟨_, _, _, _, e⟩ := x;exact yd e
  | tup xs => obtain ⟨_, _, _, p, _⟩ := x;exact p.lt
  | dK kvs => obtain ⟨_, _, _, _, o, _, _, e, _⟩ := x;exact yd e
  | dT kvs => obtain ⟨_, _, _, _, o, _, _, e, _⟩ := x;exact yd e
  | set S n => obtain ⟨o, _, _, _, e, _⟩ := x;exact yd e
  | ins C dx fs => obtain ⟨_, _, _, e, _⟩ := x;exact yd e
  | own y => obtain ⟨_, e⟩ := x;exact yd e
  | xd fs => obtain ⟨_, ⟨_, _, _, e, _⟩, _⟩ := x;exact yd e
  | rng lo hi => obtain ⟨_, _, _, e⟩ := x;exact yd e
  | frz ob u => obtain ⟨e, _⟩ := x;exact yd e
  | tbl ps => exact yd (show h.get? a=some _ from x)
  | met f y => exact yd (show h.get? a=some _ from x)
  | ext φ => obtain ⟨_, ⟨_, e⟩, _⟩ := x;exact yd e
theorem Paired.mapP {α β : Type}{F G : α → β → Prop} : ∀ {l₁ : List α} {l₂ : List β}, Paired F l₁ l₂ → (∀ a b, F a b → G a b) → Paired G l₁ l₂
  | _, _, .nil, _ => .nil
  | _, _, .cons r t, f => .cons (f _ _ r) (Paired.mapP t f)
theorem bg.stay (x : bg P w H h a o)(k : ∀ b u, (b=a ∨ H b=some (.own a)) → h.get? b=some u → h'.get? b=some u)
    (ho : ∀ b, H b=some (.own a) → H' b=some (.own a)) (ht : ∀ b xs, H b=some (.tup xs) → H' b=some (.tup xs)) : bg P w H' h' a o := by
  induction o with
  | lst xs => obtain ⟨z, its, n, r, e⟩ := x;exact ⟨z, its, n, r, k _ _ (.inl rfl) e⟩
  | tup xs => obtain ⟨z, its, r, ⟨ob, e, c⟩, o2, e2, c2⟩ := x;exact ⟨z, its, r, ⟨ob, k _ _ (.inl rfl) e, c⟩, o2, k _ _ (.inl rfl) e2, c2⟩
  | dK kvs => obtain ⟨z, y, vs, r, ob, es, ep, e, c⟩ := x;exact ⟨z, y, vs, r, ob, es, ep, k _ _ (.inl rfl) e, c⟩
  | dT kvs =>
    obtain ⟨z, y, xs, r, ob, es, ep, e, c⟩ := x
    exact ⟨z, y, xs, Paired.mapP r fun p q z => ⟨z.1, ht _ _ z.2.1, z.2.2⟩, ob, es, ep, k _ _ (.inl rfl) e, c⟩
  | set S n => obtain ⟨ob, es, ep, t, e, c⟩ := x;exact ⟨ob, es, ep, t, k _ _ (.inl rfl) e, c⟩
  | ins C dx fs =>
    obtain ⟨d, z, ne, e, mA, ⟨od, es, ep, e2, c⟩, r⟩ := x
    exact ⟨ho _ d, z, ne, k _ _ (.inl rfl) e, mA, ⟨od, es, ep, k _ _ (.inr d) e2, c⟩, r⟩
  | own y => obtain ⟨ob, e⟩ := x;exact ⟨ob, k _ _ (.inl rfl) e⟩
  | xd fs => obtain ⟨mA, ⟨od, es, ep, e, c⟩, r⟩ := x;exact ⟨mA, ⟨od, es, ep, k _ _ (.inl rfl) e, c⟩, r⟩
  | rng lo hi => obtain ⟨t, u, v, e⟩ := x;exact ⟨t, u, v, k _ _ (.inl rfl) e⟩
  | frz ob u ih => obtain ⟨e, q⟩ := x;exact ⟨k _ _ (.inl rfl) e, ih q⟩
  | tbl ps =>
    have e : h.get? a=some { cls := .none, data := .fields ps } := x
    show h'.get? a=some { cls := .none, data := .fields ps }
    exact k a _ (.inl rfl) e
  | met f y =>
    have e : h.get? a=some (PySem.W.methodObj (.ref f) (.ref y)) := x
    show h'.get? a=some (PySem.W.methodObj (.ref f) (.ref y))
    exact k a _ (.inl rfl) e
  | ext φ => obtain ⟨p, ⟨o, e⟩, st⟩ := x;exact ⟨st _ _ p fun o q => k _ _ (.inl rfl) q, ⟨o, k _ _ (.inl rfl) e⟩, st⟩
theorem HOk.lt (x : HOk P w H h)(e : H a=some o) : a < h.objs.size := (x a o e).lt
theorem HOk.fresh (x : HOk P w H h)(e : h.objs.size≤a) : H a=none := by
  cases q : H a with
  | none => rfl
  | some u => exact absurd (yj (x.lt q) e) (yO _)
theorem HOk.kept (x : HOk P w H h)(k : ∀ b u, h.get? b=some u → h'.get? b=some u) : HOk P w H h' := fun a o e =>
  (x a o e).stay (fun b u _ q => k b u q) (fun _ q => q) fun _ _ q => q
theorem HOk.laid (x : HOk P w H h)(k : ∀ b u, h.get? b=some u → h'.get? b=some u)(hp : h.objs.size≤a)(new : bg P w (upd H a o) h' a o) : HOk P w (upd H a o) h' := fun b u e => by
  have hn := x.fresh hp
  by_cases hb : b=a
  · subst hb;rw [ab] at e;cases e;exact new
  · rw [ak hb] at e
    exact (x b u e).stay (fun c v _ q => k c v q) (fun c q => by rw [ak (ah q hn)];exact q) fun c xs q => by rw [ak (ah q hn)];exact q
end
def Rd (H : Hp)(a : Addr)(u : HO) : Prop := H a=some u ∨ ∃ o, H a=some (.frz o u)
theorem Rd.ok {P : Program}{w : World}{H : Hp}{h : Heap}{a : Addr}{u : HO}(r : Rd H a u)(x : HOk P w H h) : bg P w H h a u := by
  rcases r with r | ⟨o, r⟩
  · exact x a u r
  · obtain ⟨_, q⟩ := x a _ r
    exact q
def Mut : Option HO → Prop
  | some (.lst _) => True
  | some (.dK _) => True
  | some (.dT _) => True
  | some (.set _ _) => True
  | some (.ins _ _ _) => True
  | some (.ext _) => True
  | _ => False
section
variable {P : Program} {w : World} {H : Hp} {h h' : Heap} {x e : Addr} {o' : HO}
theorem HOk.write (ok : HOk P w H h)(mu : Mut (H x))(he : e=x ∨ H e=some (.own x))(k : ∀ b u, b≠e → h.get? b=some u → h'.get? b=some u)(heo : ∃ u, h'.get? e=some u)
    (new : bg P w (upd H x o') h' x o') : HOk P w (upd H x o') h' := fun b u q => by
  have nown : ∀ c y, H c=some (.own y) → c≠x := fun c y r z => by subst z;rw [r] at mu;exact mu
  have ntup : ∀ c xs, H c=some (.tup xs) → c≠x := fun c xs r z => by subst z;rw [r] at mu;exact mu
  by_cases hb : b=x
  · subst hb;rw [ab] at q;cases q;exact new
  · rw [ak hb] at q
    by_cases hbe : b=e
    · have q' : H b=some (.own x) := by
        rcases he with z | z
        · exact absurd (hbe.trans z) hb
        · rw [hbe];exact z
      rw [q] at q';cases q'
      obtain ⟨v, hv⟩ := heo
      exact ⟨v, by rw [hbe];exact hv⟩
    · refine (ok b u q).stay (fun c v hc r => k c v ?_ r) (fun c r => by rw [ak (nown c b r)];exact r) fun c xs r => by rw [ak (ntup c xs r)];exact r
      rcases hc with rfl | hc
      · exact hbe
      · rintro rfl
        rcases he with z | z
        · exact nown c b hc z
        · rw [hc] at z;cases z;exact hb rfl
end
structure Un (fs ex : List Addr) (H H' : Hp) (h h' : Heap) : Prop where
  keep : ∀ b o, h.get? b=some o → H b=none → b∉fs → b∉ex → h'.get? b=some o
  slot : ∀ b o, h.get? b=some o → H b=none → b∈fs → b∉ex → ∃ sl, h'.get? b=some { o with slots := sl }
  free : ∀ b o, h.get? b=some o → H b=none → b∉ex → H' b=none
  there : ∀ b o, h.get? b=some o → b∉ex → ∃ o', h'.get? b=some o'
  tups : ∀ b xs, H b=some (.tup xs) → H' b=some (.tup xs)
  frzs : ∀ b o u, H b=some (.frz o u) → H' b=some (.frz o u)
  tbls : ∀ b ps, H b=some (.tbl ps) → ∃ more, H' b=some (.tbl (ps++more))
section
variable {fs fs' ex ex' : List Addr} {H H1 H2 : Hp} {h h1 h2 h' : Heap} {a x e : Addr} {o : HO}
theorem Un.any (u : Un fs ex H H1 h h1){b : Addr}{ob : Obj}(q : h.get? b=some ob)(n : H b=none)(hx : b∉ex) : ∃ sl, h1.get? b=some { ob with slots := sl } := by
  by_cases hb : b∈fs
  · exact u.slot b ob q n hb hx
  · exact ⟨ob.slots, u.keep b ob q n hb hx⟩
theorem Un.kept (k : ∀ b u, h.get? b=some u → h'.get? b=some u) : Un fs ex H H h h' :=
  ⟨fun b ob q _ _ _ => k b ob q, fun b ob q _ _ _ => ⟨ob.slots, k b ob q⟩, fun _ _ _ n _ => n, fun b ob q _ => ⟨ob, k b ob q⟩, fun _ _ q => q, fun _ _ _ q => q, fun _ ps q => ⟨#[], by rw [q];simp⟩⟩
theorem Un.refl : Un fs ex H H h h := Un.kept fun _ _ q => q
theorem Un.laid (k : ∀ b u, h.get? b=some u → h'.get? b=some u)(hp : h.objs.size≤a)(hn : H a=none) : Un fs ex H (upd H a o) h h' where
  keep := fun b u q _ _ _ => k b u q
  slot := fun b u q _ _ _ => ⟨u.slots, k b u q⟩
  free := fun b u q n _ => by rw [ak (yH (yj (yd q) hp))];exact n
  there := fun b u q _ => ⟨u, k b u q⟩
  tups := fun b xs q => by rw [ak (ah q hn)];exact q
  frzs := fun b u xs q => by rw [ak (ah q hn)];exact q
  tbls := fun b ps q => ⟨#[], by rw [ak (ah q hn), q];simp⟩
theorem Un.write (mu : Mut (H x))(he : e=x ∨ H e=some (.own x))(k : ∀ b u, b≠e → h.get? b=some u → h'.get? b=some u)(heo : ∃ u, h'.get? e=some u) : Un fs ex H (upd H x o) h h' := by
  have hx : ∀ b, H b=none → b≠x := fun b n z => by subst z;rw [n] at mu;exact mu
  have hb : ∀ b, H b=none → b≠e := fun b n z => by
    subst z
    rcases he with r | r
    · exact hx b n r
    · rw [n] at r;cases r
  have hm : ∀ b u, H b=some u → ¬ Mut (some u) → b≠x := fun b u q nm z => by subst z;rw [q] at mu;exact nm mu
  refine ⟨fun b u q n _ _ => k b u (hb b n) q, fun b u q n _ _ => ⟨u.slots, k b u (hb b n) q⟩, fun b u q n _ => by rw [ak (hx b n)];exact n, fun b u q _ => ?_,
    fun b xs q => by rw [ak (hm b _ q fun z => z)];exact q, fun b u xs q => by rw [ak (hm b _ q fun z => z)];exact q, fun b ps q => ⟨#[], by rw [ak (hm b _ q fun z => z), q];simp⟩⟩
  by_cases hbe : b=e
  · subst hbe;exact heo
  · exact ⟨u, k b u hbe q⟩
end
def trk (h : Heap)(H : Hp) : List Addr := (List.range h.objs.size).filter fun a => (H a).isSome
def nQ (h : Heap)(H : Hp) : Heap := PySem.W.hideAll h (trk h H)
theorem kJ (h : Heap)(H : Hp) : (nQ h H).objs.size=h.objs.size := PySem.W.hideAll_size _ _
theorem nS {h : Heap}{H : Hp}{b : Addr}{o : Obj}(e : h.get? b=some o)(n : H b=none) : (nQ h H).get? b=some o :=
  PySem.W.hideAll_get _ e fun hm => by
    have q : (H b).isSome=true := (z6.mp hm).2
    rw [n] at q;simp at q
theorem qJ {h : Heap}{H : Hp}{b : Addr}{o : Obj}(e : (nQ h H).get? b=some o) : h.get? b=some o ∧ H b=none := by
  have e' : h.get? b=some o := PySem.W.of_hideAll (trk h H) e
  refine ⟨e', ?_⟩
  cases q : H b with
  | none => rfl
  | some x =>
    have hm : b∈trk h H := z6.mpr ⟨yG.mpr (yd e'), by simp [q]⟩
    have z : (nQ h H).get? b=none := PySem.W.hideAll_none (trk h H) hm
    rw [z] at e;cases e
structure Mod (K : PySem.W.Frag) (mg : Str → Option Value) (base : Heap) : Prop where
  kin : K.In base
  glob : base.Ns mainGlobals mg
  blt : ∃ mb, base.Ns builtinsNs mb ∧ ∀ x : Str, x ≠ "__name__" → mb x=bootBuiltins x
  nolimit : base.NoLimit
/-- the context: a def's body (or a comprehension's block) running. base: fixed through the whole law;s₀, H₀: the entry;outer: the frames whose slots others may change (a def's callers);stack: all frames that run;
   ex: iterators that were made ahead of the entry and are walked here (a comprehension's);fn: the names whose cells were made at the entry (a def: all;a comprehension's block: its own);calm: not within an except suite;pn: pins that every state bears;xe: what is wanted of an exception that leaves the code -/
structure Cx where
  prog : Program
  w : World
  K : PySem.W.Frag
  mg : Str → Option Value
  base : Heap
  A : Around
  N : List Str
  s₀ : Shared
  H₀ : Hp
  env : Env
  outer : List Env
  stack : List Env
  ex : List Addr
  fn : Str → Bool
  calm : Bool
  pn : List (Addr × Obj)
  xe : Value → Shared → Prop
def frs (l : List Env) : List Addr := l.filterMap (·.frame)
abbrev Cx.fs (X : Cx) : List Addr := frs X.outer
def Vis (sc : Scope)(x : Str) : Prop := sc.names.lookup x=some .local ∨ sc.names.lookup x=some .cell ∨ sc.names.lookup x=some .free
def Loc (sc : Scope)(x : Str) : Prop := sc.names.lookup x=some .local ∨ sc.names.lookup x=some .cell
def xf (env : Env)(h : Heap)(m : Str → Option Value)(x : Str)(u : Value) : Prop :=
  (env.kindOf x=some .local ∧ m x=some u) ∨ ((env.kindOf x=some .cell ∨ env.kindOf x=some .free) ∧ ∃ c, env.cells.lookup x=some c ∧ h.IsCell c (some u))
structure Cx.Ok (X : Cx) : Prop where
  mod : Mod X.K X.mg X.base
  kind : X.env.scope.kind = .function
  glob : X.env.globals=mainGlobals
  blt : X.env.builtins=builtinsNs
  above : X.s₀.heap.objs.size≤X.env.locals
  inj : ∀ x y c, X.env.cells.lookup x=some c → X.env.cells.lookup y=some c → x=y
  has : ∀ x, (X.env.kindOf x=some .cell ∨ X.env.kindOf x=some .free) → ∃ c, X.env.cells.lookup x=some c
  cab : ∀ x c, X.fn x=true → X.env.cells.lookup x=some c → X.s₀.heap.objs.size≤c
  hd : X.calm=true → X.A.handled=none
  frames : X.A.frames=some X.stack
  stk : X.stack=X.outer ∨ (X.stack=X.env::X.outer ∧ X.env.frame=some X.env.locals)
  exf : ∀ b∈X.ex, b≠X.env.locals ∧ ∀ x c, X.env.cells.lookup x=some c → c≠b
  bs : ∀ b o, X.base.get? b=some o → X.s₀.heap.get? b=some o ∧ X.H₀ b=none
  bsz : X.base.objs.size≤X.s₀.heap.objs.size
  noex : ∀ b o, X.base.get? b=some o → b∉X.ex
  exfs : ∀ b∈X.ex, b∉X.fs
  funs : X.s₀.heap.FunFrames X.base X.outer
  frf : ∀ b∈X.fs, X.H₀ b=none
structure Inv (X : Cx) (pins : List (Addr × Obj)) (σ : List (Option V)) (H : Hp) (s : Shared) : Prop where
  ok : X.Ok
  os : s.os=X.s₀.os
  bare : AllBare s.gens
  base : Un X.fs X.ex X.H₀ H X.s₀.heap s.heap
  loc : ∃ m, s.heap.Ns X.env.locals m ∧ ∀ (i : Nat) (x : Str) (v : V), X.N[i]? = some x → σ[i]? = some (some v) → Vis X.env.scope x → ∃ u, bf v u ∧ xf X.env s.heap m x u
  cell : ∀ x c, X.env.cells.lookup x=some c → ∃ v, s.heap.IsCell c v
  free : H X.env.locals=none
  freeC : ∀ x c, X.env.cells.lookup x=some c → H c=none
  pin : ∀ p∈X.pn++pins, s.heap.get? p.1=some p.2 ∧ H p.1=none ∧ p.1≠X.env.locals ∧ p.1∉X.fs ∧ ∀ v, p.2.data ≠ .cell v
  hok : HOk X.prog X.w H s.heap
  len : σ.length=X.N.length
section
variable {X : Cx} {pins : List (Addr × Obj)} {σ : List (Option V)} {H H' : Hp} {s : Shared} {h' : Heap}
theorem Cx.Ok.nofr (ok : X.Ok){b : Addr}{o : Obj}(e : X.base.get? b=some o) : b∉X.fs := fun hb => by
  have := (ok.funs.mem hb).1
  rw [e] at this;cases this
theorem Inv.bs (I : Inv X pins σ H s) : ∀ b o, X.base.get? b=some o → s.heap.get? b=some o ∧ H b=none := fun b o e =>
  ⟨I.base.keep b o (I.ok.bs b o e).1 (I.ok.bs b o e).2 (I.ok.nofr e) (I.ok.noex b o e), I.base.free b o (I.ok.bs b o e).1 (I.ok.bs b o e).2 (I.ok.noex b o e)⟩
theorem Inv.bk (I : Inv X pins σ H s) : ∀ b o, X.base.get? b=some o → s.heap.get? b=some o := fun b o e => (I.bs b o e).1
theorem Inv.mod (I : Inv X pins σ H s) : Mod X.K X.mg X.base := I.ok.mod
theorem Inv.kIn (I : Inv X pins σ H s) : X.K.In s.heap := I.ok.mod.kin.keeps I.bk
theorem Inv.fr (I : Inv X pins σ H s) : ∃ m, Fr X.base X.env.locals s.heap m :=
  let ⟨m, hn, _⟩ := I.loc
  ⟨m, hn, I.bk, yI I.ok.bsz I.ok.above⟩
theorem Inv.lt (I : Inv X pins σ H s) : X.env.locals < s.heap.objs.size := let ⟨_, hn, _⟩ := I.loc; hn.lt
theorem Inv.sz (I : Inv X pins σ H s) : X.s₀.heap.objs.size≤s.heap.objs.size := yI I.ok.above (Ci I.lt)
theorem Inv.nofs (I : Inv X pins σ H s){a : Addr}(h : s.heap.objs.size≤a) : a∉X.fs := fun hb => by
  obtain ⟨_, o, ho, _⟩ := I.ok.funs.mem hb
  exact absurd (yj (yd ho) (yI I.sz h)) (yO _)
theorem Inv.cne (I : Inv X pins σ H s) : ∀ x c, X.env.cells.lookup x=some c → c≠X.env.locals := fun x c e z => by
  obtain ⟨v, o, ho, hd⟩ := I.cell x c e
  obtain ⟨m, ⟨o', es, ep, ho', hd', _⟩, _⟩ := I.loc
  rw [z, ho'] at ho;cases ho;rw [hd'] at hd;cases hd
theorem Inv.funs (I : Inv X pins σ H s) : s.heap.FunFrames X.base X.outer := by
  have all : ∀ (l : List Env), (∀ b∈frs l, b∈X.fs) → X.s₀.heap.FunFrames X.base l → s.heap.FunFrames X.base l := by
    intro l
    induction l with
    | nil => intro _ _;trivial
    | cons env r ih =>
      intro hs hl
      obtain ⟨hk, ⟨L, o, hf, hn, ho, hd⟩, hr⟩ := hl
      have hL : L∈X.fs := hs L (by unfold frs;rw [Be, hf];exact yb)
      obtain ⟨sl, e⟩ := I.base.slot L o ho (I.ok.frf L hL) hL fun z => I.ok.exfs L z hL
      exact ⟨hk, ⟨L, _, hf, hn, e, hd⟩, ih (fun b hb => hs b (by unfold frs;rw [Be, hf];exact x3 _ hb)) hr⟩
  exact all X.outer (fun _ hb => hb) I.ok.funs
theorem Inv.stack (I : Inv X pins σ H s) : s.heap.FunFrames X.base X.stack := by
  rcases I.ok.stk with e | ⟨e, hf⟩
  · rw [e];exact I.funs
  · rw [e]
    obtain ⟨m, hn, _⟩ := I.loc
    refine .cons (by rw [I.ok.kind];decide) hf hn ?_ I.funs
    exact Heap.get?_none_of_le (yI I.ok.bsz I.ok.above)
theorem Inv.stkSub (I : Inv X pins σ H s) : ∀ b∈frs X.stack, b∈X.env.locals::X.fs := fun b hb => by
  rcases I.ok.stk with e | ⟨e, hf⟩
  · rw [e] at hb;exact x3 _ hb
  · rw [e] at hb
    unfold frs at hb
    rw [Be, hf] at hb
    exact hb
theorem Inv.stkFree (I : Inv X pins σ H s) : ∀ b∈frs X.stack, H b=none := fun b hb => by
  rcases ye.mp (I.stkSub b hb) with e | hb
  · rw [e];exact I.free
  · obtain ⟨_, o, ho, _⟩ := I.ok.funs.mem hb
    exact I.base.free b o ho (I.ok.frf b hb) fun z => I.ok.exfs b z hb
theorem Inv.step {g' : Array GenState}{t' : Nat}{d' : Drawn}{ch : List Addr}(I : Inv X pins σ H s)
    (hch : ∀ b∈ch, (b∈X.ex ∨ X.s₀.heap.objs.size≤b) ∧ b≠X.env.locals ∧ (∀ x c, X.env.cells.lookup x=some c → c≠b) ∧ ∀ p∈X.pn++pins, p.1≠b)
    (keep : ∀ b o, b≠X.env.locals → b∉X.fs → b∉ch → s.heap.get? b=some o → H b=none → h'.get? b=some o)
    (slot : ∀ b o, b≠X.env.locals → b∈X.fs → b∉ch → s.heap.get? b=some o → H b=none → ∃ sl, h'.get? b=some { o with slots := sl }) (free : ∀ b o, b∉ch → s.heap.get? b=some o → H b=none → H' b=none)
    (there : ∀ b o, b∉ch → s.heap.get? b=some o → ∃ o', h'.get? b=some o')
    (tups : ∀ b xs, H b=some (.tup xs) → H' b=some (.tup xs)) (frzs : ∀ b o u, H b=some (.frz o u) → H' b=some (.frz o u)) (tbls : ∀ b ps, H b=some (.tbl ps) → ∃ more, H' b=some (.tbl (ps++more)))
    (ns : ∀ m, s.heap.Ns X.env.locals m → h'.Ns X.env.locals m) (hok : HOk X.prog X.w H' h') (hg : AllBare g') :
    Inv X pins σ H' { s with heap := h', gens := g', drawn := d', toks := t' } := by
  have neL : ∀ b o, X.s₀.heap.get? b=some o → b≠X.env.locals := fun b o e => yH (yj (yd e) I.ok.above)
  have neC : ∀ b o, X.s₀.heap.get? b=some o → b∉X.ex → b∉ch := fun b o e hx hb => by
    rcases (hch b hb).1 with z | z
    · exact hx z
    · exact absurd (yj (yd e) z) (yO _)
  have cellK : ∀ x c, X.env.cells.lookup x=some c → ∀ v, s.heap.IsCell c v → h'.IsCell c v := fun x c e v ⟨o, ho, hd⟩ => by
    have nch : c∉ch := fun z => (hch c z).2.2.1 x c e rfl
    by_cases hc : c∈X.fs
    · obtain ⟨sl, q⟩ := slot c o (I.cne x c e) hc nch ho (I.freeC x c e)
      exact ⟨_, q, hd⟩
    · exact ⟨o, keep c o (I.cne x c e) hc nch ho (I.freeC x c e), hd⟩
  refine ⟨I.ok, I.os, hg, ⟨fun b o e n hb hx => ?_, fun b o e n hb hx => ?_, fun b o e n hx => ?_, fun b o e hx => ?_, fun b xs e => tups b xs (I.base.tups b xs e), fun b o xs e => frzs b o xs (I.base.frzs b o xs e), fun b ps e => ?_⟩, ?_, fun x c e => ?_, ?_, fun x c e => ?_, fun p hp => ?_, hok, I.len⟩
  · exact keep b o (neL b o e) hb (neC b o e hx) (I.base.keep b o e n hb hx) (I.base.free b o e n hx)
  · obtain ⟨sl, e1⟩ := I.base.slot b o e n hb hx
    obtain ⟨sl', e2⟩ := slot b _ (neL b o e) hb (neC b o e hx) e1 (I.base.free b o e n hx)
    exact ⟨sl', e2⟩
  · obtain ⟨o', e1⟩ := I.base.there b o e hx
    exact free b o' (neC b o e hx) e1 (I.base.free b o e n hx)
  · obtain ⟨o', e1⟩ := I.base.there b o e hx
    exact there b o' (neC b o e hx) e1
  · obtain ⟨m1, e1⟩ := I.base.tbls b ps e
    obtain ⟨m2, e2⟩ := tbls b _ e1
    exact ⟨m1++m2, by rw [e2, Array.append_assoc]⟩
  · obtain ⟨m, hn, hl⟩ := I.loc
    refine ⟨m, ns m hn, fun i x v e1 e2 e3 => ?_⟩
    obtain ⟨u, r, l⟩ := hl i x v e1 e2 e3
    refine ⟨u, r, ?_⟩
    rcases l with l | ⟨k, c, e, z⟩
    · exact .inl l
    · exact .inr ⟨k, c, e, cellK x c e _ z⟩
  · obtain ⟨v, z⟩ := I.cell x c e
    exact ⟨v, cellK x c e v z⟩
  · obtain ⟨m, ⟨o, _, _, ho, _⟩, _⟩ := I.loc
    exact free _ o (fun z => (hch _ z).2.1 rfl) ho I.free
  · obtain ⟨v, o, ho, hd⟩ := I.cell x c e
    exact free c o (fun z => (hch c z).2.2.1 x c e rfl) ho (I.freeC x c e)
  · obtain ⟨e, n, ne, nf, d⟩ := I.pin p hp
    have nch : p.1∉ch := fun z => (hch p.1 z).2.2.2 p hp rfl
    exact ⟨keep p.1 p.2 ne nf nch e n, free p.1 p.2 nch e n, ne, nf, d⟩
theorem Inv.un {t' : Nat}(I : Inv X pins σ H s)(u : Un X.fs [] H H' s.heap h')(hok : HOk X.prog X.w H' h') : Inv X pins σ H' { s with heap := h', toks := t' } := by
  obtain ⟨m, ⟨o, es, ep, ho, r⟩, _⟩ := id I.loc
  obtain ⟨sl, hL⟩ := u.any ho I.free (by simp)
  exact I.step (g' := s.gens) (d' := s.drawn) (ch := []) (fun _ z => nomatch z) (fun b o _ hb _ e n => u.keep b o e n hb (by simp)) (fun b o _ hb _ e n => u.slot b o e n hb (by simp)) (fun b o _ e n => u.free b o e n (by simp)) (fun b o _ e => u.there b o e (by simp)) u.tups u.frzs u.tbls (fun m' hm => by
    obtain ⟨o', es', ep', ho', r'⟩ := hm
    rw [ho] at ho';cases ho'
    exact ⟨_, es', ep', hL, r'⟩) hok I.bare
theorem Inv.call {g' : Array GenState}{t' : Nat}{d' : Drawn}{ch : List Addr}(I : Inv X pins σ H s)(u : Un (frs X.stack) ch H H' s.heap h')(hok : HOk X.prog X.w H' h')(hg : AllBare g')
    (hch : ∀ b∈ch, (b∈X.ex ∨ X.s₀.heap.objs.size≤b) ∧ b≠X.env.locals ∧ (∀ x c, X.env.cells.lookup x=some c → c≠b) ∧ ∀ p∈X.pn++pins, p.1≠b) :
    Inv X pins σ H' { s with heap := h', gens := g', drawn := d', toks := t' } := by
  obtain ⟨m, ⟨o, es, ep, ho, r⟩, _⟩ := id I.loc
  obtain ⟨sl, hL⟩ := u.any ho I.free fun z => (hch _ z).2.1 rfl
  exact I.step (ch := ch) hch (fun b o hL hb hc e n => u.keep b o e n (fun z => (ye.mp (I.stkSub b z)).elim hL hb) hc) (fun b o _ _ hc e n => u.any e n hc) (fun b o hc e n => u.free b o e n hc) (fun b o hc e => u.there b o e hc) u.tups u.frzs u.tbls (fun m' hm => by
    obtain ⟨o', es', ep', ho', r'⟩ := hm
    rw [ho] at ho';cases ho'
    exact ⟨_, es', ep', hL, r'⟩) hok hg
theorem Inv.turned {t' : Nat}{it : Addr}(I : Inv X pins σ H s)(k : ∀ b o, b≠it → s.heap.get? b=some o → h'.get? b=some o)(hn : H it=none)(hL : it≠X.env.locals)
    (h1 : it∈X.ex ∨ X.s₀.heap.objs.size≤it) (h2 : ∀ x c, X.env.cells.lookup x=some c → c≠it) (h3 : ∀ p∈X.pn++pins, p.1≠it) : Inv X pins σ H { s with heap := h', toks := t' } := by
  have nit : ∀ b u, H b=some u → b≠it := fun b u e z => by rw [z, hn] at e;cases e
  refine I.step (g' := s.gens) (d' := s.drawn) (ch := [it]) (fun b hb => ?_) (fun b o _ _ hc e _ => k b o (fun z => hc (by simp [z])) e) (fun b o _ _ hc e _ => ⟨o.slots, k b o (fun z => hc (by simp [z])) e⟩) (fun _ _ _ _ n => n)
    (fun b o hc e => ⟨o, k b o (fun z => hc (by simp [z])) e⟩) (fun _ _ e => e) (fun _ _ _ e => e) (fun b ps e => ⟨#[], by rw [e];simp⟩) (fun m hm => ?_) (fun b u e => ?_) I.bare
  · have e : b=it := by simpa using hb
    subst e
    exact ⟨h1, hL, h2, h3⟩
  · obtain ⟨o, es, ep, ho, r⟩ := hm
    exact ⟨o, es, ep, k _ o (Ne.symm hL) ho, r⟩
  · refine (I.hok b u e).stay (fun c v hc q => k c v ?_ q) (fun _ q => q) fun _ _ q => q
    rcases hc with z | z
    · rw [z];exact nit b u e
    · exact nit c _ z
theorem Inv.tok (I : Inv X pins σ H s)(t : Nat) : Inv X pins σ H { s with toks := t } := I.un (h' := s.heap) (t' := t) Un.refl I.hok
theorem Inv.kept {t' : Nat}(I : Inv X pins σ H s)(k : ∀ b u, s.heap.get? b=some u → h'.get? b=some u) : Inv X pins σ H { s with heap := h', toks := t' } := I.un (Un.kept k) (I.hok.kept k)
theorem Inv.laid {a : Addr}{o : HO}{t' : Nat}(I : Inv X pins σ H s)(k : ∀ b u, s.heap.get? b=some u → h'.get? b=some u)(hp : s.heap.objs.size≤a)(new : bg X.prog X.w (upd H a o) h' a o) :
    Inv X pins σ (upd H a o) { s with heap := h', toks := t' } := I.un (Un.laid k hp (I.hok.fresh hp)) (I.hok.laid k hp new)
theorem Inv.write {x e : Addr}{o : HO}{t' : Nat}(I : Inv X pins σ H s)(mu : Mut (H x))(he : e=x ∨ H e=some (.own x))(k : ∀ b u, b≠e → s.heap.get? b=some u → h'.get? b=some u)(heo : ∃ u, h'.get? e=some u)
    (new : bg X.prog X.w (upd H x o) h' x o) : Inv X pins σ (upd H x o) { s with heap := h', toks := t' } := I.un (Un.write mu he k heo) (I.hok.write mu he k heo new)
theorem Inv.pins_of {pins' : List (Addr × Obj)}(I : Inv X pins σ H s)(h : ∀ p∈pins', s.heap.get? p.1=some p.2 ∧ H p.1=none ∧ p.1≠X.env.locals ∧ p.1∉X.fs ∧ ∀ v, p.2.data ≠ .cell v) : Inv X pins' σ H s :=
  ⟨I.ok, I.os, I.bare, I.base, I.loc, I.cell, I.free, I.freeC, fun p hp => (yn.mp hp).elim (fun z => I.pin p (yE _ z)) (h p), I.hok, I.len⟩
theorem jm {N : List Str}(hN : N.Nodup){i j : Nat}{x : Str}(a : N[i]? = some x)(b : N[j]? = some x) : i=j := by
  obtain ⟨h1, e1⟩ := xV.mp a
  obtain ⟨h2, e2⟩ := xV.mp b
  exact (List.getElem_inj hN).mp (e1.trans e2.symm)
theorem kK {M : Model}{A : Around}{E : Value → Shared → Prop}{i : Nat}{x : Str}{v : V}{u : Value}{Q : Unit → Shared → Prop}(I : Inv X pins σ H s)(hN : X.N.Nodup)(hi : X.N[i]? = some x)(hx : Loc X.env.scope x)(r : bf v u)
    (h : ∀ s', Inv X pins (σ.set i (some v)) H s' → (∃ a, Heap.SameBut a s.heap s'.heap ∧ (a=X.env.locals ∨ X.env.cells.lookup x=some a)) → Q () s') (hf : X.fn x=true ∨ X.env.scope.names.lookup x=some .local := by first | exact .inl rfl | exact .inr rfl | assumption) : wpAny M A (storeName X.env x u) Q E s := by
  obtain ⟨m, hn, hl⟩ := id I.loc
  have hcls : (X.env.scope.kind == .class || (X.env.scope.kind == .module && X.env.locals != X.env.globals))=false := by rw [I.ok.kind];rfl
  have hiσ : i < σ.length := by rw [I.len];exact (xV.mp hi).1
  have cne := I.cne
  have tracked : ∀ {a : Addr} {h' : Heap}, (∃ o, s.heap.get? a=some o ∧ H a=none) → Heap.SameBut a s.heap h' → HOk X.prog X.w H h' := fun {a h'} ha hs b ob e => by
    obtain ⟨_, _, hfree⟩ := ha
    refine (I.hok b ob e).stay (fun c w' hc q => (hs.2 c ?_).trans q) (fun _ q => q) fun _ _ q => q
    rintro rfl
    rcases hc with rfl | hc
    · rw [hfree] at e;cases e
    · rw [hfree] at hc;cases hc
  rcases hx with hk | hk
  · refine wpAny_storeName_local hk hn (fun h' hn' hs => ?_) hcls
    obtain ⟨oL, _, _, hoL, _⟩ := id hn
    refine h _ ⟨I.ok, I.os, I.bare, ⟨fun b o e n hb hx => ?_, fun b o e n hb hx => ?_, I.base.free, fun b o e hx => ?_, I.base.tups, I.base.frzs, I.base.tbls⟩, ⟨_, hn', fun j y v' e1 e2 e3 => ?_⟩, fun y c e => ?_, I.free, I.freeC, fun p hp => ?_, tracked ⟨oL, hoL, I.free⟩ hs, by simpa using I.len⟩ ⟨_, hs, .inl rfl⟩
    · exact (hs.2 b (yH (yj (yd e) I.ok.above))).trans (I.base.keep b o e n hb hx)
    · obtain ⟨sl, e1⟩ := I.base.slot b o e n hb hx
      exact ⟨sl, (hs.2 b (yH (yj (yd e) I.ok.above))).trans e1⟩
    · obtain ⟨o', e1⟩ := I.base.there b o e hx
      exact ⟨o', (hs.2 b (yH (yj (yd e) I.ok.above))).trans e1⟩
    · by_cases hj : j=i
      · subst hj
        rw [hi] at e1;cases e1
        rw [z1 hiσ] at e2
        cases e2
        exact ⟨u, r, .inl ⟨hk, by simp⟩⟩
      · rw [zN (Ne.symm hj)] at e2
        obtain ⟨u', r', q⟩ := hl j y v' e1 e2 e3
        refine ⟨u', r', ?_⟩
        rcases q with ⟨k, e⟩ | ⟨k, c, e, z⟩
        · refine .inl ⟨k, ?_⟩
          have : y≠x := fun e => hj (jm hN e1 (e ▸ hi))
          simp [this, e]
        · exact .inr ⟨k, c, e, z.sameBut hs (cne y c e)⟩
    · obtain ⟨w', z⟩ := I.cell y c e
      exact ⟨w', z.sameBut hs (cne y c e)⟩
    · obtain ⟨e, n, ne, nf, d⟩ := I.pin p hp
      exact ⟨(hs.2 p.1 ne).trans e, n, ne, nf, d⟩
  · have hfn : X.fn x=true := by
      rcases hf with z | z
      · exact z
      · rw [z] at hk;cases hk
    obtain ⟨c, hc⟩ := I.ok.has x (.inl hk)
    obtain ⟨w', z⟩ := I.cell x c hc
    refine wpAny_storeName_cell I.ok.kind hk hc z (fun h' hc' hs => ?_)
    obtain ⟨oc, hoc, hocd⟩ := id z
    refine h { s with heap := h' } ⟨I.ok, I.os, I.bare, ⟨fun b o e n hb hx => ?_, fun b o e n hb hx => ?_, I.base.free, fun b o e hx => ?_, I.base.tups, I.base.frzs, I.base.tbls⟩, ⟨m, hn.sameBut hs (Ne.symm (cne x c hc)), fun j y v' e1 e2 e3 => ?_⟩, fun y c' e => ?_, I.free, I.freeC, fun p hp => ?_, tracked ⟨oc, hoc, I.freeC x c hc⟩ hs, by simpa using I.len⟩ ⟨c, hs, .inr hc⟩
    · exact (hs.2 b (yH (yj (yd e) (I.ok.cab x c hfn hc)))).trans (I.base.keep b o e n hb hx)
    · obtain ⟨sl, e1⟩ := I.base.slot b o e n hb hx
      exact ⟨sl, (hs.2 b (yH (yj (yd e) (I.ok.cab x c hfn hc)))).trans e1⟩
    · obtain ⟨o', e1⟩ := I.base.there b o e hx
      exact ⟨o', (hs.2 b (yH (yj (yd e) (I.ok.cab x c hfn hc)))).trans e1⟩
    · by_cases hj : j=i
      · subst hj
        rw [hi] at e1;cases e1
        rw [z1 hiσ] at e2
        cases e2
        exact ⟨u, r, .inr ⟨.inl hk, c, hc, hc'⟩⟩
      · rw [zN (Ne.symm hj)] at e2
        obtain ⟨u', r', q⟩ := hl j y v' e1 e2 e3
        refine ⟨u', r', ?_⟩
        rcases q with q | ⟨k, c', e, z'⟩
        · exact .inl q
        · refine .inr ⟨k, c', e, z'.sameBut hs ?_⟩
          rintro rfl
          exact hj (jm hN e1 (I.ok.inj _ _ _ e hc ▸ hi))
    · by_cases hcc : c'=c
      · subst hcc;exact ⟨_, hc'⟩
      · obtain ⟨w2, z2⟩ := I.cell y c' e
        exact ⟨w2, z2.sameBut hs hcc⟩
    · obtain ⟨e, n, ne, nf, d⟩ := I.pin p hp
      refine ⟨(hs.2 p.1 ?_).trans e, n, ne, nf, d⟩
      intro q
      rw [q, hoc] at e
      have q' : oc=p.2 := x5 e
      exact d w' (by rw [← q'];exact hocd)
theorem jo {M : Model}{A : Around}{E : Value → Shared → Prop}{i : Nat}{x : Str}{v : V}{u : Value}{Q : Unit → Shared → Prop}(I : Inv X pins σ H s)(hN : X.N.Nodup)(hi : X.N[i]? = some x)(hx : Loc X.env.scope x)(r : bf v u)
    (h : ∀ s', Inv X pins (σ.set i (some v)) H s' → Q () s') (hf : X.fn x=true ∨ X.env.scope.names.lookup x=some .local := by first | exact .inl rfl | exact .inr rfl | assumption) : wpAny M A (storeName X.env x u) Q E s :=
  kK I hN hi hx r (fun s' I' _ => h s' I') hf
theorem Inv.call' {s' : Shared}{ch : List Addr}(I : Inv X pins σ H s)(ho : s'.os=s.os)(u : Un (frs X.stack) ch H H' s.heap s'.heap)(hok : HOk X.prog X.w H' s'.heap)(hg : AllBare s'.gens)
    (hch : ∀ b∈ch, (b∈X.ex ∨ X.s₀.heap.objs.size≤b) ∧ b≠X.env.locals ∧ (∀ x c, X.env.cells.lookup x=some c → c≠b) ∧ ∀ p∈X.pn++pins, p.1≠b) : Inv X pins σ H' s' := by
  obtain ⟨h', g', d', t', o'⟩ := s'
  have e : o'=s.os := ho
  subst e
  exact I.call (g' := g') (t' := t') (d' := d') u hok hg hch
end
abbrev XK := Value → Option Addr → Hp → Prop
abbrev St := List (Option V)
abbrev VK := V → Hp → Prop
abbrev TE := St → Hp → VK → Prop
abbrev TT := St → Hp → (Bool → Hp → Prop) → Prop
abbrev TA := St → Hp → (List V → Hp → Prop) → Prop
structure fc where
  nx : St → Hp → Prop
  rt : VK
  bk : St → Hp → Prop := fun _ _ => False
  ct : St → Hp → Prop := fun _ _ => False
abbrev TS := fc → St → Hp → Prop
def EP (X : Cx)(pins : List (Addr × Obj))(σ : St)(Q : VK)(u : Value)(s' : Shared) : Prop := ∃ v H', Inv X pins σ H' s' ∧ bf v u ∧ Q v H'
def TP (X : Cx)(pins : List (Addr × Obj))(σ : St)(Q : Bool → Hp → Prop)(b : Bool)(s' : Shared) : Prop := ∃ H', Inv X pins σ H' s' ∧ Q b H'
def AP (X : Cx)(pins : List (Addr × Obj))(σ : St)(Q : List V → Hp → Prop)(us : List Value)(s' : Shared) : Prop := ∃ vs H', Inv X pins σ H' s' ∧ aL vs us ∧ Q vs H'
def SP (X : Cx)(pins : List (Addr × Obj))(D : fc)(f : Flow)(s' : Shared) : Prop :=
  match f with
  | .next => ∃ σ' H', Inv X pins σ' H' s' ∧ D.nx σ' H'
  | .brk => ∃ σ' H', Inv X pins σ' H' s' ∧ D.bk σ' H'
  | .cont => ∃ σ' H', Inv X pins σ' H' s' ∧ D.ct σ' H'
  | .ret u => ∃ v σ' H', Inv X pins σ' H' s' ∧ bf v u ∧ D.rt v H'
def PE (X : Cx)(e : Expr)(t : TE) : Prop :=
  ∀ (pins : List (Addr × Obj)) (s : Shared) (σ : St) (H : Hp) (Q : VK), Inv X pins σ H s → t σ H Q → wpAny (model X.prog X.w) X.A (eval e X.env) (EP X pins σ Q) X.xe s
def PT (X : Cx)(e : Expr)(t : TT) : Prop :=
  ∀ (pins : List (Addr × Obj)) (s : Shared) (σ : St) (H : Hp) (Q : Bool → Hp → Prop), Inv X pins σ H s → t σ H Q → wpAny (model X.prog X.w) X.A (isTrue e X.env (eval e X.env)) (TP X pins σ Q) X.xe s
def PW (X : Cx)(e : Expr)(t : TT) : Prop :=
  ∀ (whole : Sem Value) (pins : List (Addr × Obj)) (s : Shared) (σ : St) (H : Hp) (Q : Bool → Hp → Prop), Inv X pins σ H s → t σ H Q → wpAny (model X.prog X.w) X.A (isTrue e X.env whole) (TP X pins σ Q) X.xe s
theorem PW.pt {X : Cx}{e : Expr}{t : TT}(h : PW X e t) : PT X e t := h _
def PA (X : Cx)(es : List Expr)(t : TA) : Prop :=
  ∀ (pos : Pos) (pins : List (Addr × Obj)) (s : Shared) (σ : St) (H : Hp) (Q : List V → Hp → Prop), Inv X pins σ H s → t σ H Q → wpAny (model X.prog X.w) X.A (spliced (backTo pos (starEach es X.env))) (AP X pins σ Q) X.xe s
def PS (X : Cx)(st : Stmt)(t : TS) : Prop :=
  ∀ (pins : List (Addr × Obj)) (s : Shared) (σ : St) (H : Hp) (D : fc), Inv X pins σ H s → t D σ H → wpAny (model X.prog X.w) X.A (exec st X.env) (SP X pins D) X.xe s
def PSs (X : Cx)(st : List Stmt)(t : TS) : Prop :=
  ∀ (pins : List (Addr × Obj)) (s : Shared) (σ : St) (H : Hp) (D : fc), Inv X pins σ H s → t D σ H → wpAny (model X.prog X.w) X.A (execs st X.env) (SP X pins D) X.xe s
theorem thn {α : Type}{t : Sem α}{Q Q' : α → Shared → Prop}{M : Model}{A : Around}{E : Value → Shared → Prop}{s : Shared}(h : wpAny M A t Q E s)(hQ : ∀ a s, Q a s → Q' a s) : wpAny M A t Q' E s := zt h hQ fun _ _ x => x
section
variable {X : Cx}
inductive vg (i : Nat)(σ : St)(H : Hp)(Q : VK) : Prop
  | mk : ∀ v, (σ[i]? = some (some v)) → (Q v H) → vg i σ H Q
def tC (v : V) : TE := fun _ H Q => Q v H
theorem sZ {i : Nat}{x : Str}{pos : Pos}(hN : X.N[i]? = some x)(hv : Vis X.env.scope x)(hd : (x == ("__debug__" : Str))=false := by decide)(hcd : (x == ("__classdict__" : Str))=false := by decide) : PE X (.Name x pos) (vg i) := by
  intro pins s σ H Q I h
  obtain ⟨v, e, h⟩ := h
  obtain ⟨m, hn, hl⟩ := I.loc
  obtain ⟨u, r, l⟩ := hl i x v hN e hv
  have fin : EP X pins σ Q u s := ⟨v, H, I, r, h⟩
  rcases l with ⟨hk, hm⟩ | ⟨hk, c, hc, hcell⟩
  · exact wpAny_Name (wpAny_loadName_local I.ok.kind hk hn hm fin) hd
  · rcases hk with hk | hk
    · exact wpAny_Name (wpAny_loadName_cell I.ok.kind hk hc hcell fin) hd
    · exact wpAny_Name (wpAny_loadName_free I.ok.kind hk hc hcell fin hcd) hd
theorem ai {i j pos} : PE X (.Constant (.int i) j pos) (tC (.int i)) := fun _ _ _ H _ I h => wpAny_Constant_int ⟨.int i, H, I.tok _, ⟨_, rfl⟩, h⟩
theorem kL {b j pos} : PE X (.Constant (.bool b) j pos) (tC (.bl b)) := fun _ _ _ H _ I h => Constant_bool ⟨.bl b, H, I, rfl, h⟩
theorem bC {x j pos} : PE X (.Constant (.str x) j pos) (tC (.str x)) := fun _ _ _ H _ I h => Calls.Constant_str ⟨.str x, H, I.tok _, ⟨_, rfl⟩, h⟩
def Gl (X : Cx)(x : Str) : Prop := X.env.kindOf x=some .globalImplicit
theorem iJ {E : Value → Shared → Prop}{pins : List (Addr × Obj)}{s : Shared}{σ : St}{H : Hp}{x : Str}{u : Value}{pos : Pos}{Q : Value → Shared → Prop}(I : Inv X pins σ H s)(hg : Gl X x)(hm : X.mg x=some u)(h : Q u s)
    (hd : (x == ("__debug__" : Str))=false := by decide) : wpAny (model X.prog X.w) X.A (eval (.Name x pos) X.env) Q E s :=
  Bo I.ok.kind hg (Calls.loadGlobal_global (by rw [I.ok.glob];exact I.mod.glob.keeps I.bk) hm h) hd
theorem dY {E : Value → Shared → Prop}{pins : List (Addr × Obj)}{s : Shared}{σ : St}{H : Hp}{x : Str}{u : Value}{pos : Pos}{Q : Value → Shared → Prop}(I : Inv X pins σ H s)(hg : Gl X x)(hm : X.mg x=none)(hv : bootBuiltins x=some u)(h : Q u s)
    (hn : x ≠ "__name__" := by decide) (hd : (x == ("__debug__" : Str))=false := by decide) : wpAny (model X.prog X.w) X.A (eval (.Name x pos) X.env) Q E s := by
  obtain ⟨mb, h1, h2⟩ := I.mod.blt
  exact Bo I.ok.kind hg (Calls.loadGlobal_builtin (by rw [I.ok.glob];exact I.mod.glob.keeps I.bk) hm (by rw [I.ok.blt];exact h1.keeps I.bk) ((h2 x hn).trans hv) h) hd
theorem kM {x : Str}{v : V}{u : Value}{pos : Pos}(hg : Gl X x)(hm : X.mg x=some u)(r : bf v u)(hd : (x == ("__debug__" : Str))=false := by decide) : PE X (.Name x pos) (tC v) :=
  fun _ _ _ H _ I h => iJ I hg hm ⟨v, H, I, r, h⟩ hd
variable {a b : Expr} {ta tb : TE} {pos : Pos}
def PC (X : Cx)(op : CmpOp)(a b : Expr)(t : TE) : Prop :=
  ∀ (pins : List (Addr × Obj)) (s : Shared) (σ : St) (H : Hp) (Q : VK), Inv X pins σ H s → t σ H Q →
    wpAny (model X.prog X.w) X.A (eval a X.env) (fun v s₁ => wpAny (model X.prog X.w) X.A (eval b X.env) (fun u s₂ => wpAny (model X.prog X.w) X.A (compareOp op v u) (EP X pins σ Q) X.xe s₂) X.xe s₁) X.xe s
theorem nT (b : Expr){op : CmpOp}(h : op ≠ .In)(h2 : op ≠ .NotIn) : behindInMarks op b=false := by
  have e1 : (op == CmpOp.In)=false := by cases op <;> first | rfl | exact absurd rfl h
  have e2 : (op == CmpOp.NotIn)=false := by cases op <;> first | rfl | exact absurd rfl h2
  cases b <;> simp [behindInMarks, e1, e2]
inductive IsB (x : V)(H : Hp)(Q : Bool → Hp → Prop) : Prop
  | mk : ∀ c, (x = .bl c) → (Q c H) → IsB x H Q
def vh (Q : (Bool → Hp → Prop)) : V → Hp → Prop := fun x H1 => IsB x H1 Q
def tB (t : TE) : TT := fun σ H Q => t σ H (vh Q)
theorem pU {op : CmpOp}{t : TE}(h : PC X op a b t)(h1 : behindInMarks op b=false := by first | exact nT _ (by decide) (by decide) | rfl) : PT X (.Compare a [op] [b] pos) (tB t) := by
  intro pins s σ H Q I hw
  refine wpAny_isTrue_Compare1 (thn (h pins s σ H _ I hw) fun v s1 h1 => thn h1 fun u s2 h2 => thn h2 fun c s3 zq5 => ?_) h1
  obtain ⟨x, H1, I1, r1, q1⟩ := zq5
  obtain ⟨d, rfl, q⟩ := q1
  cases r1
  exact Bz ⟨H1, I1, q⟩
variable {tA tB' : TT} {rest : List Expr}
def qK (u : TT)(σ : St)(Q : (Bool → Hp → Prop)) : Bool → Hp → Prop := fun c H1 => if c=true then u σ H1 Q else Q false H1
def xg (t u : TT) : TT := fun σ H Q => t σ H (qK u σ Q)
def s_ (u : TT)(σ : St)(Q : (Bool → Hp → Prop)) : Bool → Hp → Prop := fun c H1 => if c=true then Q true H1 else u σ H1 Q
def tOr (t u : TT) : TT := fun σ H Q => t σ H (s_ u σ Q)
theorem kN (ha : PT X a tA) : PW X (.BoolOp .And [a] pos) tA := by
  intro wh pins s σ H Q I h
  refine isTrue_and (thn (ha pins s σ H Q I h) fun c s1 e => ?_)
  cases c with
  | true => exact isTrue_and_nil e
  | false => exact e
theorem tf (ha : PT X a tA) : PW X (.BoolOp .Or [a] pos) tA := by
  intro wh pins s σ H Q I h
  refine isTrue_or (thn (ha pins s σ H Q I h) fun c s1 e => ?_)
  cases c with
  | false => exact isTrue_or_nil e
  | true => exact e
theorem pV (ha : PT X a tA)(hb : PW X (.BoolOp .And (b::rest) pos) tB') : PW X (.BoolOp .And (a::b::rest) pos) (xg tA tB') := by
  intro wh pins s σ H Q I h
  refine isTrue_and (thn (ha pins s σ H _ I h) fun c s1 zq7 => ?_)
  obtain ⟨H1, I1, q1⟩ := zq7
  cases c with
  | true => exact hb wh pins s1 σ H1 Q I1 q1
  | false => exact ⟨H1, I1, q1⟩
theorem vk (ha : PT X a tA)(hb : PW X (.BoolOp .Or (b::rest) pos) tB') : PW X (.BoolOp .Or (a::b::rest) pos) (tOr tA tB') := by
  intro wh pins s σ H Q I h
  refine isTrue_or (thn (ha pins s σ H _ I h) fun c s1 zq8 => ?_)
  obtain ⟨H1, I1, q1⟩ := zq8
  cases c with
  | true => exact ⟨H1, I1, q1⟩
  | false => exact hb wh pins s1 σ H1 Q I1 q1
theorem tj {op}{t : TE}(h : PE X a t) : PE X (.BoolOp op [a] pos) t := fun pins s σ H Q I hw => BoolOp_one (h pins s σ H Q I hw)
def tm (ta : TE)(tb : TE)(σ : St)(Q : VK) : Bool → Hp → Prop := fun c H1 => if c=true then ta σ H1 Q else tb σ H1 Q
def tIf (t : TT)(ta tb : TE) : TE := fun σ H Q => t σ H (tm ta tb σ Q)
theorem fB {c : Expr}(hc : PT X c tA)(ha : PE X a ta)(hb : PE X b tb) : PE X (.IfExp c a b pos) (tIf tA ta tb) := by
  intro pins s σ H Q I h
  refine wpAny_IfExp (thn (hc pins s σ H _ I h) fun d s1 zq12 => ?_)
  obtain ⟨H1, I1, q1⟩ := zq12
  cases d with
  | true => exact ha pins s1 σ H1 Q I1 q1
  | false => exact hb pins s1 σ H1 Q I1 q1
end
def SqL (K : PySem.W.Frag)(H : Hp)(a : Addr)(xs : List V) : Prop :=
  Rd H a (.lst xs) ∨
    ∃ (o : Obj) (its : Array Value) (n : Nat), K.lookup a=some o ∧ o.cls = .type "list" ∧ o.dict=none ∧ o.data = .seq its n ∧ its.size≤sizeLine ∧ aL xs its.toList
def SqT (K : PySem.W.Frag)(H : Hp)(a : Addr)(xs : List V) : Prop :=
  Rd H a (.tup xs) ∨
    ∃ (o : Obj) (its : Array Value) (n : Nat), K.lookup a=some o ∧ o.cls = .type "tuple" ∧ o.data = .seq its n ∧ its.size≤sizeLine ∧ aL xs its.toList
def xh : Value → Option V
  | .none => some .non
  | .bool b => some (.bl b)
  | .int i _ => some (.int i)
  | .str x _ => some (.str x)
  | .bytes b _ => some (.byt b)
  | .float b _ => some (.flt b)
  | .ref a => some (.ref a)
  | .type n => some (.ty n)
  | _ => none
theorem bf.abs {x : V}{u : Value}(r : bf x u) : xh u=some x := by
  cases x with
  | non => cases r;rfl
  | bl _ => cases r;rfl
  | int _ => obtain ⟨t, rfl⟩ := r;rfl
  | str _ => obtain ⟨t, rfl⟩ := r;rfl
  | byt _ => obtain ⟨t, rfl⟩ := r;rfl
  | flt _ => obtain ⟨t, rfl⟩ := r;rfl
  | ref _ => cases r;rfl
  | ty _ => cases r;rfl
theorem bf.inj {x y : V}{u : Value}(r : bf x u)(q : bf y u) : x=y := x5 (r.abs.symm.trans q.abs)
theorem aL.inj : ∀ {xs ys : List V} {us : List Value}, aL xs us → aL ys us → xs=ys
  | _, _, _, .nil, .nil => rfl
  | _, _, _, .cons r t, .cons r' t' => by rw [r.inj r', aL.inj t t']
section
variable {X : Cx} {pins : List (Addr × Obj)} {σ : St} {H : Hp} {s : Shared} {a : Addr} {xs ys : List V}
theorem SqL.of {K : PySem.W.Frag}(h : H a=some (.lst xs)) : SqL K H a xs := .inl (.inl h)
theorem SqT.of {K : PySem.W.Frag}(h : H a=some (.tup xs)) : SqT K H a xs := .inl (.inl h)
theorem Inv.list (I : Inv X pins σ H s)(h : SqL X.K H a xs) : ∃ its : List Value, aL xs its ∧ PlainL s.heap a its.toArray ∧ xs.length≤sizeLine := by
  rcases h with h | ⟨o, its, n, hk, hc, hd, hs, hz, r⟩
  · obtain ⟨z, its, n, r, e⟩ := h.ok I.hok
    exact ⟨its, r, ⟨_, n, e, rfl, rfl, rfl⟩, z⟩
  · refine ⟨its.toList, r, ⟨o, n, I.kIn a o hk, hc, hd, by simpa using hs⟩, ?_⟩
    have e := r.length
    simp only [zy] at e
    omega
theorem Inv.tuple (I : Inv X pins σ H s)(h : SqT X.K H a xs) : ∃ its : List Value, aL xs its ∧ IsTup s.heap a its.toArray ∧ xs.length≤sizeLine := by
  rcases h with h | ⟨o, its, n, hk, hc, hs, hz, r⟩
  · obtain ⟨z, its, r, p, _⟩ := h.ok I.hok
    exact ⟨its, r, p, z⟩
  · refine ⟨its.toList, r, ⟨o, I.kIn a o hk, hc, n, by simpa using hs⟩, ?_⟩
    have e := r.length
    simp only [zy] at e
    omega
theorem Inv.list_inj (I : Inv X pins σ H s)(h : SqL X.K H a xs)(h' : SqL X.K H a ys) : xs=ys := by
  obtain ⟨its, r, ⟨o, n, e, _, _, d⟩, _⟩ := I.list h
  obtain ⟨its', r', ⟨o', n', e', _, _, d'⟩, _⟩ := I.list h'
  rw [e] at e';cases e'
  rw [d] at d'
  injection d' with d1 _
  have : its=its' := by simpa using yB Array.toList d1
  subst this
  exact r.inj r'
theorem Inv.tuple_inj (I : Inv X pins σ H s)(h : SqT X.K H a xs)(h' : SqT X.K H a ys) : xs=ys := by
  obtain ⟨its, r, ⟨o, e, _, n, d⟩, _⟩ := I.tuple h
  obtain ⟨its', r', ⟨o', e', _, n', d'⟩, _⟩ := I.tuple h'
  rw [e] at e';cases e'
  rw [d] at d'
  injection d' with d1 _
  have : its=its' := by simpa using yB Array.toList d1
  subst this
  exact r.inj r'
end
abbrev Cx.wish (X : Cx)(E : Value → Shared → Prop) : Cx := { X with xe := E }
abbrev Cx.nox (X : Cx) : Cx := X.wish fun _ _ => False
theorem Cx.Ok.wish {X : Cx}(ok : X.Ok)(E : Value → Shared → Prop) : (X.wish E).Ok :=
  ⟨ok.mod, ok.kind, ok.glob, ok.blt, ok.above, ok.inj, ok.has, ok.cab, ok.hd, ok.frames, ok.stk, ok.exf, ok.bs, ok.bsz, ok.noex, ok.exfs, ok.funs, ok.frf⟩
theorem Cx.Ok.unwish {X : Cx}{E : Value → Shared → Prop}(ok : (X.wish E).Ok) : X.Ok :=
  ⟨ok.mod, ok.kind, ok.glob, ok.blt, ok.above, ok.inj, ok.has, ok.cab, ok.hd, ok.frames, ok.stk, ok.exf, ok.bs, ok.bsz, ok.noex, ok.exfs, ok.funs, ok.frf⟩
section
variable {X : Cx} {pins : List (Addr × Obj)} {σ : St} {H : Hp} {s : Shared} {E : Value → Shared → Prop}
theorem Inv.wish (I : Inv X pins σ H s)(E : Value → Shared → Prop) : Inv (X.wish E) pins σ H s := ⟨I.ok.wish E, I.os, I.bare, I.base, I.loc, I.cell, I.free, I.freeC, I.pin, I.hok, I.len⟩
theorem Inv.unwish (I : Inv (X.wish E) pins σ H s) : Inv X pins σ H s := ⟨I.ok.unwish, I.os, I.bare, I.base, I.loc, I.cell, I.free, I.freeC, I.pin, I.hok, I.len⟩
theorem SP.unwish {D : fc}{f : Flow}{s' : Shared}(h : SP (X.wish E) pins D f s') : SP X pins D f s' := by
  cases f with
  | next => obtain ⟨σ', H', I, q⟩ := h;exact ⟨σ', H', I.unwish, q⟩
  | brk => obtain ⟨σ', H', I, q⟩ := h;exact ⟨σ', H', I.unwish, q⟩
  | cont => obtain ⟨σ', H', I, q⟩ := h;exact ⟨σ', H', I.unwish, q⟩
  | ret u => obtain ⟨v, σ', H', I, r, q⟩ := h;exact ⟨v, σ', H', I.unwish, r, q⟩
theorem PSs.nox {st : List Stmt}{t : TS}(h : PSs X.nox st t) : PSs X st t := fun pins s σ H D I hw =>
  zt (h pins s σ H D (I.wish _) hw) (fun _ _ q => q.unwish) fun _ _ z => False.elim z
end
section
variable {X : Cx} {st : Stmt} {rest : List Stmt} {t u : TS} {e : Expr} {te : TE} {pos : Pos}
def vm : TS := fun D σ H => D.nx σ H
def wN (t u : TS) : TS := fun D σ H => t { D with nx := u D } σ H
theorem ck : PSs X [] vm := fun _ _ σ H _ I h => Bf ⟨σ, H, I, h⟩
theorem ae (h1 : PS X st t)(h2 : PSs X rest u) : PSs X (st::rest) (wN t u) := by
  intro pins s σ H D I h
  refine wpAny_execs_cons (thn (h1 pins s σ H { D with nx := u D } I h) fun f s1 q => ?_)
  cases f with
  | next =>
    obtain ⟨σ', H', I', q⟩ := q
    exact h2 pins s1 σ' H' D I' q
  | ret v => exact q
  | brk => exact q
  | cont => exact q
theorem ao (h1 : PS X st t) : PSs X [st] t := by
  intro pins s σ H D I h
  refine wpAny_execs_cons (thn (h1 pins s σ H D I h) fun f s1 q => ?_)
  cases f with
  | next => exact Bf q
  | ret v => exact q
  | brk => exact q
  | cont => exact q
def vn : TS := fun D σ H => D.ct σ H
theorem iK : PS X (.Continue pos) vn := fun _ _ σ H _ I h => wpAny_Continue ⟨σ, H, I, h⟩
theorem Inv.quiet {pins : List (Addr × Obj)}{σ : St}{H : Hp}{s : Shared}(I : Inv X pins σ H s) : interactive X.env=false := by simp [interactive, I.ok.kind]
def nU (D : fc)(σ : St) : V → Hp → Prop := fun _ H1 => D.nx σ H1
def vo (te : TE) : TS := fun D σ H => te σ H (nU D σ)
theorem bu (he : PE X e te)(hs : swapsWith e none pos.line X.env=pure false := by rfl) : PS X (.Expr e pos) (vo te) := by
  intro pins s σ H D I h
  exact wpAny_Expr_any (thn (he pins s σ H _ I h) fun v s1 zq15 => (by obtain ⟨x, H1, I1, r1, q1⟩ := zq15;exact ⟨σ, H1, I1, q1⟩)) I.quiet hs
def xj (te : TE) : TS := fun D σ H => te σ H D.rt
theorem aH (he : PE X e te) : PS X (.Return (some e) pos) (xj te) := by
  intro pins s σ H D I h
  exact wpAny_Return_some (thn (he pins s σ H _ I h) fun v s1 zq16 => (by obtain ⟨x, H1, I1, r1, q1⟩ := zq16;exact ⟨x, σ, H1, I1, r1, q1⟩))
def iL (t : TS)(u : TS)(D : fc)(σ : St) : Bool → Hp → Prop := fun b H1 => if b=true then t D σ H1 else u D σ H1
def xk (c : TT)(t u : TS) : TS := fun D σ H => c σ H (iL t u D σ)
theorem e9 {c : Expr}{a b : List Stmt}{tc : TT}(hc : PT X c tc)(ha : PSs X a t)(hb : PSs X b u) : PS X (.If c a b pos) (xk tc t u) := by
  intro pins s σ H D I h
  refine wpAny_If (thn (hc pins s σ H _ I h) fun d s1 zq17 => ?_)
  obtain ⟨H1, I1, q1⟩ := zq17
  cases d with
  | true => exact ha pins s1 σ H1 D I1 q1
  | false => exact hb pins s1 σ H1 D I1 q1
end
abbrev TG := V → St → Hp → (St → Hp → Prop) → Prop
abbrev TGs := List V → St → Hp → (St → Hp → Prop) → Prop
def PG (X : Cx)(target : Expr)(t : TG) : Prop :=
  ∀ (pins : List (Addr × Obj)) (s : Shared) (σ : St) (H : Hp) (v : V) (u : Value) (Q : St → Hp → Prop), Inv X pins σ H s → bf v u → t v σ H Q →
    wpAny (model X.prog X.w) X.A (assign target X.env u) (fun _ s' => ∃ σ' H', Inv X pins σ' H' s' ∧ Q σ' H') X.xe s
def PGs (X : Cx)(ts : List Expr)(t : TGs) : Prop :=
  ∀ (pins : List (Addr × Obj)) (s : Shared) (σ : St) (H : Hp) (vs : List V) (us : List Value) (Q : St → Hp → Prop), Inv X pins σ H s → aL vs us → t vs σ H Q →
    wpAny (model X.prog X.w) X.A (assignInOrder ((assignEach ts X.env).map (·.2)) us) (fun _ s' => ∃ σ' H', Inv X pins σ' H' s' ∧ Q σ' H') X.xe s
abbrev vp := V → V → V → Hp → (Hp → Prop) → Prop
def wO (X : Cx)(t : vp) : Prop :=
  ∀ (pins : List (Addr × Obj)) (s : Shared) (σ : St) (H : Hp) (o i v : V) (ov iv u : Value) (Q : Hp → Prop), Inv X pins σ H s → bf o ov → bf i iv → bf v u → t o i v H Q →
    wpAny (model X.prog X.w) X.A (setItem ov iv u) (fun _ s' => ∃ H', Inv X pins σ H' s' ∧ Q H') X.xe s
section
variable {X : Cx} {pos : Pos}
def kO (i : Nat) : TG := fun v σ H Q => Q (σ.set i (some v)) H
theorem av {i : Nat}{x : Str}(hN : X.N.Nodup)(hi : X.N[i]? = some x)(hx : Loc X.env.scope x)(hf : X.fn x=true ∨ X.env.scope.names.lookup x=some .local := by first | exact .inl rfl | exact .inr rfl | assumption) : PG X (.Name x pos) (kO i) := by
  intro pins s σ H v u Q I r h
  exact wpAny_assign_Name (jo I hN hi hx r (fun s' I' => ⟨_, H, I', h⟩) hf)
def xl : TGs := fun vs σ H Q => vs=[] ∧ Q σ H
def vq (t : TG)(u : TGs) : TGs := fun vs σ H Q => ∃ v r, vs=v::r ∧ t v σ H fun σ' H' => u r σ' H' Q
theorem dZ : PGs X [] xl := by
  intro pins s σ H vs us Q I r h
  obtain ⟨e, h⟩ := h
  subst e
  cases r
  exact assignInOrder_nil ⟨σ, H, I, h⟩
theorem bB {e : Expr}{es : List Expr}{t : TG}{u : TGs}(h1 : PG X e t)(h2 : PGs X es u)
    (hs : (assignEach (e::es) X.env).map (·.2)=assign e X.env::(assignEach es X.env).map (·.2) := by rfl) : PGs X (e::es) (vq t u) := by
  intro pins s σ H vs us Q I r h
  obtain ⟨v, vr, e1, h⟩ := h
  subst e1
  cases r with
  | cons r rr =>
    rw [hs]
    refine assignInOrder_cons (thn (h1 pins s σ H _ _ _ I r h) fun _ s1 zq18 => ?_)
    obtain ⟨σ1, H1, I1, q1⟩ := zq18
    exact h2 pins s1 σ1 H1 _ _ Q I1 rr q1
def xm (K : PySem.W.Frag)(n : Nat)(t : TGs) : TG := fun v σ H Q => ∃ a xs, v = .ref a ∧ SqT K H a xs ∧ xs.length=n ∧ t xs σ H Q
theorem gG {es : List Expr}{k : Nat}{t : TGs}{n : Nat}(hc : X.calm=true)(h : PGs X es t)
    (hn : (assignEach es X.env).length=n := by rfl) (hst : (assignEach es X.env).findIdx? (·.1)=none := by rfl) : PG X (.Tuple es k pos) (xm X.K n t) := by
  intro pins s σ H v u Q I r hw
  obtain ⟨a, xs, e1, hq, hl, hw⟩ := hw
  subst e1
  cases r
  obtain ⟨its, rv, ht, hz⟩ := I.tuple hq
  refine assign_Tuple_tuple (I.ok.hd hc) ht (by simp [hn, ← hl, rv.length]) hst fun h' hx => ?_
  have I1 : Inv X pins σ H { s with heap := h' } := I.kept (t' := s.toks) fun b o e => hx b o (yH (yd e)) e
  exact h pins _ σ H xs _ Q I1 (by simpa using rv) hw
def xo (to ti : TE)(t : vp) : TG := fun v σ H Q => to σ H fun o H1 => ti σ H1 fun i H2 => t o i v H2 fun H3 => Q σ H3
theorem dD {o i : Expr}{to ti : TE}{t : vp}(ho : PE X o to)(hi : PE X i ti)(hs : wO X t)
    (ha : ∀ v, assign (.Subscript o i pos) X.env v=(do
      let ov ← holding [v] (eval o X.env)
      let iv ← holding [v, ov] (eval i X.env)
      standAt pos
      holding [v, ov, iv] (setItem ov iv v)
      release [v, ov, iv] []) := by intro _;rfl) : PG X (.Subscript o i pos) (xo to ti t) := by
  intro pins s σ H v u Q I r h
  rw [ha]
  refine xR (Aq (thn (ho pins s σ H _ I h) fun ov s1 zq19 => ?_))
  obtain ⟨x, H1, I1, r1, q1⟩ := zq19
  refine xR (Aq (thn (hi pins s1 σ H1 _ I1 q1) fun iv s2 zq20 => ?_))
  obtain ⟨y, H2, I2, r2, q2⟩ := zq20
  refine xR (wpAny_standAt (xR (Aq (thn (hs pins s2 σ H2 x y v ov iv u _ I2 r1 r2 r q2) fun _ s3 zq21 => ?_))))
  obtain ⟨H3, I3, q3⟩ := zq21
  exact wpAny_release ⟨σ, H3, I3, q3⟩
def iM (g : TG)(D : fc)(σ : St) : V → Hp → Prop := fun x H1 => g x σ H1 D.nx
def vt (te : TE)(g : TG) : TS := fun D σ H => te σ H (iM g D σ)
theorem cO {tg e : Expr}{te : TE}{g : TG}(he : PE X e te)(hg : PG X tg g)(hs : swapsWithSole [tg] e pos.line X.env=pure false := by rfl)(hw : swappedStores [tg] e X.env=pure none := by rfl)
    (h1 : (assignEach [tg] X.env).map (·.2)=[assign tg X.env] := by rfl) : PS X (.Assign [tg] e pos) (vt te g) := by
  intro pins s σ H D I h
  refine wpAny_Assign_stores (thn (he pins s σ H _ I h) fun v s1 zq22 => ?_) hs hw
  obtain ⟨x, H1, I1, r1, q1⟩ := zq22
  rw [h1]
  exact thn (hg pins s1 σ H1 x v _ I1 r1 q1) fun _ s2 q => q
theorem ar {i : Nat}{x : Str}{e : Expr}{te : TE}{pos' : Pos}(hN : X.N.Nodup)(hi : X.N[i]? = some x)(hx : Loc X.env.scope x)(he : PE X e te)(hs : swapsWith e (some (.Name x pos')) pos.line X.env=pure false := by rfl)(hf : X.fn x=true ∨ X.env.scope.names.lookup x=some .local := by first | exact .inl rfl | exact .inr rfl | assumption) :
    PS X (.Assign [.Name x pos'] e pos) (vt te (kO i)) := by
  intro pins s σ H D I h
  refine wpAny_Assign_Name (thn (he pins s σ H _ I h) fun v s1 zq23 => ?_) hs
  obtain ⟨y, H1, I1, r1, q1⟩ := zq23
  exact jo I1 hN hi hx r1 (fun s2 I2 => ⟨_, H1, I2, q1⟩) hf
def pX (c : TT)(tb : TS) : TS := fun D σ H => ∃ W : Nat → St → Hp → Prop, (∃ m, W m σ H) ∧ ∀ m σ H, W m σ H →
  c σ H fun b H1 => if b=true then ∃ N : St → Hp → Prop, (∀ σ' H', N σ' H' → ∃ m', m' < m ∧ W m' σ' H') ∧ tb { D with nx := N, ct := N, bk := D.nx } σ H1 else D.nx σ H1
theorem cW {c : Expr}{body : List Stmt}{tc : TT}{tb : TS}(hp : PassesOwn (model X.prog X.w) X.A X.env X.xe)(hc : PT X c tc)(hb : PSs X body tb) : PS X (.While c body [] pos) (pX tc tb) := by
  intro pins s σ H D I h
  obtain ⟨W, ⟨m0, w0⟩, turn⟩ := h
  refine wpAny_While (codeAny_whileLoop (fun n s' => ∃ σ' H', Inv X pins σ' H' s' ∧ W n σ' H') ?_ m0 ⟨σ, H, I, w0⟩)
  rintro n s1 ⟨σ1, H1, I1, w1⟩
  refine zO hp (thn (hc pins s1 σ1 H1 _ I1 (turn n σ1 H1 w1)) fun b s2 zq33 => ?_)
  obtain ⟨H2, I2, q2⟩ := zq33
  cases b with
  | true =>
    obtain ⟨N, hN, q2⟩ := q2
    rw [if_pos rfl]
    refine zO hp (thn (hb pins s2 σ1 H2 _ I2 q2) fun f s3 q3 => ?_)
    cases f with
    | next =>
      obtain ⟨σ3, H3, I3, n3⟩ := q3
      obtain ⟨m', hm, w3⟩ := hN σ3 H3 n3
      exact ⟨m', hm, σ3, H3, I3, w3⟩
    | cont =>
      obtain ⟨σ3, H3, I3, n3⟩ := q3
      obtain ⟨m', hm, w3⟩ := hN σ3 H3 n3
      exact ⟨m', hm, σ3, H3, I3, w3⟩
    | brk => exact q3
    | ret v => exact q3
  | false =>
    rw [if_neg yc]
    exact Bf ⟨σ1, H2, I2, q2⟩
end
structure It where
  go : Nat → Hp → Prop
  yld : Nat → Hp → V → Hp → Prop
  stop : Nat → Hp → Prop
def jq (X : Cx)(pins : List (Addr × Obj))(H : Hp)(b : Addr) : Prop :=
  H b=none ∧ b≠X.env.locals ∧ b∉X.fs ∧ (b∈X.ex ∨ X.s₀.heap.objs.size≤b) ∧ (∀ x c, X.env.cells.lookup x=some c → c≠b) ∧ ∀ p∈X.pn++pins, p.1≠b
theorem Inv.fpOk {X : Cx}{pins : List (Addr × Obj)}{σ : St}{H H' : Hp}{s : Shared}{b : Addr}(I : Inv X pins σ H s)(hb : s.heap.objs.size≤b)(hn : H' b=none) : jq X pins H' b := by
  refine ⟨hn, Nat.ne_of_gt (yj I.lt hb), I.nofs hb, .inr (yI I.sz hb), fun x c e z => ?_, fun p hp z => ?_⟩
  · obtain ⟨v, q⟩ := I.cell x c e
    exact absurd (yj q.lt (by rw [z];exact hb)) (yO _)
  · exact absurd (yj (yd (I.pin p hp).1) (by rw [z];exact hb)) (yO _)
structure pY (P : Program) (w : World) (K : PySem.W.Frag) (tg : Expr) (J : It) (fp : List Addr) (it : Addr) (tn : Nat → Heap → Prop) : Prop where
  mem : it∈fp
  obj : ∀ i h, tn i h → ∀ b∈fp, ∃ o, h.get? b=some o ∧ ∀ v, o.data ≠ .cell v
  keep : ∀ i h h', tn i h → (∀ b∈fp, ∀ o, h.get? b=some o → h'.get? b=some o) → tn i h'
  item : ∀ (X : Cx), X.prog=P → X.w=w → X.K=K → X.calm=true → ∀ (i : Nat) (pins : List (Addr × Obj)) (s : Shared) (σ : St) (H : Hp) (E : Value → Shared → Prop), Inv X pins σ H s → (∀ b∈fp, jq X pins H b) → tn i s.heap → J.go i H →
    wpAny (model P w) X.A (pyNext (.ref it)) (fun r s1 => ∃ u, r=some u ∧
      wpAny (model P w) X.A (letOwnedTupleGo tg (.ref it) u) (fun _ s2 => ∃ x H', Inv X pins σ H' s2 ∧ bf x u ∧ J.yld i H x H' ∧ tn (i+1) s2.heap ∧ ∀ b∈fp, H' b=none) E s1) E s
  done : ∀ (X : Cx), X.prog=P → X.w=w → X.K=K → X.calm=true → ∀ (i : Nat) (pins : List (Addr × Obj)) (s : Shared) (σ : St) (H : Hp) (E : Value → Shared → Prop), Inv X pins σ H s → (∀ b∈fp, jq X pins H b) → tn i s.heap → J.stop i H →
    wpAny (model P w) X.A (pyNext (.ref it)) (fun r s1 => r=none ∧ Inv X pins σ H s1) E s
  self : ∀ (A : Around) (i : Nat) (s : Shared) (Q : Value → Shared → Prop) (E : Value → Shared → Prop), tn i s.heap → Q (.ref it) s → wpAny (model P w) A (pyIter (.ref it)) Q E s
abbrev TI := St → Hp → (It → Hp → Prop) → Prop
def PIE (X : Cx)(pins : List (Addr × Obj))(σ : St)(tg : Expr)(R : It → Hp → Prop)(itv : Value)(s2 : Shared) : Prop :=
  ∃ (it : Addr) (fp : List Addr) (tn : Nat → Heap → Prop) (J : It) (H' : Hp), itv = .ref it ∧ Inv X pins σ H' s2 ∧ pY X.prog X.w X.K tg J fp it tn ∧ tn 0 s2.heap ∧ (∀ b∈fp, jq X pins H' b) ∧ R J H'
def PI (X : Cx)(tg iter : Expr)(wi : TI) : Prop :=
  ∀ (pins : List (Addr × Obj)) (s : Shared) (σ : St) (H : Hp) (R : It → Hp → Prop), Inv X pins σ H s → wi σ H R →
    wpAny (model X.prog X.w) X.A (eval iter X.env) (fun v s1 => wpAny (model X.prog X.w) X.A (pyIter v) (PIE X pins σ tg R) X.xe s1) X.xe s
theorem nV {M : Model}{A : Around}{E : Value → Shared → Prop}{s : Shared}{tg : Expr}{it : Addr}{u : Value}{o : Obj}{n : String}{vs : Array Value}{Q : Unit → Shared → Prop}(ho : s.heap.get? it=some o)(hc : o.cls = .type n)(hd : o.data = .fields vs)
    (hn : ["enumerate", "zip", "dict_itemiterator", "dict_reverseitemiterator", "odict_iterator", "itertools.zip_longest", "itertools.pairwise"].contains n=false) (hQ : Q () s) : wpAny M A (letOwnedTupleGo tg (.ref it) u) Q E s := by
  unfold letOwnedTupleGo
  cases tg <;> first
    | exact x9 hQ
    | (cases u <;> first
        | exact x9 hQ
        | (refine xR (wpAny_load ho ?_)
           rw [hc, hd]
           show wpAny M A (if (["enumerate", "zip", "dict_itemiterator", "dict_reverseitemiterator", "odict_iterator", "itertools.zip_longest", "itertools.pairwise"].contains n && vs[0]? == some (rawInt _))=true then _ else _) Q E s
           rw [if_neg (by intro h;rw [hn, Bool.false_and] at h;cases h)]
           exact x9 hQ))
def Itl (K : PySem.W.Frag)(a : Addr) : It :=
  ⟨fun i H => ∃ xs x, SqL K H a xs ∧ xs[i]? = some x, fun i H x H' => H'=H ∧ ∀ xs, SqL K H a xs → xs[i]? = some x, fun i H => ∃ xs, SqL K H a xs ∧ xs.length≤i⟩
def Itt (K : PySem.W.Frag)(a : Addr) : It :=
  ⟨fun i H => ∃ xs x, SqT K H a xs ∧ xs[i]? = some x, fun i H x H' => H'=H ∧ ∀ xs, SqT K H a xs → xs[i]? = some x, fun i H => ∃ xs, SqT K H a xs ∧ xs.length≤i⟩
def Itr (lo : Int)(n : Nat) : It := ⟨fun i _ => i < n, fun i H x H' => H'=H ∧ x = .int (lo+i), fun i _ => n≤i⟩
theorem kP {P : Program}{w : World}{K : PySem.W.Frag}{tg : Expr}(a it : Addr) : pY P w K tg (Itl K a) [it] it (fun i h => h.IsListIter it a i) where
  mem := by simp
  obj := fun i h st b hb => by
    have e : b=it := by simpa using hb
    subst e
    obtain ⟨o, e, c, d⟩ := st
    exact ⟨o, e, fun v z => by rw [d] at z;cases z⟩
  keep := fun i h h' st k => st.at fun o e => k it (by simp) o e
  item := by
    intro X hP hw hK hc i pins s σ H E I hf st hg
    subst hP hw hK
    obtain ⟨xs, x, hq, hx⟩ := hg
    obtain ⟨its, rv, p, hz⟩ := I.list hq
    obtain ⟨u, hu, ru⟩ := rv.get hx
    obtain ⟨f0, f1, f2, f3, f4, f5⟩ := hf it (by simp)
    refine wpAny_pyNext_list_item st p.isList (x := u) (by simpa using hu) fun h' st' sb => ?_
    have I1 : Inv X pins σ H { s with heap := h' } := I.turned (t' := s.toks) (fun b o hb e => (sb.2 b hb).trans e) f0 f1 f3 f4 f5
    obtain ⟨o, e, c, d⟩ := id st'
    exact ⟨u, rfl, nV (s := { s with heap := h' }) e c d (by decide) ⟨x, H, I1, ru, ⟨rfl, fun ys hy => by rw [I.list_inj hy hq];exact hx⟩, st', fun b hb => (hf b hb).1⟩⟩
  done := by
    intro X hP hw hK hc i pins s σ H E I hf st hg
    subst hP hw hK
    obtain ⟨xs, hq, hx⟩ := hg
    obtain ⟨its, rv, p, hz⟩ := I.list hq
    obtain ⟨f0, f1, f2, f3, f4, f5⟩ := hf it (by simp)
    have hl := rv.length
    exact wpAny_pyNext_list_end (I.ok.hd hc) st p.isList (by simp;omega) fun h' eb => ⟨rfl, I.turned (t' := s.toks) (fun b o hb e => eb b o hb e) f0 f1 f3 f4 f5⟩
  self := fun _ _ _ _ _ st h => wpAny_pyIter_listiter st h
theorem j6 {P : Program}{w : World}{K : PySem.W.Frag}{tg : Expr}(a it : Addr) : pY P w K tg (Itt K a) [it] it (fun i h => h.IsTupleIter it a i) where
  mem := by simp
  obj := fun i h st b hb => by
    have e : b=it := by simpa using hb
    subst e
    obtain ⟨o, e, c, d⟩ := st
    exact ⟨o, e, fun v z => by rw [d] at z;cases z⟩
  keep := fun i h h' st k => st.at fun o e => k it (by simp) o e
  item := by
    intro X hP hw hK hc i pins s σ H E I hf st hg
    subst hP hw hK
    obtain ⟨xs, x, hq, hx⟩ := hg
    obtain ⟨its, rv, p, hz⟩ := I.tuple hq
    obtain ⟨u, hu, ru⟩ := rv.get hx
    obtain ⟨f0, f1, f2, f3, f4, f5⟩ := hf it (by simp)
    refine wpAny_pyNext_tuple_item st (show s.heap.IsTuple a its.toArray from p) (x := u) (by simpa using hu) fun h' st' sb => ?_
    have I1 : Inv X pins σ H { s with heap := h' } := I.turned (t' := s.toks) (fun b o hb e => (sb.2 b hb).trans e) f0 f1 f3 f4 f5
    obtain ⟨o, e, c, d⟩ := id st'
    exact ⟨u, rfl, nV (s := { s with heap := h' }) e c d (by decide) ⟨x, H, I1, ru, ⟨rfl, fun ys hy => by rw [I.tuple_inj hy hq];exact hx⟩, st', fun b hb => (hf b hb).1⟩⟩
  done := by
    intro X hP hw hK hc i pins s σ H E I hf st hg
    subst hP hw hK
    obtain ⟨xs, hq, hx⟩ := hg
    obtain ⟨its, rv, p, hz⟩ := I.tuple hq
    obtain ⟨f0, f1, f2, f3, f4, f5⟩ := hf it (by simp)
    have hl := rv.length
    exact wpAny_pyNext_tuple_end (I.ok.hd hc) st (show s.heap.IsTuple a its.toArray from p) (by simp;omega) fun h' eb => ⟨rfl, I.turned (t' := s.toks) (fun b o hb e => eb b o hb e) f0 f1 f3 f4 f5⟩
  self := fun _ _ _ _ _ st h => wpAny_pyIter_tupleiter st h
theorem j7 {P : Program}{w : World}{K : PySem.W.Frag}{tg : Expr}(it : Addr)(lo : Int)(n : Nat) : pY P w K tg (Itr lo n) [it] it (fun i h => IsRangeIter h it (lo+(i : Nat)*1) ((n : Int) - (i : Nat)) 1) where
  mem := by simp
  obj := fun i h st b hb => by
    have e : b=it := by simpa using hb
    subst e
    exact ⟨_, st, fun v z => by
      have z' : Data.fields _=Data.cell v := z
      cases z'⟩
  keep := fun i h h' st k => k it (by simp) _ st
  item := by
    intro X hP hw hK hc i pins s σ H E I hf st hg
    subst hP hw hK
    obtain ⟨f0, f1, f2, f3, f4, f5⟩ := hf it (by simp)
    have W := Walks.range (prog := X.prog) (w := X.w) (I.ok.hd hc) it lo 1 n
    refine W.item i s _ _ hg st fun v h' tk hv st' kk => ?_
    obtain ⟨t, rfl⟩ := hv
    have I1 : Inv X pins σ H { s with heap := h', toks := tk } := I.turned (fun b o hb e => kk b o (by simpa using hb) e) f0 f1 f3 f4 f5
    refine ⟨_, rfl, nV (s := { s with heap := h', toks := tk }) (n := "range_iterator") st' rfl rfl (by decide) ⟨.int (lo+i), H, I1, ⟨t, ?_⟩, ⟨rfl, rfl⟩, st', fun b hb => (hf b hb).1⟩⟩
    rw [Int.mul_one]
  done := by
    intro X hP hw hK hc i pins s σ H E I hf st hg
    subst hP hw hK
    obtain ⟨f0, f1, f2, f3, f4, f5⟩ := hf it (by simp)
    exact wpAny_pyNext_range_end (I.ok.hd hc) st (by have : n≤i := hg;omega) fun h' eb => ⟨rfl, I.turned (t' := s.toks) (fun b o hb e => eb b o hb e) f0 f1 f3 f4 f5⟩
  self := fun _ _ _ _ _ st h => wpAny_pyIter_rangeiter st h
section
variable {X : Cx} {tg : Expr}
def vw (K : PySem.W.Frag)(tl : TE) : TI := fun σ H R => tl σ H fun x H1 => ∃ a, x = .ref a ∧ (∃ xs, SqL K H1 a xs) ∧ R (Itl K a) H1
def xp (K : PySem.W.Frag)(tl : TE) : TI := fun σ H R => tl σ H fun x H1 => ∃ a, x = .ref a ∧ (∃ xs, SqT K H1 a xs) ∧ R (Itt K a) H1
theorem fC {l : Expr}{tl : TE}(hl : PE X l tl) : PI X tg l (vw X.K tl) := by
  intro pins s σ H R I h
  refine thn (hl pins s σ H _ I h) fun v s1 zq34 => ?_
  obtain ⟨x, H1, I1, r1, q1⟩ := zq34
  obtain ⟨a, e, ⟨xs, hq⟩, q⟩ := q1
  subst e
  cases r1
  obtain ⟨its, rv, p, hz⟩ := I1.list hq
  refine wpAny_pyIter_list p.isList ?_
  refine ⟨s1.heap.objs.size, [s1.heap.objs.size], _, _, H1, rfl, I1.kept (t' := s1.toks) fun b o e => xW _ e, kP a _, ⟨_, ya _ rfl, rfl, rfl⟩, fun b hb => ?_, q⟩
  have e : b=s1.heap.objs.size := by simpa using hb
  subst e
  exact I1.fpOk (xT _) (I1.hok.fresh (xT _))
theorem jr {l : Expr}{tl : TE}(hl : PE X l tl) : PI X tg l (xp X.K tl) := by
  intro pins s σ H R I h
  refine thn (hl pins s σ H _ I h) fun v s1 zq35 => ?_
  obtain ⟨x, H1, I1, r1, q1⟩ := zq35
  obtain ⟨a, e, ⟨xs, hq⟩, q⟩ := q1
  subst e
  cases r1
  obtain ⟨its, rv, p, hz⟩ := I1.tuple hq
  refine z5 (show s1.heap.IsTuple a its.toArray from p) ?_
  refine ⟨s1.heap.objs.size, [s1.heap.objs.size], _, _, H1, rfl, I1.kept (t' := s1.toks) fun b o e => xW _ e, j6 a _, ⟨_, ya _ rfl, rfl, rfl⟩, fun b hb => ?_, q⟩
  have e : b=s1.heap.objs.size := by simpa using hb
  subst e
  exact I1.fpOk (xT _) (I1.hok.fresh (xT _))
theorem js {pins : List (Addr × Obj)}{σ : St}{H : Hp}{s : Shared}{R : It → Hp → Prop}{E : Value → Shared → Prop}{lo hi : Int}{t u v : Tok}{tk : Nat}(I : Inv X pins σ H s)(h1 : -(2 ^ 62)≤lo)(h2 : lo < 2 ^ 62)(h3 : -(2 ^ 62)≤hi)(h4 : hi < 2 ^ 62)
    (q : R (Itr lo (hi - lo).toNat) H) : wpAny (model X.prog X.w) X.A (pyIter (.ref s.heap.objs.size)) (PIE X pins σ tg R) E { s with heap := s.heap.push { cls := .type "range", data := .fields #[.int lo t, .int hi u, .int 1 v] }, toks := tk } := by
  refine wpAny_pyIter_range (IsRange.new ..) (small_one h1 h2 h3 h4) ?_
  have I1 : Inv X pins σ H { s with heap := s.heap.push { cls := .type "range", data := .fields #[.int lo t, .int hi u, .int 1 v] }, toks := tk } := I.kept fun b o e => xW _ e
  refine ⟨(s.heap.push { cls := .type "range", data := .fields #[.int lo t, .int hi u, .int 1 v] }).objs.size, [(s.heap.push { cls := .type "range", data := .fields #[.int lo t, .int hi u, .int 1 v] }).objs.size], _, _, H, rfl,
    I1.kept (t' := tk) fun b o e => xW _ e, j7 _ lo (hi - lo).toNat, ?_, fun b hb => ?_, q⟩
  · have e1 : lo+((0 : Nat) : Int)*1=lo := by simp
    have e2 : (((hi - lo).toNat : Nat) : Int) - ((0 : Nat) : Int)=Builtin.Range.rangeSize lo hi 1 := by rw [rangeSize_one];split <;> omega
    show IsRangeIter _ _ (lo+((0 : Nat) : Int)*1) ((((hi - lo).toNat : Nat) : Int) - ((0 : Nat) : Int)) 1
    rw [e1, e2]
    exact ya _ rfl
  · have e : b=(s.heap.push { cls := .type "range", data := .fields #[.int lo t, .int hi u, .int 1 v] }).objs.size := by simpa using hb
    subst e
    exact I1.fpOk (xT _) (I1.hok.fresh (xT _))
def vx (ta : TA) : TI := fun σ H R => ta σ H fun vs H1 => ∃ j : Int, vs=[.int j] ∧ -(2 ^ 62)≤j ∧ j < 2 ^ 62 ∧ R (Itr 0 j.toNat) H1
def vy (ta : TA) : TI := fun σ H R => ta σ H fun vs H1 => ∃ i j : Int, vs=[.int i, .int j] ∧ (-(2 ^ 62)≤i ∧ i < 2 ^ 62 ∧ -(2 ^ 62)≤j ∧ j < 2 ^ 62) ∧ R (Itr i (j - i).toNat) H1
theorem aJ {a : Expr}{ta : TA}{p pos : Pos}(hg : Gl X "range")(hm : X.mg "range" = none)(ha : PA X [a] ta)(hs : starEach [a] X.env=[(false, eval a X.env)] := by rfl) : PI X tg (.Call (.Name "range" p) [a] [] pos) (vx ta) := by
  intro pins s σ H R I h
  refine Call_ (dY I hg hm boot_range (yX (thn (ha pos pins s σ H _ I h) fun us s1 zq36 => ?_) hs rfl))
  obtain ⟨vs, H1, I1, r1, q1⟩ := zq36
  obtain ⟨j, e, q1, q2, q⟩ := q1
  subst e
  cases r1 with
  | cons r rr =>
    cases rr
    obtain ⟨t, rfl⟩ := r
    exact call_range_1 (js I1 (by omega) (by omega) q1 q2 (by simpa using q))
theorem kQ {a b : Expr}{ta : TA}{p pos : Pos}(hg : Gl X "range")(hm : X.mg "range" = none)(ha : PA X [a, b] ta)(hs : starEach [a, b] X.env=[(false, eval a X.env), (false, eval b X.env)] := by rfl)(hs2 : starEach [b] X.env=[(false, eval b X.env)] := by rfl) :
    PI X tg (.Call (.Name "range" p) [a, b] [] pos) (vy ta) := by
  intro pins s σ H R I h
  refine Call_ (dY I hg hm boot_range (yX (thn (ha pos pins s σ H _ I h) fun us s1 zq37 => ?_) (by rw [hs, hs2]) (by rw [hs2];rfl)))
  obtain ⟨vs, H1, I1, r1, q1⟩ := zq37
  obtain ⟨i, j, e, ⟨q1, q2, q3, q4⟩, q⟩ := q1
  subst e
  cases r1 with
  | cons r rr =>
    cases rr with
    | cons r' rr =>
      cases rr
      obtain ⟨t, rfl⟩ := r
      obtain ⟨t', rfl⟩ := r'
      exact call_range_2 (js I1 q1 q2 q3 q4 q)
def xq (wi : TI)(g : TG)(tb : TS) : TS := fun D σ H => wi σ H fun J H1 => ∃ W : Nat → Nat → St → Hp → Prop, (∃ m, W 0 m σ H1) ∧ ∀ i m σ H, W i m σ H →
  (J.stop i H ∧ D.nx σ H) ∨ (J.go i H ∧ ∃ N : St → Hp → Prop, (∀ σ' H', N σ' H' → ∃ m', m' < m ∧ W (i+1) m' σ' H') ∧ ∀ x H', J.yld i H x H' → g x σ H' fun σ2 H2 => tb { D with nx := N, ct := N, bk := D.nx } σ2 H2)
def ff (fp : List Addr)(h : Heap) : List (Addr × Obj) := fp.filterMap fun b => (h.get? b).map fun o => (b, o)
theorem bN {fp : List Addr}{h : Heap}{b : Addr}{o : Obj}(hb : b∈fp)(e : h.get? b=some o) : (b, o)∈ff fp h := List.mem_filterMap.mpr ⟨b, hb, by rw [e]; rfl⟩
theorem kR {fp : List Addr}{h : Heap}{p : Addr × Obj}(hp : p∈ff fp h) : p.1∈fp ∧ h.get? p.1=some p.2 := by
  obtain ⟨b, hb, e⟩ := List.mem_filterMap.mp hp
  cases q : h.get? b with
  | none => rw [q] at e;cases e
  | some o =>
    rw [q] at e
    have e' : (b, o)=p := x5 e
    subst e'
    exact ⟨hb, q⟩
theorem Inv.pinned {pins : List (Addr × Obj)}{σ : St}{H : Hp}{s : Shared}{fp : List Addr}(I : Inv X pins σ H s)(hf : ∀ b∈fp, jq X pins H b)(ho : ∀ b∈fp, ∃ o, s.heap.get? b=some o ∧ ∀ v, o.data ≠ .cell v) : Inv X (pins++ff fp s.heap) σ H s :=
  I.pins_of fun p hp => (yn.mp hp).elim (fun z => I.pin p (x6 _ z)) fun z => by
    obtain ⟨hb, e⟩ := kR z
    obtain ⟨f0, f1, f2, _⟩ := hf p.1 hb
    obtain ⟨o, e', d⟩ := ho p.1 hb
    rw [e] at e';cases e'
    exact ⟨e, f0, f1, f2, d⟩
theorem Inv.unpinned {pins pl : List (Addr × Obj)}{σ : St}{H : Hp}{s : Shared}(I : Inv X (pins++pl) σ H s) : Inv X pins σ H s := I.pins_of fun p hp => I.pin p (x6 _ (yE _ hp))
theorem bj {iter : Expr}{body : List Stmt}{wi : TI}{g : TG}{tb : TS}{pos : Pos}(hp : PassesOwn (model X.prog X.w) X.A X.env X.xe)(hc : X.calm=true)(hi : PI X tg iter wi)(hg : PG X tg g)(hb : PSs X body tb)
    (hs : ∀ x, foldedSetIterable iter X.env x=pure x := by intro _;rfl) : PS X (.For tg iter body [] pos) (xq wi g tb) := by
  intro pins s σ H D I h
  refine wpAny_For (thn (hi pins s σ H _ I h) fun v s1 h1 => thn h1 fun itv s2 h2 => ?_) hs
  obtain ⟨it, fp, tn, J, H2, e, I2, T, st2, f2, W, ⟨m0, w0⟩, turn⟩ := h2
  subst e
  -- what stays true of the iterator's objects through the loop
  have stat : ∀ {H' : Hp}, (∀ b∈fp, H' b=none) → ∀ b∈fp, jq X pins H' b := fun hn b hb => ⟨hn b hb, (f2 b hb).2⟩
  refine codeAny_forLoop_any (fun n s' => ∃ i σ' H', Inv X pins σ' H' s' ∧ tn i s'.heap ∧ (∀ b∈fp, H' b=none) ∧ W i n σ' H') ?_ m0 ⟨0, σ, H2, I2, st2, fun b hb => (f2 b hb).1, w0⟩
  rintro n s3 ⟨i, σ3, H3, I3, st3, fr3, w3⟩
  rcases turn i n σ3 H3 w3 with ⟨stop, qn⟩ | ⟨go, N, hN, step⟩
  · refine zO hp (thn (T.done X rfl rfl rfl hc i pins s3 σ3 H3 X.xe I3 (stat fr3) st3 stop) fun r s4 zq38 => ?_)
    obtain ⟨hr, I4⟩ := zq38
    subst hr
    exact Bf ⟨σ3, H3, I4, qn⟩
  · refine zO hp (thn (T.item X rfl rfl rfl hc i pins s3 σ3 H3 X.xe I3 (stat fr3) st3 go) fun r s4 zq39 => ?_)
    obtain ⟨u, hr, h4⟩ := zq39
    subst hr
    refine zO hp (thn h4 fun _ s5 zq40 => ?_)
    obtain ⟨x, H5, I5, r5, y5, st5, fr5⟩ := zq40
    have I5' := I5.pinned (stat fr5) (T.obj _ _ st5)
    refine zO hp (thn (hg _ s5 σ3 H5 x u _ I5' r5 (step x H5 y5)) fun _ s6 zq41 => ?_)
    obtain ⟨σ6, H6, I6, q6⟩ := zq41
    refine zO hp (thn (hb _ s6 σ6 H6 _ I6 q6) fun f s7 q7 => ?_)
    have again : ∀ {σ7 : St} {H7 : Hp}, Inv X (pins++ff fp s5.heap) σ7 H7 s7 → N σ7 H7 → ∃ m, m < n ∧ ∃ i σ' H', Inv X pins σ' H' s7 ∧ tn i s7.heap ∧ (∀ b∈fp, H' b=none) ∧ W i m σ' H' := fun {σ7 H7} I7 n7 => by
      obtain ⟨m', hm, w7⟩ := hN σ7 H7 n7
      refine ⟨m', hm, i+1, σ7, H7, I7.unpinned, T.keep _ _ _ st5 fun b hb o e => (I7.pin (b, o) (x6 _ (x6 _ (bN hb e)))).1, fun b hb => ?_, w7⟩
      obtain ⟨o, e, d⟩ := T.obj _ _ st5 b hb
      exact (I7.pin (b, o) (x6 _ (x6 _ (bN hb e)))).2.1
    cases f with
    | next => obtain ⟨σ7, H7, I7, n7⟩ := q7;exact again I7 n7
    | cont => obtain ⟨σ7, H7, I7, n7⟩ := q7;exact again I7 n7
    | brk => obtain ⟨σ7, H7, I7, q7⟩ := q7;exact ⟨σ7, H7, I7.unpinned, q7⟩
    | ret v => obtain ⟨x7, σ7, H7, I7, r7, q7⟩ := q7;exact ⟨x7, σ7, H7, I7.unpinned, r7, q7⟩
end
theorem jt {K : PySem.W.Frag}{a : Addr}{xs : List V}{g : TG}{tb : TS}{D : fc}{σ : St}{H : Hp}(Pv : Nat → St → Hp → Prop)(h0 : Pv 0 σ H)(hl : ∀ i σ H, i≤xs.length → Pv i σ H → SqL K H a xs)
    (hs : ∀ i x σ H, xs[i]? = some x → Pv i σ H → g x σ H fun σ2 H2 => tb { D with nx := Pv (i+1), ct := Pv (i+1), bk := D.nx } σ2 H2) (hd : ∀ σ H, Pv xs.length σ H → D.nx σ H) :
    ∃ W : Nat → Nat → St → Hp → Prop, (∃ m, W 0 m σ H) ∧ ∀ i m σ H, W i m σ H →
      ((Itl K a).stop i H ∧ D.nx σ H) ∨ ((Itl K a).go i H ∧ ∃ N : St → Hp → Prop, (∀ σ' H', N σ' H' → ∃ m', m' < m ∧ W (i+1) m' σ' H') ∧ ∀ x H', (Itl K a).yld i H x H' → g x σ H' fun σ2 H2 => tb { D with nx := N, ct := N, bk := D.nx } σ2 H2) := by
  refine ⟨fun i m σ H => m=xs.length - i ∧ i≤xs.length ∧ Pv i σ H, ⟨xs.length, by simp, yQ _, h0⟩, ?_⟩
  rintro i m σ H ⟨rfl, hi, p⟩
  have q := hl i σ H hi p
  by_cases hlt : i < xs.length
  · refine .inr ⟨⟨xs, xs[i], q, by simp [hlt]⟩, Pv (i+1), fun σ' H' p' => ⟨xs.length - (i+1), by omega, rfl, hlt, p'⟩, fun x H' y => ?_⟩
    obtain ⟨e, y⟩ := y
    subst e
    exact hs i x σ _ (y xs q) p
  · have e : i=xs.length := by omega
    subst e
    exact .inl ⟨⟨xs, q, xT _⟩, hd σ H p⟩
theorem qL {K : PySem.W.Frag}{a : Addr}{xs : List V}{g : TG}{tb : TS}{D : fc}{σ : St}{H : Hp}(Pv : Nat → St → Hp → Prop)(h0 : Pv 0 σ H)(hl : ∀ i σ H, i≤xs.length → Pv i σ H → SqT K H a xs)
    (hs : ∀ i x σ H, xs[i]? = some x → Pv i σ H → g x σ H fun σ2 H2 => tb { D with nx := Pv (i+1), ct := Pv (i+1), bk := D.nx } σ2 H2) (hd : ∀ σ H, Pv xs.length σ H → D.nx σ H) :
    ∃ W : Nat → Nat → St → Hp → Prop, (∃ m, W 0 m σ H) ∧ ∀ i m σ H, W i m σ H →
      ((Itt K a).stop i H ∧ D.nx σ H) ∨ ((Itt K a).go i H ∧ ∃ N : St → Hp → Prop, (∀ σ' H', N σ' H' → ∃ m', m' < m ∧ W (i+1) m' σ' H') ∧ ∀ x H', (Itt K a).yld i H x H' → g x σ H' fun σ2 H2 => tb { D with nx := N, ct := N, bk := D.nx } σ2 H2) := by
  refine ⟨fun i m σ H => m=xs.length - i ∧ i≤xs.length ∧ Pv i σ H, ⟨xs.length, by simp, yQ _, h0⟩, ?_⟩
  rintro i m σ H ⟨rfl, hi, p⟩
  have q := hl i σ H hi p
  by_cases hlt : i < xs.length
  · refine .inr ⟨⟨xs, xs[i], q, by simp [hlt]⟩, Pv (i+1), fun σ' H' p' => ⟨xs.length - (i+1), by omega, rfl, hlt, p'⟩, fun x H' y => ?_⟩
    obtain ⟨e, y⟩ := y
    subst e
    exact hs i x σ _ (y xs q) p
  · have e : i=xs.length := by omega
    subst e
    exact .inl ⟨⟨xs, q, xT _⟩, hd σ H p⟩
theorem bo {lo : Int}{n : Nat}{g : TG}{tb : TS}{D : fc}{σ : St}{H : Hp}(Pv : Nat → St → Hp → Prop)(h0 : Pv 0 σ H)
    (hs : ∀ i σ H, i < n → Pv i σ H → g (.int (lo+i)) σ H fun σ2 H2 => tb { D with nx := Pv (i+1), ct := Pv (i+1), bk := D.nx } σ2 H2) (hd : ∀ σ H, Pv n σ H → D.nx σ H) :
    ∃ W : Nat → Nat → St → Hp → Prop, (∃ m, W 0 m σ H) ∧ ∀ i m σ H, W i m σ H →
      ((Itr lo n).stop i H ∧ D.nx σ H) ∨ ((Itr lo n).go i H ∧ ∃ N : St → Hp → Prop, (∀ σ' H', N σ' H' → ∃ m', m' < m ∧ W (i+1) m' σ' H') ∧ ∀ x H', (Itr lo n).yld i H x H' → g x σ H' fun σ2 H2 => tb { D with nx := N, ct := N, bk := D.nx } σ2 H2) := by
  refine ⟨fun i m σ H => m=n - i ∧ i≤n ∧ Pv i σ H, ⟨n, by simp, yQ _, h0⟩, ?_⟩
  rintro i m σ H ⟨rfl, hi, p⟩
  by_cases hlt : i < n
  · refine .inr ⟨hlt, Pv (i+1), fun σ' H' p' => ⟨n - (i+1), by omega, rfl, hlt, p'⟩, fun x H' y => ?_⟩
    obtain ⟨e, y⟩ := y
    subst e y
    exact hs i σ _ hlt p
  · have e : i=n := by omega
    subst e
    exact .inl ⟨xT _, hd σ H p⟩
abbrev R2 := V → V → Hp → VK → Prop
def OpR (X : Cx)(f : Value → Value → Sem Value)(r : R2) : Prop :=
  ∀ (pins : List (Addr × Obj)) (s : Shared) (σ : St) (H : Hp) (x y : V) (v u : Value) (Q : VK), Inv X pins σ H s → bf x v → bf y u → r x y H Q →
    wpAny (model X.prog X.w) X.A (f v u) (EP X pins σ Q) X.xe s
def UnR (X : Cx)(f : Value → Sem Value)(r : V → Hp → VK → Prop) : Prop :=
  ∀ (pins : List (Addr × Obj)) (s : Shared) (σ : St) (H : Hp) (x : V) (v : Value) (Q : VK), Inv X pins σ H s → bf x v → r x H Q →
    wpAny (model X.prog X.w) X.A (f v) (EP X pins σ Q) X.xe s
def cS (X : Cx)(f : Value)(r : List V → Hp → VK → Prop) : Prop :=
  ∀ (pins : List (Addr × Obj)) (s : Shared) (σ : St) (H : Hp) (xs : List V) (us : List Value) (Q : VK), Inv X pins σ H s → aL xs us → r xs H Q →
    wpAny (model X.prog X.w) X.A (call f us) (EP X pins σ Q) X.xe s
def xr (X : Cx)(r : V → Hp → (Bool → Hp → Prop) → Prop) : Prop :=
  ∀ (pins : List (Addr × Obj)) (s : Shared) (σ : St) (H : Hp) (x : V) (v : Value) (Q : Bool → Hp → Prop), Inv X pins σ H s → bf x v → r x H Q →
    wpAny (model X.prog X.w) X.A (truthy v) (TP X pins σ Q) X.xe s
def tq (r : R2)(Q : VK)(x : V) : V → Hp → Prop := fun y H2 => r x y H2 Q
def tu (r : R2)(tb : TE)(σ : St)(Q : VK) : V → Hp → Prop := fun x H1 => tb σ H1 (tq r Q x)
def tOp (r : R2)(ta tb : TE) : TE := fun σ H Q => ta σ H (tu r tb σ Q)
def tw (r : V → Hp → VK → Prop)(Q : VK) : V → Hp → Prop := fun x H1 => r x H1 Q
def tUn (r : V → Hp → VK → Prop)(ta : TE) : TE := fun σ H Q => ta σ H (tw r Q)
inductive rI (C : Int → Int → Prop)(g : Int → Int → V)(x : V)(y : V)(H : Hp)(Q : VK) : Prop
  | mk : ∀ i j, (x = .int i) → (y = .int j) → (C i j) → (Q (g i j) H) → rI C g x y H Q
inductive rI0 (g : Int → Int → V)(x : V)(y : V)(H : Hp)(Q : VK) : Prop
  | mk : ∀ i j, (x = .int i) → (y = .int j) → (Q (g i j) H) → rI0 g x y H Q
inductive rU (g : Int → V)(x : V)(H : Hp)(Q : VK) : Prop
  | mk : ∀ i, (x = .int i) → (Q (g i) H) → rU g x H Q
section
variable {X : Cx} {a b c : Expr} {ta tb tc : TE} {pos : Pos}
theorem wQ (ha : PE X a ta)(hb : PE X b tb){pins : List (Addr × Obj)}{s : Shared}{σ : St}{H : Hp}{R : V → V → Hp → Prop}(I : Inv X pins σ H s)
    (h : ta σ H fun x H1 => tb σ H1 fun y H2 => R x y H2) {Q : Value → Shared → Prop} {f : Value → Value → Sem Value}
    (hf : ∀ v u s2 x y H2, Inv X pins σ H2 s2 → bf x v → bf y u → R x y H2 → wpAny (model X.prog X.w) X.A (f v u) Q X.xe s2) :
    wpAny (model X.prog X.w) X.A (eval a X.env) (fun v s₁ => wpAny (model X.prog X.w) X.A (eval b X.env) (fun u s₂ => wpAny (model X.prog X.w) X.A (f v u) Q X.xe s₂) X.xe s₁) X.xe s := by
  refine thn (ha pins s σ H _ I h) fun v s1 zq42 => ?_
  obtain ⟨x, H1, I1, r1, q1⟩ := zq42
  refine thn (hb pins s1 σ H1 _ I1 q1) fun u s2 zq43 => ?_
  obtain ⟨y, H2, I2, r2, q2⟩ := zq43
  exact hf v u s2 x y H2 I2 r1 r2 q2
theorem aF {op : Operator}{r : R2}(ho : OpR X (binaryOp op) r)(ha : PE X a ta)(hb : PE X b tb) : PE X (.BinOp a op b pos) (tOp r ta tb) := by
  intro pins s σ H Q I h
  exact wpAny_BinOp (wQ ha hb I h fun v u s2 x y H2 I2 rx ry q => ho pins s2 σ H2 x y v u Q I2 rx ry q)
theorem kT {op : UnaryOp}{r : V → Hp → VK → Prop}(ho : UnR X (unaryOp op) r)(ha : PE X a ta) : PE X (.UnaryOp op a pos) (tUn r ta) := by
  intro pins s σ H Q I h
  exact UnaryOp_ (thn (ha pins s σ H _ I h) fun v s1 zq44 => (by obtain ⟨x, H1, I1, r1, q1⟩ := zq44;exact ho pins s1 σ H1 x v Q I1 r1 q1))
theorem opI {f : Value → Value → Sem Value}{C : Int → Int → Prop}{g : Int → Int → Int}
    (rule : ∀ (i j : Int) (t u : Tok) (s : Shared) (Q : Value → Shared → Prop) (E : Value → Shared → Prop), C i j → Q (.int (g i j) s.toks) { s with toks := s.toks+1 } → wpAny (model X.prog X.w) X.A (f (.int i t) (.int j u)) Q E s) :
    OpR X f (rI C fun i j => .int (g i j)) := by
  intro pins s σ H x y v u Q I rx ry h
  obtain ⟨i, j, rfl, rfl, hc, q⟩ := h
  obtain ⟨t, rfl⟩ := rx
  obtain ⟨t', rfl⟩ := ry
  exact rule i j t t' s _ _ hc ⟨.int (g i j), H, I.tok _, ⟨_, rfl⟩, q⟩
theorem wR {f : Value → Value → Sem Value}{g : Int → Int → Int}
    (rule : ∀ (i j : Int) (t u : Tok) (s : Shared) (Q : Value → Shared → Prop) (E : Value → Shared → Prop), Q (.int (g i j) s.toks) { s with toks := s.toks+1 } → wpAny (model X.prog X.w) X.A (f (.int i t) (.int j u)) Q E s) :
    OpR X f (rI0 fun i j => .int (g i j)) := by
  intro pins s σ H x y v u Q I rx ry h
  obtain ⟨i, j, rfl, rfl, q⟩ := h
  obtain ⟨t, rfl⟩ := rx
  obtain ⟨t', rfl⟩ := ry
  exact rule i j t t' s _ _ ⟨.int (g i j), H, I.tok _, ⟨_, rfl⟩, q⟩
theorem vz {f : Value → Value → Sem Value}{g : Int → Int → Bool}
    (rule : ∀ (i j : Int) (t u : Tok) (s : Shared) (Q : Value → Shared → Prop) (E : Value → Shared → Prop), Q (.bool (g i j)) s → wpAny (model X.prog X.w) X.A (f (.int i t) (.int j u)) Q E s) :
    OpR X f (rI0 fun i j => .bl (g i j)) := by
  intro pins s σ H x y v u Q I rx ry h
  obtain ⟨i, j, rfl, rfl, q⟩ := h
  obtain ⟨t, rfl⟩ := rx
  obtain ⟨t', rfl⟩ := ry
  exact rule i j t t' s _ _ ⟨.bl (g i j), H, I, rfl, q⟩
def xt (i j : Int) : Prop := 0 < j ∧ j < 1073741824
def xv (i j : Int) : Prop := 0≤j ∧ j≤1000000 ∧ i.natAbs < 2 ^ 64
def vA (i j : Int) : Prop := (-(2 ^ 64) < i ∧ i < 2 ^ 64) ∨ (-(2 ^ 64) < j ∧ j < 2 ^ 64)
theorem vA.ok {i j : Int}(h : vA i j) : IntMulOk i j := by
  rcases h with ⟨h1, h2⟩ | ⟨h1, h2⟩
  · exact .of_left (intBits_le_64 h1 h2)
  · exact .of_right (intBits_le_64 h1 h2)
theorem bK : OpR X (binaryOp .Add) (rI0 fun i j => .int (i+j)) := wR fun _ _ _ _ _ _ _ q => add_int q
theorem kU : OpR X (binaryOp .Sub) (rI0 fun i j => .int (i - j)) := wR fun _ _ _ _ _ _ _ q => sub_int q
theorem d9 : OpR X (binaryOp .Mult) (rI vA fun i j => .int (i*j)) := opI fun _ _ _ _ _ _ _ hc q => mul_int q hc.ok
theorem bV : OpR X (binaryOp .FloorDiv) (rI xt fun i j => .int (i / j)) := opI fun i j _ _ _ _ _ hc q => by
  have h1 : (0 : Int) < j := hc.1
  have h2 : j < 1073741824 := hc.2
  exact floordiv_int (by omega) (by rw [Int.fdiv_eq_ediv_of_nonneg i (by omega)];exact q) (.inl (PyProof.noPylong_small (by omega)))
theorem d_ : OpR X (binaryOp .Mod) (rI (fun _ j => 0 < j) fun i j => .int (i % j)) := opI fun i j _ _ _ _ _ hc q => by
  have h1 : (0 : Int) < j := hc
  exact mod_int' (by omega) (by rw [Int.fmod_eq_emod_of_nonneg i (by omega)];exact q)
theorem tD : OpR X (binaryOp .Pow) (rI xv fun i j => .int (i ^ j.toNat)) := opI fun _ _ _ _ _ _ _ hc q => pow_int_small hc.1 hc.2.1 hc.2.2 q
theorem unI {f : Value → Sem Value}{g : Int → Int}
    (rule : ∀ (i : Int) (t : Tok) (s : Shared) (Q : Value → Shared → Prop) (E : Value → Shared → Prop), Q (.int (g i) s.toks) { s with toks := s.toks+1 } → wpAny (model X.prog X.w) X.A (f (.int i t)) Q E s) :
    UnR X f (rU fun i => .int (g i)) := by
  intro pins s σ H x v Q I rx h
  obtain ⟨i, rfl, q⟩ := h
  obtain ⟨t, rfl⟩ := rx
  exact rule i t s _ _ ⟨.int (g i), H, I.tok _, ⟨_, rfl⟩, q⟩
theorem gH : UnR X (unaryOp .USub) (rU fun i => .int (-i)) := unI fun _ _ _ _ _ q => neg_int q
end
def wU : V → V → Bool
  | .non, .non => true | .non, .int _ => true | .int _, .non => true | .non, .bl _ => true | .bl _, .non => true | .non, .str _ => true | .str _, .non => true
  | .int _, .int _ => true | .bl _, .bl _ => true | .str _, .str _ => true | .byt _, .byt _ => true
  | .int _, .str _ => true | .str _, .int _ => true | .bl _, .str _ => true | .str _, .bl _ => true
  | _, _ => false
def rEq : R2 := fun x y H Q => wU x y=true ∧ Q (.bl (decide (x=y))) H
def rNe : R2 := fun x y H Q => wU x y=true ∧ Q (.bl (!decide (x=y))) H
theorem dec_int {i j : Int} : decide (V.int i=V.int j)=(i == j) := by
  rw [zb]
  simp
theorem pZ {i j : Bool} : decide (V.bl i=V.bl j)=(i == j) := by
  rw [zb]
  simp
theorem kW {i j : Str} : decide (V.str i=V.str j)=(i == j) := by
  rw [zb]
  simp
theorem kX {i j : Array UInt8} : decide (V.byt i=V.byt j)=(i.toList == j.toList) := by
  rw [zb]
  cases i
  cases j
  simp
section
variable {X : Cx} {a b c : Expr} {ta tb tc : TE} {pos : Pos}
theorem aK {pins : List (Addr × Obj)}{σ : St}{H : Hp}{s : Shared}{Q : VK}{k k' : Bool}(I : Inv X pins σ H s)(q : Q (.bl k) H)(e : k=k') : EP X pins σ Q (.bool k') s := by
  subst e
  exact ⟨.bl k, H, I, rfl, q⟩
theorem j8 : OpR X (compareOp .Eq) rEq := by
  intro pins s σ H x y v u Q I rx ry h
  obtain ⟨hs, q⟩ := h
  cases x with
  | non =>
    cases rx
    cases y with
    | non => cases ry;exact PySem.EqNone.eq_none_none (aK I q (by simp))
    | bl j => cases ry;exact PySem.EqNone.eq_none_bool (aK I q (by simp))
    | int j => obtain ⟨t', rfl⟩ := ry;exact PySem.EqNone.eq_none_int (aK I q (by simp))
    | str j => obtain ⟨t', rfl⟩ := ry;exact PySem.EqNone.eq_none_str (aK I q (by simp))
    | _ => exact absurd (show false=true from hs) yc
  | bl i =>
    cases rx
    cases y with
    | non => cases ry;exact PySem.EqNone.eq_bool_none (aK I q (by simp))
    | bl j => cases ry;exact eq_bool (aK I q pZ)
    | str j => obtain ⟨t', rfl⟩ := ry;exact PySem.EqMixed.eq_bool_str (aK I q (by simp))
    | _ => exact absurd (show false=true from hs) yc
  | int i =>
    obtain ⟨t, rfl⟩ := rx
    cases y with
    | non => cases ry;exact PySem.EqNone.eq_int_none (aK I q (by simp))
    | int j => obtain ⟨t', rfl⟩ := ry;exact eq_int (aK I q dec_int)
    | str j => obtain ⟨t', rfl⟩ := ry;exact PySem.EqMixed.eq_int_str (aK I q (by simp))
    | _ => exact absurd (show false=true from hs) yc
  | str i =>
    obtain ⟨t, rfl⟩ := rx
    cases y with
    | non => cases ry;exact PySem.EqNone.eq_str_none (aK I q (by simp))
    | bl j => cases ry;exact PySem.EqMixed.eq_str_bool (aK I q (by simp))
    | int j => obtain ⟨t', rfl⟩ := ry;exact PySem.EqMixed.eq_str_int (aK I q (by simp))
    | str j => obtain ⟨t', rfl⟩ := ry;exact eq_str (aK I q kW)
    | _ => exact absurd (show false=true from hs) yc
  | byt i =>
    obtain ⟨t, rfl⟩ := rx
    cases y with
    | byt j => obtain ⟨t', rfl⟩ := ry;exact PySem.W.eq_bytes (aK I q kX)
    | _ => exact absurd (show false=true from hs) yc
  | _ => cases y <;> exact absurd (show false=true from hs) yc
theorem vB : OpR X (compareOp .NotEq) rNe := by
  intro pins s σ H x y v u Q I rx ry h
  obtain ⟨hs, q⟩ := h
  cases x with
  | non =>
    cases rx
    cases y with
    | non => cases ry;exact PySem.EqNone.ne_none_none (aK I q (by simp))
    | bl j => cases ry;exact PySem.EqNone.ne_none_bool (aK I q (by simp))
    | int j => obtain ⟨t', rfl⟩ := ry;exact PySem.EqNone.ne_none_int (aK I q (by simp))
    | str j => obtain ⟨t', rfl⟩ := ry;exact PySem.EqNone.ne_none_str (aK I q (by simp))
    | _ => exact absurd (show false=true from hs) yc
  | bl i =>
    cases rx
    cases y with
    | non => cases ry;exact PySem.EqNone.ne_bool_none (aK I q (by simp))
    | bl j => cases ry;exact ne_bool (aK I q (yB not pZ))
    | str j => obtain ⟨t', rfl⟩ := ry;exact PySem.EqMixed.ne_bool_str (aK I q (by simp))
    | _ => exact absurd (show false=true from hs) yc
  | int i =>
    obtain ⟨t, rfl⟩ := rx
    cases y with
    | non => cases ry;exact PySem.EqNone.ne_int_none (aK I q (by simp))
    | int j => obtain ⟨t', rfl⟩ := ry;exact ne_int (aK I q (yB not dec_int))
    | str j => obtain ⟨t', rfl⟩ := ry;exact PySem.EqMixed.ne_int_str (aK I q (by simp))
    | _ => exact absurd (show false=true from hs) yc
  | str i =>
    obtain ⟨t, rfl⟩ := rx
    cases y with
    | non => cases ry;exact PySem.EqNone.ne_str_none (aK I q (by simp))
    | bl j => cases ry;exact PySem.EqMixed.ne_str_bool (aK I q (by simp))
    | int j => obtain ⟨t', rfl⟩ := ry;exact PySem.EqMixed.ne_str_int (aK I q (by simp))
    | str j => obtain ⟨t', rfl⟩ := ry;exact ne_str (aK I q (yB not kW))
    | _ => exact absurd (show false=true from hs) yc
  | byt i =>
    obtain ⟨t, rfl⟩ := rx
    cases y with
    | byt j => obtain ⟨t', rfl⟩ := ry;exact PySem.W.ne_bytes (aK I q (yB not kX))
    | _ => exact absurd (show false=true from hs) yc
  | _ => cases y <;> exact absurd (show false=true from hs) yc
theorem vC : OpR X (compareOp .Lt) (rI0 fun i j => .bl (decide (i < j))) := vz fun _ _ _ _ _ _ _ q => lt_int q
theorem nW : OpR X (compareOp .Gt) (rI0 fun i j => .bl (decide (j < i))) := vz fun _ _ _ _ _ _ _ q => gt_int q
theorem vD : OpR X (compareOp .GtE) (rI0 fun i j => .bl (decide (j≤i))) := vz fun _ _ _ _ _ _ _ q => ge_int q
inductive ed  (x : V)(y : V)(H : Hp)(Q : VK) : Prop
  | mk : ∀ i j, (x = .str i) → (y = .str j) → (Q (.bl (!(Builtin.Str.occurrences j i 0 j.length 1).isEmpty)) H) → ed x y H Q
theorem kY : OpR X (compareOp .In) ed := by
  intro pins s σ H x y v u Q I rx ry h
  obtain ⟨i, j, rfl, rfl, q⟩ := h
  obtain ⟨t, rfl⟩ := rx
  obtain ⟨t', rfl⟩ := ry
  exact in_str (aK I q rfl)
theorem bL (b : Expr){op : CmpOp}(h : op ≠ .In := by decide)(h2 : op ≠ .NotIn := by decide) : behindInMarks op b=false := by
  have e1 : (op == CmpOp.In)=false := by cases op <;> first | rfl | exact absurd rfl h
  have e2 : (op == CmpOp.NotIn)=false := by cases op <;> first | rfl | exact absurd rfl h2
  cases b <;> simp [behindInMarks, e1, e2]
def nX (Q : (Bool → Hp → Prop)) : V → Hp → Prop := fun x H' => IsB x H' Q
def vE (t : TE) : TT := fun σ H Q => t σ H (nX Q)
theorem aW {op : CmpOp}{r : R2}(ho : OpR X (compareOp op) r)(ha : PE X a ta)(hb : PE X b tb)(hm : behindInMarks op b=false) : PT X (.Compare a [op] [b] pos) (vE (tOp r ta tb)) := by
  intro pins s σ H Q I h
  refine wpAny_isTrue_Compare1 (thn (ha pins s σ H _ I h) fun v s1 ⟨x, H1, I1, r1, q1⟩ => thn (hb pins s1 σ H1 _ I1 q1) fun u s2 ⟨y, H2, I2, r2, q2⟩ =>
    thn (ho pins s2 σ H2 x y v u _ I2 r1 r2 q2) fun c s3 ⟨z, H3, I3, r3, k, e, q3⟩ => ?_) hm
  subst e
  cases r3
  exact Bz ⟨H3, I3, q3⟩
def xw (K : PySem.W.Frag)(x : V)(H : Hp)(k : Bool) : Prop :=
  match x with
  | .non => k=false
  | .bl b => k=b
  | .int i => k=(i != 0)
  | .str y => y.length≤sizeLine ∧ k=((y.length : Int) != 0)
  | .byt y => y.size≤sizeLine ∧ k=((y.size : Int) != 0)
  | .ref p => (∃ xs, SqL K H p xs ∧ k=!xs.isEmpty) ∨ (∃ xs, SqT K H p xs ∧ k=!xs.isEmpty) ∨ ∃ kvs, H p=some (.dK kvs) ∧ k=!kvs.isEmpty
  | _ => False
theorem j9 {κ : Type}{kvs : List (κ × V)}{vs : List (κ × Value)}(r : KV kvs vs) : (!vs.isEmpty)=!kvs.isEmpty := by
  cases r <;> rfl
theorem fg {xs : List V}{its : List Value}(r : aL xs its) : (!its.toArray.isEmpty)=!xs.isEmpty := by
  cases r <;> simp
theorem cX : (sizeLine : Nat) < 2 ^ 63 := by rw [Bg]; decide
inductive qM (K : PySem.W.Frag)(x : V)(H : Hp)(Q : Bool → Hp → Prop) : Prop
  | mk : ∀ k, (xw K x H k) → (Q k H) → qM K x H Q
theorem p0 : xr X (qM X.K) := by
  intro pins s σ H x v Q I rx h
  obtain ⟨k, e, q⟩ := h
  have hl := cX
  have hs : sizeLine=16777216 := Bg
  cases x with
  | non =>
    cases rx
    have e' : k=false := e
    subst e'
    exact truthy_none ⟨H, I, q⟩
  | bl b =>
    cases rx
    have e' : k=b := e
    subst e'
    exact Bz ⟨H, I, q⟩
  | int i =>
    obtain ⟨t, rfl⟩ := rx
    have e' : k=(i != 0) := e
    subst e'
    exact PySem.P.truthy_int ⟨H, I, q⟩
  | str y =>
    obtain ⟨t, rfl⟩ := rx
    obtain ⟨hy, e'⟩ : y.length≤sizeLine ∧ k=((y.length : Int) != 0) := e
    subst e'
    exact PySem.P.truthy_str (by omega) ⟨H, I.tok _, q⟩
  | byt y =>
    obtain ⟨t, rfl⟩ := rx
    obtain ⟨hy, e'⟩ : y.size≤sizeLine ∧ k=((y.size : Int) != 0) := e
    subst e'
    exact PySem.W.truthy_bytes (by omega) ⟨H, I.tok _, q⟩
  | ref p =>
    cases rx
    have e' : (∃ xs, SqL X.K H p xs ∧ k=!xs.isEmpty) ∨ (∃ xs, SqT X.K H p xs ∧ k=!xs.isEmpty) ∨ ∃ kvs, H p=some (.dK kvs) ∧ k=!kvs.isEmpty := e
    rcases e' with ⟨xs, hx, e'⟩ | ⟨xs, hx, e'⟩ | ⟨kvs, hx, e'⟩
    · subst e'
      obtain ⟨its, r, pl, hz⟩ := I.list hx
      have hlen := r.length
      exact wpAny_truthy_list pl.isList (by simp only [x8];omega) ⟨H, I.tok _, by rw [fg r];exact q⟩
    · subst e'
      obtain ⟨its, r, pl, hz⟩ := I.tuple hx
      have hlen := r.length
      exact truthy_tuple pl (by simp only [x8];omega) ⟨H, I.tok _, by rw [fg r];exact q⟩
    · subst e'
      obtain ⟨hz, hS, vs, r, m⟩ : kvs.length≤sizeLine ∧ (p == sysModules)=false ∧ ∃ vs, KV kvs vs ∧ s.heap.DictOf (ba X.prog X.w) p vs := I.hok p _ hx
      have hlen : kvs.length=vs.length := Ap r
      exact wpAny_truthy_dict hS m (by omega) ⟨H, I.tok _, by rw [j9 r];exact q⟩
  | _ => exact (show False from e).elim
def qN (K : PySem.W.Frag)(Q : (Bool → Hp → Prop)) : V → Hp → Prop := fun x H' => qM K x H' Q
def xx (K : PySem.W.Frag)(ta : TE) : TT := fun σ H Q => ta σ H (qN K Q)
theorem nY (ha : PE X a ta)(he : ∀ whole, isTrue a X.env whole=(do let v ← whole; standAt a.pos; holding [v] (truthy v))) :
    PT X a (xx X.K ta) := by
  intro pins s σ H Q I h
  exact isTrue_plain (thn (ha pins s σ H _ I h) fun v s1 zq47 => (by obtain ⟨x, H1, I1, r1, q1⟩ := zq47;exact p0 pins s1 σ H1 x v Q I1 r1 q1)) (he _)
inductive dE  (x : V)(y : V)(H : Hp)(Q : VK) : Prop
  | mk : ∀ i j, (x = .str i) → (y = .str j) → (i.length+j.length≤sizeLine) → (Q (.str (i++j)) H) → dE x y H Q
theorem bw : OpR X (binaryOp .Add) dE := by
  intro pins s σ H x y v u Q I rx ry h
  obtain ⟨i, j, rfl, rfl, hz, q⟩ := h
  obtain ⟨t, rfl⟩ := rx
  obtain ⟨t', rfl⟩ := ry
  exact add_str (fun t' tk => ⟨.str (i++j), H, I.tok _, ⟨_, rfl⟩, q⟩) hz
theorem cx {x : V}{us : List Value}(r : aL [x] us) : ∃ u, us=[u] ∧ bf x u := by
  cases r with
  | cons r1 r2 => cases r2;exact ⟨_, rfl, r1⟩
theorem vF {x y : V}{us : List Value}(r : aL [x, y] us) : ∃ u w', us=[u, w'] ∧ bf x u ∧ bf y w' := by
  cases r with
  | cons r1 r2 =>
    cases r2 with
    | cons r3 r4 => cases r4;exact ⟨_, _, rfl, r1, r3⟩
end
section
variable {prog : Program} {w : World} {A : Around} {E : Value → Shared → Prop} {s : Shared} {K : PySem.W.Frag} {x dx C f : Addr} {mA : Str → Option Value} {name : Str} {v : Value}
end
theorem kI.some_of {v : V}{o : Option Value}(r : kI (some v) o) : ∃ u, o=some u ∧ bf v u := by
  cases o with
  | none => exact (show False from r).elim
  | some u => exact ⟨u, rfl, r⟩
section
variable {P : Program} {w : World} {H H' : Hp} {h h' : Heap} {a C dx : Addr} {fs fs' : List (Str × V)}
end
section
variable {X : Cx} {pins : List (Addr × Obj)} {σ : St} {H : Hp} {s : Shared} {a C dx : Addr} {fs : List (Str × V)} {f : Str} {v : V} {A : Around} {E : Value → Shared → Prop}
end
section
variable {X : Cx} {o e value : Expr} {f : Str} {pos pos' tpos : Pos} {ta tv : TE}
end
section
variable {X : Cx} {pins : List (Addr × Obj)} {σ : St} {H : Hp} {s : Shared} {A : Around} {E : Value → Shared → Prop} {Q : Value → Shared → Prop} {c : Value} {b : Bool}
end
structure fh (k : Nat) (A : Around) : Prop where
  hd : A.handled=none
  dp : A.depth+3*k+5 < recursionLimit
  un : A.units+16*k+200 < cLine
  gd : A.guards=some []
theorem fh.mono {j k : Nat}{A : Around}(r : fh k A)(h : j≤k) : fh j A := ⟨r.hd, by have := r.dp; omega, by have := r.un; omega, r.gd⟩
theorem fh.deeper {k : Nat}{A : Around}(r : fh (k+1) A)(env : Env) : fh k (A.deeper env) :=
  ⟨r.hd, by have := r.dp;show A.depth+1+3*k+5 < _;omega, by have := r.un;show A.units+3+16*k+200 < _;omega, r.gd⟩
theorem fh.depth {k : Nat}{A : Around}(r : fh k A) : A.depth < recursionLimit := by have := r.dp; omega
theorem fh.units {k : Nat}{A : Around}(r : fh k A) : A.units+64 < cLine := by have := r.un; omega
def xy : TA := fun _ H Q => Q [] H
def nZ (Q : (List V → Hp → Prop))(x : V) : List V → Hp → Prop := fun xs H2 => Q (x::xs) H2
def n4 (tr : TA)(σ : St)(Q : (List V → Hp → Prop)) : V → Hp → Prop := fun x H1 => tr σ H1 (nZ Q x)
def vG (ta : TE)(tr : TA) : TA := fun σ H Q => ta σ H (n4 tr σ Q)
section
variable {X : Cx} {e : Expr} {es : List Expr} {te : TE} {t : TA} {pos : Pos}
theorem ag : PA X [] xy := fun _ _ _ _ H Q I h => Calls.spliced_nil ⟨[], H, I, .nil, h⟩
theorem aa (ha : PE X e te)(hr : PA X es t)(hs : starEach (e::es) X.env=(false, eval e X.env)::starEach es X.env := by rfl) : PA X (e::es) (vG te t) := by
  intro pos pins s σ H Q I h
  rw [hs]
  show wpAny _ _ (spliced ((false, eval e X.env)::backTo pos (starEach es X.env))) _ _ s
  refine Calls.spliced_cons (thn (ha pins s σ H _ I h) fun u s1 zq54 => ?_)
  obtain ⟨x, H1, I1, r1, q1⟩ := zq54
  exact thn (hr pos pins s1 σ H1 _ I1 q1) fun us s2 zq55 => (by obtain ⟨xs, H2, I2, r2, q2⟩ := zq55;exact ⟨x::xs, H2, I2, .cons r1 r2, q2⟩)
def qO (Q : VK) : List V → Hp → Prop := fun xs H1 => xs.length≤sizeLine ∧ ∀ p, H1 p=none → Q (.ref p) (upd H1 p (.tup xs))
def xA (t : TA) : TE := fun σ H Q => t σ H (qO Q)
def qP (Q : VK) : List V → Hp → Prop := fun xs H1 => xs.length≤sizeLine ∧ ∀ p, H1 p=none → Q (.ref p) (upd H1 p (.lst xs))
def xB (t : TA) : TE := fun σ H Q => t σ H (qP Q)
theorem cw {x1}(h : PA X es t) : PE X (.Tuple es x1 pos) (xA t) := by
  intro pins s σ H Q I hq
  refine wpAny_Tuple_spliced (thn (h pos pins s σ H _ I hq) fun us s1 ⟨xs, H1, I1, r, z, q⟩ => ⟨by rw [← r.length];exact z, ?_⟩)
  have hf : H1 s1.heap.objs.size=none := I1.hok.fresh (xT _)
  refine ⟨.ref s1.heap.objs.size, upd H1 s1.heap.objs.size (.tup xs), I1.laid (t' := s1.toks) (fun b u e => xW _ e) (xT _) ?_, rfl, q _ hf⟩
  exact ⟨z, us, r, ⟨_, ya _ rfl, rfl, _, rfl⟩, .new _ _ rfl⟩
theorem bM (h : PA X es t) : PE X (.List es pos) (xB t) := by
  intro pins s σ H Q I hq
  refine wpAny_List_spliced (thn (h pos pins s σ H _ I hq) fun us s1 ⟨xs, H1, I1, r, z, q⟩ => ⟨by rw [← r.length];exact z, ?_⟩)
  have hf : H1 s1.heap.objs.size=none := I1.hok.fresh (xT _)
  refine ⟨.ref s1.heap.objs.size, upd H1 s1.heap.objs.size (.lst xs), I1.laid (t' := s1.toks) (fun b u e => xW _ e) (xT _) ?_, rfl, q _ hf⟩
  exact ⟨z, us, 0, r, ya _ rfl⟩
end
abbrev Sp := List V → Hp → VK → XK → Prop
abbrev CXT := List Env → Hp → Shared → XK → Value → Shared → Prop
structure vc (P : Program) (w : World) (K : PySem.W.Frag) (mg : Str → Option Value) (base : Heap) (A : Around) (outer : List Env) (s : Shared) (H : Hp) : Prop where
  frames : A.frames=some outer
  mod : Mod K mg base
  bs : ∀ b o, base.get? b=some o → s.heap.get? b=some o ∧ H b=none
  bsz : base.objs.size≤s.heap.objs.size
  funs : s.heap.FunFrames base outer
  frf : ∀ b∈frs outer, H b=none
  hok : HOk P w H s.heap
  bare : AllBare s.gens
def CE (outer : List Env)(P : Program)(w : World)(H : Hp)(s : Shared)(Q : VK)(u : Value)(s' : Shared) : Prop :=
  ∃ v H', s'.os=s.os ∧ AllBare s'.gens ∧ Un (frs outer) [] H H' s.heap s'.heap ∧ HOk P w H' s'.heap ∧ bf v u ∧ Q v H'
def CR (CX : CXT)(outer : List Env)(P : Program)(w : World)(H : Hp)(s : Shared)(Q : VK)(E : XK)(r : Result)(s' : Shared) : Prop :=
  match r with
  | .ok (.ret u) => CE outer P w H s Q u s'
  | .ok _ => False
  | .error e => CX outer H s E e s'
structure nN (P : Program) (w : World) (K : PySem.W.Frag) (mg : Str → Option Value) (base : Heap) (CX : CXT) (k : Nat) (f : Addr) (fd : FuncData) (ps : List Str) (sp : Sp) : Prop where
  len : ∀ vs H Q E, sp vs H Q E → vs.length=ps.length
  run : ∀ (A : Around) (outer : List Env) (s : Shared) (H : Hp) (args : Args) (us : List Value) (vs : List V) (Q : VK) (E : XK), fh k A → vc P w K mg base A outer s H → BindsTo s fd args (ps.zip us) → aL vs us → sp vs H Q E →
    codeAny (model P w) A (.call (.ref f) args) (CR CX outer P w H s Q E) s
section
variable {X : Cx} {pins : List (Addr × Obj)} {σ : St} {H : Hp} {s s' : Shared}
theorem Inv.env0 (I : Inv X pins σ H s) : vc X.prog X.w X.K X.mg X.base X.A X.stack s H :=
  ⟨I.ok.frames, I.ok.mod, I.bs, yI I.ok.bsz I.sz, I.stack, I.stkFree, I.hok, I.bare⟩
theorem Inv.after {Q : VK}{u : Value}(I : Inv X pins σ H s)(h : CE X.stack X.prog X.w H s Q u s') : EP X pins σ Q u s' := by
  obtain ⟨v, H', os, bare, un, hok, r, q⟩ := h
  obtain ⟨hh, g, d, t, os'⟩ := s'
  obtain rfl : os'=s.os := os
  exact ⟨v, H', I.call (h' := hh) (g' := g) (d' := d) (t' := t) (ch := []) un hok bare (fun b z => absurd z (by simp)), r, q⟩
end
def n9 (sp : Sp)(dvs : List V)(E : XK)(Q : VK) : List V → Hp → Prop := fun vs H1 => sp (vs++dvs) H1 Q E
def tE (sp : Sp)(dvs : List V)(E : XK)(t : TA) : TE := fun σ H Q => t σ H (n9 sp dvs E Q)
def j_ (K : PySem.W.Frag)(fd : FuncData)(ps : List Str)(ds : List Value) : Prop :=
  ∀ (s : Shared) (us : List Value), K.In s.heap → (us++ds).length=ps.length → BindsTo s fd ⟨us, []⟩ (ps.zip (us++ds))
theorem j_.all {K : PySem.W.Frag}{fd : FuncData}{ps : List Str}(h : ∀ us : List Value, us.length=ps.length → bindArgs fd ⟨us, []⟩=pure (ps.zip us)) : j_ K fd ps [] := fun s us _ hl => by
  rw [zA] at hl ⊢
  exact .of_eq (h us hl)
def kZ (CX : CXT)(X : Cx)(E : XK) : Prop := ∀ (pins : List (Addr × Obj)) (σ : St) (H : Hp) (s : Shared) (e : Value) (s' : Shared), Inv X pins σ H s → CX X.stack H s E e s' → X.xe e s'
section
variable {X : Cx} {CX : CXT} {k : Nat} {f C : Addr} {fd : FuncData} {ps : List Str} {sp : Sp} {dvs : List V} {ds : List Value} {E : XK} {x m : Str} {p pos apos : Pos} {e o : Expr} {es : List Expr} {ta : TE} {t : TA}
theorem tF {pins : List (Addr × Obj)}{σ : St}{H : Hp}{s : Shared}{Q : VK}{us : List Value}{vs : List V}(F : nN X.prog X.w X.K X.mg X.base CX k f fd ps sp)(hr : fh k X.A)(hb : j_ X.K fd ps ds)(hd : aL dvs ds)(hx : kZ CX X E)
    (I : Inv X pins σ H s) (r : aL vs us) (h : sp (vs++dvs) H Q E) : wpAny (model X.prog X.w) X.A (call (.ref f) us) (EP X pins σ Q) X.xe s := by
  have r2 : aL (vs++dvs) (us++ds) := r.append hd
  have hl : (us++ds).length=ps.length := by rw [← r2.length];exact F.len _ _ _ _ h
  refine wpAny_call (codeAny_mono (F.run X.A X.stack s H ⟨us, []⟩ (us++ds) (vs++dvs) Q E hr I.env0 (hb s us I.kIn hl) r2 h) fun r s' hq => ?_)
  cases r with
  | error e => exact hx pins σ H s e s' I hq
  | ok fl =>
    cases fl with
    | ret u => exact I.after hq
    | next => exact False.elim hq
    | brk => exact False.elim hq
    | cont => exact False.elim hq
theorem qQ (F : nN X.prog X.w X.K X.mg X.base CX k f fd ps sp)(hr : fh k X.A)(hg : Gl X x)(hm : X.mg x=some (.ref f))(hk : PySem.W.keepIn X.K (.ref f)=true)(hb : j_ X.K fd ps ds)(hd : aL dvs ds)(hx : kZ CX X E)
    (ha : PA X (e::es) t) (hdb : (x == ("__debug__" : Str))=false := by decide) (he : starEach (e::es) X.env=(false, eval e X.env)::starEach es X.env := by rfl) (hpl : (backTo pos (starEach es X.env)).any (·.1)=false := by rfl) :
    PE X (.Call (.Name x p) (e::es) [] pos) (tE sp dvs E t) := by
  intro pins s σ H Q I h
  refine Bq (iJ I hg hm ?_ hdb)
  refine PySem.W.callWith_K (h₀ := X.base) I.ok.mod.kin hk (thn (ha pos pins s σ H _ I h) fun us s1 ⟨vs, H1, I1, r, q⟩ => ⟨I1.kIn, ?_⟩) he hpl
  exact tF F hr hb hd hx I1 r q
end
section
variable {X : Cx} {CX : CXT} {k : Nat} {f C : Addr} {fd : FuncData} {ps ks : List Str} {sp : Sp} {E : XK} {x m : Str} {p pos apos kpos : Pos} {e o : Expr} {es : List Expr} {kws : List Keyword} {te ta : TE} {t tk : TA} {nm : Option Str}
variable {g : List Value → List Value → List Value} {gV : List V → List V → List V}
end
structure aC (N P : List Str) (sc : Scope) : Prop where
  kind : sc.kind = .function
  co : sc.isCoroutine=false
  gen : sc.isGenerator=false
  nd : N.Nodup
  pre : N.take P.length=P
  par : ∀ x∈P, sc.names.lookup x=some .local ∨ sc.names.lookup x=some .cell
  nofree : ∀ y∈sc.names, y.2 ≠ .free
theorem gI {kindOf : Str → Option NameKind}{x : Str} : ∀ {binds : List (Str × Value)} {m : Str → Option Value}, (∀ v, (x, v)∉binds) → bindL kindOf binds m x=m x
  | [], _, _ => rfl
  | (n, v)::r, m, h => by
    unfold bindL
    rw [gI fun w hw => h w (x3 _ hw)]
    split
    · have : x≠n := by rintro rfl;exact h v yb
      simp [this]
    · rfl
theorem gK {kindOf : Str → Option NameKind}{x : Str} : ∀ {binds : List (Str × Value)} {m : Str → Option Value}, (∀ v, (x, v)∉binds) → bindC kindOf binds m x=m x
  | [], _, _ => rfl
  | (n, v)::r, m, h => by
    unfold bindC
    rw [gK fun w hw => h w (x3 _ hw)]
    split
    · rfl
    · have : x≠n := by rintro rfl;exact h v yb
      simp [this]
theorem gL {kindOf : Str → Option NameKind}{x : Str}{v : Value} : ∀ {P : List Str} {vs : List Value} {i : Nat} {m : Str → Option Value}, P.Nodup → P[i]? = some x → vs[i]? = some v → kindOf x=some .local →
    bindL kindOf (P.zip vs) m x=some v
  | [], _, _, _, _, h, _, _ => by simp at h
  | _::_, [], _, _, _, _, h, _ => by simp at h
  | p::P, w::vs, 0, m, nd, h1, h2, hk => by
    simp at h1 h2;subst h1;subst h2
    show bindL kindOf ((p, w)::P.zip vs) m p=_
    unfold bindL
    rw [gI fun v hv => (y9.mp nd).1 (B3 hv).1, if_pos hk]
    simp
  | p::P, w::vs, i+1, m, nd, h1, h2, hk => by
    show bindL kindOf ((p, w)::P.zip vs) m x=_
    unfold bindL
    exact gL (i := i) (y9.mp nd).2 (by simpa using h1) (by simpa using h2) hk
theorem gM {kindOf : Str → Option NameKind}{x : Str}{v : Value} : ∀ {P : List Str} {vs : List Value} {i : Nat} {m : Str → Option Value}, P.Nodup → P[i]? = some x → vs[i]? = some v → kindOf x≠some .local →
    bindC kindOf (P.zip vs) m x=some v
  | [], _, _, _, _, h, _, _ => by simp at h
  | _::_, [], _, _, _, _, h, _ => by simp at h
  | p::P, w::vs, 0, m, nd, h1, h2, hk => by
    simp at h1 h2;subst h1;subst h2
    show bindC kindOf ((p, w)::P.zip vs) m p=_
    unfold bindC
    rw [gK fun v hv => (y9.mp nd).1 (B3 hv).1, if_neg hk]
    simp
  | p::P, w::vs, i+1, m, nd, h1, h2, hk => by
    show bindC kindOf ((p, w)::P.zip vs) m x=_
    unfold bindC
    exact gM (i := i) (y9.mp nd).2 (by simpa using h1) (by simpa using h2) hk
def start (N : List Str)(vs : List V) : St := vs.map some++List.replicate (N.length - vs.length) none
def qR (CX : CXT)(P : Program)(w : World)(K : PySem.W.Frag)(mg : Str → Option Value)(base : Heap)(N : List Str)(qual : Str)(scope : Scope)(f : Addr)(cd : Value)(A : Around)(outer : List Env)(s : Shared)(H : Hp)(E : XK) : Cx where
  prog := P
  w := w
  K := K
  mg := mg
  base := base
  A := A.deeper (envOfC qual scope s.heap.objs.size f cd)
  N := N
  s₀ := s
  H₀ := H
  env := envOfC qual scope s.heap.objs.size f cd
  outer := outer
  stack := envOfC qual scope s.heap.objs.size f cd::outer
  ex := []
  calm := true
  fn := fun _ => true
  pn := []
  xe := fun e s' => wpAny (model P w) (A.deeper (envOfC qual scope s.heap.objs.size f cd)) (leaving (envOfC qual scope s.heap.objs.size f cd) e) (fun _ s'' => CX outer H s E e s'') (fun e' s'' => CX outer H s E e' s'') s'
theorem ju {sc : Scope}{n : Nat}{x : Str}(h : sc.names.lookup x=some .cell) : ∃ c, (cellsFrom n sc.names []).lookup x=some c := by
  have q := BZ sc.names n [] (.inl h)
  exact BA.mp q
theorem k4 {CX : CXT}{P : Program}{w : World}{K : PySem.W.Frag}{mg : Str → Option Value}{base : Heap}{N ps : List Str}{qual : Str}{scope : Scope}{f : Addr}{cd : Value}{A : Around}{outer : List Env}{s s1 : Shared}{H : Hp}{E : XK}{us : List Value}{vs : List V}
    (S : aC N ps scope) (hd : A.handled=none) (e0 : vc P w K mg base A outer s H) (hl : vs.length=ps.length) (r : aL vs us)
    (x : InCallC s s.heap.objs.size (bindL (envOfC qual scope s.heap.objs.size f cd).kindOf (ps.zip us) fun _ => none) (cellsFrom (s.heap.objs.size+1) scope.names []) (bindC (envOfC qual scope s.heap.objs.size f cd).kindOf (ps.zip us) fun _ => none) s1) :
    Inv (qR CX P w K mg base N qual scope f cd A outer s H E) [] (start N vs) H s1 := by
  have hpl : ps.length≤N.length := by have := yB List.length S.pre;rw [yg] at this;omega
  obtain ⟨h1, tk, rfl, hk⟩ := x.done
  have noA : ∀ b : Addr, b∉(qR CX P w K mg base N qual scope f cd A outer s H E).ex := fun b z => absurd (show b∈([] : List Addr) from z) (by simp)
  refine ⟨⟨e0.mod, S.kind, rfl, rfl, xT _, fun y z c h1 h2 => ?_, fun y hy => ?_, fun y c _ h => ?_, fun _ => hd, Around.frames_deeper e0.frames, .inr ⟨rfl, rfl⟩, fun b z => absurd z (noA b), e0.bs, e0.bsz, fun b _ _ => noA b, fun b z => absurd z (noA b), e0.funs, e0.frf⟩,
    rfl, e0.bare, Un.kept hk, ⟨_, x.toInCall.ns, fun i y v h1 h2 h3 => ?_⟩, fun y c h => ⟨_, x.cell y c h⟩, e0.hok.fresh (xT _), fun y c h => ?_, fun p hp => absurd (show p∈([] : List (Addr × Obj)) from hp) (by simp), e0.hok.kept hk, ?_⟩
  · exact name_of_addr x.apart (zg h1) (zg h2)
  · have hy : scope.names.lookup y=some .cell ∨ scope.names.lookup y=some .free := hy
    rcases hy with hy | hy
    · exact ju hy
    · exact absurd rfl (S.nofree _ (zg hy))
  · exact Ci (x.above y c (zg h))
  · have hi : i < vs.length := by
      unfold start at h2
      by_cases hi : i < vs.length
      · exact hi
      · rw [y8 (by simpa using hi)] at h2
        rw [Ar] at h2
        split at h2 <;> cases h2
    have ha : vs[i]? = some v := by
      unfold start at h2
      rw [yN (by simpa using hi), xY] at h2
      cases e : vs[i]? with
      | none => rw [e] at h2;cases h2
      | some a => rw [e] at h2;cases h2;rfl
    obtain ⟨u, hu, rv⟩ := r.get ha
    have hp : ps[i]? = some y := by
      rw [← S.pre, BB (by omega)];exact h1
    have ndP : ps.Nodup := by rw [← S.pre];exact S.nd.sublist (List.take_sublist _ _)
    refine ⟨u, rv, ?_⟩
    rcases S.par y (x_ hp) with k | k
    · exact .inl ⟨k, gL ndP hp hu k⟩
    · obtain ⟨c, e⟩ := ju (n := s.heap.objs.size+1) k
      refine .inr ⟨.inl k, c, e, ?_⟩
      have q := x.cell y c e
      rw [gM ndP hp hu (by show scope.names.lookup y≠_;rw [k];decide)] at q
      exact q
  · exact e0.hok.fresh (Ci (x.above y c (zg h)))
  · unfold start
    show _=N.length
    rw [xX, fu, yp]
    omega
theorem vH {CX : CXT}{P : Program}{w : World}{K : PySem.W.Frag}{mg : Str → Option Value}{base : Heap}{k : Nat}{f : Addr}{name qual : Str}{params : Arguments}{body : List Stmt}{scope : Scope}{dV kV doc pm cdv ct oc : Value}{an od : Option Addr}
    {osl : Array (Option Value)} {N ps : List Str} {sp : Sp} (lk : K.lookup f=some ⟨oc, od, .func (PySem.W.fnOf name qual params body scope dV kV doc pm an cdv ct), osl⟩) (hcd : PySem.W.codeIn K cdv qual=true) (S : aC N ps scope)
    (len : ∀ vs H Q E, sp vs H Q E → vs.length=ps.length)
    (hbody : ∀ (A : Around) (outer : List Env) (s : Shared) (H : Hp) (vs : List V) (Q : VK) (E : XK), fh k (A.deeper (envOfC qual scope s.heap.objs.size f cdv)) → sp vs H Q E →
      ∃ t, PSs (qR CX P w K mg base N qual scope f cdv A outer s H E) body t ∧ t { nx := fun _ H' => Q .non H', rt := Q } (start N vs) H) :
    nN P w K mg base CX (k+1) f (PySem.W.fnOf name qual params body scope dV kV doc pm an cdv ct) ps sp := by
  refine ⟨len, fun A outer s H args us vs Q E hr e0 hb r hsp => ?_⟩
  have hl := len _ _ _ _ hsp
  have KX : K.In s.heap := e0.mod.kin.keeps fun b o e => (e0.bs b o e).1
  have lim : s.heap.NoLimit := e0.mod.nolimit.keeps fun b o e => (e0.bs b o e).1
  have hkind : ∀ y∈ps.zip us, scope.names.lookup y.1=some .local ∨ (scope.names.lookup y.1=some .cell ∧ ((cellsFrom (s.heap.objs.size+1) scope.names []).lookup y.1).isSome=true) := fun ⟨n, v⟩ hy => by
    rcases S.par n (B3 hy).1 with q | q
    · exact .inl q
    · exact .inr ⟨q, BZ _ _ _ (.inl q)⟩
  refine codeAny_call_function hr.depth (KX _ _ lk) rfl S.co S.gen rfl (PySem.W.codeRec_of KX hcd) (hb _ _ _ _ ?_)
  refine wpAny_newFunctionEnv_cells S.kind hkind fun env he s1 x => ?_
  subst he
  refine ⟨lim.keeps x.toInCall.keep, codeAny_func ?_⟩
  obtain ⟨t, ht, hq⟩ := hbody A outer s H vs Q E (hr.deeper _) hsp
  have I : Inv (qR CX P w K mg base N qual scope f cdv A outer s H E) [] (start N vs) H s1 := k4 S hr.hd e0 hl r x
  refine zt (ht [] s1 (start N vs) H _ I hq) (fun fl s' hs => ?_) fun e s' hs => hs
  have fin : ∀ {σ' : St} {H' : Hp} {v : V} {u : Value}, Inv (qR CX P w K mg base N qual scope f cdv A outer s H E) [] σ' H' s' → bf v u → Q v H' → CE outer P w H s Q u s' :=
    fun {σ' H' v u} J rv q => ⟨v, H', J.os, J.bare, J.base, J.hok, rv, q⟩
  cases fl with
  | ret u =>
    obtain ⟨v, σ', H', J, rv, q⟩ := hs
    exact fin J rv q
  | next =>
    obtain ⟨σ', H', J, q⟩ := hs
    exact fin (v := V.non) (u := Value.none) J rfl q
  | brk =>
    obtain ⟨_, _, _, q⟩ := hs
    exact False.elim q
  | cont =>
    obtain ⟨_, _, _, q⟩ := hs
    exact False.elim q
section
variable {X : Cx} {x : Str} {p pos : Pos} {e : Expr} {es : List Expr} {t : TA} {id T : String} {r : List V → Hp → VK → Prop}
def tG (r : List V → Hp → VK → Prop)(Q : VK) : List V → Hp → Prop := fun vs H1 => r vs H1 Q
def tCB (r : List V → Hp → VK → Prop)(t : TA) : TE := fun σ H Q => t σ H (tG r Q)
theorem ay (hc : cS X (.builtin id) r)(hg : Gl X x)(hm : X.mg x=none)(hv : bootBuiltins x=some (.builtin id))(ha : PA X (e::es) t)(hn : x ≠ "__name__" := by decide)(hdb : (x == ("__debug__" : Str))=false := by decide)
    (he : starEach (e::es) X.env=(false, eval e X.env)::starEach es X.env := by rfl) (hpl : (backTo pos (starEach es X.env)).any (·.1)=false := by rfl) : PE X (.Call (.Name x p) (e::es) [] pos) (tCB r t) := by
  intro pins s σ H Q I h
  refine Bq (dY I hg hm hv ?_ hn hdb)
  exact PyProof.Rows.callWith_builtin1 (thn (ha pos pins s σ H _ I h) fun us s1 zq60 => (by obtain ⟨vs, H1, I1, r1, q1⟩ := zq60;exact hc pins s1 σ H1 vs us Q I1 r1 q1)) he hpl
theorem aU (hc : cS X (.type T) r)(hg : Gl X x)(hm : X.mg x=none)(hv : bootBuiltins x=some (.type T))(ha : PA X (e::es) t)(hn : x ≠ "__name__" := by decide)(hdb : (x == ("__debug__" : Str))=false := by decide)
    (he : starEach (e::es) X.env=(false, eval e X.env)::starEach es X.env := by rfl) (hpl : (backTo pos (starEach es X.env)).any (·.1)=false := by rfl) : PE X (.Call (.Name x p) (e::es) [] pos) (tCB r t) := by
  intro pins s σ H Q I h
  refine Bq (dY I hg hm hv ?_ hn hdb)
  exact yX (thn (ha pos pins s σ H _ I h) fun us s1 zq61 => (by obtain ⟨vs, H1, I1, r1, q1⟩ := zq61;exact hc pins s1 σ H1 vs us Q I1 r1 q1)) he hpl
end
end L2
namespace HT
open PySem PyProof.Rows
section
open PySem.SeqAt
open PySem.AutoSeq1 (wpAny_loadPart')
open PySem.MeetsSeq PySem.MeetsSeq2 PySem.MeetsSeq3
end
section
variable {prog : Program} {w : World} {A : Around} {E : Value → Shared → Prop} {s : Shared}
def sIx (n d : Nat) : Option Int → Nat
  | none => d
  | some v => if v < 0 then (v+(n : Int)).toNat else min v.toNat n
theorem fD (n d : Nat) : sIx n d none=d := rfl
theorem fE (n d k : Nat) : sIx n d (some (k : Int))=min k n := by
  show (if (k : Int) < 0 then ((k : Int)+(n : Int)).toNat else min (k : Int).toNat n)=min k n
  rw [if_neg (by omega), yf]
theorem p5 (n d : Nat)(hd : d≤n)(o : Option Int) : sIx n d o≤n := by
  cases o with
  | none => exact hd
  | some v =>
    show (if v < 0 then (v+(n : Int)).toNat else min v.toNat n)≤n
    by_cases hv : v < 0
    · rw [if_pos hv];omega
    · rw [if_neg hv];exact Nat.min_le_right _ _
end
end HT
namespace L2
open PySem PySem.Spec PyProof.Rows
abbrev TO := St → Hp → (Option Int → Hp → Prop) → Prop
def PO (X : Cx)(e : Option Expr)(t : TO) : Prop :=
  ∀ (pins : List (Addr × Obj)) (s : Shared) (σ : St) (H : Hp) (Q : Option Int → Hp → Prop), Inv X pins σ H s → t σ H Q →
    wpAny (model X.prog X.w) X.A (evalPart e X.env) (fun u s' => ∃ o H', Inv X pins σ H' s' ∧ IsPart u o ∧ Q o H') X.xe s
def qS : TO := fun _ H Q => Q none H
inductive IsI (x : V)(H : Hp)(Q : Option Int → Hp → Prop) : Prop
  | mk : ∀ i, (x = .int i) → (Q (some i) H) → IsI x H Q
def n_ (Q : (Option Int → Hp → Prop)) : V → Hp → Prop := fun x H1 => IsI x H1 Q
def vI (t : TE) : TO := fun σ H Q => t σ H (n_ Q)
section
variable {X : Cx} {e : Expr} {te : TE} {lo hi : Option Expr} {tl th : TO} {pos p2 : Pos}
theorem bh : PO X none qS := by
  intro pins s σ H Q I h
  rw [BN]
  exact x9 ⟨none, H, I, .none, h⟩
theorem aX (h : PE X e te) : PO X (some e) (vI te) := by
  intro pins s σ H Q I hw
  rw [evalPart_some]
  refine thn (h pins s σ H _ I hw) fun u s1 zq62 => ?_
  obtain ⟨x, H1, I1, r1, q1⟩ := zq62
  obtain ⟨i, rfl, q⟩ := q1
  obtain ⟨t, rfl⟩ := r1
  exact ⟨some i, H1, I1, .int i t, q⟩
def SlR (X : Cx)(r : V → Option Int → Option Int → Hp → VK → Prop) : Prop :=
  ∀ (pins : List (Addr × Obj)) (s : Shared) (σ : St) (H : Hp) (x : V) (v vl vu : Value) (lo hi : Option Int) (sl : Addr) (Q : VK), Inv X pins σ H s → bf x v → s.heap.IsSliceOf sl vl vu .none → IsPart vl lo → IsPart vu hi → r x lo hi H Q →
    ∃ T id, typeLookup (.type T) "__getitem__" = pure (some (.builtin id)) ∧ s.TypeIs v T ∧ wpAny (model X.prog X.w) X.A (getItem v (.ref sl)) (EP X pins σ Q) X.xe s
def tH (r : V → Option Int → Option Int → Hp → VK → Prop)(Q : VK)(x : V)(l : Option Int) : Option Int → Hp → Prop := fun u H3 => r x l u H3 Q
def tI (r : V → Option Int → Option Int → Hp → VK → Prop)(th : TO)(σ : St)(Q : VK)(x : V) : Option Int → Hp → Prop := fun l H2 => th σ H2 (tH r Q x l)
def tJ (r : V → Option Int → Option Int → Hp → VK → Prop)(tl : TO)(th : TO)(σ : St)(Q : VK) : V → Hp → Prop := fun x H1 => tl σ H1 (tI r th σ Q x)
def tSl (r : V → Option Int → Option Int → Hp → VK → Prop)(te : TE)(tl th : TO) : TE := fun σ H Q => te σ H (tJ r tl th σ Q)
theorem aM {r : V → Option Int → Option Int → Hp → VK → Prop}(hr : SlR X r)(he : PE X e te)(hl : PO X lo tl)(hu : PO X hi th) : PE X (.Subscript e (.Slice lo hi none p2) pos) (tSl r te tl th) := by
  intro pins s σ H Q I h
  refine BC (thn (he pins s σ H _ I h) fun v s1 zq63 => ?_)
  obtain ⟨x, H1, I1, r1, q1⟩ := zq63
  refine wpAny_Slice (thn (hl pins s1 σ H1 _ I1 q1) fun vl s2 ⟨l, H2, I2, pl, q2⟩ => thn (hu pins s2 σ H2 _ I2 q2) fun vu s3 zq64 => ?_)
  obtain ⟨u, H3, I3, pu, q3⟩ := zq64
  rw [BN]
  refine x9 ?_
  have I4 : Inv X pins σ H3 { s3 with heap := s3.heap.push { cls := .type "slice", data := .fields #[vl, vu, .none] } } := I3.kept (t' := s3.toks) fun b ob q => xW _ q
  obtain ⟨T, id, hT, ht, hg⟩ := hr pins { s3 with heap := s3.heap.push { cls := .type "slice", data := .fields #[vl, vu, .none] } } σ H3 x v vl vu l u s3.heap.objs.size Q I4 r1 (Heap.IsSliceOf.new ..) pl pu q3
  show wpAny (model X.prog X.w) X.A (subscriptTail e (.Slice lo hi none p2) v (.ref s3.heap.objs.size)) (EP X pins σ Q) X.xe { s3 with heap := s3.heap.push { cls := .type "slice", data := .fields #[vl, vu, .none] } }
  exact tail_any (ops := [.ref s3.heap.objs.size, v]) ht hT hg (by with_unfolding_all rfl)
def p6 (xs : List V)(lo hi : Option Int) : List V := (xs.drop (HT.sIx xs.length 0 lo)).take (HT.sIx xs.length xs.length hi - HT.sIx xs.length 0 lo)
theorem iO (xs : List V)(lo hi : Option Int) : (p6 xs lo hi).length≤xs.length := by
  unfold p6
  rw [yg, yK]
  omega
end
def ixN (n : Nat)(i : Int) : Option Nat := if 0≤i then (if i < n then some i.toNat else none) else if -(n : Int)≤i then some (i+n).toNat else none
def atI {α : Type}(xs : List α)(i : Int) : Option α := (ixN xs.length i).bind fun j => xs[j]?
theorem k9 {n : Nat}{i : Int}{j : Nat}(h : ixN n i=some j) : seqIndex? i n=some j ∧ j < n ∧ -(n : Int)≤i ∧ i < n := by
  unfold ixN at h
  by_cases h0 : 0≤i
  · rw [if_pos h0] at h
    by_cases h1 : i < n
    · rw [if_pos h1] at h
      have e : i.toNat=j := x5 h
      exact ⟨by rw [seqIndex_of h0 h1, e], by omega, by omega, h1⟩
    · rw [if_neg h1] at h;cases h
  · rw [if_neg h0] at h
    by_cases h1 : -(n : Int)≤i
    · rw [if_pos h1] at h
      have e : (i+n).toNat=j := x5 h
      exact ⟨by rw [seqIndex_neg (by omega) h1, e], by omega, h1, by omega⟩
    · rw [if_neg h1] at h;cases h
theorem iP {α : Type}{xs : List α}{i : Int}{v : α}(h : atI xs i=some v) : ∃ j, seqIndex? i xs.length=some j ∧ xs[j]? = some v ∧ j < xs.length ∧ -(xs.length : Int)≤i ∧ i < xs.length := by
  unfold atI at h
  cases e : ixN xs.length i with
  | none => rw [e] at h;cases h
  | some j =>
    rw [e] at h
    obtain ⟨h1, h2, h3, h4⟩ := k9 e
    exact ⟨j, h1, h, h2, h3, h4⟩
theorem bW {α : Type}{xs : List α}{j : Nat}{v : α}(h : xs[j]? = some v) : atI xs (j : Int)=some v := by
  have hj : j < xs.length := (xV.mp h).1
  have e : ixN xs.length (j : Int)=some j := by
    unfold ixN
    rw [if_pos (by omega), if_pos (by omega)];simp
  unfold atI;rw [e];exact h
theorem jv {α : Type}(xs : List α)(v : α) : atI (xs++[v]) (-1)=some v := by
  have hl : (xs++[v]).length=xs.length+1 := by simp
  have e : ixN (xs++[v]).length (-1)=some xs.length := by
    unfold ixN
    rw [hl, if_neg (by decide), if_pos (by omega)]
    congr 1
    omega
  unfold atI
  rw [e]
  show (xs++[v])[xs.length]? = some v
  simp
def k_ (b : Expr) : Prop := ∀ o i, subscripted b false o i=operate [o, i] (getItem o i)
def IxR (X : Cx)(r : R2) : Prop :=
  ∀ (value slice : Expr) (pins : List (Addr × Obj)) (s : Shared) (σ : St) (H : Hp) (x y : V) (v u : Value) (Q : VK), Inv X pins σ H s → bf x v → bf y u → r x y H Q →
    subscripted slice false v u=operate [v, u] (getItem v u) → wpAny (model X.prog X.w) X.A (subscriptTail value slice v u) (EP X pins σ Q) X.xe s
def MtR (X : Cx)(id : String)(r : V → List V → Hp → VK → Prop) : Prop :=
  ∀ (pins : List (Addr × Obj)) (s : Shared) (σ : St) (H : Hp) (x : V) (xs : List V) (v : Value) (us : List Value) (Q : VK), Inv X pins σ H s → bf x v → aL xs us → r x xs H Q →
    wpAny (model X.prog X.w) X.A (call (.builtin id) (v::us)) (EP X pins σ Q) X.xe s
section
variable {X : Cx} {a b : Expr} {ta tb : TE} {pos : Pos}
theorem aI {r : R2}(hr : IxR X r)(ha : PE X a ta)(hb : PE X b tb)(hs : k_ b) : PE X (.Subscript a b pos) (tOp r ta tb) := by
  intro pins s σ H Q I h
  exact BC (wQ ha hb I h fun v u s2 x y H2 I2 rx ry q => hr a b pins s2 σ H2 x y v u Q I2 rx ry q (hs _ _))
inductive wV (K : PySem.W.Frag)(x : V)(y : V)(H : Hp)(Q : VK) : Prop
  | mk : ∀ p xs i v, (x = .ref p) → (y = .int i) → (SqL K H p xs) → (atI xs i=some v) → (Q v H) → wV K x y H Q
inductive vJ (K : PySem.W.Frag)(x : V)(y : V)(H : Hp)(Q : VK) : Prop
  | mk : ∀ p xs i v, (x = .ref p) → (y = .int i) → (SqT K H p xs) → (atI xs i=some v) → (Q v H) → vJ K x y H Q
inductive wW (x : V)(y : V)(H : Hp)(Q : VK) : Prop
  | mk : ∀ z i c, (x = .str z) → (y = .int i) → (z.length≤sizeLine) → (atI z.cps.toList i=some c) → (Q (.str ⟨#[c]⟩) H) → wW x y H Q
theorem aN : IxR X (wV X.K) := by
  intro value slice pins s σ H x y v u Q I rx ry h hs
  obtain ⟨p, xs, i, z, rfl, rfl, hq, he, q⟩ := h
  cases rx
  obtain ⟨t, rfl⟩ := ry
  obtain ⟨its, r, pl, hz⟩ := I.list hq
  obtain ⟨j, h1, h2, h3, h4, h5⟩ := iP he
  obtain ⟨w, ew, rw'⟩ := r.get h2
  have hl := r.length
  have hn := cX
  have fin : EP X pins σ Q w s := ⟨z, H, I, rw', q⟩
  by_cases h0 : 0≤i
  · have hj : i.toNat=j := by
      rw [seqIndex_of h0 h5] at h1
      exact x5 h1
    exact item_listR pl.isList h0 (by omega) (by rw [hj];simpa using ew) fin hs
  · have hj : (i+(its.toArray.size : Int)).toNat=j := by
      rw [seqIndex_neg (by omega) h4] at h1
      rw [x8, ← hl]
      exact x5 h1
    exact subscriptTail_builtinR (x := w) pl.isList.typeIs slot_list_getitem.lookup
      (wpAny_getItem_list_neg (Q := fun r s' => r=w ∧ EP X pins σ Q r s') pl.isList (by omega) (by rw [x8] <;> omega) (by omega) (by rw [hj];simpa using ew) ⟨rfl, fin⟩) hs
theorem aY : IxR X (vJ X.K) := by
  intro value slice pins s σ H x y v u Q I rx ry h hs
  obtain ⟨p, xs, i, z, rfl, rfl, hq, he, q⟩ := h
  cases rx
  obtain ⟨t, rfl⟩ := ry
  obtain ⟨its, r, pl, hz⟩ := I.tuple hq
  obtain ⟨j, h1, h2, h3, h4, h5⟩ := iP he
  obtain ⟨w, ew, rw'⟩ := r.get h2
  have hl := r.length
  have hn := cX
  have fin : EP X pins σ Q w s := ⟨z, H, I, rw', q⟩
  exact subscriptTail_builtinR (x := w) pl.typeIs slot_tuple_getitem.lookup
    (getItem_tuple (j := j) (Q := fun r s' => r=w ∧ EP X pins σ Q r s') pl (by omega) (by omega) (by rw [x8, ← hl];exact h1) (by simpa using ew) ⟨rfl, fin⟩) hs
theorem ee : IxR X wW := by
  intro value slice pins s σ H x y v u Q I rx ry h hs
  obtain ⟨z, i, c, rfl, rfl, hz, he, q⟩ := h
  obtain ⟨t, rfl⟩ := rx
  obtain ⟨t', rfl⟩ := ry
  obtain ⟨j, h1, h2, h3, h4, h5⟩ := iP he
  have hl : z.cps.toList.length=z.length := by simp [Str.length]
  rw [hl] at h1 h4 h5
  have hn := cX
  exact tail_any (Ak s z t) slot_str_getitem.lookup (getItem_str (c := c) (by
    have e1 : decide (i < -(2 ^ 63 : Int))=false := yy (by omega)
    have e2 : decide (i≥2 ^ 63)=false := yy (by omega)
    rw [e1, e2, Cf]) (by rw [h1];simpa using h2) ⟨.str ⟨#[c]⟩, H, I.tok _, ⟨_, rfl⟩, q⟩) hs
theorem ka (its : List Value)(n j : Nat)(u : Value) : Obj.mapSeq (·.setIfInBounds j u) { cls := .type "list", data := .seq its.toArray n }={ cls := .type "list", data := .seq (its.set j u).toArray n } := by
  simp [Obj.mapSeq]
theorem Inv.lst {pins : List (Addr × Obj)}{σ : St}{H : Hp}{s : Shared}{p : Addr}{xs : List V}(I : Inv X pins σ H s)(h : H p=some (.lst xs)) :
    ∃ (its : List Value) (n : Nat), aL xs its ∧ s.heap.get? p=some { cls := .type "list", data := .seq its.toArray n } ∧ xs.length≤sizeLine := by
  obtain ⟨z, its, n, r, e⟩ := I.hok p _ h
  exact ⟨its, n, r, e, z⟩
theorem Inv.lstUpd {pins : List (Addr × Obj)}{σ : St}{H : Hp}{s : Shared}{p : Addr}{xs ys : List V}{its its' : List Value}{n n' : Nat}{f : Obj → Obj}(I : Inv X pins σ H s)(h : H p=some (.lst xs))
    (ho : s.heap.get? p=some { cls := .type "list", data := .seq its.toArray n }) (hf : f { cls := .type "list", data := .seq its.toArray n }={ cls := .type "list", data := .seq its'.toArray n' }) (r : aL ys its') (hz : ys.length≤sizeLine) (t : Nat) :
    Inv X pins σ (upd H p (.lst ys)) { s with heap := s.heap.update p f, toks := t } := by
  have e : (s.heap.update p f).get? p=some { cls := .type "list", data := .seq its'.toArray n' } := by
    rw [zK f ho (by rw [hf] <;> rfl), hf]
  refine I.write (x := p) (e := p) (by rw [h];trivial) (.inl rfl) (fun b u hb q => (yT _ _ (Ne.symm hb)).trans q) ⟨_, e⟩ ?_
  exact ⟨hz, its', n', r, e⟩
inductive tK (o : V)(i : V)(v : V)(H : Hp)(Q : (Hp → Prop)) : Prop
  | mk : ∀ p xs k j, (o = .ref p) → (i = .int k) → (H p=some (.lst xs)) → (ixN xs.length k=some j) → (Q (upd H p (.lst (xs.set j v)))) → tK o i v H Q
theorem bT : wO X tK := by
  intro pins s σ H o i v ov iv u Q I ro ri rv h
  obtain ⟨p, xs, k, j, rfl, rfl, hp, hj, q⟩ := h
  cases ro
  obtain ⟨t, rfl⟩ := ri
  obtain ⟨its, n, r, ho, hz⟩ := I.lst hp
  obtain ⟨h1, h2, h3, h4⟩ := k9 hj
  have hl := r.length
  have hn := cX
  have I' : Inv X pins σ (upd H p (.lst (xs.set j v))) { s with heap := s.heap.update p (Obj.mapSeq (·.setIfInBounds j u)) } :=
    I.lstUpd hp ho (ka its n j u) (r.set rv j) (by rw [zm];exact hz) s.toks
  by_cases h0 : 0≤k
  · have hk : k.toNat=j := by
      rw [seqIndex_of h0 h4] at h1
      exact x5 h1
    exact PySem.W.ki_setAt ho h0 (by omega) (by rw [x8, ← hl];exact h4) (by rw [hk];exact ⟨_, I', q⟩)
  · have hk : (k+(its.toArray.size : Int)).toNat=j := by
      rw [seqIndex_neg (by omega) h3] at h1
      rw [x8, ← hl]
      exact x5 h1
    exact PySem.W.ki_setBack ho (by omega) (by rw [x8, ← hl];exact h3) (by omega) (by rw [hk];exact ⟨_, I', q⟩)
theorem gN (lo hi : Option Int)(n : Nat) : (sliceBounds lo hi none n).1=((HT.sIx n 0 lo : Nat) : Int) ∧ (sliceBounds lo hi none n).2.1=((HT.sIx n n hi : Nat) : Int) ∧ (sliceBounds lo hi none n).2.2=1 := by
  refine ⟨?_, ?_, rfl⟩
  · cases lo with
    | none => simp [sliceBounds, HT.sIx]
    | some i =>
      simp only [sliceBounds, HT.sIx, Option.getD_none, show (1 : Int) > 0 by decide, Ce]
      by_cases h : i < 0
      · simp only [h, Ce] <;> omega
      · simp only [h, Cj] <;> omega
  · cases hi with
    | none => simp [sliceBounds, HT.sIx]
    | some i =>
      simp only [sliceBounds, HT.sIx, Option.getD_none, show (1 : Int) > 0 by decide, Ce]
      by_cases h : i < 0
      · simp only [h, Ce] <;> omega
      · simp only [h, Cj] <;> omega
theorem fF (its : List Value)(lo hi : Option Int) : slicePick its.toArray lo hi none=((its.drop (HT.sIx its.length 0 lo)).take (HT.sIx its.length its.length hi - HT.sIx its.length 0 lo)).toArray := by
  obtain ⟨h1, h2, h3⟩ := gN lo hi its.toArray.size
  unfold slicePick
  rw [h1, h2, h3]
  simp only [sliceRange_one, pick_run, x8] <;> rfl
inductive wX (K : PySem.W.Frag)(x : V)(lo : Option Int)(hi : Option Int)(H : Hp)(Q : VK) : Prop
  | mk : ∀ a xs, (x = .ref a) → (SqL K H a xs) → (∀ p, H p=none → Q (.ref p) (upd H p (.lst (p6 xs lo hi)))) → wX K x lo hi H Q
theorem lg : SlR X (wX X.K) := by
  intro pins s σ H x v vl vu lo hi sl Q I rx hs pl pu h
  obtain ⟨a, xs, rfl, hx, q⟩ := h
  cases rx
  obtain ⟨its, r, ht, hz⟩ := I.list hx
  have hlen := r.length
  refine ⟨"list", _, slot_list_getitem.lookup, ht.isList.typeIs, ?_⟩
  refine wpAny_getItem_list_slice ht.isList hs pl pu .none (by simp) ?_ (by rw [x8] <;> omega)
  rw [fF, ← hlen]
  refine ⟨.ref s.heap.objs.size, _, I.laid (t' := s.toks) (o := .lst (p6 xs lo hi)) (fun b ob q => xW _ q) (xT _) ?_, rfl, q _ (I.hok.fresh (xT _))⟩
  exact ⟨yI (iO xs lo hi) hz, _, 0, (r.drop (HT.sIx xs.length 0 lo)).take (HT.sIx xs.length xs.length hi - HT.sIx xs.length 0 lo), ya _ rfl⟩
def fG : V → Bool
  | .non => true
  | .bl _ => true
  | .int _ => true
  | .str _ => true
  | _ => false
def eqV : V → V → Bool
  | .non, .non => true
  | .bl a, .bl b => a == b
  | .bl a, .int b => (if a then 1 else 0) == b
  | .int a, .bl b => a == (if b then 1 else 0)
  | .int a, .int b => a == b
  | .str a, .str b => a == b
  | _, _ => false
theorem tL {A : Around}{s : Shared}{y x : V}{u v : Value}(ry : bf y u)(rx : bf x v)(fy : fG y=true)(fx : fG x=true) : SeqAt.EqAt A s u v (eqV y x) := by
  cases y with
  | non =>
    cases ry
    cases x with
    | non => cases rx;exact SeqAt.EqAt.same _
    | bl b => cases rx;exact SeqAt.EqAt.none_bool b
    | int b => obtain ⟨t, rfl⟩ := rx;exact SeqAt.EqAt.none_int b t
    | str b => obtain ⟨t, rfl⟩ := rx;exact SeqAt.EqAt.none_str b t
    | _ => exact absurd (show false=true from fx) yc
  | bl a =>
    cases ry
    cases x with
    | non => cases rx;exact SeqAt.EqAt.bool_none a
    | bl b => cases rx;exact SeqAt.EqAt.bool_bool a b
    | int b => obtain ⟨t, rfl⟩ := rx;exact SeqAt.EqAt.bool_int a b t
    | str b => obtain ⟨t, rfl⟩ := rx;exact SeqAt.EqAt.bool_str a b t
    | _ => exact absurd (show false=true from fx) yc
  | int a =>
    obtain ⟨t', rfl⟩ := ry
    cases x with
    | non => cases rx;exact SeqAt.EqAt.int_none a t'
    | bl b => cases rx;exact SeqAt.EqAt.int_bool a t' b
    | int b => obtain ⟨t, rfl⟩ := rx;exact SeqAt.EqAt.int_int a t' b t
    | str b => obtain ⟨t, rfl⟩ := rx;exact SeqAt.EqAt.int_str a t' b t
    | _ => exact absurd (show false=true from fx) yc
  | str a =>
    obtain ⟨t', rfl⟩ := ry
    cases x with
    | non => cases rx;exact SeqAt.EqAt.str_none a t'
    | bl b => cases rx;exact SeqAt.EqAt.str_bool a t' b
    | int b => obtain ⟨t, rfl⟩ := rx;exact SeqAt.EqAt.str_int a t' b t
    | str b => obtain ⟨t, rfl⟩ := rx;exact SeqAt.EqAt.str_str a t' b t
    | _ => exact absurd (show false=true from fx) yc
  | _ => exact absurd (show false=true from fy) yc
def eqU (x : V)(u : Value) : Bool := match u with
  | .none => eqV .non x
  | .bool b => eqV (.bl b) x
  | .int i _ => eqV (.int i) x
  | .str z _ => eqV (.str z) x
  | _ => false
theorem p7 {x y : V}{u : Value}(r : bf y u)(f : fG y=true) : eqU x u=eqV y x := by
  cases y with
  | non => cases r;rfl
  | bl b => cases r;rfl
  | int i => obtain ⟨t, rfl⟩ := r;rfl
  | str z => obtain ⟨t, rfl⟩ := r;rfl
  | _ => exact absurd (show false=true from f) yc
theorem iQ {x : V} : ∀ {xs : List V} {us : List Value}, aL xs us → xs.all fG=true → us.any (eqU x)=xs.any fun y => eqV y x
  | _, _, .nil, _ => rfl
  | y::xs, u::us, .cons r t, f => by
    rw [List.all_cons, yi] at f
    rw [A8, A8, p7 r f.1, iQ t f.2]
theorem fH {A : Around}{s : Shared}{x : V}{v : Value}(rx : bf x v)(fx : fG x=true) : ∀ {xs : List V} {us : List Value}, aL xs us → xs.all fG=true → ∀ u∈us, SeqAt.EqAt A s u v (eqU x u)
  | _, _, .nil, _ => fun u hu => by cases hu
  | y::xs, u::us, .cons r t, f => fun u' hu => by
    rw [List.all_cons, yi] at f
    rcases ye.mp hu with rfl | hu
    · rw [p7 r f.1];exact tL r rx f.1 fx
    · exact fH rx fx t f.2 u' hu
def inV (x : V)(xs : List V) : Bool := xs.any fun y => eqV y x
inductive rIn (K : PySem.W.Frag)(neg : Bool)(x : V)(y : V)(H : Hp)(Q : VK) : Prop
  | mk : ∀ p xs, (y = .ref p) → ((SqL K H p xs ∨ SqT K H p xs)) → (fG x=true) → (xs.all fG=true) → (Q (.bl (if neg then !inV x xs else inV x xs)) H) → rIn K neg x y H Q
theorem lh : OpR X (compareOp .In) (rIn X.K false) := by
  intro pins s σ H x y v u Q I rx ry h
  obtain ⟨p, xs, rfl, hq, fx, fs, q⟩ := h
  cases ry
  rcases hq with hq | hq
  · obtain ⟨its, r, pl, hz⟩ := I.list hq
    refine SeqAt.in_listAt (eqU x) pl.isList (fun w hw => fH rx fx r fs w (by simpa using hw)) ⟨.bl _, H, I, rfl, ?_⟩
    rw [show its.toArray.any (eqU x)=its.any (eqU x) by simp, iQ r fs]
    exact q
  · obtain ⟨its, r, pl, hz⟩ := I.tuple hq
    refine SeqAt.in_tupleAt (eqU x) pl (fun w hw => fH rx fx r fs w (by simpa using hw)) ⟨.bl _, H, I, rfl, ?_⟩
    rw [show its.toArray.any (eqU x)=its.any (eqU x) by simp, iQ r fs]
    exact q
inductive bX (K : PySem.W.Frag)(xs : List V)(H : Hp)(Q : VK) : Prop
  | mk : ∀ p ys, (xs=[.ref p]) → ((SqL K H p ys ∨ SqT K H p ys)) → (Q (.int ys.length) H) → bX K xs H Q
theorem aE : cS X (.builtin "len") (bX X.K) := by
  intro pins s σ H xs us Q I r h
  obtain ⟨p, ys, rfl, hq, q⟩ := h
  obtain ⟨u, rfl, rx⟩ := cx r
  cases rx
  have hn := cX
  rcases hq with hq | hq
  · obtain ⟨its, r', pl, hz⟩ := I.list hq
    have hlen := r'.length
    exact Calls.call_len_list pl.isList (by simp only [x8] <;> omega) ⟨.int ys.length, H, I.tok _, ⟨s.toks+1, by rw [x8, hlen]⟩, q⟩
  · obtain ⟨its, r', pl, hz⟩ := I.tuple hq
    have hlen := r'.length
    exact len_tuple pl (by simp only [x8] <;> omega) ⟨.int ys.length, H, I.tok _, ⟨s.toks+1, by rw [x8, hlen]⟩, q⟩
inductive cP  (xs : List V)(H : Hp)(Q : VK) : Prop
  | mk : ∀ z, (xs=[.str z]) → (z.length≤sizeLine) → (Q (.int z.length) H) → cP xs H Q
theorem aD : cS X (.builtin "len") cP := by
  intro pins s σ H xs us Q I r h
  obtain ⟨z, rfl, hz, q⟩ := h
  obtain ⟨u, rfl, t, rfl⟩ := cx r
  have hn := cX
  exact len_str (by omega) ⟨.int z.length, H, I.tok _, ⟨_, rfl⟩, q⟩
inductive cQ (K : PySem.W.Frag)(xs : List V)(H : Hp)(Q : VK) : Prop
  | mk : ∀ p ys, (xs=[.ref p]) → ((SqL K H p ys ∨ SqT K H p ys)) → (∀ l, H l=none → Q (.ref l) (upd H l (.lst ys))) → cQ K xs H Q
theorem gO : cS X (.type "list") (cQ X.K) := by
  intro pins s σ H xs us Q I r h
  obtain ⟨p, ys, rfl, hq, q⟩ := h
  obtain ⟨u, rfl, rx⟩ := cx r
  cases rx
  have fin : ∀ (its : List Value), aL ys its → ys.length≤sizeLine → ∀ (h' : Heap) (c' : Nat), (∀ b o', s.heap.get? b=some o' → h'.get? b=some o') →
      h'.get? s.heap.objs.size=some { cls := .type "list", dict := none, data := .seq its.toArray c', slots := #[] } → EP X pins σ Q (.ref s.heap.objs.size) { s with heap := h' } := fun its r' hz h' c' kp e =>
    ⟨.ref s.heap.objs.size, _, I.laid (t' := s.toks) kp (xT _) (show bg X.prog X.w _ h' _ (.lst ys) from ⟨hz, its, c', r', e⟩), rfl, q _ (I.hok.fresh (xT _))⟩
  rcases hq with hq | hq
  · obtain ⟨its, r', pl, hz⟩ := I.list hq
    have hlen := r'.length
    obtain ⟨o, ho, hc, n, hd⟩ := pl.isList
    exact call_list_seq p (.inl rfl) ho hc hd (fun h' c' kp e => fin its r' hz h' c' kp e) (by simp only [x8] <;> omega)
  · obtain ⟨its, r', pl, hz⟩ := I.tuple hq
    have hlen := r'.length
    obtain ⟨o, ho, hc, n, hd⟩ := pl
    exact call_list_seq p (.inr rfl) ho hc hd (fun h' c' kp e => fin its r' hz h' c' kp e) (by simp only [x8] <;> omega)
inductive bO (K : PySem.W.Frag)(xs : List V)(H : Hp)(Q : VK) : Prop
  | mk : ∀ p ys, (xs=[.ref p]) → (((SqL K H p ys ∧ ∀ l, H l=none → Q (.ref l) (upd H l (.tup ys))) ∨ (SqT K H p ys ∧ Q (.ref p) H))) → bO K xs H Q
theorem aQ : cS X (.type "tuple") (bO X.K) := by
  intro pins s σ H xs us Q I r h
  obtain ⟨p, ys, rfl, h⟩ := h
  obtain ⟨u, rfl, rx⟩ := cx r
  cases rx
  rcases h with ⟨hq, q⟩ | ⟨hq, q⟩
  · obtain ⟨its, r', pl, hz⟩ := I.list hq
    have hlen := r'.length
    refine call_tuple_list pl.isList (fun h' kp => ?_) (by simp only [x8] <;> omega)
    have I1 : Inv X pins σ H { s with heap := h' } := I.kept (t' := s.toks) kp
    have I2 : Inv X pins σ (upd H h'.objs.size (.tup ys)) { s with heap := h'.push { cls := .type "tuple", data := .seq its.toArray } } :=
      I1.laid (t' := s.toks) (fun b o e => xW _ e) (xT _) (show bg X.prog X.w _ _ _ (.tup ys) from ⟨hz, its, r', IsTup.new _ _, .new _ _ rfl⟩)
    exact ⟨.ref h'.objs.size, _, I2, rfl, q _ (I1.hok.fresh (xT _))⟩
  · obtain ⟨its, r', pl, hz⟩ := I.tuple hq
    exact call_tuple_same pl ⟨.ref p, H, I, rfl, q⟩
def tyV (K : PySem.W.Frag)(T : String)(x : V)(H : Hp) : Prop := match x with
  | .str _ => T = "str"
  | .int _ => T = "int"
  | .ref p => (T = "list" ∧ ∃ xs, SqL K H p xs) ∨ (T = "tuple" ∧ ((∃ o, K.lookup p=some o ∧ o.cls = .type "tuple" ∧ o.dict=none) ∨ ∃ xs, H p=some (.tup xs))) ∨
      (T = "dict" ∧ ((∃ kvs, H p=some (.dK kvs)) ∨ ∃ kvs, H p=some (.dT kvs))) ∨ (T = "set" ∧ ∃ S n, H p=some (.set S n))
  | _ => False
theorem p8 {pins : List (Addr × Obj)}{σ : St}{H : Hp}{s : Shared}{T : String}{x : V}{v : Value}(I : Inv X pins σ H s)(r : bf x v)(ty : tyV X.K T x H) :
    s.TypeIs v T ∧ ∀ a, v = .ref a → ∃ ob, s.heap.get? a=some ob ∧ ob.dict=none := by
  cases x with
  | str z =>
    obtain ⟨t, rfl⟩ := r
    cases (show T = "str" from ty)
    exact ⟨Ak s z t, fun _ e => nomatch e⟩
  | int i =>
    obtain ⟨t, rfl⟩ := r
    cases (show T = "int" from ty)
    exact ⟨typeIs_int s i t, fun _ e => nomatch e⟩
  | ref p =>
    cases r
    rcases ty with ⟨rfl, xs, hq⟩ | ⟨rfl, ⟨o, hk, hc, hd⟩ | ⟨xs, hk⟩⟩ | ⟨rfl, hk⟩ | ⟨rfl, S, n, hk⟩
    · obtain ⟨its, _, pl, _⟩ := I.list hq
      refine ⟨pl.isList.typeIs, fun a e => ?_⟩
      cases e
      obtain ⟨o, n, e, c, hd, _⟩ := pl
      exact ⟨o, e, hd⟩
    · refine ⟨⟨o, I.kIn p o hk, hc⟩, fun a e => ?_⟩
      cases e
      exact ⟨o, I.kIn _ o hk, hd⟩
    · obtain ⟨_, _, _, ⟨o, e, hc, _⟩, hn⟩ := I.hok p _ hk
      refine ⟨⟨o, e, hc⟩, fun a e => ?_⟩
      cases e
      exact hn
    · have z : ∃ o, s.heap.get? p=some o ∧ o.ExactDict := by
        rcases hk with ⟨kvs, hk⟩ | ⟨kvs, hk⟩
        · obtain ⟨_, _, _, _, o, _, _, e, ex, _⟩ := I.hok p _ hk
          exact ⟨o, e, ex⟩
        · obtain ⟨_, _, _, _, o, _, _, e, ex, _⟩ := I.hok p _ hk
          exact ⟨o, e, ex⟩
      obtain ⟨o, e, ex⟩ := z
      refine ⟨⟨o, e, ex.1⟩, fun a e2 => ?_⟩
      cases e2
      exact ⟨o, e, ex.2.1⟩
    · obtain ⟨o, _, _, _, e, ex, _⟩ := I.hok p _ hk
      refine ⟨⟨o, e, ex.1⟩, fun a e2 => ?_⟩
      cases e2
      exact ⟨o, e, ex.2.1⟩
  | _ => exact False.elim ty
def qT (K : PySem.W.Frag)(T : String)(r : V → List V → Hp → VK → Prop)(Q : VK) : V → Hp → Prop := fun x H1 => tyV K T x H1 ∧ r x [] H1 Q
def wY (K : PySem.W.Frag)(T : String)(r : V → List V → Hp → VK → Prop)(to : TE) : TE := fun σ H Q => to σ H (qT K T r Q)
def tM (r : V → List V → Hp → VK → Prop)(Q : VK)(x : V) : List V → Hp → Prop := fun xs H2 => r x xs H2 Q
def tN (K : PySem.W.Frag)(T : String)(r : V → List V → Hp → VK → Prop)(t : TA)(σ : St)(Q : VK) : V → Hp → Prop := fun x H1 => tyV K T x H1 ∧ t σ H1 (tM r Q x)
def tBM (K : PySem.W.Frag)(T : String)(r : V → List V → Hp → VK → Prop)(to : TE)(t : TA) : TE := fun σ H Q => to σ H (tN K T r t σ Q)
variable {o e : Expr} {es : List Expr} {to : TE} {t : TA} {name : Str} {apos cpos : Pos} {T id : String} {r : V → List V → Hp → VK → Prop}
theorem eg (pa : PlainAttrs T)(slot : Slot T name id)(hty : typeOf (.builtin id)=pure (.type "method_descriptor"))(hm : MtR X id r)(ho : PE X o to)
    (hbase : attributeBase o name X.env (eval o X.env)=eval o X.env := by rfl) (hline : (apos.endLine == cpos.line)=true := by rfl) : PE X (.Call (.Attribute o name apos) [] [] cpos) (wY X.K T r to) := by
  intro pins s σ H Q I h
  refine wpAny_Call_method0_late hbase hline (thn (ho pins s σ H _ I h) fun v s1 zq65 => ?_)
  obtain ⟨x, H1, I1, r1, ty, q1⟩ := zq65
  obtain ⟨h1, h2⟩ := p8 I1 r1 ty
  exact ⟨T, id, pa, slot, hty, h1, h2, AB rfl (PySem.evalArgs_none (hm pins s1 σ H1 x [] v [] Q I1 r1 .nil q1))⟩
theorem bD (pa : PlainAttrs T)(slot : Slot T name id)(hty : typeOf (.builtin id)=pure (.type "method_descriptor"))(hm : MtR X id r)(ho : PE X o to)(ha : PA X (e::es) t)
    (hbase : attributeBase o name X.env (eval o X.env)=eval o X.env := by rfl)
    (hfew : ((backTo cpos (starEach (e::es) X.env)).all (fun x => !x.1) && (backToKw cpos (keywordEach [] X.env)).all (fun x => x.1.isSome)
      && decide ((e::es).length+([] : List Keyword).length+(if ([] : List Keyword).isEmpty then 0 else 1) < 30))=true := by rfl)
    (hline : (apos.endLine == cpos.line)=true := by rfl) (hs : starEach (e::es) X.env=(false, eval e X.env)::starEach es X.env := by rfl) (hplain : (backTo cpos (starEach es X.env)).any (·.1)=false := by rfl) :
    PE X (.Call (.Attribute o name apos) (e::es) [] cpos) (tBM X.K T r to t) := by
  intro pins s σ H Q I h
  refine wpAny_Call_method_late hbase hfew hline rfl (thn (ho pins s σ H _ I h) fun v s1 zq66 => ?_)
  obtain ⟨x, H1, I1, r1, ty, q1⟩ := zq66
  obtain ⟨h1, h2⟩ := p8 I1 r1 ty
  refine ⟨T, id, pa, slot, hty, h1, h2, ?_⟩
  have hA := ha cpos pins s1 σ H1 _ I1 q1
  rw [hs] at hA ⊢
  refine AB (by show (false || (backTo cpos (starEach es X.env)).any (·.1))=false;rw [hplain] <;> rfl) (Calls.evalArgs_plain ?_)
  exact thn hA fun us s2 zq67 => (by obtain ⟨vs, H2, I2, r2, q2⟩ := zq67;exact hm pins s2 σ H2 x vs v us Q I2 r1 r2 q2)
/- xs.append(e), list.index on a module's tuple .. are MtR facts of 06m -/
end
def MtM (X : Cx)(id : String)(r : V → List V → Hp → VK → Prop) : Prop :=
  ∀ (pins : List (Addr × Obj)) (s : Shared) (σ : St) (H : Hp) (x : V) (xs : List V) (v : Value) (us : List Value) (Q : VK), Inv X pins σ H s → bf x v → aL xs us → r x xs H Q →
    wpAny (model X.prog X.w) X.A (call (.builtin id) (v::us)) (EP X pins σ Q) X.xe s
theorem aL.one : ∀ {x : V} {us : List Value}, aL [x] us → ∃ u, us=[u] ∧ bf x u
  | _, _, .cons r .nil => ⟨_, rfl, r⟩
theorem aL.zero : ∀ {us : List Value}, aL [] us → us=[]
  | _, .nil => rfl
theorem aL.dropLast {xs : List V}{us : List Value}(h : aL xs us) : aL xs.dropLast us.dropLast := by
  induction h with
  | nil => exact .nil
  | cons r t ih =>
    cases t with
    | nil => exact .nil
    | cons q t' => exact .cons r ih
theorem aL.eraseIdx : ∀ {xs : List V} {us : List Value} (i : Nat), aL xs us → aL (xs.eraseIdx i) (us.eraseIdx i)
  | _, _, _, .nil => .nil
  | _, _, 0, .cons _ t => t
  | _, _, i+1, .cons r t => .cons r (aL.eraseIdx i t)
theorem aL.reverse {xs : List V}{us : List Value}(h : aL xs us) : aL xs.reverse us.reverse := by
  induction h with
  | nil => exact .nil
  | cons r t ih => rw [List.reverse_cons, List.reverse_cons];exact aL.append ih (.cons r .nil)
theorem aL.rep {xs : List V}{us : List Value}(h : aL xs us) : ∀ k : Nat, aL (List.replicate k xs).flatten (List.replicate k us).flatten
  | 0 => .nil
  | k+1 => by
    rw [yY, yY, Ae, Ae]
    exact aL.append h (aL.rep h k)
theorem kc {α : Type}(l : List α) : l.eraseIdx (l.length - 1)=l.dropLast := by
  induction l with
  | nil => rfl
  | cons a r ih =>
    cases r with
    | nil => rfl
    | cons b r =>
      have e : (a::b::r).length - 1=((b::r).length - 1)+1 := by
        have h1 : (a::b::r).length=r.length+2 := rfl
        have h2 : (b::r).length=r.length+1 := rfl
        omega
      rw [e, zw, ih]
      all_goals rfl
theorem eh {α : Type} : ∀ (l : List α) (i : Nat), (l.eraseIdx i).length≤l.length
  | [], _ => xT _
  | _::_, 0 => BO _
  | _::r, i+1 => Nat.succ_le_succ (eh r i)
theorem gP (its : List Value) : ∀ (k : Nat) (acc : List Value),
    List.foldl (fun x1 x2 => x1++x2) acc.toArray (List.replicate k its.toArray)=(acc++(List.replicate k its).flatten).toArray
  | 0, acc => by simp
  | k+1, acc => by
    have e : acc.toArray++its.toArray=(acc++its).toArray := by simp
    have e2 : (acc++its)++(List.replicate k its).flatten=acc++(List.replicate (k+1) its).flatten := by
      rw [yY, Ae, AF]
    rw [← e2, ← gP its k (acc++its), ← e, yY, zB]
section
variable {X : Cx} {pins : List (Addr × Obj)} {σ : St} {H : Hp} {s : Shared} {l b : Addr} {xs ys zs : List V}
theorem Inv.lset {its its' : List Value}{n : Nat}{f : Array Value → Array Value}{t' : Nat}(I : Inv X pins σ H s)(hH : H l=some (.lst xs))
    (e : s.heap.get? l=some { cls := .type "list", data := .seq its.toArray n }) (hf : f its.toArray=its'.toArray) (hv : aL ys its') (hz : ys.length≤sizeLine) :
    Inv X pins σ (upd H l (.lst ys)) { s with heap := s.heap.update l (Obj.mapSeq f), toks := t' } := by
  have q := BR e f
  rw [hf] at q
  refine I.write (x := l) (e := l) (by rw [hH];exact trivial) (.inl rfl) (fun b' u hb hu => (yT s.heap (Obj.mapSeq f) (Ne.symm hb)).trans hu) ⟨_, q⟩ ?_
  exact ⟨hz, its', _, hv, q⟩
theorem Inv.lnew {its : List Value}{t' : Nat}(I : Inv X pins σ H s)(hv : aL ys its)(hz : ys.length≤sizeLine) :
    Inv X pins σ (upd H s.heap.objs.size (.lst ys)) { s with heap := s.heap.push { cls := .type "list", data := .seq its.toArray }, toks := t' } :=
  I.laid (fun _ _ q => xW _ q) (xT _) ⟨hz, its, 0, hv, ya _ rfl⟩
theorem Inv.fresh (I : Inv X pins σ H s) : H s.heap.objs.size=none := I.hok.fresh (xT _)
theorem Inv.lstM (I : Inv X pins σ H s)(hH : H l=some (.lst xs)) : xs.length≤sizeLine ∧ ∃ (its : List Value) (n : Nat), aL xs its ∧ xs.length=its.length ∧ s.heap.get? l=some { cls := .type "list", data := .seq its.toArray n } := by
  obtain ⟨z, its, n, r, e⟩ := I.hok l _ hH
  exact ⟨z, its, n, r, r.length, e⟩
theorem jw {n : Nat}(h : n≤sizeLine) : Builtin.List.listTooLong n=false := by
  unfold Builtin.List.listTooLong
  exact yy (by omega)
end
section
variable {X : Cx}
inductive lj (x : V)(vs : List V)(H : Hp)(Q : VK) : Prop
  | mk : ∀ l xs y, (x = .ref l) → (vs=[y]) → (H l=some (.lst xs)) → (xs.length < sizeLine) → (Q .non (upd H l (.lst (xs++[y])))) → lj x vs H Q
theorem cA : MtM X "list.append" lj := by
  intro pins s σ H x vs v us Q I rx rv h
  obtain ⟨l, xs, y, rfl, rfl, hH, hz, q⟩ := h
  cases rx
  obtain ⟨u, rfl, ru⟩ := rv.one
  obtain ⟨z, its, n, r, hl, e⟩ := I.lstM hH
  refine Af yV ⟨_, e, rfl⟩ Bh (A5 _ _) (BD l its.toArray n u (by rw [x8];omega)) ⟨e, ?_⟩
  refine ⟨.non, _, I.lset (its' := its++[u]) hH e (by simp) (r.append (.cons ru .nil)) ?_, rfl, q⟩
  rw [xX, AO]
  omega
inductive lq (x : V)(vs : List V)(H : Hp)(Q : VK) : Prop
  | mk : ∀ l b xs zs, (x = .ref l) → (vs=[.ref b]) → (H l=some (.lst xs)) → (H b=some (.lst zs)) → (xs.length+zs.length≤sizeLine) → (Q .non (upd H l (.lst (xs++zs)))) → lq x vs H Q
theorem eA : MtM X "list.extend" lq := by
  intro pins s σ H x vs v us Q I rx rv h
  obtain ⟨l, b, xs, zs, rfl, rfl, hH, hB, hz, q⟩ := h
  cases rx
  obtain ⟨u, rfl, ru⟩ := rv.one
  cases ru
  obtain ⟨z, its, n, r, hl, e⟩ := I.lstM hH
  obtain ⟨z2, its2, n2, r2, hl2, e2⟩ := I.lstM hB
  have hsz : its.toArray.size+its2.toArray.size≤sizeLine := by rw [x8, x8];omega
  have hlong : ¬ (!its.toArray.isEmpty && Builtin.List.listTooLong (its.toArray.size+its2.toArray.size))=true := by
    rw [jw hsz, Bool.and_false]
    exact yc
  refine Af F.slot_list_extend ⟨_, e, rfl⟩ F.entry_list_extend (F.args_list_extend_2 _ _)
    (AutoSeq1.list_extend_list_list_0 l its.toArray n b its2.toArray n2 hlong (by rw [x8];omega) (by omega)) ⟨e, e2, ?_⟩
  refine ⟨.non, _, I.lset (its' := its++its2) hH e (by simp) (r.append r2) ?_, rfl, q⟩
  rw [xX]
  omega
inductive wZ (x : V)(vs : List V)(H : Hp)(Q : VK) : Prop
  | mk : ∀ l xs y, (x = .ref l) → (vs=[]) → (H l=some (.lst xs)) → (xs[xs.length - 1]? = some y) → (Q y (upd H l (.lst xs.dropLast))) → wZ x vs H Q
theorem tO : MtM X "list.pop" wZ := by
  intro pins s σ H x vs v us Q I rx rv h
  obtain ⟨l, xs, y, rfl, rfl, hH, hy, q⟩ := h
  cases rx
  have hus := rv.zero
  subst hus
  obtain ⟨z, its, n, r, hl, e⟩ := I.lstM hH
  obtain ⟨u, hu, ru⟩ := r.get hy
  have hy' : its.toArray[its.toArray.size - 1]? = some u := by
    show its.toArray[its.length - 1]? = some u
    rw [← AQ, ← hl]
    exact hu
  refine Af F.slot_list_pop ⟨_, e, rfl⟩ F.entry_list_pop (F.args_list_pop_1 _) (MeetsSeq.list_pop_last l its.toArray n u hy' (by rw [x8];omega)) ⟨e, ?_⟩
  refine ⟨y, _, I.lset (its' := its.dropLast) hH e ?_ r.dropLast ?_, ru, q⟩
  · show its.toArray.eraseIdxIfInBounds (its.toArray.size - 1)=its.dropLast.toArray
    rw [x8, zP, kc]
  · rw [List.length_dropLast]
    omega
inductive p9 (x : V)(vs : List V)(H : Hp)(Q : VK) : Prop
  | mk : ∀ l xs i k y, (x = .ref l) → (vs=[.int i]) → (H l=some (.lst xs)) → (-(2 ^ 63)≤i) → (i < 2 ^ 63) → (seqIndex? i xs.length=some k) → (xs[k]? = some y) → (Q y (upd H l (.lst (xs.eraseIdx k)))) → p9 x vs H Q
theorem jx : MtM X "list.pop" p9 := by
  intro pins s σ H x vs v us Q I rx rv h
  obtain ⟨l, xs, i, k, y, rfl, rfl, hH, h1, h2, hk, hy, q⟩ := h
  cases rx
  obtain ⟨u, rfl, ru⟩ := rv.one
  obtain ⟨t, rfl⟩ := ru
  obtain ⟨z, its, n, r, hl, e⟩ := I.lstM hH
  obtain ⟨w, hw, rw'⟩ := r.get hy
  refine Af F.slot_list_pop ⟨_, e, rfl⟩ F.entry_list_pop (F.args_list_pop_2 _ _)
    (MeetsSeq.list_pop_at l its.toArray n i t k w (fitsIndex_both h1 h2) (by rw [x8, ← hl];exact hk) (by rw [← AQ];exact hw) (by rw [x8];omega)) ⟨e, ?_⟩
  refine ⟨y, _, I.lset (its' := its.eraseIdx k) hH e ?_ (r.eraseIdx k) ?_, rw', q⟩
  · show its.toArray.eraseIdxIfInBounds k=(its.eraseIdx k).toArray
    rw [zP]
  · have := eh xs k
    omega
inductive w4 (x : V)(y : V)(H : Hp)(Q : VK) : Prop
  | mk : ∀ l b xs zs, (x = .ref l) → (y = .ref b) → (H l=some (.lst xs)) → (H b=some (.lst zs)) → (xs.length+zs.length≤sizeLine) → (∀ p, H p=none → Q (.ref p) (upd H p (.lst (xs++zs)))) → w4 x y H Q
theorem tP : OpR X (binaryOp .Add) w4 := by
  intro pins s σ H x y v u Q I rx ry h
  obtain ⟨l, b, xs, zs, rfl, rfl, hH, hB, hz, q⟩ := h
  cases rx
  cases ry
  obtain ⟨z, its, n, r, hl, e⟩ := I.lstM hH
  obtain ⟨z2, its2, n2, r2, hl2, e2⟩ := I.lstM hB
  refine PySem.P.add_list e e2 ?_ (by rw [x8, x8];omega)
  have ea : its.toArray++its2.toArray=(its++its2).toArray := by simp
  rw [ea]
  exact ⟨.ref _, _, I.lnew (t' := s.toks) (r.append r2) (by rw [xX];omega), rfl, q _ I.fresh⟩
inductive w5 (x : V)(y : V)(H : Hp)(Q : VK) : Prop
  | mk : ∀ l k xs, (x = .ref l) → (y = .int k) → (H l=some (.lst xs)) → (-(2 ^ 63)≤k) → (k < 2 ^ 63) → (xs.length*k.toNat≤sizeLine) → (∀ p, H p=none → Q (.ref p) (upd H p (.lst (List.replicate k.toNat xs).flatten))) → w5 x y H Q
theorem qU {α : Type}(xs : List α)(k : Nat) : (List.replicate k xs).flatten.length=k*xs.length := by
  induction k with
  | zero => simp
  | succ k ih => rw [yY, Ae, xX, ih, B4, Nat.add_comm]
theorem p_ : OpR X (binaryOp .Mult) w5 := by
  intro pins s σ H x y v u Q I rx ry h
  obtain ⟨l, k, xs, rfl, rfl, hH, h1, h2, hz, q⟩ := h
  cases rx
  obtain ⟨t, rfl⟩ := ry
  obtain ⟨z, its, n, r, hl, e⟩ := I.lstM hH
  have hlen : its.toArray.size*k.toNat≤sizeLine := by rw [x8, ← hl];exact hz
  have hcap : ¬ its.toArray.size*k.toNat > (2 ^ 63 - 1) / 8 := by
    have : (sizeLine : Nat)≤(2 ^ 63 - 1) / 8 := by decide
    omega
  have hfit : ¬ (!Builtin.List.listFitsIndex k)=true := by
    rw [fitsIndex_both h1 h2]
    exact yc
  have hlong : ¬ Builtin.List.listTooLong (its.toArray.size*k.toNat)=true := by
    rw [jw hlen]
    exact yc
  have hnew : List.foldl (fun x1 x2 => x1++x2) #[] (List.replicate (if its.toArray.isEmpty=true then 0 else k.toNat) its.toArray)=(List.replicate k.toNat its).flatten.toArray := by
    have f0 : ∀ m : Nat, List.foldl (fun x1 x2 => x1++x2) #[] (List.replicate m its.toArray)=(List.replicate m its).flatten.toArray := fun m => by
      have := gP its m []
      rw [List.nil_append] at this
      exact this
    rw [f0]
    cases its with
    | nil => simp
    | cons a r' => rw [if_neg (by simp)]
  refine wpAny_binaryOp_repeat_ref (T := "list") (U := "int") (by decide) ⟨_, e, rfl⟩ (fun s' => typeIs_int s' k t) noFill_list_mul F.fills_int_mul F.slot_int_rmul repeat_list F.slot_int_index.lookup
    (Af F.slot_int_rmul (typeIs_int s k t) F.entry_int_rmul (F.args_int_rmul_2 _ _) (int___rmul___int_list k t l its.toArray n)
      ⟨e, rfl, ⟨_, e, rfl⟩, Af F.slot_list_mul ⟨_, e, rfl⟩ F.entry_list_mul (F.args_list_mul_2 _ _) (AutoListH.list___mul___list_int_3 l its.toArray n k t hfit hcap hlong) ⟨e, ?_⟩⟩)
  rw [hnew]
  exact ⟨.ref _, _, I.lnew (t' := s.toks) (r.rep k.toNat) (by rw [qU, Nat.mul_comm];exact hz), rfl, q _ I.fresh⟩
end
section
variable {prog : Program} {w : World} {A : Around} {E : Value → Shared → Prop} {s : Shared}
end
section
variable {X : Cx}
end
section
variable {κ : Type} [DecidableEq κ]
def cy (kvs : List (κ × V))(k : κ) : Option V := (kvs.find? fun kv => decide (kv.1=k)).map (·.2)
def bS (kvs : List (κ × V))(k : κ)(v : V) : List (κ × V) :=
  if (kvs.any fun kv => decide (kv.1=k))=true then kvs.map (fun kv => if kv.1=k then (kv.1, v) else kv) else kvs++[(k, v)]
theorem bp {p : κ × V}{r : List (κ × V)}{k : κ}(e : p.1=k) : cy (p::r) k=some p.2 := by simp [cy, z7, e]
theorem bq {p : κ × V}{r : List (κ × V)}{k : κ}(e : ¬ p.1=k) : cy (p::r) k=cy r k := by simp [cy, z7, e]
theorem cY (k : κ) : ∀ kvs : List (κ × V), (kvs.any fun kv => decide (kv.1=k))=(cy kvs k).isSome
  | [] => rfl
  | p::r => by
    rw [A8]
    by_cases e : p.1=k
    · simp only [bp e, yJ e, Bool.true_or, Option.isSome_some]
    · rw [bq e, yy e, Bool.false_or];exact cY k r
theorem jy (k j : κ)(y : V) : ∀ kvs : List (κ × V), cy (kvs.map fun kv => if kv.1=k then (kv.1, y) else kv) j=(cy kvs j).map fun x => if j=k then y else x
  | [] => rfl
  | p::r => by
    have ih := jy k j y r
    rw [yk]
    by_cases h : p.1=k
    · rw [if_pos h]
      by_cases e : p.1=j
      · rw [bp (p := (p.1, y)) e, bp e, As, if_pos (e.symm.trans h)]
      · rw [bq (p := (p.1, y)) e, bq e, ih]
    · rw [if_neg h]
      by_cases e : p.1=j
      · rw [bp (p := p) e, bp e, As, if_neg (fun z => h (e.trans z))]
      · rw [bq (p := p) e, bq e, ih]
theorem gQ (k j : κ)(y : V) : ∀ kvs : List (κ × V), cy kvs k=none → cy (kvs++[(k, y)]) j=if j=k then some y else cy kvs j
  | [], _ => by
    by_cases e : k=j
    · rw [if_pos e.symm];exact bp (p := (k, y)) e
    · rw [if_neg (fun z => e z.symm)];exact bq (p := (k, y)) e
  | p::r, hn => by
    rw [List.cons_append]
    have hk : ¬ p.1=k := fun z => by rw [bp z] at hn;cases hn
    rw [bq hk] at hn
    have ih := gQ k j y r hn
    by_cases e : p.1=j
    · rw [bp e, bp e, if_neg (fun z => hk (e.trans z))]
    · rw [bq e, bq e, ih]
theorem cm (kvs : List (κ × V))(k j : κ)(y : V) : cy (bS kvs k y) j=if j=k then some y else cy kvs j := by
  unfold bS
  by_cases a : (kvs.any fun kv => decide (kv.1=k))=true
  · rw [if_pos a, jy]
    rw [cY] at a
    by_cases e : j=k
    · obtain ⟨x, hx⟩ := BA.mp a
      rw [if_pos e, e, hx, As, if_pos rfl]
    · rw [if_neg e]
      cases cy kvs j with
      | none => rfl
      | some x => rw [As, if_neg e]
  · rw [if_neg a]
    refine gQ k j y kvs ?_
    rw [cY] at a
    cases q : cy kvs k with
    | none => rfl
    | some x => rw [q] at a;exact (a rfl).elim
theorem aZ (kvs : List (κ × V))(k : κ)(v : V) : (bS kvs k v).length≤kvs.length+1 := by
  unfold bS
  split
  · rw [fu];omega
  · rw [xX, yF, zQ];omega
theorem og {kvs : List (κ × V)}{k : κ}(v : V)(h : cy kvs k=none) : bS kvs k v=kvs++[(k, v)] := by
  unfold bS
  rw [cY, h]
  exact if_neg (by decide)
theorem kI.isSome_eq {o : Option V}{u : Option Value}(r : kI o u) : o.isSome=u.isSome := by
  cases o with
  | none => cases u with
    | none => rfl
    | some _ => exact (show False from r).elim
  | some _ => cases u with
    | none => exact (show False from r).elim
    | some _ => rfl
theorem KV.val {kvs : List (κ × V)}{vs : List (κ × Value)}(r : KV kvs vs)(k : κ) : kI (cy kvs k) (valueAt vs k) := by
  unfold KV at r
  induction r with
  | nil => exact True.intro
  | @cons p q ps qs h t ih =>
    obtain ⟨h1, h2⟩ := h
    by_cases e : p.1=k
    · have e' : q.1=k := h1.symm.trans e
      have b : valueAt (q::qs) k=some q.2 := by simp [valueAt, z7, e']
      rw [bp e, b];exact h2
    · have e' : ¬ q.1=k := fun z => e (h1.trans z)
      have b : valueAt (q::qs) k=valueAt qs k := by simp [valueAt, z7, e']
      rw [bq e, b];exact ih
theorem KV.any {kvs : List (κ × V)}{vs : List (κ × Value)}(r : KV kvs vs)(k : κ) : (kvs.any fun kv => decide (kv.1=k))=vs.any fun kv => decide (kv.1=k) := by
  unfold KV at r
  induction r with
  | nil => rfl
  | cons h t ih => rw [A8, A8, ih, h.1]
theorem KV.repl {kvs : List (κ × V)}{vs : List (κ × Value)}(r : KV kvs vs)(k : κ){y : V}{u : Value}(ry : bf y u) :
    KV (kvs.map fun kv => if kv.1=k then (kv.1, y) else kv) (vs.map fun kv => if kv.1=k then (kv.1, u) else kv) := by
  unfold KV at r ⊢
  induction r with
  | nil => exact .nil
  | @cons p q ps qs h t ih =>
    rw [yk, yk]
    refine .cons ?_ ih
    obtain ⟨h1, h2⟩ := h
    by_cases e : p.1=k
    · rw [if_pos e, if_pos (h1.symm.trans e)];exact ⟨h1, ry⟩
    · rw [if_neg e, if_neg (fun z => e (h1.trans z))];exact ⟨h1, h2⟩
theorem KV.put {kvs : List (κ × V)}{vs : List (κ × Value)}(r : KV kvs vs)(k : κ){y : V}{u : Value}(ry : bf y u) : KV (bS kvs k y) (stored vs k u) := by
  unfold bS stored
  rw [r.any k]
  by_cases e : (vs.any fun kv => decide (kv.1=k))=true
  · rw [if_pos e, if_pos e];exact r.repl k ry
  · rw [if_neg e, if_neg e];exact Paired.snoc r ⟨rfl, ry⟩
theorem KV.length {kvs : List (κ × V)}{vs : List (κ × Value)}(r : KV kvs vs) : kvs.length=vs.length := Ap r
end
theorem lr {P : Program}{w : World}{k : Key}{u : Value}(r : bf (kV k) u) : (ba P w).is k u=true := by
  cases k with
  | inl i => obtain ⟨t, e⟩ := (show ∃ t, u=Value.int i t from r);subst e;exact iH P w i t
  | inr x => obtain ⟨t, e⟩ := (show ∃ t, u=Value.str x t from r);subst e;exact iI P w x t
theorem gS {P : Program}{w : World} : ∀ {ks : List Key} {us : List Value}, aL (ks.map kV) us → ItemsAre (ba P w) ks us
  | [], _, r => by rw [Br] at r;cases r;exact .nil
  | k::ks, _, r => by
    rw [yk] at r
    cases r with
    | cons h t => exact .cons (lr h) (gS t)
abbrev KT (H : Hp) : List (List Key × V) → List (List Key × Addr × Value) → Prop := Paired fun p q => p.1=q.1 ∧ H q.2.1=some (.tup (p.1.map kV)) ∧ bf p.2 q.2.2
theorem KT.val {H : Hp}{kvs : List (List Key × V)}{xs : List (List Key × Addr × Value)}(r : KT H kvs xs)(k : List Key) : kI (cy kvs k) ((atKey xs k).map (·.2)) := by
  induction r with
  | nil => exact True.intro
  | @cons p q ps qs h t ih =>
    obtain ⟨h1, _, h2⟩ := h
    by_cases e : p.1=k
    · have e' : q.1=k := h1.symm.trans e
      have b : atKey (q::qs) k=some q.2 := by simp [atKey, z7, e']
      rw [bp e, b];exact h2
    · have e' : ¬ q.1=k := fun z => e (h1.trans z)
      have b : atKey (q::qs) k=atKey qs k := by simp [atKey, z7, e']
      rw [bq e, b];exact ih
theorem KT.repl {H : Hp}{kvs : List (List Key × V)}{xs : List (List Key × Addr × Value)}(r : KT H kvs xs)(k : List Key){y : V}{u : Value}(ry : bf y u) :
    KT H (kvs.map fun kv => if kv.1=k then (kv.1, y) else kv) (xs.map (putAt k u)) := by
  induction r with
  | nil => exact .nil
  | @cons p q ps qs h t ih =>
    rw [yk, yk]
    refine .cons ?_ ih
    obtain ⟨h1, h2, h3⟩ := h
    unfold putAt
    by_cases e : p.1=k
    · rw [if_pos e, if_pos (h1.symm.trans e)];exact ⟨h1, h2, ry⟩
    · rw [if_neg e, if_neg (fun z => e (h1.trans z))];exact ⟨h1, h2, h3⟩
theorem KT.put {H : Hp}{kvs : List (List Key × V)}{xs : List (List Key × Addr × Value)}(r : KT H kvs xs)(k : List Key){b : Addr}{y : V}{u : Value}(hb : H b=some (.tup (k.map kV)))(ry : bf y u) :
    KT H (bS kvs k y) (storedH xs k b u) := by
  have e : (kvs.any fun kv => decide (kv.1=k))=(atKey xs k).isSome := by
    rw [cY, (r.val k).isSome_eq, AG]
  unfold bS storedH
  rw [e]
  by_cases q : (atKey xs k).isSome=true
  · rw [if_pos q, if_pos q];exact r.repl k ry
  · rw [if_neg q, if_neg q];exact Paired.snoc r ⟨rfl, hb, ry⟩
theorem KT.keeps {H H' : Hp}{kvs : List (List Key × V)}{xs : List (List Key × Addr × Value)}(r : KT H kvs xs)(ht : ∀ b ys, H b=some (.tup ys) → H' b=some (.tup ys)) : KT H' kvs xs :=
  Paired.mapP r fun _ _ z => ⟨z.1, ht _ _ z.2.1, z.2.2⟩
section
variable {P : Program} {w : World} {H : Hp} {h : Heap} {a : Addr}
theorem tQ {u : HO}(ok : HOk P w H h)(e : Rd H a u) : bg P w H h a u := e.ok ok
theorem ke {kvs : List (Key × V)}(ok : HOk P w H h)(e : Rd H a (.dK kvs)) : kvs.length≤sizeLine ∧ (a == sysModules)=false ∧ ∃ vs, KV kvs vs ∧ h.DictOf (ba P w) a vs :=
  show bg P w H h a (.dK kvs) from tQ ok e
theorem vK {kvs : List (Key × V)}(ok : HOk P w H h)(e : H a=some (.dK kvs)) : kvs.length≤sizeLine ∧ (a == sysModules)=false ∧ ∃ vs, KV kvs vs ∧ h.DictOf (ba P w) a vs := ke ok (.inl e)
theorem gT {ks : List Key}(ok : HOk P w H h)(e : H a=some (.tup (ks.map kV))) : (tupleKind (ba P w)).is h ks a := by
  obtain ⟨_, its, r, ⟨o, h1, h2, n, h3⟩, _⟩ := (show bg P w H h a (.tup (ks.map kV)) from ok a _ e)
  exact ⟨o, its.toArray, n, h1, h2, h3, by simpa using gS r⟩
theorem kg {kvs : List (List Key × V)}(ok : HOk P w H h)(e : Rd H a (.dT kvs)) : kvs.length≤sizeLine ∧ (a == sysModules)=false ∧
    ∃ xs, KT H kvs xs ∧ h.DictOfH (tupleKind (ba P w)) a xs := by
  obtain ⟨z, y, xs, r, o, es, ep, h1, h2, h3, h4, h5⟩ := (show bg P w H h a (.dT kvs) from tQ ok e)
  refine ⟨z, y, xs, r, o, es, ep, h1, h2, h3, h4, fun x hx => ?_, h5⟩
  have all : ∀ {l : List (List Key × V)} {m : List (List Key × Addr × Value)}, KT H l m → ∀ x∈m, (tupleKind (ba P w)).is h x.1 x.2.1 := by
    intro l m q
    induction q with
    | nil => intro x hx;exact nomatch hx
    | @cons p q ps qs hq t ih =>
      intro x hx
      rcases ye.mp hx with e | hx
      · subst e
        exact gT ok (by rw [← hq.1];exact hq.2.1)
      · exact ih x hx
  exact all r x hx
theorem vL {kvs : List (List Key × V)}(ok : HOk P w H h)(e : H a=some (.dT kvs)) : kvs.length≤sizeLine ∧ (a == sysModules)=false ∧
    ∃ xs, KT H kvs xs ∧ h.DictOfH (tupleKind (ba P w)) a xs := kg ok (.inl e)
end
def gF (H : Hp)(a : Addr)(y : V)(r : Option V) : Prop :=
  (∃ kvs k, Rd H a (.dK kvs) ∧ y=kV k ∧ r=cy kvs k) ∨ ∃ kvs k b, Rd H a (.dT kvs) ∧ y = .ref b ∧ H b=some (.tup (k.map kV)) ∧ r=cy kvs k
def iR (H : Hp)(a : Addr)(y v : V)(H' : Hp) : Prop :=
  (∃ kvs k, H a=some (.dK kvs) ∧ y=kV k ∧ kvs.length < sizeLine ∧ H'=upd H a (.dK (bS kvs k v))) ∨
  ∃ kvs k b, H a=some (.dT kvs) ∧ y = .ref b ∧ H b=some (.tup (k.map kV)) ∧ kvs.length < sizeLine ∧ H'=upd H a (.dT (bS kvs k v))
theorem gF.k {H : Hp}{a : Addr}{kvs : List (Key × V)}{k : Key}(e : H a=some (.dK kvs)) : gF H a (kV k) (cy kvs k) := .inl ⟨kvs, k, .inl e, rfl, rfl⟩
theorem iR.k {H : Hp}{a : Addr}{kvs : List (Key × V)}{k : Key}{v : V}(e : H a=some (.dK kvs))(hl : kvs.length < sizeLine) : iR H a (kV k) v (upd H a (.dK (bS kvs k v))) := .inl ⟨kvs, k, e, rfl, hl, rfl⟩
theorem iR.t {H : Hp}{a b : Addr}{kvs : List (List Key × V)}{k : List Key}{v : V}(e : H a=some (.dT kvs))(eb : H b=some (.tup (k.map kV)))(hl : kvs.length < sizeLine) :
    iR H a (.ref b) v (upd H a (.dT (bS kvs k v))) := .inr ⟨kvs, k, b, e, rfl, eb, hl, rfl⟩
section
variable {X : Cx} {pins : List (Addr × Obj)} {σ : St} {H : Hp} {s : Shared} {a : Addr} {y v : V} {u r : Value} {o : Option V} {A : Around} {E : Value → Shared → Prop}
theorem Inv.big (I : Inv X pins σ H s) : sysModules < s.heap.objs.size := by
  have h : mainGlobals < s.heap.objs.size := (I.mod.glob.keeps I.bk).lt
  exact Nat.lt_trans (by decide) h
theorem lu {Q : Value → Shared → Prop}(hu : A.units+1 < cLine)(I : Inv X pins σ H s)(g : gF H a y (some v))(ry : bf y u)(h : ∀ w' s', Inv X pins σ H s' → bf v w' → Q w' s') :
    wpAny (model X.prog X.w) A (getItem (.ref a) u) Q E s := by
  rcases g with ⟨kvs, k, e, ey, l⟩ | ⟨kvs, k, b, e, ey, eb, l⟩
  · subst ey
    obtain ⟨z, hd, vs, rel, dd⟩ := ke I.hok e
    obtain ⟨w', hw, rw'⟩ := kI.some_of (v := v) (o := valueAt vs k) (by rw [l];exact rel.val k)
    exact wpAny_getItem_of (lr ry) dd.mapOf hw (h w' _ (I.tok _) rw')
  · subst ey
    cases (show u=Value.ref b from ry)
    obtain ⟨z, hd, xs, rel, dd⟩ := kg I.hok e
    obtain ⟨w', hw, rw'⟩ := kI.some_of (v := v) (o := (atKey xs k).map (·.2)) (by rw [l];exact rel.val k)
    obtain ⟨p, hp, hp2⟩ := Option.map_eq_some_iff.mp hw
    refine wpAny_getItem_heap (Au hu) (gT I.hok eb) dd hp ?_
    rw [hp2]
    exact h w' _ (I.tok _) rw'
theorem xC {Q : Value → Shared → Prop}(hu : A.units+1 < cLine)(I : Inv X pins σ H s)(g : gF H a y o)(ry : bf y u)(h : ∀ s', Inv X pins σ H s' → Q (.bool o.isSome) s') :
    wpAny (model X.prog X.w) A (compareOp .In u (.ref a)) Q E s := by
  rcases g with ⟨kvs, k, e, ey, l⟩ | ⟨kvs, k, b, e, ey, eb, l⟩
  · subst ey
    obtain ⟨z, hd, vs, rel, dd⟩ := ke I.hok e
    refine wpAny_in_of (lr ry) hd dd.mapOf ?_
    rw [← (rel.val k).isSome_eq, ← l]
    exact h _ (I.tok _)
  · subst ey
    cases (show u=Value.ref b from ry)
    obtain ⟨z, hd, xs, rel, dd⟩ := kg I.hok e
    refine wpAny_in_heap (Au hu) (gT I.hok eb) hd dd ?_
    have q := (rel.val k).isSome_eq
    rw [AG] at q
    rw [← q, ← l]
    exact h _ (I.tok _)
theorem qV {Q : Value → Shared → Prop}(hu : A.units+1 < cLine)(I : Inv X pins σ H s)(g : gF H a y o)(ry : bf y u)(h : ∀ s', Inv X pins σ H s' → Q (.bool (!o.isSome)) s') :
    wpAny (model X.prog X.w) A (compareOp .NotIn u (.ref a)) Q E s := by
  rcases g with ⟨kvs, k, e, ey, l⟩ | ⟨kvs, k, b, e, ey, eb, l⟩
  · subst ey
    obtain ⟨z, hd, vs, rel, dd⟩ := ke I.hok e
    refine wpAny_notIn_of (lr ry) hd dd.mapOf ?_
    rw [← (rel.val k).isSome_eq, ← l]
    exact h _ (I.tok _)
  · subst ey
    cases (show u=Value.ref b from ry)
    obtain ⟨z, hd, xs, rel, dd⟩ := kg I.hok e
    refine wpAny_notIn_heap (Au hu) (gT I.hok eb) hd dd ?_
    have q := (rel.val k).isSome_eq
    rw [AG] at q
    rw [← q, ← l]
    exact h _ (I.tok _)
theorem fJ {h' : Heap}{t' : Nat}{ob : HO}(I : Inv X pins σ H s)(mu : Mut (H a))(hs : Heap.SameBut a s.heap h')(he : ∃ q, h'.get? a=some q)(new : bg X.prog X.w (upd H a ob) h' a ob) :
    Inv X pins σ (upd H a ob) { s with heap := h', toks := t' } :=
  I.write (x := a) (e := a) mu (.inl rfl) (fun b q hb z => (hs.2 b hb).trans z) he new
theorem tR {P : Program}{w : World}{H' : Hp}{h' : Heap}{kvs : List (Key × V)}{vs : List (Key × Value)}(z : kvs.length≤sizeLine)(hd : (a == sysModules)=false)(rel : KV kvs vs)(dd : h'.DictOf (ba P w) a vs) :
    bg P w H' h' a (.dK kvs) := ⟨z, hd, vs, rel, dd⟩
theorem lx {H' : Hp}{Q : Unit → Shared → Prop}(hu : A.units+1 < cLine)(I : Inv X pins σ H s)(g : iR H a y v H')(ry : bf y u)(rv : bf v r)(h : ∀ s', Inv X pins σ H' s' → Q () s') :
    wpAny (model X.prog X.w) A (setItem (.ref a) u r) Q E s := by
  rcases g with ⟨kvs, k, e, ey, l, eH⟩ | ⟨kvs, k, b, e, ey, eb, l, eH⟩
  · subst ey eH
    obtain ⟨z, hd, vs, rel, dd⟩ := vK I.hok e
    have hz : vs.length≤sizeLine := by rw [← rel.length];exact z
    have hl : (bS kvs k v).length≤sizeLine := by have := aZ kvs k v;omega
    refine wpAny_setItem_pairs (hsz := hz) (lr ry) dd fun h' dd' hs => h _ ?_
    have he : ∃ q, h'.get? a=some q := let ⟨q, _, _, hq, _⟩ := dd';⟨q, hq⟩
    exact fJ I (by rw [e];exact True.intro) hs he (tR hl hd (rel.put k rv) dd')
  · subst ey eH
    cases (show u=Value.ref b from ry)
    obtain ⟨z, hd, xs, rel, dd⟩ := vL I.hok e
    have hz : xs.length≤sizeLine := by rw [← Ap rel];exact z
    have hl : (bS kvs k v).length≤sizeLine := by have := aZ kvs k v;omega
    refine wpAny_setItem_heap (hsz := hz) (Au hu) (gT I.hok eb) dd fun h' dd' hs => h _ ?_
    obtain ⟨q, es, ep, hq, h2, h3, h4, _, h5⟩ := dd'
    refine fJ I (by rw [e];exact True.intro) hs ⟨q, hq⟩ ⟨hl, hd, _, (rel.put k eb rv).keeps fun c ys ec => ?_, q, es, ep, hq, h2, h3, h4, h5⟩
    rw [ak (cM ec e (fun z => nomatch z))]
    exact ec
end
section
variable {X : Cx} {pins : List (Addr × Obj)} {σ : St} {H : Hp} {s : Shared} {a : Addr} {kvs : List (Key × V)} {k : Key} {u : Value} {A : Around} {E : Value → Shared → Prop}
end
def vM (i : Expr) : Prop := ∀ ov iv, subscripted i false ov iv=operate [ov, iv] (getItem ov iv)
theorem ly {prog : Program}{w : World}{A : Around}{E : Value → Shared → Prop}{s : Shared}{env : Env}{value slice : Expr}{pos : Pos}{T id : String}{Q : Value → Shared → Prop}
    (hl : typeLookup (.type T) "__getitem__" = pure (some (.builtin id))) (hs : vM slice)
    (h : wpAny (model prog w) A (eval value env) (fun o s₁ => wpAny (model prog w) A (eval slice env) (fun i s₂ => s₂.TypeIs o T ∧ wpAny (model prog w) A (getItem o i) Q E s₂) E s₁) E s) :
    wpAny (model prog w) A (eval (.Subscript value slice pos) env) Q E s := by
  refine BC (zt h (fun o s₁ h₁ => zt h₁ (fun i s₂ h₂ => ?_) fun _ _ x => x) fun _ _ x => x)
  obtain ⟨hT, h₂⟩ := h₂
  unfold subscriptTail
  refine xR ?_
  rw [getitemInPython_of_ne hT.not_modules]
  refine xR (z8 hT hl ?_)
  have fin : wpAny (model prog w) A (subscripted slice false o i) (fun r s₃ => wpAny (model prog w) A (letTemporaryGo value o r >>= fun _ => pure r) Q E s₃) E s₂ := by
    rw [hs o i]
    exact wpAny_operating (zt h₂ (fun r s₃ h₃ => xR (wpAny_letTemporaryGo (x9 h₃))) fun _ _ x => x)
  first
    | exact x9 (xR fin)
    | exact xR (x9 (xR fin))
    | exact xR fin
theorem iT {X : Cx}{pins : List (Addr × Obj)}{σ : St}{H : Hp}{s : Shared}{a : Addr}{y : V}{o : Option V}(I : Inv X pins σ H s)(g : gF H a y o) : s.TypeIs (.ref a) "dict" := by
  rcases g with ⟨kvs, k, e, _, _⟩ | ⟨kvs, k, b, e, _, _, _⟩
  · obtain ⟨_, _, vs, _, dd⟩ := ke I.hok e
    exact dd.typeIs
  · obtain ⟨_, _, xs, _, dd⟩ := kg I.hok e
    exact dd.typeIs
def vN (td ty : TE) : TE := fun σ H Q => td σ H fun x H1 => ty σ H1 fun y H2 => ∃ a v, x = .ref a ∧ gF H2 a y (some v) ∧ Q v H2
def w6 (ty td : TE) : TE := fun σ H Q => ty σ H fun y H1 => td σ H1 fun x H2 => ∃ a o, x = .ref a ∧ gF H2 a y o ∧ Q (.bl o.isSome) H2
def lz (ty td : TE) : TE := fun σ H Q => ty σ H fun y H1 => td σ H1 fun x H2 => ∃ a o, x = .ref a ∧ gF H2 a y o ∧ Q (.bl (!o.isSome)) H2
def vO (td ty tv : TE) : TS := fun D σ H => tv σ H fun v H1 => td σ H1 fun x H2 => ty σ H2 fun y H3 => ∃ a H4, x = .ref a ∧ iR H3 a y v H4 ∧ D.nx σ H4
section
variable {X : Cx} {o i e value : Expr} {pos pos' tpos : Pos} {td ty tv : TE}
theorem eB (hu : X.A.units+1 < cLine)(ho : PE X o td)(hi : PE X i ty)(hs : vM i) : PE X (.Subscript o i pos) (vN td ty) := by
  intro pins s σ H Q I h
  refine ly PySem.F.slot_dict_getitem.lookup hs (thn (ho pins s σ H _ I h) fun u s1 ⟨x, H1, I1, rx, q1⟩ => thn (hi pins s1 σ H1 _ I1 q1) fun iv s2 zq68 => ?_)
  obtain ⟨y, H2, I2, ry, a, v, ex, g, q2⟩ := zq68
  subst ex
  obtain rfl : u=Value.ref a := rx
  exact ⟨iT I2 g, lu hu I2 g ry fun w' s3 I3 rw' => ⟨v, H2, I3, rw', q2⟩⟩
theorem tT (hu : X.A.units+1 < cLine)(hi : PE X i ty)(ho : PE X o td) : PC X .In i o (w6 ty td) := by
  intro pins s σ H Q I h
  refine thn (hi pins s σ H _ I h) fun iv s1 ⟨y, H1, I1, ry, q1⟩ => thn (ho pins s1 σ H1 _ I1 q1) fun u s2 zq69 => ?_
  obtain ⟨x, H2, I2, rx, a, ov, ex, g, q2⟩ := zq69
  subst ex
  obtain rfl : u=Value.ref a := rx
  exact xC hu I2 g ry fun s3 I3 => ⟨.bl ov.isSome, H2, I3, rfl, q2⟩
theorem lA (hu : X.A.units+1 < cLine)(hi : PE X i ty)(ho : PE X o td) : PC X .NotIn i o (lz ty td) := by
  intro pins s σ H Q I h
  refine thn (hi pins s σ H _ I h) fun iv s1 ⟨y, H1, I1, ry, q1⟩ => thn (ho pins s1 σ H1 _ I1 q1) fun u s2 zq70 => ?_
  obtain ⟨x, H2, I2, rx, a, ov, ex, g, q2⟩ := zq70
  subst ex
  obtain rfl : u=Value.ref a := rx
  exact qV hu I2 g ry fun s3 I3 => ⟨.bl (!ov.isSome), H2, I3, rfl, q2⟩
theorem cT (hu : X.A.units+1 < cLine)(ho : PE X o td)(hi : PE X i ty)(hv : PE X value tv)(hs : swapsWith value (some (.Subscript o i pos')) pos.line X.env=pure false) :
    PS X (.Assign [.Subscript o i pos'] value pos) (vO td ty tv) := by
  intro pins s σ H D I h
  refine wpAny_Assign_Subscript (thn (hv pins s σ H _ I h) fun r s1 ⟨v, H1, I1, rv, q1⟩ => thn (ho pins s1 σ H1 _ I1 q1) fun u s2 ⟨x, H2, I2, rx, q2⟩ => thn (hi pins s2 σ H2 _ I2 q2) fun iv s3 zq71 => ?_) hs
  obtain ⟨y, H3, I3, ry, a, H4, ex, g, q3⟩ := zq71
  subst ex
  obtain rfl : u=Value.ref a := rx
  exact lx hu I3 g ry rv fun s4 I4 => ⟨σ, H4, I4, q3⟩
end
theorem oh {P : Program}{w : World}{H : Hp}(h : Heap)(hb : sysModules < h.objs.size) : bg P w H (h.push { cls := .type "dict", data := .dict #[] }) h.objs.size (.dK []) :=
  ⟨yQ _, zf.mpr (Ne.symm (yH hb)), [], .nil, Heap.DictOf.new h⟩
theorem om {P : Program}{w : World}{H : Hp}(h : Heap)(hb : sysModules < h.objs.size) : bg P w H (h.push { cls := .type "dict", data := .dict #[] }) h.objs.size (.dT []) :=
  ⟨yQ _, zf.mpr (Ne.symm (yH hb)), [], .nil, _, #[], 0, ya _ rfl, ⟨rfl, rfl, rfl⟩, rfl, rfl, zY⟩
def tU : TE := fun _ H Q => ∀ p, H p=none → Q (.ref p) (upd H p (.dK []))
def tV : TE := fun _ H Q => ∀ p, H p=none → Q (.ref p) (upd H p (.dT []))
section
variable {X : Cx} {pos : Pos}
theorem dP : PE X (.Dict [] [] pos) tU := fun pins s σ H Q I h =>
  BS ⟨.ref s.heap.objs.size, _, I.laid (a := s.heap.objs.size) (o := .dK []) (t' := s.toks) (fun _ _ q => xW _ q) (xT _) (oh s.heap I.big), rfl, h _ (I.hok.fresh (xT _))⟩
theorem oo : PE X (.Dict [] [] pos) tV := fun pins s σ H Q I h =>
  BS ⟨.ref s.heap.objs.size, _, I.laid (a := s.heap.objs.size) (o := .dT []) (t' := s.toks) (fun _ _ q => xW _ q) (xT _) (om s.heap I.big), rfl, h _ (I.hok.fresh (xT _))⟩
end
def IsD (H : Hp)(a : Addr) : Prop := (∃ kvs, Rd H a (.dK kvs)) ∨ ∃ kvs, Rd H a (.dT kvs)
theorem tW {X : Cx}{pins : List (Addr × Obj)}{σ : St}{H : Hp}{s : Shared}{a : Addr}(I : Inv X pins σ H s)(d : IsD H a) :
    s.TypeIs (.ref a) "dict" ∧ (∀ b, Value.ref a = .ref b → ∃ ob, s.heap.get? b=some ob ∧ ob.dict=none) ∧ (a == sysModules)=false := by
  rcases d with ⟨kvs, e⟩ | ⟨kvs, e⟩
  · obtain ⟨_, hd, vs, _, dd⟩ := ke I.hok e
    refine ⟨dd.typeIs, fun b q => ?_, hd⟩
    cases q
    obtain ⟨ob, _, _, h1, h2, _⟩ := dd
    exact ⟨ob, h1, h2.2.1⟩
  · obtain ⟨_, hd, xs, _, dd⟩ := kg I.hok e
    refine ⟨dd.typeIs, fun b q => ?_, hd⟩
    cases q
    obtain ⟨ob, _, _, h1, h2, _⟩ := dd
    exact ⟨ob, h1, h2.2.1⟩
section
variable {X : Cx} {pins : List (Addr × Obj)} {σ : St} {H : Hp} {s : Shared} {a : Addr} {y d : V} {u r : Value} {o : Option V} {A : Around} {E : Value → Shared → Prop}
end
section
variable {X : Cx} {o e f : Expr} {apos cpos : Pos} {td ty tx : TE}
end
section
variable {X : Cx} {pins : List (Addr × Obj)} {σ : St} {H : Hp} {s : Shared} {a : Addr} {kvs : List (Key × V)} {A : Around} {E : Value → Shared → Prop}
end
section
variable {X : Cx} {pins : List (Addr × Obj)} {σ : St} {H : Hp} {s : Shared} {a : Addr} {y : V} {u : Value} {A : Around} {E : Value → Shared → Prop}
end
end L2
namespace Att
open PySem PySem.W PySem.Calls PyProof.Rows
theorem eC {P : Params}{h : Heap} : ∀ (ns : List Int) (vs : List Value), WellAll P h vs (ns.map WData.int) → IntsAre vs ns := by
  intro ns
  induction ns with
  | nil =>
    intro vs w
    rw [Br] at w
    cases w
    exact .nil
  | cons n ns ih =>
    intro vs w
    rw [yk] at w
    cases w with
    | cons a b =>
      cases a
      exact .cons _ _ (ih _ b)
theorem lC {l : OpenLaw}{n : Nat}(hn : l.most=some n){P : Params}{h : Heap}{args : List WData}{vals : List Value}
    (hpre : l.row.toRowW.claim.pre args=true) (hwl : WellAll P h vals args) :
    ∃ a vs ns, vals=[Value.ref a] ∧ args=[WData.list (ns.map WData.int)] ∧ h.get? a=some { cls := .type "list", data := .seq vs.toArray } ∧ IntsAre vs ns ∧ ns.length≤n := by
  have hsh : WShape.hasAll [] args [.list .int]=true := (pre_splitW hpre).1
  have hc : l.pre.holds [] { args := args }=true := (pre_splitW hpre).2
  obtain ⟨d, r, rfl, h1, h2⟩ := hasAllW_cons hsh
  obtain rfl := hasAllW_nil h2
  obtain ⟨xs, rfl, h3⟩ := hasW_list h1
  obtain ⟨ns, rfl⟩ := items_int h3
  have hlen : ns.length≤n := by
    unfold OpenLaw.pre at hc
    have h4 : (WTm.not (.lt (.lit (.int (n : Int))) (.len (.arg 0)))).holds [] { args := [.list (ns.map .int)] }=true := by
      have h4 := (holds_andW hc).1
      rw [hn] at h4
      exact h4
    have h5 := condW_of h4 (w_not (w_lt w_lit (w_len_list (w_arg rfl))))
    rw [fu] at h5
    refine Nat.le_of_not_lt fun q => ?_
    have q' : (n : Int) < ((ns.length : Nat) : Int) := by omega
    first
      | (rw [yJ q'] at h5;exact absurd h5 (by decide))
      | (simp at h5;omega)
  cases hwl with
  | cons w1 w2 =>
    cases w2
    cases w1 with
    | list ho hall => exact ⟨_, _, ns, rfl, rfl, ho, eC ns _ hall, hlen⟩
theorem lD (l : OpenLaw)(args : List WData) : l.row.toRowW.claim.post args (.bool true) args=true :=
  postW_of (r := l.row.toRowW) (X := (true == true))
    (show WShape.has [] (.bool true) .bool=true by first | rfl | decide | simp [WShape.has, WShape.arms, WShape.armsAll])
    (show (WTm.eq .res (.lit (.bool true))).value [] { args := args, res := some (.bool true), after := args }=some (.bool (true == true)) from w_eq_bool (w_res rfl) w_lit) rfl
theorem attach_call {l : OpenLaw}{n : Nat}{q : Program}{loose : List Str}{XP : (Str → Option Value) → Heap → Prop}{YP : World → Heap → Prop}{d : DefRec}
    (hn : l.most=some n) (hdf : d.params.defaults=[])
    (call : ∀ (w : World) (s₀ s₁ : Shared) (mg mb : Str → Option Value) (fa : Addr) (o : Obj) (pm cd doc : Value) (a : Addr) (vs : List Value) (ns : List Int),
      Ground q loose [] XP w s₀ mg mb s₁.heap → YP w s₁.heap →
      s₁.heap.get? fa=some o → o.data = .func (docDef d.name d.params d.body d.scope pm cd doc) → s₁.heap.CodeRec cd d.name → mg d.name=some (.ref fa) →
      s₁.heap.get? a=some { cls := .type "list", data := .seq vs.toArray } → IntsAre vs ns → ns.length≤n → s₁.gens=#[] →
      codeAny (model l.prog w) callerA (.call (.ref fa) ⟨[.ref a], []⟩) (fun r s' => r = .ok (.ret (.bool true)) ∧ OldK s₁.heap s'.heap ∧ s'.os=s₁.os ∧ AllBare s'.gens) s₁) :
    WalkO q loose XP YP l.row.toRowW d [] (fun f vs => PySem.call f vs) := by
  intro w s₀ s₁ mg mb G Y fa o pm cd doc dV kV ho hd hcd hD hmg hg args vals as hpre hlay hrd hwl hlo
  obtain rfl : dV = .none := Dflts.none hD hdf
  obtain rfl : kV = .none := Dflts.noKw hD
  obtain ⟨a, vs, ns, rfl, rfl, hobj, hints, hlen⟩ := lC hn hpre hwl
  refine enter_call (codeAny_mono (call w s₀ s₁ mg mb fa o pm cd doc a vs ns G Y ho (fd_plain hd) hcd hmg hobj hints hlen hg) fun r s' hq => ?_)
  obtain ⟨rfl, h2, h3, h4⟩ := hq
  exact ⟨.inl ⟨.bool true, .bool true, [], rfl, fun _ => rfl, .bool true, lD l _, fun _ => ⟨List.Pairwise.nil, fun _ hm => (nomatch hm)⟩⟩, h2, h3, h4⟩
section
variable {prog : Program} {w : World} {A : Around} {E : Value → Shared → Prop} {s : Shared} {K : Frag}
end
end Att
namespace L2
open PySem PySem.Spec PyProof.Rows
theorem gU : ∀ {vs : List Value} {ns : List Int}, IntsAre vs ns → aL (ns.map V.int) vs
  | _, _, .nil => .nil
  | _, _, .cons n t h => .cons ⟨t, rfl⟩ (gU h)
def vP (H : Hp) : Prop := ∀ b, H b=none ∨ ∃ o xs, H b=some (.frz o (.lst xs))
theorem oq {P : Program}{w : World}{K : PySem.W.Frag}{mg mb : Str → Option Value}{CX : CXT}{k : Nat}{fa a : Addr}{fd : FuncData}{x : Str}{sp : Sp}{s₁ : Shared}{vs : List Value}{ns : List Int}
    (KX : K.In s₁.heap) (hns : s₁.heap.Ns mainGlobals mg) (hb : s₁.heap.Ns builtinsNs mb) (hbb : ∀ x : Str, x ≠ "__name__" → mb x=bootBuiltins x) (hlim : s₁.heap.NoLimit) (hg : s₁.gens=#[])
    (ha : s₁.heap.get? a=some { cls := .type "list", data := .seq vs.toArray }) (hi : IntsAre vs ns) (hl : ns.length≤sizeLine) (hr : fh k callerA)
    (F : ∀ base : Heap, K.In base → base.Ns mainGlobals mg → nN P w K mg base CX k fa fd [x] sp) (hbind : ∀ (s : Shared) (u : Value), BindsTo s fd ⟨[u], []⟩ [(x, u)])
    (hsp : ∀ H : Hp, vP H → SqL K H a (ns.map V.int) → sp [.ref a] H (fun v _ => v = .bl true) fun _ _ _ => False)
    (hCX : ∀ H e s', CX [] H s₁ (fun _ _ _ => False) e s' → False) :
    codeAny (model P w) callerA (.call (.ref fa) ⟨[.ref a], []⟩) (fun r s' => r = .ok (.ret (.bool true)) ∧ OldK s₁.heap s'.heap ∧ s'.os=s₁.os ∧ AllBare s'.gens) s₁ := by
  have rv := gU hi
  have lenV := hi.length
  -- from an abstract heap in which nothing but the script may be tracked
  have core : ∀ H : Hp, vP H → SqL K H a (ns.map V.int) → HOk P w H s₁.heap → (∀ b, H b≠none → b=a) → (H a≠none → K.lookup a=none) →
      codeAny (model P w) callerA (.call (.ref fa) ⟨[.ref a], []⟩) (fun r s' => r = .ok (.ret (.bool true)) ∧ OldK s₁.heap s'.heap ∧ s'.os=s₁.os ∧ AllBare s'.gens) s₁ := by
    intro H hO hS hok hA hK
    have base_of : ∀ {b : Addr} {o : Obj}, s₁.heap.get? b=some o → H b=none → (nQ s₁.heap H).get? b=some o := fun e n => nS e n
    have noA : ∀ {b : Addr} {o : Obj} {es : Array DictEntry} {ep : Nat}, s₁.heap.get? b=some o → o.data = .dict es ep → H b=none := fun {b o es ep} e d => by
      cases q : H b with
      | none => rfl
      | some u =>
        have e' : b=a := hA b (by rw [q];simp)
        subst e'
        rw [ha] at e;cases e
        have d' : Data.seq vs.toArray _=Data.dict es ep := d
        cases d'
    have nsK : ∀ {b : Addr} {m : Str → Option Value}, s₁.heap.Ns b m → (nQ s₁.heap H).Ns b m := fun {b m} ⟨o, es, ep, e, d, r⟩ => ⟨o, es, ep, base_of e (noA e d), d, r⟩
    have hKb : K.In (nQ s₁.heap H) := fun b o e => base_of (KX b o e) (by
      cases q : H b with
      | none => rfl
      | some u =>
        have e' : b=a := hA b (by rw [q];simp)
        subst e'
        rw [hK (by rw [q];simp)] at e;cases e)
    have hM : Mod K mg (nQ s₁.heap H) := ⟨hKb, nsK hns, ⟨mb, nsK hb, hbb⟩, let ⟨mc, h1, h2⟩ := hlim;⟨mc, nsK h1, h2⟩⟩
    have e0 : vc P w K mg (nQ s₁.heap H) callerA [] s₁ H := ⟨rfl, hM, fun b o e => qJ e, Nat.le_of_eq (kJ _ _), trivial, fun b hb => absurd (show b∈([] : List Addr) from hb) (by simp), hok, .of_eq hg⟩
    refine codeAny_mono ((F _ hKb (nsK hns)).run callerA [] s₁ H ⟨[.ref a], []⟩ [.ref a] [.ref a] _ _ hr e0 (hbind s₁ (.ref a)) (.cons rfl .nil) (hsp H hO hS)) fun r s' h => ?_
    cases r with
    | error e => exact (hCX H e s' h).elim
    | ok fl =>
      cases fl with
      | next => exact False.elim h
      | brk => exact False.elim h
      | cont => exact False.elim h
      | ret u =>
        obtain ⟨v, H', os, bare, un, hok', r', q⟩ := h
        have q' : v = .bl true := q
        subst q'
        obtain rfl : u=Value.bool true := r'
        refine ⟨rfl, OldK.of_keep fun b o e => ?_, os, bare⟩
        cases q : H b with
        | none => exact un.keep b o e q (by intro z;exact absurd (show b∈([] : List Addr) from z) (by simp)) (by simp)
        | some u =>
          rcases hO b with z | ⟨ob, xs, z⟩
          · rw [q] at z;cases z
          · have z2 := un.frzs b ob _ z
            obtain ⟨e1, _⟩ := hok b _ z
            obtain ⟨e2, _⟩ := hok' b _ z2
            rw [e] at e1;cases e1
            exact e2
  cases hk : K.lookup a with
  | some o =>
    -- the script is one of the module's own objects
    have e := KX a o hk
    rw [ha] at e
    cases e
    refine core (fun _ => none) (fun _ => .inl rfl) (.inr ⟨_, vs.toArray, _, hk, rfl, rfl, rfl, by rw [x8, lenV];exact hl, by simpa using rv⟩) (fun b u z => by have z' : (none : Option HO)=some u := z;cases z') (fun b z => absurd rfl z) fun z => absurd rfl z
  | none =>
    refine core (fun b => if b=a then some (.frz { cls := .type "list", data := .seq vs.toArray } (.lst (ns.map V.int))) else none) (fun b => ?_) (.inl (.inr ⟨{ cls := .type "list", data := .seq vs.toArray }, if_pos rfl⟩)) (fun b u z => ?_) (fun b z => ?_) fun _ => hk
    · by_cases hb : b=a
      · exact .inr ⟨_, _, if_pos hb⟩
      · exact .inl (if_neg hb)
    · by_cases hb : b=a
      · have z' := (if_pos hb).symm.trans z
        cases z'
        subst hb
        exact ⟨ha, by rw [fu];exact hl, vs, _, rv, ha⟩
      · have z' := (if_neg hb).symm.trans z
        cases z'
    · by_cases hb : b=a
      · exact hb
      · exact absurd (if_neg hb) z
theorem lE {l : PySem.W.OpenLaw}{n k : Nat}{q : Program}{loose : List Str}{XP : (Str → Option Value) → Heap → Prop}{YP : World → Heap → Prop}{d : DefRec}{K : Params → PySem.W.Frag}{CX : World → CXT}{sp : World → Sp}{x : Str}
    (hn : l.most=some n) (hn2 : n≤sizeLine) (hdf : d.params.defaults=[]) (hr : fh k callerA)
    (hY : ∀ (w : World) (h : Heap), YP w h → (K w.params).In h)
    (F : ∀ (w : World) (mg : Str → Option Value) (fa : Addr) (h : Heap), (K w.params).In h → h.Ns mainGlobals mg → mg d.name=some (.ref fa) →
      ∃ fd : FuncData, (∀ (s : Shared) (u : Value), BindsTo s fd ⟨[u], []⟩ [(x, u)]) ∧
        ∀ base : Heap, (K w.params).In base → base.Ns mainGlobals mg → nN l.prog w (K w.params) mg base (CX w) k fa fd [x] (sp w))
    (hsp : ∀ (w : World) (H : Hp) (a : Addr) (ns : List Int), ns.length≤n → vP H → SqL (K w.params) H a (ns.map V.int) → sp w [.ref a] H (fun v _ => v = .bl true) fun _ _ _ => False)
    (hCX : ∀ (w : World) (H : Hp) (s : Shared) (e : Value) (s' : Shared), CX w [] H s (fun _ _ _ => False) e s' → False) :
    PySem.W.WalkO q loose XP YP l.row.toRowW d [] (fun f vs => PySem.call f vs) := by
  refine Att.attach_call hn hdf fun w s₀ s₁ mg mb fa o pm cd doc a vs ns G Y ho hd hcd hmg hobj hints hlen hg => ?_
  have KX := hY w _ Y
  obtain ⟨fd, hb, hF⟩ := F w mg fa _ KX G.T.g hmg
  exact oq KX G.T.g G.T.b G.T.builtins G.T.nolimit hg hobj hints (yI hlen hn2) hr hF hb (fun H hO hS => hsp w H a ns hlen hO hS) fun H e s' => hCX w H s₁ e s'
end L2
/- THE LAST THEOREM (shape;LID, My.* are yours):
   My.Adr: a structure of the addresses that your layer names (classes, functions);My.Txt K t: a structure (Prop) of the equations over K;
   My.txt_mk : {K} {implicit addresses ..} (e1 : nsIn K mainGlobals "law" = some (some (.ref f))) (e2 : K.lookup f=some ⟨oc, od, .func (fnOf "law" "law" params body scope dV kV doc pm an cdv ct), sl⟩) (e3 : codeIn K cdv "law" = true) .. : ∃ t, My.Txt K t
set_option maxRecDepth 100000 in
set_option maxHeartbeats 0 in
theorem PySem.Challenge.cw_LID_holds : PySem.Challenge.rw_LID.Holds := by
  w_on;o_law;k_head;(case hw => w_witness2)
  k_fill
  refine L2.lE (l := PySem.Challenge.rw_LID) (n := 63) (k := 40) (x := "script") (CX := fun w => ..) (sp := fun _ => My.sp_law) rfl (by decide) rfl ⟨rfl, by decide, by decide⟩ (fun w h Y => PySem.W.kIn_of Y) ?F ?S ?C
  case F =>
    intro w mg fa h KX G hmg
    have T : ∃ t, My.Txt (L2.KOf KX) t := by
      dsimp only [L2.KOf]                          -- K must stand as «<heap const> w.params» for k_is
      refine' My.txt_mk ?e1 ?e2 ?e3 ..
      (case e1 => PySem.W.k_is)                    -- in the order: a name -> its address -> its object -> its parts
      (case e2 => PySem.W.k_is)
      ..
    obtain ⟨t, T⟩ := T
    have e0 := hmg.symm.trans (A9 KX G T.law)
    cases e0                                       -- fa is the law's own address
    exact ⟨_, fun s u => .of_eq rfl, fun base kb nb => My.law_fn T kb nb⟩     -- if «.of_eq rfl» comes too early: refine' ⟨_, ?b, fun base kb nb => My.law_fn T kb nb⟩;exact fun s u => .of_eq rfl
  case S => exact fun w H a ns hl hO hS => ..
  case C => exact ..
(the tactic k_is has no namespace: write k_is) -/
namespace L2
open PySem PySem.Spec PyProof.Rows
def bY (s : Stmt) : Arguments := match s with
  | .FunctionDef _ a _ _ _ _ _ _ _ _ => a
  | _ => { posonlyargs := [], args := [], vararg := none, kwonlyargs := [], kw_defaults := [], kwarg := none, defaults := [] }
def bG (s : Stmt) : List Stmt := match s with
  | .FunctionDef _ _ b _ _ _ _ _ _ _ => b
  | _ => []
def aq (s : Stmt) : Scope := match s with
  | .FunctionDef _ _ _ _ _ _ sc _ _ _ => sc
  | _ => { kind := .function, names := [], isGenerator := false, isCoroutine := false }
abbrev CX0 : CXT := fun _ _ _ _ _ _ => False
abbrev E0 : XK := fun _ _ _ => False
theorem vQ {X : Cx} : kZ CX0 X E0 := fun _ _ _ _ _ _ _ h => h.elim
structure Fun (K : PySem.W.Frag) (x qual : Str) (st : Stmt) (f : Addr) (fd : FuncData) : Prop where
  ex : ∃ (oc : Value) (od : Option Addr) (kV doc pm : Value) (an : Option Addr) (cdv ct : Value) (osl : Array (Option Value)),
    fd=PySem.W.fnOf x qual (bY st) (bG st) (aq st) .none kV doc pm an cdv ct ∧ K.lookup f=some ⟨oc, od, .func fd, osl⟩ ∧ PySem.W.codeIn K cdv qual=true
  kp : PySem.W.keepIn K (.ref f)=true
section
variable {P : Program} {w : World} {K : PySem.W.Frag} {mg : Str → Option Value} {base : Heap}
theorem Fun.ok {x qual : Str}{st : Stmt}{f : Addr}{fd : FuncData}{N ps : List Str}{k : Nat}{sp : Sp}(F : Fun K x qual st f fd)(S : aC N ps (aq st))(len : ∀ vs H Q E, sp vs H Q E → vs.length=ps.length)
    (hbody : ∀ (cdv : Value) (A : Around) (outer : List Env) (s : Shared) (H : Hp) (vs : List V) (Q : VK) (E : XK), fh k (A.deeper (envOfC qual (aq st) s.heap.objs.size f cdv)) → sp vs H Q E →
      ∃ t, PSs (qR CX0 P w K mg base N qual (aq st) f cdv A outer s H E).nox (bG st) t ∧ t { nx := fun _ H' => Q .non H', rt := Q } (start N vs) H) : nN P w K mg base CX0 (k+1) f fd ps sp := by
  obtain ⟨oc, od, kV, doc, pm, an, cdv, ct, osl, rfl, lk, hcd⟩ := F.ex
  refine vH lk hcd S len fun A outer s H vs Q E hr hsp => ?_
  obtain ⟨t, h, q⟩ := hbody cdv A outer s H vs Q E hr hsp
  exact ⟨t, h.nox, q⟩
theorem Fun.binds {x qual : Str}{st : Stmt}{f : Addr}{fd : FuncData}{ps : List Str}(F : Fun K x qual st f fd)
    (h : ∀ (kV doc pm : Value) (an : Option Addr) (cdv ct : Value) (us : List Value), us.length=ps.length → bindArgs (PySem.W.fnOf x qual (bY st) (bG st) (aq st) .none kV doc pm an cdv ct) ⟨us, []⟩=pure (ps.zip us)) : j_ K fd ps [] := by
  obtain ⟨oc, od, kV, doc, pm, an, cdv, ct, osl, rfl, lk, hcd⟩ := F.ex
  exact .all (h kV doc pm an cdv ct)
theorem qa {x qual : Str}{st : Stmt}{f : Addr}{oc : Value}{od an : Option Addr}{osl : Array (Option Value)}{kV doc pm cdv ct : Value}(l : K.lookup f=some ⟨oc, od, .func (PySem.W.fnOf x qual (bY st) (bG st) (aq st) .none kV doc pm an cdv ct), osl⟩)
    (c : PySem.W.codeIn K cdv qual=true) (k : PySem.W.keepIn K (.ref f)=true) : Fun K x qual st f (PySem.W.fnOf x qual (bY st) (bG st) (aq st) .none kV doc pm an cdv ct) := ⟨⟨oc, od, kV, doc, pm, an, cdv, ct, osl, rfl, l, c⟩, k⟩
end
theorem iU {A : Around}{k : Nat}(hr : fh k A) : A.units+1 < cLine := Nat.lt_of_le_of_lt (Nat.add_le_add_left (by decide : 1≤64) _) hr.units
section
variable {X : Cx}
theorem pv (i : Nat){x : Str}{pos : Pos}(hN : X.N[i]? = some x := by rfl)(hv : Vis X.env.scope x := by first | exact Or.inl rfl | exact Or.inr (Or.inl rfl) | exact Or.inr (Or.inr rfl))(hd : (x == ("__debug__" : Str))=false := by decide)
    (hcd : (x == ("__classdict__" : Str))=false := by decide) : PE X (.Name x pos) (vg i) := sZ hN hv hd hcd
end
theorem nO {A B : Prop}(h : B) : if false=true then A else B := by
  rw [if_neg yc]
  exact h
theorem sQ {A B : Prop}(h : A) : if true=true then A else B := by
  rw [if_pos rfl]
  exact h
theorem kh {c A B : Prop}[Decidable c](h1 : c → A)(h2 : ¬ c → B) : if c then A else B := by
  by_cases h : c
  · rw [if_pos h]
    exact h1 h
  · rw [if_neg h]
    exact h2 h
theorem vR {c A B : Prop}[Decidable c](hc : c)(h : B) : if (!decide c)=true then A else B := by
  rw [yJ hc]
  exact nO h
def au (H H' : Hp) : Prop := ∀ b o, H b=some o → H' b=some o
theorem au.refl (H : Hp) : au H H := fun _ _ h => h
theorem au.trans {H H1 H2 : Hp}(a : au H H1)(b : au H1 H2) : au H H2 := fun c o h => b c o (a c o h)
section
variable {κ : Type} [DecidableEq κ]
end
end L2
namespace L2
open PySem PySem.Spec PyProof.Rows
def jz (cells : List (Str × Addr)) : List (Str × NameKind) → List (Str × Addr) → List (Str × Addr)
  | [], acc => acc
  | (x, k)::r, acc => if k == NameKind.free then jz cells r ((x, (cells.lookup x).getD 0)::acc) else jz cells r acc
theorem fK {cells : List (Str × Addr)}{p : Str × Addr} : ∀ {names : List (Str × NameKind)} {acc : List (Str × Addr)}, p∈jz cells names acc → p∈acc ∨ ((p.1, NameKind.free)∈names ∧ p.2=(cells.lookup p.1).getD 0)
  | [], _, h => .inl h
  | (x, k)::r, acc, h => by
    unfold jz at h
    by_cases hk : (k == NameKind.free)=true
    · rw [if_pos hk] at h
      have ek : k=NameKind.free := by simpa using hk
      subst ek
      rcases fK h with h | ⟨h, e⟩
      · rcases ye.mp h with h | h
        · subst h
          exact .inr ⟨yb, rfl⟩
        · exact .inl h
      · exact .inr ⟨x3 _ h, e⟩
    · rw [if_neg hk] at h
      rcases fK h with h | ⟨h, e⟩
      · exact .inl h
      · exact .inr ⟨x3 _ h, e⟩
theorem fL {cells : List (Str × Addr)}{p : Str × Addr} : ∀ {names : List (Str × NameKind)} {acc : List (Str × Addr)}, p∈acc → p∈jz cells names acc
  | [], _, h => h
  | (x, k)::r, acc, h => by
    unfold jz
    split
    · exact fL (x3 _ h)
    · exact fL h
theorem fM {cells : List (Str × Addr)}{x : Str} : ∀ {names : List (Str × NameKind)} {acc : List (Str × Addr)}, (x, NameKind.free)∈names → (x, (cells.lookup x).getD 0)∈jz cells names acc
  | [], _, h => by simp at h
  | (y, k)::r, acc, h => by
    unfold jz
    rcases ye.mp h with h | h
    · have e1 : x=y := yB Prod.fst h
      have e2 : NameKind.free=k := yB Prod.snd h
      subst e1 e2
      rw [if_pos (by simp)]
      exact fL yb
    · split
      · exact fM h
      · exact fM h
theorem cZ {x : Str}{c : Addr} : ∀ {l : List (Str × Addr)}, (x, c)∈l → ∃ d, l.lookup x=some d
  | [], h => by simp at h
  | (y, d)::r, h => by
    rw [AZ]
    by_cases e : (x == y)=true
    · rw [e];exact ⟨d, rfl⟩
    · have e' : (x == y)=false := by simpa using e
      rw [e']
      rcases ye.mp h with h | h
      · have : x=y := yB Prod.fst h
        exact absurd (by simpa using this) e
      · exact cZ h
theorem c3 {env : Env}{scope : Scope}(h : ∀ y∈scope.names, y.2=NameKind.free → ∃ c, env.cells.lookup y.1=some c) : closureFor scope env=pure (jz env.cells scope.names []) := by
  have all : ∀ (names : List (Str × NameKind)) (acc : List (Str × Addr)), (∀ y∈names, y.2=NameKind.free → ∃ c, env.cells.lookup y.1=some c) →
      (forIn names acc (fun (p : Str × NameKind) (r : List (Str × Addr)) => (if (p.2 == NameKind.free)=true then (do let a ← cellOf env p.1;pure (ForInStep.yield ((p.1, a)::r))) else pure (ForInStep.yield r) : Sem (ForInStep (List (Str × Addr))))))=(pure (jz env.cells names acc) : Sem (List (Str × Addr))) := by
    intro names
    induction names with
    | nil => intro acc _;rfl
    | cons p r ih =>
      intro acc hh
      obtain ⟨x, k⟩ := p
      have hr : ∀ y∈r, y.2=NameKind.free → ∃ c, env.cells.lookup y.1=some c := fun y hy => hh y (x3 _ hy)
      rw [Av]
      unfold jz
      by_cases hk : (k == NameKind.free)=true
      · obtain ⟨c, hc⟩ := hh (x, k) yb (by simpa using hk)
        have hc : env.cells.lookup x=some c := hc
        have ec : cellOf env x=pure c := by
          unfold cellOf
          rw [hc]
        simp only [hk, Ce, ec, pure_bind, hc, BU]
        exact ih _ hr
      · simp only [hk, Cj, pure_bind]
        exact ih _ hr
  have e := all scope.names [] h
  unfold closureFor
  simp only [bind_pure]
  exact e
def tX (scope sc : Scope)(NB own : List Str)(cap : List Nat)(N : List Str) : Bool :=
  (scope.kind == .function) && (sc.kind == .function) &&
  (scope.names.all fun y => match y.2 with
    | .cell => false
    | .free => sc.names.lookup y.1 == some NameKind.cell
    | .local => scope.names.lookup y.1 == some NameKind.local
    | _ => true) &&
  (own.all fun x => scope.names.lookup x == some NameKind.local && scope.names.all fun y => !(y.1 == x) || y.2 == NameKind.local) &&
  (NB == own++cap.map fun i => N.getD i "") && (cap.all fun i => decide (i < N.length) && scope.names.lookup (N.getD i "") == some NameKind.free)
structure Blk (X : Cx) (scope : Scope) (NB own : List Str) (cap : List Nat) : Prop where
  kind : scope.kind = .function
  outk : X.env.scope.kind = .function
  nocell : ∀ y∈scope.names, y.2 ≠ .cell
  free : ∀ y∈scope.names, y.2 = .free → X.env.kindOf y.1=some .cell
  names : ∀ y∈scope.names, y.2 = .local → scope.names.lookup y.1=some .local
  owns : ∀ x∈own, ∀ y∈scope.names, y.1=x → y.2 = .local
  nb : NB=own++cap.map fun i => X.N.getD i ""
  caps : ∀ i∈cap, i < X.N.length ∧ scope.names.lookup (X.N.getD i "")=some .free
theorem bP {X : Cx}{scope sc : Scope}{NB own : List Str}{cap : List Nat}(hs : X.env.scope=sc)(h : tX scope sc NB own cap X.N=true) : Blk X scope NB own cap := by
  unfold tX at h
  simp only [yi] at h
  obtain ⟨⟨⟨⟨⟨h1, h2⟩, h3⟩, h4⟩, h5⟩, h6⟩ := h
  rw [Ai] at h3 h4 h6
  subst hs
  refine ⟨by simpa using h1, by simpa using h2, fun y hy e => ?_, fun y hy e => ?_, fun y hy e => ?_, fun x hx y hy e => ?_, by simpa using h5, fun i hi => ?_⟩
  · have := h3 y hy
    rw [e] at this
    exact absurd this (by simp)
  · have := h3 y hy
    rw [e] at this
    show X.env.scope.names.lookup y.1=some .cell
    simpa using this
  · have := h3 y hy
    rw [e] at this
    simpa using this
  · have := h4 x hx
    simp only [yi, Ai] at this
    have q := this.2 y hy
    subst e
    simpa using q
  · have := h6 i hi
    simp only [yi] at this
    exact ⟨of_decide_eq_true this.1, by simpa using this.2⟩
def cxB (X : Cx)(NB own : List Str)(scope : Scope)(C : Addr)(fp : List Addr)(s₀ : Shared)(H₀ : Hp) : Cx where
  prog := X.prog
  w := X.w
  K := X.K
  mg := X.mg
  base := X.base
  A := X.A
  N := NB
  s₀ := s₀
  H₀ := H₀
  env := compEnvC scope (jz X.env.cells scope.names []) C X.env
  outer := X.stack
  stack := X.stack
  ex := fp
  fn := fun x => own.contains x
  calm := X.calm
  pn := []
  xe := fun _ _ => False
theorem cB {env : Env}{x : Str}{k : NameKind}(hk : k = .cell ∨ k = .free) : ∀ {names : List (Str × NameKind)}, (∀ y∈names, y.2 ≠ .cell) →
    (names.map fun (n, k) => if (k == NameKind.free && env.scope.kind == .function && env.kindOf n == some .cell) then (n, NameKind.cell) else (n, k)).lookup x=some k → (x, NameKind.free)∈names
  | [], _, h => by simp at h
  | (n, q)::r, hn, h => by
    have ih := @cB env x k hk r fun y hy => hn y (x3 _ hy)
    rw [yk, AZ] at h
    have key : (if (q == NameKind.free && env.scope.kind == .function && env.kindOf n == some .cell)=true then (n, NameKind.cell) else (n, q)).1=n := by split <;> rfl
    by_cases e : (x == n)=true
    · have en : x=n := by simpa using e
      subst en
      by_cases hq : q = .free
      · subst hq;exact yb
      · have hqf : (q == NameKind.free)=false := by simpa using hq
        simp only [hqf, Bool.false_and, Aw, Cj, BV] at h
        have h' : q=k := x5 h
        rcases hk with z | z
        · exact absurd (h'.trans z) (hn (x, q) yb)
        · exact absurd (h'.trans z) hq
    · have e' : (x == n)=false := by simpa using e
      refine x3 _ (ih ?_)
      have e2 : (x == (if (q == NameKind.free && env.scope.kind == .function && env.kindOf n == some .cell)=true then (n, NameKind.cell) else (n, q)).1)=false := by rw [key];exact e'
      rw [e2] at h
      exact h
theorem eD {env : Env}{x : Str}(hk : env.scope.kind = .function)(hc : env.kindOf x=some .cell) : ∀ {names : List (Str × NameKind)}, names.lookup x=some .free →
    (names.map fun (n, k) => if (k == NameKind.free && env.scope.kind == .function && env.kindOf n == some .cell) then (n, NameKind.cell) else (n, k)).lookup x=some .cell
  | [], h => by simp at h
  | (n, q)::r, h => by
    have ih := @eD env x hk hc r
    rw [AZ] at h
    rw [yk, AZ]
    by_cases e : (x == n)=true
    · have en : x=n := by simpa using e
      subst en
      rw [e] at h
      have hq : q = .free := x5 h
      subst hq
      simp [hk, hc]
    · have e' : (x == n)=false := by simpa using e
      rw [e'] at h
      have key : (if (q == NameKind.free && env.scope.kind == .function && env.kindOf n == some .cell)=true then (n, NameKind.cell) else (n, q)).1=n := by split <;> rfl
      have e2 : (x == (if (q == NameKind.free && env.scope.kind == .function && env.kindOf n == some .cell)=true then (n, NameKind.cell) else (n, q)).1)=false := by rw [key];exact e'
      rw [e2]
      exact ih h
def stB (own : List Str)(cap : List Nat)(σ : St) : St := (own.map fun _ => none)++cap.map fun i => (σ[i]?).getD none
section
variable {X : Cx} {pins : List (Addr × Obj)} {σ : St} {H : Hp} {s : Shared} {scope : Scope} {NB own : List Str} {cap : List Nat} {fp : List Addr} {C : Addr}
theorem Blk.cells (B : Blk X scope NB own cap)(ok : X.Ok){x : Str}{c : Addr}(h : (jz X.env.cells scope.names []).lookup x=some c) : X.env.cells.lookup x=some c ∧ (x, NameKind.free)∈scope.names := by
  rcases fK (zg h) with q | ⟨q, e⟩
  · simp at q
  · obtain ⟨d, hd⟩ := ok.has x (.inl (B.free (x, .free) q rfl))
    have e : c=(X.env.cells.lookup x).getD 0 := e
    rw [hd] at e
    refine ⟨?_, q⟩
    rw [hd, e];rfl
theorem Blk.cell (B : Blk X scope NB own cap)(ok : X.Ok){x : Str}(h : (x, NameKind.free)∈scope.names) : ∃ c, (jz X.env.cells scope.names []).lookup x=some c := cZ (fM h)
theorem Blk.start (B : Blk X scope NB own cap)(I : Inv X pins σ H s)(hf : ∀ b∈fp, jq X pins H b)(hfs : ∀ b∈fp, ∃ o, s.heap.get? b=some o){h' : Heap}{tk : Nat}{m : Str → Option Value}(hC : s.heap.objs.size≤C)
    (k : ∀ b o, s.heap.get? b=some o → h'.get? b=some o) (hn : h'.Ns C m) :
    Inv (cxB X NB own scope C fp s H) [] (stB own cap σ) H { s with heap := h', toks := tk } := by
  have hlen : NB.length=own.length+cap.length := by rw [B.nb];simp
  have okB : (cxB X NB own scope C fp s H).Ok := by
    refine ⟨I.ok.mod, B.kind, I.ok.glob, I.ok.blt, hC, fun x y c h1 h2 => I.ok.inj x y c (B.cells I.ok h1).1 (B.cells I.ok h2).1, fun x hx => ?_, fun x c h1 h2 => ?_, I.ok.hd, I.ok.frames, .inl rfl, fun b hb => ⟨?_, fun x c h => ?_⟩, I.bs, yI I.ok.bsz I.sz, fun b o e hb => ?_, fun b hb z => ?_, I.stack, I.stkFree⟩
    · have : (x, NameKind.free)∈scope.names := by
        rcases hx with z | z
        · exact cB (.inl rfl) B.nocell z
        · exact cB (.inr rfl) B.nocell z
      exact B.cell I.ok this
    · have hx : x∈own := by simpa [cxB] using h1
      have q := B.owns x hx _ (B.cells I.ok h2).2 rfl
      exact absurd q (by simp)
    · obtain ⟨o, e⟩ := hfs b hb
      exact yH (yj (yd e) hC)
    · exact (hf b hb).2.2.2.2.1 x c (B.cells I.ok h).1
    · have hb : b∈fp := hb
      rcases (hf b hb).2.2.2.1 with z | z
      · exact I.ok.noex b o e z
      · exact absurd (yj (yd e) (yI I.ok.bsz z)) (yO _)
    · rcases ye.mp (I.stkSub b z) with z | z
      · exact (hf b hb).2.1 z
      · exact (hf b hb).2.2.1 z
  refine ⟨okB, rfl, I.bare, Un.kept k, ⟨m, hn, fun i x v e1 e2 e3 => ?_⟩, fun x c h => ?_, I.hok.fresh hC, fun x c h => I.freeC x c (B.cells I.ok h).1, fun p hp => absurd (show p∈([] : List (Addr × Obj)) from hp) (by simp), I.hok.kept k, ?_⟩
  · have e1 : NB[i]? = some x := e1
    have hi : ¬ i < own.length := fun hi => by
      unfold stB at e2
      rw [yN (by simpa using hi), xY] at e2
      cases q : own[i]? <;> rw [q] at e2 <;> cases e2
    unfold stB at e2
    rw [y8 (by simpa using hi), xY] at e2
    rw [B.nb, y8 (by omega), xY] at e1
    simp only [fu] at e2
    cases q : cap[i - own.length]? with
    | none => rw [q] at e1;cases e1
    | some j =>
      rw [q] at e1 e2
      have ex : X.N.getD j "" = x := x5 e1
      have ev : (σ[j]?).getD none=some v := x5 e2
      obtain ⟨hj, hjf⟩ := B.caps j (x_ q)
      rw [ex] at hjf
      have hN : X.N[j]? = some x := by rw [← ex, xU, xS hj];rfl
      have hσ : σ[j]? = some (some v) := by
        cases z : σ[j]? with
        | none => rw [z] at ev;cases ev
        | some u => rw [z] at ev;exact yB some ev
      have hmem : (x, NameKind.free)∈scope.names := zg hjf
      have hkc := B.free _ hmem rfl
      obtain ⟨m0, hn0, hl⟩ := I.loc
      obtain ⟨u, r, l⟩ := hl j x v hN hσ (.inr (.inl hkc))
      refine ⟨u, r, .inr ⟨.inl (eD B.outk hkc hjf), ?_⟩⟩
      obtain ⟨c, hc⟩ := B.cell I.ok hmem
      refine ⟨c, hc, ?_⟩
      rcases l with ⟨z, _⟩ | ⟨_, c', hc', ⟨oc, hoc, hd⟩⟩
      · rw [show X.env.kindOf x=some .cell from hkc] at z;cases z
      · have := (B.cells I.ok hc).1
        rw [hc'] at this
        have : c'=c := x5 this
        subst this
        exact ⟨oc, k _ _ hoc, hd⟩
  · obtain ⟨v, oc, hoc, hd⟩ := I.cell x c (B.cells I.ok h).1
    exact ⟨v, oc, k _ _ hoc, hd⟩
  · show (stB own cap σ).length=NB.length
    unfold stB
    rw [hlen];simp
theorem Blk.done (B : Blk X scope NB own cap)(I : Inv X pins σ H s)(hf : ∀ b∈fp, jq X pins H b){σB : St}{H' : Hp}{s' : Shared}{h'' : Heap}{D : Addr}{ys : List V}{its : List Value}{n : Nat}(hC : s.heap.objs.size≤C)(hD : s.heap.objs.size≤D)(hDC : D≠C)
    (J : Inv (cxB X NB own scope C fp s H) [] σB H' s') (hn : H' D=none) (e : s'.heap.get? D=some { cls := .type "list", data := .seq its.toArray n }) (hv : aL ys its) (hz : ys.length≤sizeLine)
    (sb : Heap.SameBut C s'.heap h'') : Inv X pins σ (upd H' D (.lst ys)) { s' with heap := h'' } := by
  have un : Un (frs X.stack) fp H H' s.heap s'.heap := J.base
  have neC : ∀ {b o}, s.heap.get? b=some o → b≠C := fun q => yH (yj (yd q) hC)
  have neD : ∀ {b o}, s.heap.get? b=some o → b≠D := fun q => yH (yj (yd q) hD)
  have hCn : H' C=none := J.free
  refine I.call' (s' := { s' with heap := h'' }) (ch := fp) J.os ⟨fun b o q n hb hx => ?_, fun b o q n hb hx => ?_, fun b o q n hx => ?_, fun b o q hx => ?_, fun b xs q => ?_, fun b o u q => ?_, fun b ps q => ?_⟩ (fun b u q => ?_) J.bare fun b hb => ?_
  · exact (sb.2 b (neC q)).trans (un.keep b o q n hb hx)
  · obtain ⟨sl, r⟩ := un.slot b o q n hb hx
    exact ⟨sl, (sb.2 b (neC q)).trans r⟩
  · rw [ak (neD q)]
    exact un.free b o q n hx
  · obtain ⟨o', r⟩ := un.there b o q hx
    exact ⟨o', (sb.2 b (neC q)).trans r⟩
  · have r := un.tups b xs q
    rw [ak (ah r hn)]
    exact r
  · have r := un.frzs b o u q
    rw [ak (ah r hn)]
    exact r
  · obtain ⟨more, r⟩ := un.tbls b ps q
    exact ⟨more, by rw [ak (ah r hn)];exact r⟩
  · by_cases hb : b=D
    · subst hb
      rw [ab] at q
      cases q
      exact ⟨hz, its, n, hv, (sb.2 b hDC).trans e⟩
    · rw [ak hb] at q
      refine (J.hok b u q).stay (fun c v hc r => (sb.2 c ?_).trans r) (fun c r => ?_) fun c xs r => ?_
      · rcases hc with z | z
        · rw [z];exact ah q hCn
        · exact ah z hCn
      · rw [ak (ah r hn)];exact r
      · rw [ak (ah r hn)];exact r
  · obtain ⟨_, f1, _, f3, f4, f5⟩ := hf b hb
    exact ⟨f3, f1, f4, f5⟩
end
def PIf (X : Cx)(ifs : List Expr)(t : TT) : Prop :=
  ∀ (pins : List (Addr × Obj)) (s : Shared) (σ : St) (H : Hp) (Q : Bool → Hp → Prop), Inv X pins σ H s → t σ H Q →
    wpAny (model X.prog X.w) X.A (forIn ifs true fun c r => if r=true then do let ok ← isTrue c X.env (eval c X.env);pure (ForInStep.yield ok) else pure (ForInStep.yield r)) (TP X pins σ Q) X.xe s
def xD : TT := fun _ H Q => Q true H
theorem aR {X : Cx} : PIf X [] xD := fun _ _ _ H _ I h => wpAny_tests_nil ⟨H, I, h⟩
section
variable {prog : Program} {w : World} {A : Around} {R : Result → Shared → Prop} {s : Shared}
abbrev noE : Value → Shared → Prop := fun _ _ => False
theorem gX {elt tg iter : Expr}{ifs : List Expr}{scope : Scope}{pos : Pos}{it acc : Value}{env : Env}(I : Nat → Shared → Prop)
    (turn : ∀ n s, I n s → wpAny (model prog w) A (pyNext it) (fun r s₁ => match r with
      | none => R (.ok .next) s₁
      | some v => wpAny (model prog w) A (letOwnedTupleGo tg it v) (fun _ s₀ => wpAny (model prog w) A (assign tg env v) (fun _ s₂ =>
          wpAny (model prog w) A (forIn ifs true fun c r => if r=true then do let ok ← isTrue c env (eval c env);pure (ForInStep.yield ok) else pure (ForInStep.yield r)) (fun ok s₃ =>
            if ok=true then wpAny (model prog w) A (eval elt env) (fun x s₄ => wpAny (model prog w) A (call (.builtin "list.append") [acc, x]) (fun _ s₅ => ∃ m, m < n ∧ I m s₅) noE s₄) noE s₃
            else ∃ m, m < n ∧ I m s₃) noE s₂) noE s₀) noE s₁) noE s)
    (n : Nat) (h : I n s) : codeAny (model prog w) A (.compLoop (.ListComp elt [⟨tg, iter, ifs, 0⟩] scope pos) 0 it acc env) R s := by
  refine codeAny_loop rfl I (fun n s hI => ?_) n h
  show wpAny _ A ((compTurn (.ListComp elt [⟨tg, iter, ifs, 0⟩] scope pos) 0 it acc env).onRaise (fun x => do noteFrame x env;theTreesLotGoes x)) _ _ s
  refine wpAny_noted ?_
  rw [compTurn_list]
  refine xR (wpAny_standAt (xR (zt (turn n s hI) (fun r s₁ h₁ => ?_) fun _ _ z => False.elim z)))
  cases r with
  | none => exact x9 h₁
  | some v =>
    refine xR (zt h₁ (fun _ s₀ h₀ => xR (zt h₀ (fun _ s₂ h₂ => xR (zt h₂ (fun ok s₃ h₃ => ?_) fun _ _ z => False.elim z)) fun _ _ z => False.elim z)) fun _ _ z => False.elim z)
    cases ok with
    | false => exact x9 ⟨rfl, h₃⟩
    | true => exact xR (xR (zt h₃ (fun x s₄ h₄ => xR (zt h₄ (fun _ s₅ h₅ => x9 (x9 ⟨rfl, h₅⟩)) fun _ _ z => False.elim z)) fun _ _ z => False.elim z))
end
def ou (own : List Str)(cap : List Nat)(g : TG)(ti : TT)(te : TE)(Q : VK)(σ : St)(J : It)(H1 : Hp) : Prop := ∃ W : Nat → Nat → List V → St → Hp → Prop, (∃ m, W 0 m [] (stB own cap σ) H1) ∧ ∀ i m ys σ H, W i m ys σ H →
  (J.stop i H ∧ ys.length≤sizeLine ∧ ∀ D, H D=none → Q (.ref D) (upd H D (.lst ys))) ∨
  (J.go i H ∧ ys.length < sizeLine ∧ ∀ x H', J.yld i H x H' → g x σ H' fun σ2 H2 => ti σ2 H2 fun b H3 => if b=true then te σ2 H3 fun y H4 => ∃ m', m' < m ∧ W (i+1) m' (ys++[y]) σ2 H4 else ∃ m', m' < m ∧ W (i+1) m' ys σ2 H3)
def tY (own : List Str)(cap : List Nat)(wi : TI)(g : TG)(ti : TT)(te : TE) : TE := fun σ H Q => wi σ H fun J H1 => ou own cap g ti te Q σ J H1
theorem bz {X : Cx}{elt iter tg : Expr}{ifs : List Expr}{scope : Scope}{pos : Pos}{NB own : List Str}{cap : List Nat}{wi : TI}{g : TG}{ti : TT}{te : TE}(B : Blk X scope NB own cap)(hc : X.calm=true)(hi : PI X tg iter wi)
    (hg : ∀ C fp s₀ H₀, PG (cxB X NB own scope C fp s₀ H₀) tg g) (ht : ∀ C fp s₀ H₀, PIf (cxB X NB own scope C fp s₀ H₀) ifs ti) (he : ∀ C fp s₀ H₀, PE (cxB X NB own scope C fp s₀ H₀) elt te)
    (hs : ∀ x, foldedSetIterable iter X.env x=pure x := by intro _;rfl) : PE X (.ListComp elt [⟨tg, iter, ifs, 0⟩] scope pos) (tY own cap wi g ti te) := by
  intro pins s σ H Q I0 h
  rw [eval_ListComp]
  have hclos := c3 (env := X.env) (scope := scope) fun y hy e => I0.ok.has y.1 (.inl (B.free y hy e))
  refine BE (use := none) rfl hs hclos B.kind B.names (thn (hi pins s σ H _ I0 h) fun v s1 h1 => thn h1 fun itv s2 h2 => ?_)
  obtain ⟨it, fp, tn, J, H2, rfl, I, T, st2, f2, W, ⟨m0, w0⟩, turn⟩ := h2
  refine wpAny_newList ?_
  refine wpAny_newFunctionEnv B.nocell (by intro y hy;simp at hy) (fun h₁ hns₁ hsb₁ => ?_) B.kind
  dsimp only at hns₁ hsb₁ ⊢
  generalize hP : s2.heap.push { cls := .type "list", dict := none, data := .seq ([] : List Value).toArray }=P at hns₁ hsb₁ ⊢
  have hC : P.objs.size=s2.heap.objs.size+1 := by rw [← hP, Bv]
  have hDC : s2.heap.objs.size≠P.objs.size := by rw [hC];exact yH (A0 _)
  have hCle : s2.heap.objs.size≤P.objs.size := by rw [hC];exact BO _
  have old : ∀ b o, s2.heap.get? b=some o → h₁.get? b=some o := fun b o e => by
    refine (hsb₁.2 b ?_).trans (xW _ (hP ▸ xW _ e))
    exact yH (yj (yd e) hCle)
  have hD : h₁.get? s2.heap.objs.size=some { cls := .type "list", data := .seq ([] : List Value).toArray 0 } := by
    refine (hsb₁.2 _ hDC).trans (xW _ ?_)
    rw [← hP]
    exact ya _ rfl
  have hfs : ∀ b∈fp, ∃ o, s2.heap.get? b=some o := fun b hb => let ⟨o, e, _⟩ := T.obj _ _ st2 b hb;⟨o, e⟩
  have st4 : tn 0 h₁ := T.keep _ _ _ st2 fun b _ o e => old b o e
  generalize htk : s2.toks+([] : List (Str × Value)).length=tk4
  have I4 := B.start (C := P.objs.size) (tk := tk4) I f2 hfs hCle old hns₁
  have fOk : ∀ {H' : Hp} {b : Addr} {ob : Obj}, b∈fp → H' b=none → jq (cxB X NB own scope P.objs.size fp s2 H2) [(s2.heap.objs.size, ob)] H' b := fun {H' b ob} hb hn => by
    obtain ⟨o, e⟩ := hfs b hb
    refine ⟨hn, (I4.ok.exf b hb).1, I4.ok.exfs b hb, .inl hb, (I4.ok.exf b hb).2, fun p hp => ?_⟩
    have ep : p=(s2.heap.objs.size, ob) := x4.mp (show p∈[(s2.heap.objs.size, ob)] from hp)
    rw [ep]
    exact fun z => absurd (yd e) (by rw [← z];exact yO _)
  have dnf : s2.heap.objs.size∉frs X.stack := fun z => by
    rcases ye.mp (I.stkSub _ z) with z | z
    · exact absurd I.lt (by rw [← z];exact yO _)
    · exact I.nofs (xT _) z
  have I3D : ∀ {σ3 : St} {H3 : Hp} {s3 : Shared} {its : List Value} {k : Nat}, Inv (cxB X NB own scope P.objs.size fp s2 H2) [] σ3 H3 s3 → s3.heap.get? s2.heap.objs.size=some { cls := .type "list", data := .seq its.toArray k } → H3 s2.heap.objs.size=none →
      Inv (cxB X NB own scope P.objs.size fp s2 H2) [(s2.heap.objs.size, { cls := .type "list", data := .seq its.toArray k })] σ3 H3 s3 := fun I3 e n => I3.pins_of fun p hp => by
    have ep := x4.mp hp
    subst ep
    exact ⟨e, n, hDC, dnf, fun v z => by cases z⟩
  have ndf : s2.heap.objs.size∉fp := fun z => by
    obtain ⟨o, e⟩ := hfs _ z
    exact absurd (yd e) (yO _)
  have nCD : ∀ x c, (cxB X NB own scope P.objs.size fp s2 H2).env.cells.lookup x=some c → c≠s2.heap.objs.size := fun x c e z => by
    obtain ⟨v, o, ho, _⟩ := I.cell x c (B.cells I.ok e).1
    rw [z] at ho
    exact absurd (yd ho) (yO _)
  have loop : ∀ s₃ : Shared, s₃ = { s2 with heap := h₁, toks := tk4 } → codeAny (model X.prog X.w) X.A (.compLoop (.ListComp elt [⟨tg, iter, ifs, 0⟩] scope pos) 0 (.ref it) (.ref s2.heap.objs.size) (cxB X NB own scope P.objs.size fp s2 H2).env)
      (compPost (model X.prog X.w) X.A X.xe none (EP X pins σ Q) (.ref s2.heap.objs.size) P.objs.size) s₃ := by
    rintro s₃ rfl
    refine gX (fun n s' => ∃ i σB H' ys its k, Inv (cxB X NB own scope P.objs.size fp s2 H2) [] σB H' s' ∧ tn i s'.heap ∧ (∀ b∈fp, H' b=none) ∧ s'.heap.get? s2.heap.objs.size=some { cls := .type "list", data := .seq (its : List Value).toArray k } ∧ aL ys its ∧ H' s2.heap.objs.size=none ∧ W i n ys σB H') ?_ m0
      ⟨0, stB own cap σ, H2, [], [], 0, I4, st4, fun b hb => (f2 b hb).1, hD, .nil, I.hok.fresh (xT _), w0⟩
    rintro n s3 ⟨i, σ3, H3, ys, its, k, I3, st3, fr3, hD3, rv, hn3, w3⟩
    rcases turn i n ys σ3 H3 w3 with ⟨stop, hz, q⟩ | ⟨go, hz, step⟩
    · refine thn (T.done (cxB X NB own scope P.objs.size fp s2 H2) rfl rfl rfl hc i _ s3 σ3 H3 noE (I3D I3 hD3 hn3) (fun b hb => fOk hb (fr3 b hb)) st3 stop) fun r s4 zq1 => ?_
      obtain ⟨hr, I4'⟩ := zq1
      subst hr
      have hD4 : s4.heap.get? s2.heap.objs.size=some { cls := .type "list", data := .seq (its : List Value).toArray k } := (I4'.pin (s2.heap.objs.size, _) (x6 _ (x4.mpr rfl))).1
      have I5 : Inv (cxB X NB own scope P.objs.size fp s2 H2) [] σ3 H3 s4 := I4'.pins_of fun p hp => absurd (show p∈([] : List (Addr × Obj)) from hp) (by simp)
      obtain ⟨mC, hnC, _⟩ := I5.loc
      exact ⟨mC, hnC, fun h'' sb => ⟨.ref s2.heap.objs.size, _, B.done I f2 hCle (xT _) hDC I5 hn3 hD4 rv hz sb, rfl, q _ hn3⟩⟩
    · refine thn (T.item (cxB X NB own scope P.objs.size fp s2 H2) rfl rfl rfl hc i _ s3 σ3 H3 noE (I3D I3 hD3 hn3) (fun b hb => fOk hb (fr3 b hb)) st3 go) fun r s4 zq2 => ?_
      obtain ⟨u, hr, h4⟩ := zq2
      subst hr
      refine thn h4 fun _ s5 zq3 => ?_
      obtain ⟨x, H5, I5, r5, y5, st5, fr5⟩ := zq3
      have I5' := I5.pinned (fun b hb => fOk hb (fr5 b hb)) (T.obj _ _ st5)
      refine thn (hg _ fp s2 H2 _ s5 σ3 H5 x u _ I5' r5 (step x H5 y5)) fun _ s6 zq4 => ?_
      obtain ⟨σ6, H6, I6, q6⟩ := zq4
      refine thn (ht _ fp s2 H2 _ s6 σ6 H6 _ I6 q6) fun b s7 zq5 => ?_
      obtain ⟨H7, I7, q7⟩ := zq5
      have pinned : ∀ {σ8 : St} {H8 : Hp} {s8 : Shared}, Inv (cxB X NB own scope P.objs.size fp s2 H2) ([(s2.heap.objs.size, { cls := .type "list", data := .seq (its : List Value).toArray k })]++ff fp s5.heap) σ8 H8 s8 →
          tn (i+1) s8.heap ∧ (∀ b∈fp, H8 b=none) ∧ s8.heap.get? s2.heap.objs.size=some { cls := .type "list", data := .seq (its : List Value).toArray k } ∧ H8 s2.heap.objs.size=none := fun {σ8 H8 s8} I8 => by
        refine ⟨T.keep _ _ _ st5 fun b hb o e => (I8.pin (b, o) (x6 _ (x6 _ (bN hb e)))).1, fun b hb => ?_, ?_, ?_⟩
        · obtain ⟨o, e, d⟩ := T.obj _ _ st5 b hb
          exact (I8.pin (b, o) (x6 _ (x6 _ (bN hb e)))).2.1
        · exact (I8.pin (s2.heap.objs.size, _) (x6 _ (yE _ (x4.mpr rfl)))).1
        · exact (I8.pin (s2.heap.objs.size, _) (x6 _ (yE _ (x4.mpr rfl)))).2.1
      have nopin : ∀ {pp : List (Addr × Obj)} {σ8 : St} {H8 : Hp} {s8 : Shared}, Inv (cxB X NB own scope P.objs.size fp s2 H2) pp σ8 H8 s8 → Inv (cxB X NB own scope P.objs.size fp s2 H2) [] σ8 H8 s8 := fun I8 => I8.pins_of fun p hp => absurd (show p∈([] : List (Addr × Obj)) from hp) (by simp)
      cases b with
      | false =>
        rw [if_neg yc] at q7 ⊢
        obtain ⟨m', hm, w7⟩ := q7
        obtain ⟨p1, p2, p3, p4⟩ := pinned I7
        exact ⟨m', hm, i+1, σ6, H7, ys, its, k, nopin I7, p1, p2, p3, rv, p4, w7⟩
      | true =>
        rw [if_pos rfl] at q7 ⊢
        refine thn (he _ fp s2 H2 _ s7 σ6 H7 _ I7 q7) fun yv s8 zq6 => ?_
        obtain ⟨y, H8, I8, r8, m', hm, w8⟩ := zq6
        obtain ⟨p1, p2, p3, p4⟩ := pinned I8
        refine Af yV ⟨_, p3, rfl⟩ Bh (A5 _ _) (BD s2.heap.objs.size its.toArray k yv (by rw [x8, ← rv.length];omega)) ⟨p3, ?_⟩
        have q := BR p3 fun a => a.push yv
        have ea : its.toArray.push yv=(its++[yv]).toArray := by simp
        rw [ea] at q
        have I9 : Inv (cxB X NB own scope P.objs.size fp s2 H2) [] σ6 H8 { s8 with heap := s8.heap.update s2.heap.objs.size (Obj.mapSeq fun a => a.push yv), toks := s8.toks } :=
          (nopin I8).turned (it := s2.heap.objs.size) (fun b o hb e => (yT s8.heap _ (Ne.symm hb)).trans e) p4 hDC (.inr (xT _)) (fun x c e => nCD x c e) fun p hp => absurd (show p∈([] : List (Addr × Obj)) from hp) (by simp)
        refine ⟨m', hm, i+1, σ6, H8, ys++[y], its++[yv], _, I9, ?_, p2, q, rv.append (.cons r8 .nil), p4, w8⟩
        refine T.keep _ _ _ p1 fun b hb o e => (yT s8.heap _ ?_).trans e
        intro z
        rw [z] at ndf
        exact ndf hb
  exact codeAny_compStart_list (loop _ rfl) (T.self X.A 0 _ _ _ st4 (loop _ rfl))
theorem bH {own : List Str}{cap : List Nat}{J : It}{g : TG}{ti : TT}{te : TE}{σ : St}{H : Hp}{Q : VK}(n : Nat)(Pv : Nat → List V → St → Hp → Prop)(h0 : Pv 0 [] (stB own cap σ) H)(hz : ∀ i ys σ H, i≤n → Pv i ys σ H → ys.length≤i)(hn : n≤sizeLine)
    (hgo : ∀ i ys σ H, i < n → Pv i ys σ H → J.go i H) (hst : ∀ ys σ H, Pv n ys σ H → J.stop n H)
    (hs : ∀ i ys σ H x H' (N : List V → St → Hp → Prop), i < n → Pv i ys σ H → J.yld i H x H' → (∀ ys' σ' H'', Pv (i+1) ys' σ' H'' → N ys' σ' H'') → g x σ H' fun σ2 H2 => ti σ2 H2 fun b H3 => if b=true then te σ2 H3 fun y H4 => N (ys++[y]) σ2 H4 else N ys σ2 H3)
    (hd : ∀ ys σ H D, Pv n ys σ H → H D=none → Q (.ref D) (upd H D (.lst ys))) :
    ou own cap g ti te Q σ J H := by
  refine ⟨fun i m ys σ H => m=n - i ∧ i≤n ∧ Pv i ys σ H, ⟨n, by simp, yQ _, h0⟩, ?_⟩
  rintro i m ys σ H ⟨rfl, hi, p⟩
  have hl := hz i ys σ H hi p
  by_cases hlt : i < n
  · refine .inr ⟨hgo i ys σ H hlt p, by omega, fun x H' y => ?_⟩
    exact hs i ys σ H x H' (fun ys' σ' H'' => ∃ m', m' < n - i ∧ m'=n - (i+1) ∧ i+1≤n ∧ Pv (i+1) ys' σ' H'') hlt p y fun ys' σ' H'' q => ⟨n - (i+1), by omega, rfl, hlt, q⟩
  · have e : i=n := by omega
    subst e
    exact .inl ⟨hst ys σ H p, by omega, fun D hD => hd ys σ H D p hD⟩
end L2
namespace L2
open PySem PySem.Spec PyProof.Rows
def Its (z : Str) : It := ⟨fun i _ => i < z.cps.size, fun i H x H' => H'=H ∧ ∃ c, z.cps[i]? = some c ∧ x = .str ⟨#[c]⟩, fun i _ => i=z.cps.size⟩
theorem cn {P : Program}{w : World}{K : PySem.W.Frag}{tg : Expr}{it n : Nat}{Pv : Nat → Value → Prop}{st : Nat → Heap → Prop}{J : It}{T : String}{fl : Nat → Array Value}
    (W : ∀ A : Around, A.handled=none → Walks P w A it [it] [it] n Pv st) (hst : ∀ i h, st i h → ∃ o, h.get? it=some o ∧ o.cls = .type T ∧ o.data = .fields (fl i))
    (hT : ["enumerate", "zip", "dict_itemiterator", "dict_reverseitemiterator", "odict_iterator", "itertools.zip_longest", "itertools.pairwise"].contains T=false)
    (hgo : ∀ i H, J.go i H → i < n) (hstop : ∀ i H, J.stop i H → i=n) (hy : ∀ i H u, J.go i H → Pv i u → ∃ x, bf x u ∧ J.yld i H x H)
    (hself : ∀ (A : Around) (i : Nat) (s : Shared) (Q : Value → Shared → Prop) (E : Value → Shared → Prop), st i s.heap → Q (.ref it) s → wpAny (model P w) A (pyIter (.ref it)) Q E s) : pY P w K tg J [it] it st where
  mem := by simp
  obj := fun i h s b hb => by
    have e : b=it := by simpa using hb
    subst e
    obtain ⟨o, e, c, d⟩ := hst i h s
    exact ⟨o, e, fun v z => by rw [d] at z;cases z⟩
  keep := fun i h h' s k => (W {} rfl).frame i h h' s k
  item := by
    intro X hP hw hK hc i pins s σ H E I hf s0 hg
    subst hP hw hK
    obtain ⟨f0, f1, f2, f3, f4, f5⟩ := hf it (by simp)
    refine (W X.A (I.ok.hd hc)).item i s _ _ (hgo i H hg) s0 fun v h' tk hv st' kk => ?_
    have I1 : Inv X pins σ H { s with heap := h', toks := tk } := I.turned (fun b o hb e => kk b o (by simpa using hb) e) f0 f1 f3 f4 f5
    obtain ⟨o, e, c, d⟩ := hst _ _ st'
    obtain ⟨x, rx, yx⟩ := hy i H v hg hv
    exact ⟨v, rfl, nV (s := { s with heap := h', toks := tk }) e c d hT ⟨x, H, I1, rx, yx, st', fun b hb => (hf b hb).1⟩⟩
  done := by
    intro X hP hw hK hc i pins s σ H E I hf s0 hg
    subst hP hw hK
    obtain ⟨f0, f1, f2, f3, f4, f5⟩ := hf it (by simp)
    have e := hstop i H hg
    subst e
    exact (W X.A (I.ok.hd hc)).done s _ _ s0 fun h' tk kk => ⟨rfl, I.turned (fun b o hb e => kk b o (by simpa using hb) e) f0 f1 f3 f4 f5⟩
  self := hself
section
variable {X : Cx} {tg : Expr}
def xE (tl : TE) : TI := fun σ H R => tl σ H fun x H1 => ∃ z, x = .str z ∧ R (Its z) H1
theorem lF {z : Str}{i : Nat}{H : Hp}{u : Value}(h : SignAt z i u) : ∃ x, bf x u ∧ (Its z).yld i H x H := by
  obtain ⟨c, t, e, rfl⟩ := h
  exact ⟨.str ⟨#[c]⟩, ⟨t, rfl⟩, rfl, c, e, rfl⟩
theorem eE {l : Expr}{tl : TE}(hl : PE X l tl) : PI X tg l (xE tl) := by
  intro pins s σ H R I h
  refine thn (hl pins s σ H _ I h) fun v s1 zq1 => ?_
  obtain ⟨x, H1, I1, r1, q1⟩ := zq1
  obtain ⟨z, rfl, q⟩ := q1
  obtain ⟨t, rfl⟩ := r1
  have fp : ∀ b∈[s1.heap.objs.size], jq X pins H1 b := fun b hb => by
    have e : b=s1.heap.objs.size := by simpa using hb
    subst e
    exact I1.fpOk (xT _) (I1.hok.fresh (xT _))
  cases ha : z.cps.all (· < 128)
  · refine wpAny_pyIter_wide ha ⟨s1.heap.objs.size, [s1.heap.objs.size], _, Its z, H1, rfl, I1.kept (t' := s1.toks) fun b o e => xW _ e,
      cn (T := "str_iterator") (fl := fun i => #[.str z t, .int i 0]) (fun A hh => Walks.strWide hh _ z t) (fun i h st => st) (by decide) (fun i H g => g) (fun i H g => g) (fun i H u _ hu => lF hu) (fun A i s Q E st h => wpAny_pyIter_striter_wide st h), ⟨_, ya _ rfl, rfl, rfl⟩, fp, q⟩
  · refine wpAny_pyIter_ascii ha ⟨s1.heap.objs.size, [s1.heap.objs.size], _, Its z, H1, rfl, I1.kept (t' := s1.toks) fun b o e => xW _ e,
      cn (T := "str_ascii_iterator") (fl := fun i => #[.str z t, .int i 0]) (fun A hh => Walks.strAscii hh _ z t) (fun i h st => st) (by decide) (fun i H g => g) (fun i H g => g) (fun i H u _ hu => lF hu) (fun A i s Q E st h => wpAny_pyIter_striter_ascii st h), ⟨_, ya _ rfl, rfl, rfl⟩, fp, q⟩
inductive w9 (x : V)(lo : Option Int)(hi : Option Int)(H : Hp)(Q : VK) : Prop
  | mk : ∀ z, (x = .str z) → (z.length≤sizeLine) → (Q (.str (Txt.slice z lo hi)) H) → w9 x lo hi H Q
theorem bU : SlR X w9 := by
  intro pins s σ H x v vl vu lo hi sl Q I rx hs pl pu h
  obtain ⟨z, rfl, hz, q⟩ := h
  obtain ⟨t, rfl⟩ := rx
  have fin : ∀ (lo hi : Option Int), Q (.str (Txt.slice z lo hi)) H → ∀ t' k, EP X pins σ Q (.str (Txt.slice z lo hi) t') { s with toks := k } := fun lo hi q t' k => ⟨.str _, H, I.tok _, ⟨_, rfl⟩, q⟩
  refine ⟨"str", _, F.slot_str_getitem.lookup, Ak _ _ _, ?_⟩
  cases pl with
  | none =>
    cases pu with
    | none => exact zx (l := none) (u := none) (st := none) hs rfl (Ax ⟨yI (AR z _ _) hz, fun t' k => fin _ _ q t' k⟩)
    | int j uj => exact zx (l := none) (u := some (j, uj)) (st := none) hs rfl (Ax ⟨yI (AR z _ _) hz, fun t' k => fin _ _ q t' k⟩)
  | int i ui =>
    cases pu with
    | none => exact zx (l := some (i, ui)) (u := none) (st := none) hs rfl (Ax ⟨yI (AR z _ _) hz, fun t' k => fin _ _ q t' k⟩)
    | int j uj => exact zx (l := some (i, ui)) (u := some (j, uj)) (st := none) hs rfl (Ax ⟨yI (AR z _ _) hz, fun t' k => fin _ _ q t' k⟩)
inductive qb (x : V)(vs : List V)(H : Hp)(Q : VK) : Prop
  | mk : ∀ z, (x = .str z) → (vs=[]) → (z.length≤5592405) → (Q (.str (Txt.upper z)) H) → qb x vs H Q
inductive qc (x : V)(vs : List V)(H : Hp)(Q : VK) : Prop
  | mk : ∀ z, (x = .str z) → (vs=[]) → (z.length≤5592405) → (Q (.str (Txt.lower z)) H) → qc x vs H Q
theorem ow : MtR X "str.upper" qb := by
  intro pins s σ H x vs v us Q I rx rv h
  obtain ⟨z, rfl, rfl, hz, q⟩ := h
  obtain ⟨t, rfl⟩ := rx
  cases rv
  exact SCL.upper hz fun _ => ⟨.str _, H, I.tok _, ⟨_, rfl⟩, q⟩
theorem c4 : MtR X "str.lower" qc := by
  intro pins s σ H x vs v us Q I rx rv h
  obtain ⟨z, rfl, rfl, hz, q⟩ := h
  obtain ⟨t, rfl⟩ := rx
  cases rv
  exact SCL.lower hz fun _ => ⟨.str _, H, I.tok _, ⟨_, rfl⟩, q⟩
theorem cJ : ∀ {ys : List Str} {us : List Value}, aL (ys.map V.str) us → StrsAre us ys
  | [], _, r => by
    rw [Br] at r
    cases r
    exact .nil
  | y::ys, us, r => by
    rw [yk] at r
    cases r with
    | cons r1 r2 =>
      obtain ⟨t, e⟩ := r1
      subst e
      exact .cons y t (cJ r2)
inductive tZ (K : PySem.W.Frag)(x : V)(vs : List V)(H : Hp)(Q : VK) : Prop
  | mk : ∀ z p ys, (x = .str z) → (vs=[.ref p]) → (SqL K H p (ys.map V.str)) → ((ys.map (·.length)).sum+ys.length*z.length≤16777216) → (Q (.str (Txt.join z ys)) H) → tZ K x vs H Q
theorem de : MtR X "str.join" (tZ X.K) := by
  intro pins s σ H x vs v us Q I rx rv h
  obtain ⟨z, p, ys, rfl, rfl, hq, hz, q⟩ := h
  obtain ⟨t, rfl⟩ := rx
  obtain ⟨u, rfl, ru⟩ := cx rv
  cases ru
  obtain ⟨its, r, pl, _⟩ := I.list hq
  exact join_list pl.isList (by simpa using cJ r) hz fun t' k => ⟨.str _, H, I.tok _, ⟨_, rfl⟩, q⟩
inductive dF  (x : V)(y : V)(H : Hp)(Q : VK) : Prop
  | mk : ∀ z n, (x = .str z) → (y = .int n) → (MulOk z n) → (Q (.str (Txt.mul z n)) H) → dF x y H Q
theorem dg : OpR X (binaryOp .Mult) dF := by
  intro pins s σ H x y v u Q I rx ry h
  obtain ⟨z, n, rfl, rfl, hz, q⟩ := h
  obtain ⟨t, rfl⟩ := rx
  obtain ⟨t', rfl⟩ := ry
  exact SB.mul hz fun t' k => ⟨.str _, H, I.tok _, ⟨_, rfl⟩, q⟩
end
theorem eF {z : Str}{g : TG}{tb : TS}{D : fc}{σ : St}{H : Hp}(Pv : Nat → St → Hp → Prop)(h0 : Pv 0 σ H)
    (hs : ∀ i c σ H, z.cps[i]? = some c → Pv i σ H → g (.str ⟨#[c]⟩) σ H fun σ2 H2 => tb { D with nx := Pv (i+1), ct := Pv (i+1), bk := D.nx } σ2 H2) (hd : ∀ σ H, Pv z.cps.size σ H → D.nx σ H) :
    ∃ W : Nat → Nat → St → Hp → Prop, (∃ m, W 0 m σ H) ∧ ∀ i m σ H, W i m σ H →
      ((Its z).stop i H ∧ D.nx σ H) ∨ ((Its z).go i H ∧ ∃ N : St → Hp → Prop, (∀ σ' H', N σ' H' → ∃ m', m' < m ∧ W (i+1) m' σ' H') ∧ ∀ x H', (Its z).yld i H x H' → g x σ H' fun σ2 H2 => tb { D with nx := N, ct := N, bk := D.nx } σ2 H2) := by
  refine ⟨fun i m σ H => m=z.cps.size - i ∧ i≤z.cps.size ∧ Pv i σ H, ⟨z.cps.size, by simp, yQ _, h0⟩, ?_⟩
  rintro i m σ H ⟨rfl, hi, p⟩
  by_cases hlt : i < z.cps.size
  · refine .inr ⟨hlt, Pv (i+1), fun σ' H' p' => ⟨z.cps.size - (i+1), by omega, rfl, hlt, p'⟩, fun x H' y => ?_⟩
    obtain ⟨e, c, hc, ex⟩ := y
    subst e ex
    exact hs i c σ _ hc p
  · have e : i=z.cps.size := by omega
    subst e
    exact .inl ⟨rfl, hd σ H p⟩
end L2
namespace PySem
open Sem (wp)
open Builtin Builtin.SmallTypes
namespace F
theorem lookup_str_reversed : typeLookup (.type "str") "__reversed__" = pure none := by rw [Bi, z9]; kernel_rfl
theorem fN : Slot "reversed" "__init__" "object.__init__" :=
  .of (owner := "object") (n := "__init__") (by rw [Bi, z9];kernel_rfl) (by decide +kernel) (by decide +kernel) (by decide +kernel)
    (by first | exact .inl (by decide +kernel) | exact .inr (by decide +kernel)) (by rw [Bw];kernel_rfl)
theorem called_rvs : TypeCalled "reversed" "reversed.__new__" "object.__init__" :=
  ⟨by decide +kernel, create_reversed, ⟨_, _, mro_reversed⟩, made_reversed, plain_reversed_new, sub_reversed_self, fN⟩
end F
set_option maxHeartbeats 1000000 in
theorem lG (x : Str)(t : Tok) : Meets (Builtin.«reversed.__new__» ⟨[.type "reversed", .str x t], []⟩) (fun _ R s => ¬ (x.length : Int)≥2 ^ 63 ∧
      ∀ tk, R (.ok (.ret (.ref s.heap.objs.size))) { s with heap := s.heap.push { cls := .type "reversed", data := .fields #[.str x t, rawInt ((x.length : Int) - 1)] }, toks := tk }) :=
  .of_wp fun prog w A R s h => by
    obtain ⟨hx, h⟩ := h
    unfold Builtin.«reversed.__new__»
    refine xR (AH (newClass_reversed _) ?_)
    try dsimp only
    refine xR (AH (a := ()) (by first | rfl | kernel_rfl) ?_)
    refine xR (AH (a := ()) (by first | rfl | kernel_rfl) ?_)
    try dsimp only
    refine xR (z8 (Ak s x t) F.lookup_str_reversed ?_)
    try dsimp only
    refine xR ?_
    have hl := F.slot_str_getitem.lookup
    have hT := Ak s x t
    have hD : isSubtype (.type "str") (.type "dict")=pure false := by rw [Bw];kernel_rfl
    repeat (any_goals (first | assumption | refine PySem.P.len_str hx ?_ | wp_step))
    exact ⟨_, rfl, h _⟩
def Heap.IsRvs (h : Heap)(a : Addr)(x : Str)(t : Tok)(i : Int) : Prop := ∃ o, h.get? a=some o ∧ o.cls = .type "reversed" ∧ o.data = .fields #[.str x t, rawInt i]
theorem Heap.IsRvs.typeIs {s : Shared}{a : Addr}{x : Str}{t : Tok}{i : Int}(y : s.heap.IsRvs a x t i) : s.TypeIs (.ref a) "reversed" := let ⟨o, ho, hc, _⟩ := y; ⟨o, ho, hc⟩
namespace F
theorem slot_rvs_next : Slot "reversed" "__next__" "reversed.__next__" :=
  .of (owner := "reversed") (n := "__next__") (by rw [Bi, z9];kernel_rfl) (by decide +kernel) (by decide +kernel) (by decide +kernel)
    (by first | exact .inl (by decide +kernel) | exact .inr (by decide +kernel)) (by rw [Bw];kernel_rfl)
theorem entry_rvs_next : entryFor table "reversed.__next__" = some Builtin.«reversed.__next__» := entryFor_of_tree (by kernel_rfl)
theorem args_rvs_next (a : Value) : argsOk "reversed.__next__" ⟨[a], []⟩ := by unfold argsOk; kernel_rfl
theorem slot_rvs_iter : Slot "reversed" "__iter__" "reversed.__iter__" :=
  .of (owner := "reversed") (n := "__iter__") (by rw [Bi, z9];kernel_rfl) (by decide +kernel) (by decide +kernel) (by decide +kernel)
    (by first | exact .inl (by decide +kernel) | exact .inr (by decide +kernel)) (by rw [Bw];kernel_rfl)
theorem args_rvs_iter (a : Value) : argsOk "reversed.__iter__" ⟨[a], []⟩ := by unfold argsOk; kernel_rfl
theorem entry_rvs_iter : entryFor table "reversed.__iter__" = some Builtin.«dict_keyiterator.__iter__» :=
  entryFor_alias (id' := "dict_keyiterator.__iter__") (by kernel_rfl) rfl (by decide +kernel) (by kernel_rfl)
end F
section
variable {prog : Program} {w : World} {A : Around} {E : Value → Shared → Prop} {s : Shared} {x : Str} {t : Tok}
theorem gY {Q : Value → Shared → Prop}(hx : ¬ (x.length : Int)≥2 ^ 63)
    (h : ∀ tk, Q (.ref s.heap.objs.size) { s with heap := s.heap.push { cls := .type "reversed", data := .fields #[.str x t, rawInt ((x.length : Int) - 1)] }, toks := tk }) : wpAny (model prog w) A (call (.type "reversed") [.str x t]) Q E s :=
  callType_new F.called_rvs (by decide) (F.typeCall_reversed_1 _) (F.newCall_reversed_1 _) (fun obj => F.args_object_init_2 obj _) F.entry_reversed_new (lG x t) ⟨hx, fun tk => ⟨⟨_, ya _ rfl, rfl⟩, h tk⟩⟩
theorem fO {it : Addr}{i : Int}{Q : Value → Shared → Prop}(hit : s.heap.IsRvs it x t i)(h : Q (.ref it) s) : wpAny (model prog w) A (pyIter (.ref it)) Q E s := by
  refine wpAny_pyIter_slot hit.typeIs F.slot_rvs_iter (yZ F.slot_rvs_iter hit.typeIs F.entry_rvs_iter ?_ (F.args_rvs_iter _))
  show wpAny _ _ (ret (.ref it)) _ _ s
  exact x9 ⟨_, rfl, "reversed", _, hit.typeIs, F.slot_rvs_next.lookup, h⟩
theorem fP {it : Addr}{i : Nat}{c : Nat}{Q : Option Value → Shared → Prop}(hit : s.heap.IsRvs it x t (i : Int))(hx : x.cps[i]? = some c)(h63 : (i : Int) < 2 ^ 63)
    (hQ : ∀ h' tk u, h'.IsRvs it x t ((i : Int) - 1) → Heap.SameBut it s.heap h' → Q (some (.str ⟨#[c]⟩ u)) { s with heap := h', toks := tk }) : wpAny (model prog w) A (pyNext (.ref it)) Q E s := by
  obtain ⟨o, ho, hc, hd⟩ := id hit
  unfold pyNext
  refine xR (Ay (yM (name := Str.ofString "__next__") hit.typeIs F.slot_rvs_next
    (yZ F.slot_rvs_next hit.typeIs F.entry_rvs_next ?_ (F.args_rvs_next _))))
  unfold Builtin.«reversed.__next__»
  refine xR (AH (a := (Value.ref it, [])) rfl ?_)
  try dsimp only
  refine xR (zh ho hd (x := .str x t) rfl ?_)
  refine xR (zh ho hd (x := rawInt (i : Int)) rfl ?_)
  show wpAny _ _ (if (i : Int) < 0 then _ else _) _ _ s
  rw [if_neg (by omega)]
  refine xR (z8 (Ak s x t) F.slot_str_getitem.lookup ?_)
  show wpAny _ _ (if (some (Value.builtin "str.__getitem__")).isNone=true then _ else _) _ _ s
  rw [if_neg (by decide)]
  refine xR (wpAny_mkInt ?_)
  have hlt : i < x.length := by
    have := zH.mp hx
    exact this.1
  refine xR (Ay (PySem.P.getItem_str (c := c) ?_ ?_ ?_))
  · have e1 : decide ((i : Int) < -(2 ^ 63 : Int))=false := yy (by omega)
    have e2 : decide ((i : Int)≥2 ^ 63)=false := yy (by omega)
    rw [e1, e2, Cf]
  · rw [PySem.StrLaws.seqIndex_nonneg (by omega) (by omega)]
    simpa using hx
  try dsimp only
  refine xR (zh ho hd (x := rawInt (i : Int)) rfl ?_)
  show wpAny _ _ (setField (.ref it) 1 (rawInt ((i : Int) - 1)) >>= _) _ _ _
  refine xR (zZ ho hd (by simp) ?_)
  refine x9 ⟨_, rfl, x9 (hQ _ _ _ ?_ (zT ..))⟩
  exact ⟨_, zK _ ho (z_ (zc hd _)), (BF ..).trans hc, by
    rw [zc hd];simp⟩
theorem gZ {it : Addr}{Q : Option Value → Shared → Prop}(hh : A.handled=none)(hit : s.heap.IsRvs it x t (-1))
    (hQ : ∀ h', (∀ b o, b≠it → s.heap.get? b=some o → h'.get? b=some o) → Q none { s with heap := h' }) : wpAny (model prog w) A (pyNext (.ref it)) Q E s := by
  obtain ⟨o, ho, hc, hd⟩ := id hit
  unfold pyNext
  refine xR (Ay (yM (name := Str.ofString "__next__") hit.typeIs F.slot_rvs_next
    (yZ F.slot_rvs_next hit.typeIs F.entry_rvs_next ?_ (F.args_rvs_next _))))
  unfold Builtin.«reversed.__next__»
  refine xR (AH (a := (Value.ref it, [])) rfl ?_)
  try dsimp only
  refine xR (zh ho hd (x := .str x t) rfl ?_)
  refine xR (zh ho hd (x := rawInt (-1)) rfl ?_)
  show wpAny _ _ (if (-1 : Int) < 0 then _ else _) _ _ s
  rw [if_pos (by decide)]
  refine xR (wpAny_rule ?_)
  refine xR ?_
  show wpAny _ _ (setField (.ref it) 1 (rawInt (-1)) >>= fun _ => setField (.ref it) 0 .none) _ _ s
  refine xR (zZ ho hd (by simp) ?_)
  have ho2 := zK (Obj.mapFields fun a => a.setIfInBounds 1 (rawInt (-1))) ho (z_ (zc hd _))
  have hd2 := zc hd fun a => a.setIfInBounds 1 (rawInt (-1))
  refine zZ ho2 hd2 (by simp) ?_
  generalize hh2 : (s.heap.update it _).update it _=h2
  have kk : ∀ b o, b≠it → s.heap.get? b=some o → h2.get? b=some o := fun b o hb e => by
    rw [← hh2]
    exact (yT _ _ (Ne.symm hb)).trans ((yT _ _ (Ne.symm hb)).trans e)
  have hz : A.in1.handled=none := hh
  have sub := Ca
  repeat (any_goals (first | assumption | wp_step))
  unfold raiseNew
  refine xR (wpAny_handled ?_)
  rw [hz]
  refine xR (x9 (wpAny_throw ?_))
  refine xR (A1 (T := "StopIteration") (b := true) ?_ sub (x9 (hQ _ fun b o hb e => ?_)))
  · exact ⟨_, ya _ rfl, rfl⟩
  exact xW _ (xW _ (kk b o hb e))
theorem lH (hh : A.handled=none)(it : Addr)(x : Str)(t : Tok)(h63 : (x.cps.size : Int) < 2 ^ 63) :
    Walks prog w A it [it] [it] x.cps.size (fun i v => ∃ c u, x.cps[x.cps.size - 1 - i]? = some c ∧ v = .str ⟨#[c]⟩ u) (fun i h => i≤x.cps.size ∧ h.IsRvs it x t ((x.cps.size : Int) - 1 - (i : Int))) where
  sub := fun _ hb => hb
  frame := fun _ _ _ st hk => let ⟨l, o, ho, r⟩ := st;⟨l, o, hk it (by simp) o ho, r⟩
  item := fun i s Q E hi y hQ => by
    have e : (x.cps.size : Int) - 1 - (i : Int)=((x.cps.size - 1 - i : Nat) : Int) := by omega
    have hit := y.2
    rw [e] at hit
    have hx : x.cps[x.cps.size - 1 - i]? = some (x.cps[x.cps.size - 1 - i]'(by omega)) := zk (by omega)
    refine fP hit hx (by omega) fun h' tk u hit' hs' => ?_
    have e2 : ((x.cps.size - 1 - i : Nat) : Int) - 1=(x.cps.size : Int) - 1 - ((i+1 : Nat) : Int) := by omega
    rw [e2] at hit'
    exact hQ _ h' tk ⟨_, u, hx, rfl⟩ ⟨hi, hit'⟩ fun b o hb eo => hs'.extBut b o (fun h => hb (by simp [h])) eo
  done := fun s Q E y hQ => by
    have e : (x.cps.size : Int) - 1 - (x.cps.size : Int) = -1 := by omega
    have hit := y.2
    rw [e] at hit
    exact gZ hh hit fun h' he' => hQ h' s.toks fun b o hb eo => he' b o (fun h => hb (by simp [h])) eo
  self := fun _ _ _ _ y hQ => fO y.2 hQ
end
end PySem
namespace L2
open PySem PySem.Spec PyProof.Rows
def vS (z : Str) : It := ⟨fun i _ => i < z.cps.size, fun i H x H' => H'=H ∧ ∃ c, z.cps[z.cps.size - 1 - i]? = some c ∧ x = .str ⟨#[c]⟩, fun i _ => i=z.cps.size⟩
section
variable {X : Cx} {tg : Expr}
def vT (ta : TA) : TI := fun σ H R => ta σ H fun vs H1 => ∃ z, vs=[.str z] ∧ z.length≤sizeLine ∧ R (vS z) H1
theorem qW {a : Expr}{ta : TA}{p pos : Pos}(hg : Gl X "reversed")(hm : X.mg "reversed" = none)(hb : bootBuiltins "reversed" = some (.type "reversed"))(ha : PA X [a] ta)(hs : starEach [a] X.env=[(false, eval a X.env)] := by rfl) :
    PI X tg (.Call (.Name "reversed" p) [a] [] pos) (vT ta) := by
  intro pins s σ H R I h
  refine Call_ (dY I hg hm hb (yX (thn (ha pos pins s σ H _ I h) fun us s1 zq1 => ?_) hs rfl))
  obtain ⟨vs, H1, I1, r1, q1⟩ := zq1
  obtain ⟨z, rfl, hz, q⟩ := q1
  obtain ⟨u, rfl, t, rfl⟩ := cx r1
  have hn := cX
  have hsz : z.cps.size=z.length := rfl
  refine gY (by omega) fun tk => ?_
  have hit : Heap.IsRvs (s1.heap.push { cls := .type "reversed", data := .fields #[.str z t, rawInt ((z.length : Int) - 1)] }) s1.heap.objs.size z t ((z.length : Int) - 1) := ⟨_, ya _ rfl, rfl, rfl⟩
  refine fO (s := { s1 with heap := s1.heap.push { cls := .type "reversed", data := .fields #[.str z t, rawInt ((z.length : Int) - 1)] }, toks := tk }) hit ?_
  refine ⟨s1.heap.objs.size, [s1.heap.objs.size], _, vS z, H1, rfl, I1.kept (t' := tk) fun b o e => xW _ e,
    cn (T := "reversed") (fl := fun i => #[.str z t, rawInt ((z.cps.size : Int) - 1 - (i : Int))]) (fun A hh => lH hh _ z t (by omega)) (fun i h st => st.2) (by decide) (fun i H g => g) (fun i H g => g)
      (fun i H u _ ⟨c, t', e, eu⟩ => ⟨.str ⟨#[c]⟩, ⟨t', eu⟩, rfl, c, e, rfl⟩) (fun A i s Q E st h => fO st.2 h), ⟨yQ _, by simpa [hsz] using hit⟩, fun b hb => ?_, q⟩
  have e : b=s1.heap.objs.size := by simpa using hb
  subst e
  exact I1.fpOk (xT _) (I1.hok.fresh (xT _))
structure DTx (K : PySem.W.Frag) (w : World) (a : Addr) : Prop where
  ob : ∃ (es : Array DictEntry) (n : Nat), K.lookup a=some ⟨.type "dict", none, .dict es n, #[]⟩ ∧ PySem.W.KeysLit w.params es.toList
theorem ox {a : Addr}(D : DTx X.K X.w a) : IxR X (fun x y H Q => ∃ z z' t, x = .ref a ∧ y = .str z ∧ PySem.W.nsIn X.K a z=some (some (.str z' t)) ∧ Q (.str z') H) := by
  intro value slice pins s σ H x y v u Q I rx ry h hs
  obtain ⟨z, z', t', rfl, rfl, e, q⟩ := h
  cases rx
  obtain ⟨t, rfl⟩ := ry
  obtain ⟨es, n, hl, hk⟩ := D.ob
  obtain ⟨m, F⟩ := I.fr
  exact PySem.W.topItem_K F I.ok.mod.kin hl hk e ⟨.str z', H, I.tok _, ⟨_, rfl⟩, q⟩ hs
def oy (K : PySem.W.Frag)(a : Addr)(Q : VK) : V → Hp → Prop := fun y H1 => ∃ z z' t, y = .str z ∧ PySem.W.nsIn K a z=some (some (.str z' t)) ∧ Q (.str z') H1
def vU (K : PySem.W.Frag)(a : Addr)(ti : TE) : TE := fun σ H Q => ti σ H (oy K a Q)
theorem qX {K : PySem.W.Frag}{w : World}{a : Addr}{x : Str}{i : Expr}{ti : TE}{p pos : Pos}(D : DTx K w a)(hK : X.K=K)(hw : X.w=w)(hg : Gl X x)(hm : X.mg x=some (.ref a))(hi : PE X i ti)(hs : k_ i)
    (hd : (x == ("__debug__" : Str))=false := by decide) : PE X (.Subscript (.Name x p) i pos) (vU K a ti) := by
  subst hK hw
  intro pins s σ H Q I h
  refine BC (iJ I hg hm (thn (hi pins s σ H _ I h) fun u s2 zq2 => ?_) hd)
  obtain ⟨y, H2, I2, ry, z, z', t', e1, e2, q⟩ := zq2
  exact ox D _ _ pins s2 σ H2 (.ref a) y (.ref a) u Q I2 rfl ry ⟨z, z', t', rfl, e1, e2, q⟩ (hs _ _)
end
end L2
namespace Wd
abbrev L := Fin 12
def inv (x : L) : L := if h : x.val < 6 then ⟨x.val+6, by omega⟩ else ⟨x.val - 6, by omega⟩
theorem eG : ∀ x : L, inv (inv x)=x := by decide
def bk (w : List L) : List L := (w.map inv).reverse
theorem c5 (u v : List L) : bk (u++v)=bk v++bk u := by simp [bk]
theorem vV (w : List L) : bk (bk w)=w := by
  unfold bk
  rw [A2, List.reverse_reverse, yR]
  have : (inv ∘ inv)=id := funext fun x => eG x
  rw [this, List.map_id]
theorem bE (w : List L) : (bk w).length=w.length := by simp [bk]
theorem qd (x : L) : bk [x]=[inv x] := rfl
def push (st : List L)(x : L) : List L := match st with
  | [] => [x]
  | y::r => if y=inv x then r else x::y::r
def act (w : List L)(st : List L) : List L := w.foldl push st
def Rd : List L → Prop
  | [] => True
  | [_] => True
  | x::y::r => y≠inv x ∧ Rd (y::r)
def red (w : List L) : List L := (act w []).reverse
def rep : Nat → List L → List L
  | 0, _ => []
  | n+1, w => rep n w++w
theorem jA (w : List L) : ∀ n, rep n w++w=w++rep n w
  | 0 => by simp [rep]
  | n+1 => by
    show (rep n w++w)++w=w++(rep n w++w)
    rw [← AF, ← jA w n]
theorem fj (w : List L) : ∀ n, (rep n w).length=n*w.length
  | 0 => by simp [rep]
  | n+1 => by
    show (rep n w++w).length=_
    rw [xX, fj w n, B4]
end Wd
namespace L2
open PySem PySem.Spec PyProof.Rows Wd
def cp (x : L) : Nat := if x.val < 6 then 97+x.val else 59+x.val
theorem oz : ∀ x : L, cp x < 128 := by decide
theorem t_ : ∀ x y : L, cp x=cp y → x=y := by decide
def toS (w : List L) : Str := ⟨(w.map cp).toArray⟩
def tx (w : List L) : V := .str (toS w)
theorem bZ (w : List L) : (toS w).cps.toList=w.map cp := by simp [toS]
theorem af (w : List L) : (toS w).length=w.length := by simp [toS, Str.length]
theorem a_ (w : List L) : (toS w).cps.size=w.length := by simp [toS]
theorem dh (u v : List L) : toS u++toS v=toS (u++v) := by
  apply Str.ext'
  rw [Str.cps_append]
  simp [toS]
theorem dj : ∀ {u v : List L}, u.map cp=v.map cp → u=v
  | [], [], _ => rfl
  | [], _::_, h => by simp at h
  | _::_, [], h => by simp at h
  | x::u, y::v, h => by
    simp only [yk, List.cons.injEq] at h
    rw [t_ x y h.1, dj h.2]
theorem eI {u v : List L}(h : toS u=toS v) : u=v := by
  have : (toS u).cps.toList=(toS v).cps.toList := by rw [h]
  rw [bZ, bZ] at this
  exact dj this
theorem qe {u v : List L}(h : tx u=tx v) : u=v := eI (V.str.inj h)
theorem oA : toS [0, 1, 2, 3, 4, 5]=("abcdef" : Str) := by decide +kernel
theorem big : toS [6, 7, 8, 9, 10, 11]=("ABCDEF" : Str) := by decide +kernel
theorem cC {w : List L}{i c : Nat}(h : (toS w).cps[i]? = some c) : ∃ x, w[i]? = some x ∧ (⟨#[c]⟩ : Str)=toS [x] := by
  have h : ((w.map cp).toArray)[i]? = some c := h
  rw [List.getElem?_toArray, xY] at h
  cases e : w[i]? with
  | none => rw [e] at h;cases h
  | some x =>
    rw [e] at h
    have : cp x=c := x5 h
    exact ⟨x, rfl, by rw [← this];rfl⟩
theorem dk {w : List L}{k : Nat}{x : L}{i : Int}(hk : i=(k : Int))(h : w[k]? = some x) : atI (toS w).cps.toList i=some (cp x) := by
  subst hk
  rw [bZ]
  obtain ⟨hl, e⟩ := xV.mp h
  unfold atI ixN
  rw [if_pos (by omega), if_pos (by rw [fu];omega)]
  show (w.map cp)[((k : Nat) : Int).toNat]? = _
  rw [yf, xY, h]
  rfl
def oB (w : List L)(lo hi : Option Int) : List L := (w.drop (HT.sIx w.length 0 lo)).take (HT.sIx w.length w.length hi - HT.sIx w.length 0 lo)
theorem qY (lo hi : Option Int)(n : Nat) : Builtin.Str.strSliceIndices lo hi 1 n=(List.range (HT.sIx n n hi - HT.sIx n 0 lo)).map (fun k => HT.sIx n 0 lo+k) := by
  have cl : ∀ v : Int, max (0 : Int) (min (if v < 0 then v+(n : Int) else v) (n : Int))=(((if v < 0 then (v+(n : Int)).toNat else min v.toNat n) : Nat) : Int) := fun v => by
    by_cases hv : v < 0
    · simp only [if_pos hv];omega
    · simp only [if_neg hv];omega
  have fin : ∀ a b : Nat, sliceRange (a : Int) (b : Int) 1=(List.range (b - a)).map (fun k => a+k) := fun a b => by
    unfold sliceRange
    simp only [show ((1 : Int) > 0)=True from by simp, Ce]
    by_cases hlt : (a : Int) < b
    · have e3 : (((b : Int) - a+1 - 1) / 1).toNat=b - a := by first | omega | (simp;done) | (simp;omega)
      simp only [hlt, Ce, e3]
      exact zC fun k _ => by omega
    · have : b - a=0 := by omega
      simp [hlt, this]
  unfold Builtin.Str.strSliceIndices
  simp only [show ((1 : Int) > 0)=True from by simp, Ce]
  cases lo with
  | none =>
    cases hi with
    | none => exact fin 0 n
    | some j => simp only [cl];exact fin 0 _
  | some i =>
    cases hi with
    | none => simp only [cl];exact fin _ n
    | some j => simp only [cl];exact fin _ _
theorem aV (w : List L)(lo hi : Option Int) : Txt.slice (toS w) lo hi=toS (oB w lo hi) := by
  have h1 := HT.p5 w.length 0 (yQ _) lo
  have h2 := HT.p5 w.length w.length (xT _) hi
  unfold Txt.slice
  rw [qY, af]
  split
  · rename_i h
    have hl : HT.sIx w.length w.length hi - HT.sIx w.length 0 lo=w.length := by simpa using h
    have e : oB w lo hi=w := by
      unfold oB
      rw [hl]
      have ha : HT.sIx w.length 0 lo=0 ∨ w.length=0 := by omega
      rcases ha with ha | ha
      · rw [ha, Cb, yL]
      · have : w=[] := zX ha
        subst this
        simp
    rw [e]
  · apply Str.ext'
    show (List.filterMap _ _).toArray=_
    have e := StrLaws.picks (w.map cp) (HT.sIx w.length w.length hi - HT.sIx w.length 0 lo) (HT.sIx w.length 0 lo)
    by_cases hle : HT.sIx w.length 0 lo≤HT.sIx w.length w.length hi
    · have e := e (by rw [fu];omega)
      have e2 : (fun k : Nat => (toS w).cps[k]?)=fun k : Nat => (w.map cp)[k]? := funext fun k => by simp [toS]
      rw [e2, e]
      simp [toS, oB, A_, BP]
    · have z : HT.sIx w.length w.length hi - HT.sIx w.length 0 lo=0 := by omega
      rw [z]
      simp [toS, oB, z]
theorem c6 (w : List L){n : Int}(h : 0≤n) : oB w none (some n)=w.take n.toNat := by
  obtain ⟨k, rfl⟩ := yS h
  unfold oB
  rw [HT.fD, HT.fE, Cb, Bs, yf]
  by_cases hk : k≤w.length
  · rw [Nat.min_eq_left hk]
  · rw [Nat.min_eq_right (by omega), yL, yU (by omega)]
theorem fQ (w : List L){n : Int}(h : 0≤n) : oB w (some n) none=w.drop n.toNat := by
  obtain ⟨k, rfl⟩ := yS h
  unfold oB
  rw [HT.fD, HT.fE, yf]
  by_cases hk : k≤w.length
  · rw [Nat.min_eq_left hk, yU (by rw [yK];omega)]
  · rw [Nat.min_eq_right (by omega), List.drop_length, List.drop_eq_nil_of_le (by omega)]
    simp
theorem lI (w : List L) : Txt.upper (toS w)=⟨((w.map cp).map up1).toArray⟩ := by
  rw [upper_ascii fun c hc => by rw [bZ] at hc;obtain ⟨x, _, rfl⟩ := yq.mp hc;exact oz x]
  simp [toS]
theorem g0 (w : List L) : Txt.lower (toS w)=⟨((w.map cp).map lo1).toArray⟩ := by
  rw [lower_ascii fun c hc => by rw [bZ] at hc;obtain ⟨x, _, rfl⟩ := yq.mp hc;exact oz x]
  simp [toS]
theorem vW : ∀ x : L, x.val < 6 → up1 (cp x)=cp (inv x) := by decide
theorem vX : ∀ x : L, ¬ x.val < 6 → lo1 (cp x)=cp (inv x) := by decide
theorem lJ {x : L}(h : x.val < 6) : Txt.upper (toS [x])=toS [inv x] := by
  rw [lI]
  show (⟨#[up1 (cp x)]⟩ : Str)=⟨#[cp (inv x)]⟩
  rw [vW x h]
theorem lK {x : L}(h : ¬ x.val < 6) : Txt.lower (toS [x])=toS [inv x] := by
  rw [g0]
  show (⟨#[lo1 (cp x)]⟩ : Str)=⟨#[cp (inv x)]⟩
  rw [vX x h]
theorem oD : ∀ w : List L, Txt.join ("" : Str) (w.map fun x => toS [x])=toS w := by
  intro w
  have e0 : ("" : Str)=Str.empty := by decide +kernel
  unfold Txt.join
  rw [StrLaws.glued_eq_join, e0]
  induction w with
  | nil => rfl
  | cons x r ih =>
    cases r with
    | nil => rfl
    | cons y r =>
      show toS [x]++Str.empty++Str.join Str.empty ((y::r).map fun x => toS [x])=_
      rw [ih, Str.append_empty, dh]
      rfl
theorem qZ (w : List L) : ((w.map fun x => toS [x]).map (·.length)).sum=w.length := by
  induction w with
  | nil => rfl
  | cons x r ih =>
    simp only [yk, Ba, yF]
    rw [ih, af]
    simp only [AO]
    omega
theorem dG (w : List L) : ∀ (n : Nat) (acc : Array Nat), (List.replicate n (toS w).cps).foldl (· ++ ·) acc=acc++((rep n w).map cp).toArray
  | 0, acc => by simp [rep]
  | n+1, acc => by
    rw [yY, zB, dG w n]
    show _=acc++((rep n w++w).map cp).toArray
    rw [jA]
    simp [toS]
theorem lL : ∀ n, rep n ([] : List L)=[]
  | 0 => rfl
  | n+1 => by show rep n []++[]=[];rw [lL n];rfl
theorem lM (w : List L)(n : Int) : Txt.mul (toS w) n=toS (rep n.toNat w) := by
  unfold Txt.mul
  by_cases h1 : n < 1
  · rw [if_pos h1]
    have : n.toNat=0 := by omega
    rw [this]
    rfl
  · rw [if_neg h1]
    split
    · rename_i h
      rw [af] at h
      simp only [Bool.or_eq_true, beq_iff_eq] at h
      rcases h with h | h
      · subst h
        show toS w=toS (rep 1 w)
        show toS w=toS ([]++w)
        rfl
      · have : w=[] := zX h
        subst this
        rw [lL]
    · apply Str.ext'
      show (List.replicate n.toNat (toS w).cps).foldl (· ++ ·) #[]=_
      rw [dG]
      simp [toS]
theorem eK (w : List L){n : Int}(h1 : -1000000≤n)(h2 : n≤1000)(hw : w.length≤10000) : MulOk (toS w) n := by
  refine ⟨?_, fun hn _ => ?_, fun hn _ => ?_⟩
  · have e1 : decide (n < -(2 ^ 63 : Int))=false := yy (by omega)
    have e2 : decide (n≥2 ^ 63)=false := yy (by omega)
    rw [e1, e2, Cf]
  · rw [af]
    have hn1 : 1≤n := by omega
    have q : (9223372036854775 : Int)≤(2 ^ 63 - 1) / n := by
      rw [Int.le_ediv_iff_mul_le (by omega)]
      omega
    omega
  · rw [af]
    unfold Builtin.Str.tooLong
    have e : sizeLine=16777216 := Bg
    obtain ⟨k, rfl⟩ := yS (show 0≤n by omega)
    have hk : k≤1000 := by omega
    rw [yf]
    have q : w.length*k≤10000*1000 := Cc hw hk
    exact yy (by omega)
end L2
namespace L2
open PySem PySem.Spec PyProof.Rows Wd
structure Fnc (P : Program) (w : World) (K : PySem.W.Frag) (mg : Str → Option Value) (base : Heap) (x : Str) (ps : List Str) (k : Nat) (sp : Sp) : Prop where
  ex : ∃ (f : Addr) (fd : FuncData), mg x=some (.ref f) ∧ PySem.W.keepIn K (.ref f)=true ∧ j_ K fd ps [] ∧ nN P w K mg base CX0 k f fd ps sp
theorem aG {X : Cx}{x : Str}{ps : List Str}{k j : Nat}{sp : Sp}{e : Expr}{es : List Expr}{t : TA}{p pos : Pos}(F : Fnc X.prog X.w X.K X.mg X.base x ps j sp)(hr : fh k X.A)(hj : j≤k)(hg : Gl X x)(ha : PA X (e::es) t)
    (hdb : (x == ("__debug__" : Str))=false := by decide) (he : starEach (e::es) X.env=(false, eval e X.env)::starEach es X.env := by rfl) (hpl : (backTo pos (starEach es X.env)).any (·.1)=false := by rfl) :
    PE X (.Call (.Name x p) (e::es) [] pos) (tE sp [] E0 t) := by
  obtain ⟨f, fd, hm, hk, hb, F⟩ := F.ex
  exact qQ F (hr.mono hj) hg hm hk hb .nil vQ ha hdb he hpl
structure Df (K : PySem.W.Frag) (mg : Str → Option Value) (x : Str) (st : Stmt) : Prop where
  ex : ∃ (f : Addr) (fd : FuncData), mg x=some (.ref f) ∧ Fun K x x st f fd
theorem Df.ok {P : Program}{w : World}{K : PySem.W.Frag}{mg : Str → Option Value}{base : Heap}{x : Str}{st : Stmt}{N ps : List Str}{k : Nat}{sp : Sp}(D : Df K mg x st)(S : aC N ps (aq st))
    (hb : ∀ (kV doc pm : Value) (an : Option Addr) (cdv ct : Value) (us : List Value), us.length=ps.length → bindArgs (PySem.W.fnOf x x (bY st) (bG st) (aq st) .none kV doc pm an cdv ct) ⟨us, []⟩=pure (ps.zip us))
    (len : ∀ vs H Q E, sp vs H Q E → vs.length=ps.length)
    (hbody : ∀ (f : Addr) (cdv : Value) (A : Around) (outer : List Env) (s : Shared) (H : Hp) (vs : List V) (Q : VK) (E : XK), fh k (A.deeper (envOfC x (aq st) s.heap.objs.size f cdv)) → sp vs H Q E →
      ∃ t, PSs (qR CX0 P w K mg base N x (aq st) f cdv A outer s H E).nox (bG st) t ∧ t { nx := fun _ H' => Q .non H', rt := Q } (start N vs) H) : Fnc P w K mg base x ps (k+1) sp := by
  obtain ⟨f, fd, hm, F⟩ := D.ex
  exact ⟨f, fd, hm, F.kp, F.binds hb, F.ok S len fun cdv A outer s H vs Q E hr h => hbody f cdv A outer s H vs Q E hr h⟩
def a8 (d : Addr)(H H' : Hp) : Prop := ∀ b o, b≠d → H b=some o → H' b=some o
theorem a8.trans {d : Addr}{H H1 H2 : Hp}(a : a8 d H H1)(b : a8 d H1 H2) : a8 d H H2 := fun c o n h => b c o n (a c o n h)
theorem au.b {d : Addr}{H H' : Hp}(a : au H H') : a8 d H H' := fun b o _ h => a b o h
theorem au.new {H : Hp}{a : Addr}{o : HO}(h : H a=none) : au H (upd H a o) := fun b u e => by rw [ak (ah e h)]; exact e
theorem a8.upd {d : Addr}{H : Hp}{o : HO} : a8 d H (upd H d o) := fun b u n e => by rw [ak n]; exact e
theorem au.then {H H1 : Hp}{a : Addr}{o : HO}(s : au H H1)(h : H1 a=none) : au H (L2.upd H1 a o) := s.trans (au.new h)
def kS (x : Str) : Key := .inr x
theorem q8 {ns : List Int}(h : ns≠[])(i : Int) : ∃ n : Int, atI (ns.map V.int) (i % ((ns.map V.int).length : Int))=some (.int n) := by
  have hl : 0 < ns.length := y_.mpr h
  rw [fu]
  have h0 := zd i (show (ns.length : Int)≠0 by omega)
  have h1 := yW i (show (0 : Int) < ns.length by omega)
  obtain ⟨k, hk⟩ := yS h0
  rw [hk] at h1 ⊢
  have hk' : k < ns.length := by omega
  refine ⟨ns[k], ?_⟩
  unfold atI ixN
  rw [if_pos (by omega), if_pos (by rw [fu];omega)]
  show (ns.map V.int)[((k : Nat) : Int).toNat]? = _
  rw [yf, xY, xS hk']
  rfl
end L2
namespace L2
open PySem PySem.Spec PyProof.Rows Wd
mutual
inductive Dt (H : Hp) : V → PyData → Prop where
  | non : Dt H .non .none
  | bl (b : Bool) : Dt H (.bl b) (.bool b)
  | int (i : Int) : Dt H (.int i) (.int i)
  | str (x : Str) : Dt H (.str x) (.str x)
  | lst {a : Addr} {xs : List V} {ds : List PyData} : H a=some (.lst xs) → Dts H xs ds → Dt H (.ref a) (.list ds)
  | tup {a : Addr} {xs : List V} {ds : List PyData} : H a=some (.tup xs) → Dts H xs ds → Dt H (.ref a) (.tuple ds)
inductive Dts (H : Hp) : List V → List PyData → Prop where
  | nil : Dts H [] []
  | cons {v : V} {d : PyData} {vs : List V} {ds : List PyData} : Dt H v d → Dts H vs ds → Dts H (v::vs) (d::ds)
end
section
variable {P : Program} {w : World} {H : Hp} {h : Heap}
mutual
theorem Dt.reads (ok : HOk P w H h) : ∀ {v : V} {d : PyData}, Dt H v d → ∀ {u : Value}, bf v u → ∃ as, Reads h u d as
  | _, _, .non, u, r => by cases r;exact ⟨_, .none⟩
  | _, _, .bl b, u, r => by cases r;exact ⟨_, .bool b⟩
  | _, _, .int i, u, r => by obtain ⟨t, rfl⟩ := r;exact ⟨_, .int i t⟩
  | _, _, .str x, u, r => by obtain ⟨t, rfl⟩ := r;exact ⟨_, .str x t⟩
  | _, _, .lst e q, u, r => by
    cases r
    obtain ⟨_, its, n, rv, g⟩ := ok _ _ e
    obtain ⟨as, ra⟩ := Dts.reads ok q rv
    exact ⟨_, .list g rfl rfl (by simpa using ra)⟩
  | _, _, .tup e q, u, r => by
    cases r
    obtain ⟨_, its, rv, ⟨ob, g, c, n, d⟩, _⟩ := ok _ _ e
    obtain ⟨as, ra⟩ := Dts.reads ok q rv
    exact ⟨_, .tuple g c d (by simpa using ra)⟩
theorem Dts.reads (ok : HOk P w H h) : ∀ {vs : List V} {ds : List PyData}, Dts H vs ds → ∀ {us : List Value}, aL vs us → ∃ as, ReadsAll h us ds as
  | _, _, .nil, _, r => by cases r;exact ⟨_, .nil⟩
  | _, _, .cons q qs, _, r => by
    cases r with
    | cons r rs =>
      obtain ⟨as, a1⟩ := Dt.reads ok q r
      obtain ⟨bs, a2⟩ := Dts.reads ok qs rs
      exact ⟨_, .cons a1 a2⟩
end
end
structure Sh (d : PyData) : Prop where
  sh : d.showable=true
  nd : d.hasDict=false
  dp : d.depth≤10
  sz : d.shown.length≤sizeLine
section
variable {X : Cx}
inductive cD  (xs : List V)(H : Hp)(Q : VK) : Prop
  | mk : ∀ a d, (xs=[.ref a]) → (Dt H (.ref a) d) → (Sh d) → (Q (.str d.shown) H) → cD xs H Q
theorem c7 (hg : X.A.guards=some [])(hu : X.A.units+64 < cLine) : cS X (.builtin "repr") cD := by
  intro pins s σ H xs us Q I r h
  obtain ⟨a, d, rfl, q, S, hQ⟩ := h
  obtain ⟨u, rfl, ru⟩ := cx r
  cases ru
  obtain ⟨as, rd⟩ := q.reads I.hok (u := .ref a) rfl
  refine repr_of_reads' rd S.sh (PyData.noDict_hsm S.nd) hg (by have := S.dp;omega) (fun _ _ e => e) (fun h' u tk hk => ?_) S.sz
  exact ⟨.str _, H, I.kept hk, ⟨_, rfl⟩, hQ⟩
end
def e_ (m : Str)(ys : List Str) : Prop := m∈ys ∧ ∀ y∈ys, m.cps.toList≤y.cps.toList
theorem e_.one {m n : Str}{ys : List Str}(a : e_ m ys)(b : e_ n ys) : m=n :=
  Str.ext' (A3.mp (List.le_antisymm (a.2 n b.1) (b.2 m a.1)))
theorem dH : ∀ (r : List Str) (x : Str), risingS x r=true → e_ x (x::r)
  | [], x, _ => ⟨by simp, fun y hy => by rw [x4.mp hy];exact B5 _⟩
  | z::r, x, h => by
    unfold risingS at h
    rw [yi] at h
    have h1 : x.cps.toList≤z.cps.toList := by
      have := h.1
      rw [ltCps_eq] at this
      exact List.not_lt.mp (by simpa using this)
    have ih := dH r z h.2
    refine ⟨by simp, fun y hy => ?_⟩
    rcases ye.mp hy with e | hy
    · rw [e];exact B5 _
    · exact List.le_trans h1 (ih.2 y hy)
def cE (ys : List Str)(i : Nat) : Str := ys.getD i Str.empty
def btS (ys : List Str)(i j : Nat) : Bool := decide ((cE ys i).cps.toList < (cE ys j).cps.toList)
theorem dm (ys : List Str) : ∀ k, argBest (btS ys) k≤k ∧ ∀ j, j≤k → (cE ys (argBest (btS ys) k)).cps.toList≤(cE ys j).cps.toList
  | 0 => ⟨xT _, fun j hj => by
    have : j=0 := by omega
    subst this
    exact B5 _⟩
  | k+1 => by
    obtain ⟨h1, h2⟩ := dm ys k
    have e : argBest (btS ys) (k+1)=if btS ys (k+1) (argBest (btS ys) k)=true then k+1 else argBest (btS ys) k := rfl
    rw [e]
    by_cases h : btS ys (k+1) (argBest (btS ys) k)=true
    · rw [if_pos h]
      have h : (cE ys (k+1)).cps.toList < (cE ys (argBest (btS ys) k)).cps.toList := of_decide_eq_true h
      refine ⟨xT _, fun j hj => ?_⟩
      by_cases e : j=k+1
      · subst e;exact B5 _
      · exact List.le_trans (List.le_of_lt h) (h2 j (by omega))
    · rw [if_neg h]
      have h : ¬ (cE ys (k+1)).cps.toList < (cE ys (argBest (btS ys) k)).cps.toList := fun z => h (yJ z)
      refine ⟨by omega, fun j hj => ?_⟩
      by_cases e : j=k+1
      · subst e;exact List.not_lt.mp h
      · exact h2 j (by omega)
theorem cK : ∀ {us : List Value} {ys : List Str} {i : Nat} {v : Value}, StrsAre us ys → us[i]? = some v → ∃ t, v = .str (cE ys i) t ∧ i < ys.length
  | _, _, _, _, .nil, h => by simp at h
  | _, _, 0, _, .cons y t r, h => by
    simp at h
    exact ⟨t, by rw [← h];rfl, by simp⟩
  | _, _, i+1, _, .cons y t r, h => by
    obtain ⟨t', e, l⟩ := cK (i := i) r (by simpa using h)
    exact ⟨t', e, by simpa using l⟩
theorem dI : ∀ {us : List Value} {ys : List Str}, StrsAre us ys → aL (ys.map V.str) us
  | _, _, .nil => .nil
  | _, _, .cons y t r => .cons ⟨t, rfl⟩ (dI r)
section
variable {X : Cx}
inductive cF (K : PySem.W.Frag)(xs : List V)(H : Hp)(Q : VK) : Prop
  | mk : ∀ l ys, (xs=[.ref l]) → (SqL K H l (ys.map V.str)) → (ys≠[]) → (∀ m, e_ m ys → Q (.str m) H) → cF K xs H Q
theorem fS (hc : X.calm=true) : cS X (.builtin "min") (cF X.K) := by
  intro pins s σ H xs us Q I r h
  obtain ⟨l, ys, rfl, hq, hne, q⟩ := h
  obtain ⟨u, rfl, ru⟩ := cx r
  cases ru
  obtain ⟨its, rv, pl, _⟩ := I.list hq
  have hS := cJ rv
  have hl := pl.isList
  have hlen : its.length=ys.length := by rw [← rv.length, fu]
  have hpos : 0 < ys.length := y_.mpr hne
  have hlt : l < s.heap.objs.size := by obtain ⟨_, e, _⟩ := hl;exact yd e
  refine call_min_walk (wpAny_pyIter_list hl ?_)
  refine ⟨_, _, _, _, _, _, btS ys, rfl, Walks.list (A := X.A.in1) (I.ok.hd hc) _ l (yH hlt) its.toArray, ⟨⟨_, ya _ rfl, rfl, rfl⟩, hl.push _⟩, fun b hb => ?_, ?_, ?_, fun v h' tk hP hk => ?_⟩
  · show b < (s.heap.push _).objs.size
    rw [Bv]
    rcases ye.mp hb with e | hb
    · rw [e];exact A0 _
    · rw [x4.mp hb];exact Nat.lt_succ_of_lt hlt
  · rw [x8];omega
  · intro i j vi vj s' Q' E' hi hj hQ'
    obtain ⟨t, rfl, _⟩ := cK hS (i := i) (by simpa using hi)
    obtain ⟨t', rfl, _⟩ := cK hS (i := j) (by simpa using hj)
    exact richCompare_gives (op := .Lt) (Ak s' _ t) (Ak s' _ t') F.slot_str_lt F.entry_str_lt (F.args_str_lt_2 _ _) (gives_str_lt _ _ t t') (fun x => nomatch x) hQ'
  · obtain ⟨t, rfl, hlt2⟩ := cK hS (by rw [List.getElem?_toArray] at hP;exact hP)
    have B := dm ys (its.toArray.size - 1)
    have old : ∀ b o, s.heap.get? b=some o → h'.get? b=some o := fun b o e => hk b o (fun z => by rw [x4.mp z] at e;exact absurd (yd e) (yO _)) (xW _ e)
    refine ⟨.str _, H, I.kept old, ⟨t, rfl⟩, q _ ⟨?_, fun y hy => ?_⟩⟩
    · unfold cE
      rw [xU, xS hlt2]
      exact yP hlt2
    · obtain ⟨j, hj, e⟩ := A6.mp hy
      have := B.2 j (by rw [x8];omega)
      have ej : cE ys j=y := by unfold cE;rw [xU, xS hj];exact e
      rw [ej] at this
      exact this
end
end L2
namespace Kx
open PySem PySem.Spec PyProof.Rows L2 Wd
theorem lO : bootBuiltins "list" = some (.type "list") := by kernel_rfl
theorem qf : bootBuiltins "repr" = some (.builtin "repr") := by kernel_rfl
theorem vY : bootBuiltins "min" = some (.builtin "min") := by kernel_rfl
theorem jB : bootBuiltins "sorted" = some (.builtin "sorted") := by kernel_rfl
theorem cU : bootBuiltins "tuple" = some (.type "tuple") := by kernel_rfl
theorem ki : bootBuiltins "reversed" = some (.type "reversed") := by kernel_rfl
structure Bt (K : PySem.W.Frag) (w : World) (mg : Str → Option Value) (aB : Addr) : Prop where
  len : mg "len" = none
  repr : mg "repr" = none
  abs : mg "abs" = none
  max : mg "max" = none
  int : mg "int" = none
  list : mg "list" = none
  range : mg "range" = none
  reversed : mg "reversed" = none
  min : mg "min" = none
  sorted : mg "sorted" = none
  tuple : mg "tuple" = none
  isinstance : mg "isinstance" = none
  all : mg "all" = none
  str : mg "str" = none
  zip : mg "zip" = none
  mgB : mg "BACKS" = some (.ref aB)
  dB : DTx K w aB
  gB : ∀ x : L, ∃ t, PySem.W.nsIn K aB (toS [x])=some (some (.str (toS [inv x]) t))
theorem dp {H : Hp}{d : Addr}{kvs kvs' : List (Key × V)}{k : Str}{v : V}(h : H d=some (.dK kvs))(hl : kvs.length < sizeLine)(e : bS kvs (kS k) v=kvs') : iR H d (.str k) v (upd H d (.dK kvs')) := by
  have q := iR.k (k := kS k) (v := v) h hl
  rw [e] at q
  exact q
theorem vZ {ns : List Int}(h : ns.length≤63) : p6 (ns.map V.int) none (some 63)=ns.map V.int := by
  unfold p6
  have e : HT.sIx (ns.map V.int).length (ns.map V.int).length (some 63)=(ns.map V.int).length := by
    have := HT.fE (ns.map V.int).length (ns.map V.int).length 63
    rw [show ((63 : Nat) : Int)=63 from rfl] at this
    rw [this, fu]
    omega
  rw [e, HT.fD, Cb, Bs, yL]
def bF (w : List L) : List V := w.map fun x => tx [x]
theorem cL (w : List L) : bF w=(w.map fun x => toS [x]).map V.str := by unfold bF; rw [yR]; rfl
theorem b_ (w : List L)(x : L) : bF w++[tx [x]]=bF (w++[x]) := by unfold bF; rw [xZ]; rfl
theorem aT (w : List L) : (bF w).length=w.length := by unfold bF; rw [fu]
theorem cb (w : List L) : V.str (Txt.join ("" : Str) (w.map fun x => toS [x]))=tx w := yB V.str (oD w)
theorem cf (w : List L)(h : w.length≤1000000) : ((w.map fun x => toS [x]).map (·.length)).sum+(w.map fun x => toS [x]).length*("" : Str).length≤16777216 := by
  have e : ("" : Str).length=0 := by decide +kernel
  rw [e, qZ]
  omega
theorem aO : sizeLine=16777216 := Bg
inductive oE (vs : List V)(H : Hp)(Q : VK)(u3_ : XK) : Prop
  | mk : ∀ w, (vs=[tx w]) → (w.length≤5000) → (∀ H', au H H' → Q (tx (bk w)) H') → oE vs H Q u3_
theorem eL (u v : List L) : V.str (toS u++toS v)=tx (u++v) := yB V.str (dh u v)
def sg (m : Int) : List L := ([0, 1, 2, 3, 4, 5] : List L).take m.toNat++([6, 7, 8, 9, 10, 11] : List L).take m.toNat
theorem lP {m : Int}(h1 : 1≤m)(h2 : m≤6) : (sg m).length=2*m.toNat := by
  unfold sg
  rw [xX, yg, yg]
  simp only [yF, zQ]
  omega
theorem oF {m : Int}(h1 : 1≤m) : V.str (Txt.slice ("abcdef" : Str) none (some m)++Txt.slice ("ABCDEF" : Str) none (some m))=tx (sg m) := by
  rw [← oA, ← big, aV, aV, c6 _ (by omega), c6 _ (by omega), eL]
  rfl
theorem jC : ("abcdef" : Str).length=6 := by decide +kernel
theorem lQ : ("ABCDEF" : Str).length=6 := by decide +kernel
theorem qg (u : List L){i : Nat}{y : L}(hi : i < u.length)(h : u[u.length - 1 - i]? = some y) : (bk u)[i]? = some (inv y) := by
  unfold bk
  rw [zo (by rw [fu];exact hi), fu, xY, h]
  rfl
theorem cG {u : List L}{i : Nat}{x : L}(h : u[i]? = some x) : u.take (i+1)=u.take i++[x] := by
  obtain ⟨hl, e⟩ := xV.mp h
  rw [AI, h]
  rfl
theorem vd {c : Bool}{A B : Prop}(hc : c=true)(h : A) : if c=true then A else B := by rw [if_pos hc]; exact h
theorem ve {c : Bool}{A B : Prop}(hc : c=false)(h : B) : if c=true then A else B := by rw [hc]; exact nO h
theorem sm6 : ∀ j : Fin 6, ([0, 1, 2, 3, 4, 5] : List L)[j.val]? = some ⟨j.val, Nat.lt_trans j.isLt (by decide)⟩ := by decide
def dws (ws : List (List L)) : List PyData := ws.map fun w => .str (toS w)
theorem eM {H : Hp} : ∀ (ws : List (List L)), Dts H (ws.map tx) (dws ws)
  | [] => .nil
  | w::r => .cons (.str (toS w)) (eM r)
theorem fT : ∀ (ws : List (List L)), PyData.showableAll (dws ws)=true ∧ PyData.hasDictAll (dws ws)=false ∧ PyData.depthAll (dws ws)=0 ∧ PyData.leavesShortAll 13 (dws ws)=true
  | [] => ⟨rfl, rfl, rfl, rfl⟩
  | w::r => by
    obtain ⟨h1, h2, h3, h4⟩ := fT r
    refine ⟨?_, ?_, ?_, ?_⟩
    · show (PyData.showable (.str (toS w)) && PyData.showableAll (dws r))=true
      rw [h1];rfl
    · show (PyData.hasDict (.str (toS w)) || PyData.hasDictAll (dws r))=false
      rw [h2];rfl
    · show max (PyData.depth (.str (toS w))) (PyData.depthAll (dws r))=0
      rw [h3];rfl
    · show (PyData.leavesShort 13 (.str (toS w)) && PyData.leavesShortAll 13 (dws r))=true
      rw [h4, Bool.and_true]
      show ((toS w).cps.toList.all fun c => decide (c < 16 ^ 8))=true
      rw [Ai]
      intro c hc
      rw [bZ] at hc
      obtain ⟨x, _, rfl⟩ := yq.mp hc
      exact yJ (yj (oz x) (by decide))
theorem fk {n : Nat} : ∀ (ws : List (List L)), (∀ w∈ws, w.length≤n) → PyData.weightAll (dws ws)≤ws.length*(n+1)
  | [], _ => yQ _
  | w::r, h => by
    have ih := fk r fun v hv => h v (x3 _ hv)
    have h1 := h w yb
    show (toS w).cps.size+1+PyData.weightAll (dws r)≤(r.length+1)*(n+1)
    rw [a_, B4]
    omega
theorem ua {n : Nat}{ws : List (List L)}(h : ∀ w∈ws, w.length≤n)(hn : ws.length*(n+1)≤2 ^ 20) : Sh (.list (dws ws)) := by
  obtain ⟨h1, h2, h3, h4⟩ := fT ws
  refine ⟨h1, h2, by show PyData.depthAll (dws ws)+1≤10;rw [h3];decide, PyData.shown_fits (B := 13) (by decide) (by decide) h4 (yI (fk ws h) hn)⟩
end Kx
namespace Tv
open PySem PyProof.Rows
section
variable {prog : Program} {w : World} {A : Around} {E : Value → Shared → Prop} {s : Shared} {κ : KeyKind} {kd : SortKind}
end
end Tv
namespace Tv
open PySem PyProof.Rows
end Tv
namespace Tv
open PySem PyProof.Rows
variable {κ : KeyKind} {kd : SortKind}
end Tv
namespace Tv
open PySem PyProof.Rows
section
variable {prog : Program} {w : World} {A : Around} {E : Value → Shared → Prop} {s : Shared} {κ : KeyKind} {kd : SortKind}
end
end Tv
namespace Tv
open PySem PyProof.Rows
variable {κ : KeyKind} {kd : SortKind}
section
variable {prog : Program} {w : World} {A : Around} {E : Value → Shared → Prop} {s : Shared}
end
end Tv
namespace Tv
open PySem PyProof.Rows
variable {κ : KeyKind} {kd : SortKind}
section
variable {prog : Program} {w : World} {A : Around} {E : Value → Shared → Prop} {s : Shared}
end
end Tv
namespace Tv
open PySem PyProof.Rows
variable {κ : KeyKind} {kd : SortKind}
section
variable {prog : Program} {w : World} {A : Around} {E : Value → Shared → Prop} {s : Shared}
end
end Tv
namespace Tv
open PySem PyProof.Rows
variable {κ : KeyKind} {kd : SortKind}
section
variable {prog : Program} {w : World} {A : Around} {E : Value → Shared → Prop} {s : Shared}
end
end Tv
namespace Tv
open PySem PyProof.Rows
variable {κ : KeyKind} {kd : SortKind}
section
variable {prog : Program} {w : World} {A : Around} {E : Value → Shared → Prop} {s : Shared}
end
end Tv
namespace Tv
open PySem PyProof.Rows
variable {κ : KeyKind} {kd : SortKind}
section
variable {prog : Program} {w : World} {A : Around} {E : Value → Shared → Prop} {s : Shared}
end
end Tv
namespace L2
open PySem PySem.Spec PyProof.Rows Wd
section
variable {X : Cx} {tg : Expr}
end
section
variable {X : Cx} {o e : Expr} {es : List Expr} {to : TE} {t : TA} {name : Str} {apos cpos : Pos} {T id : String} {r : V → List V → Hp → VK → Prop} {K : PySem.W.Frag}
theorem lR (hK : X.K=K)(pa : PlainAttrs T)(slot : Slot T name id)(hty : typeOf (.builtin id)=pure (.type "method_descriptor"))(hm : MtR X id r)(ho : PE X o to)
    (hbase : attributeBase o name X.env (eval o X.env)=eval o X.env := by rfl) (hline : (apos.endLine == cpos.line)=true := by rfl) : PE X (.Call (.Attribute o name apos) [] [] cpos) (wY K T r to) := by
  subst hK
  exact eg pa slot hty hm ho hbase hline
end
end L2
namespace L2
open PySem PySem.Spec PyProof.Rows Wd
section
variable {X : Cx}
inductive qh (x : V)(vs : List V)(H : Hp)(Q : VK) : Prop
  | mk : ∀ z y i rest, (x = .str z) → (vs=[.str y]) → (Builtin.Str.occurrences z y 0 z.length 1=i::rest) → (Q (.int (i : Nat)) H) → qh x vs H Q
theorem dQ : MtR X "str.index" qh := by
  intro pins s σ H x vs v us Q I rx rv h
  obtain ⟨z, y, i, rest, rfl, rfl, ho, q⟩ := h
  obtain ⟨t, rfl⟩ := rx
  obtain ⟨u1, rfl, ⟨t1, rfl⟩⟩ := cx rv
  exact SC.index ho ⟨.int _, H, I.tok _, ⟨_, rfl⟩, q⟩
def xF (z : Str) : List V := z.cps.toList.map fun c => .str ⟨#[c]⟩
end
end L2
namespace PySem
open Sem (wp)
section
variable {prog : Program} {w : World} {A : Around} {E : Value → Shared → Prop} {s : Shared} {z TI TO i1 i2 : Addr} {x y : Str} {t u : Tok} {k c d : Nat} {a b : Value}
end
end PySem
namespace PySem
end PySem
namespace L2
open PySem PySem.Spec PyProof.Rows
theorem Inv.stepT {X : Cx}{pins : List (Addr × Obj)}{σ : St}{H : Hp}{s : Shared}{h' : Heap}{t' : Nat}{ch : List Addr}{T : Addr}{xs : List V}{its : List Value}(I : Inv X pins σ H s)(hf : ∀ b∈ch, jq X pins H b)
    (k : ∀ b o, b∉ch → s.heap.get? b=some o → h'.get? b=some o) (hT : s.heap.objs.size≤T) (hz : xs.length≤sizeLine) (rv : aL xs its) (ht : IsTup h' T its.toArray) (hnd : NoD h' T) (there : ∀ b∈ch, ∃ o, s.heap.get? b=some o) : Inv X pins σ (upd H T (.tup xs)) { s with heap := h', toks := t' } := by
  have hn : H T=none := I.hok.fresh hT
  have ne : ∀ {b o}, s.heap.get? b=some o → b≠T := fun e => yH (yj (yd e) hT)
  have nch : ∀ {b u}, H b=some u → b∉ch := fun e z => by rw [(hf _ z).1] at e;cases e
  refine I.step (g' := s.gens) (d' := s.drawn) (ch := ch) (fun b hb => ?_) (fun b o _ _ hc e _ => k b o hc e) (fun b o _ _ hc e _ => ⟨o.slots, k b o hc e⟩) (fun b o _ e n => by rw [ak (ne e)];exact n) (fun b o hc e => ⟨o, k b o hc e⟩)
    (fun b ys e => by rw [ak (ah e hn)];exact e) (fun b o u e => by rw [ak (ah e hn)];exact e) (fun b ps e => ⟨#[], by rw [ak (ah e hn), e];simp⟩) (fun m hm => ?_) (fun b u e => ?_) I.bare
  · obtain ⟨_, f1, _, f3, f4, f5⟩ := hf b hb
    exact ⟨f3, f1, f4, f5⟩
  · obtain ⟨o, es, ep, ho, r⟩ := hm
    exact ⟨o, es, ep, k _ o (fun z => (hf _ z).2.1 rfl) ho, r⟩
  · by_cases hb : b=T
    · subst hb
      rw [ab] at e
      cases e
      exact ⟨hz, its, rv, ht, hnd⟩
    · rw [ak hb] at e
      refine (I.hok b u e).stay (fun c v hc q => k c v ?_ q) (fun c q => by rw [ak (ah q hn)];exact q) fun c ys q => by rw [ak (ah q hn)];exact q
      rcases hc with z | z
      · rw [z];exact nch e
      · exact nch z
section
variable {X : Cx}
end
end L2
namespace L2
open PySem PySem.Spec PyProof.Rows Wd
def keyT (e : DictEntry) : Str := match e.key with
  | .str x _ => x
  | _ => ""
def v_ : List Str := ([0, 1, 2, 3, 4, 5, 6, 7, 8, 9, 10, 11] : List L).map fun x => toS [x]
end L2
namespace Kx
open PySem PySem.Spec PyProof.Rows L2 Wd
inductive lS (vs : List V)(H : Hp)(Q : VK)(u3_ : XK) : Prop
  | mk : ∀ (x : L), (vs=[tx [x]]) → (Q (.int ((x.val % 6 : Nat) : Int)) H) → lS vs H Q u3_
theorem ub : ∀ x : L, Builtin.Str.occurrences ("abcdef" : Str) (Txt.lower (toS [x])) 0 ("abcdef" : Str).length 1=[x.val % 6] := by
  have q : ∀ x : L, Builtin.Str.occurrences ("abcdef" : Str) (⟨(([x].map cp).map lo1).toArray⟩ : Str) 0 ("abcdef" : Str).length 1=[x.val % 6] := by decide +kernel
  intro x
  rw [g0]
  exact q x
end Kx
namespace L2
open PySem PySem.Spec PyProof.Rows Wd
section
variable {X : Cx}
inductive qj (x : V)(y : V)(H : Hp)(Q : VK) : Prop
  | mk : ∀ a b xs, (x = .ref a) → (y = .ref b) → (H a=some (.lst xs)) → (H b=some (.lst [])) → (Q (.bl (!xs.isEmpty)) H) → qj x y H Q
theorem g9 (hu : X.A.units+64 < cLine) : OpR X (compareOp .NotEq) qj := by
  intro pins s σ H x y v u Q I rx ry h
  obtain ⟨a, b, xs, rfl, rfl, ha, hb, q⟩ := h
  cases rx
  cases ry
  obtain ⟨its, n, rv, ea, _⟩ := I.lst ha
  obtain ⟨its2, n2, rv2, eb, _⟩ := I.lst hb
  cases rv2
  have hla : s.heap.IsList a its.toArray := ⟨_, ea, rfl, _, rfl⟩
  have hlb : s.heap.IsList b ([] : List Value).toArray := ⟨_, eb, rfl, _, rfl⟩
  cases xs with
  | nil =>
    cases rv
    refine BG (SeqAt.RcNeAt.lists (e := fun _ => true) hla hlb rfl (by omega) (fun j hj => by simp at hj)) ?_
    exact ⟨.bl false, H, I, rfl, q⟩
  | cons z r =>
    cases rv with
    | cons r1 r2 =>
      refine BG (SeqAt.RcNeAt.lists_lengths hla hlb (by simp) (by omega)) ?_
      exact ⟨.bl true, H, I, rfl, q⟩
end
end L2
namespace Kx
open PySem PySem.Spec PyProof.Rows L2 Wd
end Kx
namespace L2
open PySem PySem.Spec PyProof.Rows Wd
theorem fU {K : PySem.W.Frag}{a : Addr}{xs : List V}{own : List Str}{cap : List Nat}{g : TG}{ti : TT}{te : TE}{σ : St}{H : Hp}{Q : VK}(Pv : Nat → List V → St → Hp → Prop)(h0 : Pv 0 [] (stB own cap σ) H)(hz : ∀ i ys σ H, i≤xs.length → Pv i ys σ H → ys.length≤i)(hn : xs.length≤sizeLine)
    (hl : ∀ i ys σ H, Pv i ys σ H → SqT K H a xs)
    (hs : ∀ i ys σ H x (N : List V → St → Hp → Prop), xs[i]? = some x → Pv i ys σ H → (∀ ys' σ' H'', Pv (i+1) ys' σ' H'' → N ys' σ' H'') → g x σ H fun σ2 H2 => ti σ2 H2 fun b H3 => if b=true then te σ2 H3 fun y H4 => N (ys++[y]) σ2 H4 else N ys σ2 H3)
    (hd : ∀ ys σ H D, Pv xs.length ys σ H → H D=none → Q (.ref D) (upd H D (.lst ys))) :
    ou own cap g ti te Q σ (Itt K a) H := by
  refine bH (J := Itt K a) xs.length Pv h0 hz hn (fun i ys σ H hi p => ⟨xs, xs[i], hl i ys σ H p, xS hi⟩) (fun ys σ H p => ⟨xs, hl _ ys σ H p, xT _⟩) ?_ hd
  rintro i ys σ H x H' N hi p ⟨rfl, hx⟩ hN
  exact hs i ys σ _ x N (hx xs (hl i ys σ _ p)) p hN
theorem g_ {K : PySem.W.Frag}{a : Addr}{xs : List V}{own : List Str}{cap : List Nat}{g : TG}{ti : TT}{te : TE}{σ : St}{H : Hp}{Q : VK}(Pv : Nat → List V → St → Hp → Prop)(h0 : Pv 0 [] (stB own cap σ) H)(hz : ∀ i ys σ H, i≤xs.length → Pv i ys σ H → ys.length≤i)(hn : xs.length≤sizeLine)
    (hl : ∀ i ys σ H, Pv i ys σ H → SqL K H a xs)
    (hs : ∀ i ys σ H x (N : List V → St → Hp → Prop), xs[i]? = some x → Pv i ys σ H → (∀ ys' σ' H'', Pv (i+1) ys' σ' H'' → N ys' σ' H'') → g x σ H fun σ2 H2 => ti σ2 H2 fun b H3 => if b=true then te σ2 H3 fun y H4 => N (ys++[y]) σ2 H4 else N ys σ2 H3)
    (hd : ∀ ys σ H D, Pv xs.length ys σ H → H D=none → Q (.ref D) (upd H D (.lst ys))) :
    ou own cap g ti te Q σ (Itl K a) H := by
  refine bH (J := Itl K a) xs.length Pv h0 hz hn (fun i ys σ H hi p => ⟨xs, xs[i], hl i ys σ H p, xS hi⟩) (fun ys σ H p => ⟨xs, hl _ ys σ H p, xT _⟩) ?_ hd
  rintro i ys σ H x H' N hi p ⟨rfl, hx⟩ hN
  exact hs i ys σ _ x N (hx xs (hl i ys σ _ p)) p hN
theorem dR {c : TT}{tb : TS}{D : fc}{σ : St}{H : Hp}(W : Nat → St → Hp → Prop)(E : St → Hp → Prop)(h0 : ∃ m, W m σ H)
    (turn : ∀ nx : St → Hp → Prop, (∀ σ H, E σ H → nx σ H) → ∀ m σ H, W m σ H → c σ H fun b H1 => if b=true then ∃ N : St → Hp → Prop, (∀ σ' H', N σ' H' → ∃ m', m' < m ∧ W m' σ' H') ∧ tb { D with nx := N, ct := N, bk := nx } σ H1 else nx σ H1)
    (he : ∀ σ H, E σ H → D.nx σ H) : pX c tb D σ H := ⟨W, h0, turn D.nx he⟩
theorem none_of {H H1 : Hp}{a : Addr}(s : au H H1)(h : H1 a=none) : H a=none := by
  cases e : H a with
  | none => rfl
  | some o => rw [s _ _ e] at h;cases h
end L2
namespace L2
open PySem PySem.Spec PyProof.Rows
theorem lT {X : Cx}{i : Nat}{y : Str}{py spos : Pos}{elt iter tg : Expr}{ifs : List Expr}{scope : Scope}{pos : Pos}{NB own : List Str}{cap : List Nat}{wi : TI}{g : TG}{ti : TT}{te : TE}(hN : X.N.Nodup)(hi0 : X.N[i]? = some y)(hx : Loc X.env.scope y)(B : Blk X scope NB own cap)(hc : X.calm=true)(hi : PI X tg iter wi)
    (hg : ∀ C fp s₀ H₀, PG (cxB X NB own scope C fp s₀ H₀) tg g) (ht : ∀ C fp s₀ H₀, PIf (cxB X NB own scope C fp s₀ H₀) ifs ti) (he : ∀ C fp s₀ H₀, PE (cxB X NB own scope C fp s₀ H₀) elt te)
    (hs : ∀ x, foldedSetIterable iter X.env x=pure x := by intro _;rfl) (hsw : swapsWith (.ListComp elt [⟨tg, iter, ifs, 0⟩] scope pos) (some (.Name y py)) spos.line X.env=pure true := by rfl) (hf : X.fn y=true ∨ X.env.scope.names.lookup y=some .local := by first | exact .inl rfl | exact .inr rfl | assumption) : PS X (.Assign [.Name y py] (.ListComp elt [⟨tg, iter, ifs, 0⟩] scope pos) spos) (vt (tY own cap wi g ti te) (kO i)) := by
  intro pins s σ H DD I0 h
  rw [exec_Assign_Name_used _ _ _ _ hsw]
  refine xR (wpAny_standAt (xR ?_))
  show wpAny _ X.A (do let _ ← comprehension (.ListComp elt [⟨tg, iter, ifs, 0⟩] scope pos) scope X.env _ (newList []) false (eval iter X.env) (some (assign (.Name y py) X.env))) _ _ s
  have hclos := c3 (env := X.env) (scope := scope) fun y hy e => I0.ok.has y.1 (.inl (B.free y hy e))
  refine xR (zt (BE (use := some (assign (.Name y py) X.env)) (Q := fun _ s' => SP X pins DD .next s') rfl hs hclos B.kind B.names (thn (hi pins s σ H _ I0 h) fun v s1 h1 => thn h1 fun itv s2 h2 => ?_)) (fun _ s' hq => x9 (x9 hq)) fun _ _ e => e)
  obtain ⟨it, fp, tn, J, H2, rfl, I, T, st2, f2, W, ⟨m0, w0⟩, turn⟩ := h2
  refine wpAny_newList ?_
  refine wpAny_newFunctionEnv B.nocell (by intro y hy;simp at hy) (fun h₁ hns₁ hsb₁ => ?_) B.kind
  dsimp only at hns₁ hsb₁ ⊢
  generalize hP : s2.heap.push { cls := .type "list", dict := none, data := .seq ([] : List Value).toArray }=P at hns₁ hsb₁ ⊢
  have hC : P.objs.size=s2.heap.objs.size+1 := by rw [← hP, Bv]
  have hDC : s2.heap.objs.size≠P.objs.size := by rw [hC];exact yH (A0 _)
  have hCle : s2.heap.objs.size≤P.objs.size := by rw [hC];exact BO _
  have old : ∀ b o, s2.heap.get? b=some o → h₁.get? b=some o := fun b o e => by
    refine (hsb₁.2 b ?_).trans (xW _ (hP ▸ xW _ e))
    exact yH (yj (yd e) hCle)
  have hD : h₁.get? s2.heap.objs.size=some { cls := .type "list", data := .seq ([] : List Value).toArray 0 } := by
    refine (hsb₁.2 _ hDC).trans (xW _ ?_)
    rw [← hP]
    exact ya _ rfl
  have hfs : ∀ b∈fp, ∃ o, s2.heap.get? b=some o := fun b hb => let ⟨o, e, _⟩ := T.obj _ _ st2 b hb;⟨o, e⟩
  have st4 : tn 0 h₁ := T.keep _ _ _ st2 fun b _ o e => old b o e
  generalize htk : s2.toks+([] : List (Str × Value)).length=tk4
  have I4 := B.start (C := P.objs.size) (tk := tk4) I f2 hfs hCle old hns₁
  have fOk : ∀ {H' : Hp} {b : Addr} {ob : Obj}, b∈fp → H' b=none → jq (cxB X NB own scope P.objs.size fp s2 H2) [(s2.heap.objs.size, ob)] H' b := fun {H' b ob} hb hn => by
    obtain ⟨o, e⟩ := hfs b hb
    refine ⟨hn, (I4.ok.exf b hb).1, I4.ok.exfs b hb, .inl hb, (I4.ok.exf b hb).2, fun p hp => ?_⟩
    have ep : p=(s2.heap.objs.size, ob) := x4.mp (show p∈[(s2.heap.objs.size, ob)] from hp)
    rw [ep]
    exact fun z => absurd (yd e) (by rw [← z];exact yO _)
  have dnf : s2.heap.objs.size∉frs X.stack := fun z => by
    rcases ye.mp (I.stkSub _ z) with z | z
    · exact absurd I.lt (by rw [← z];exact yO _)
    · exact I.nofs (xT _) z
  have I3D : ∀ {σ3 : St} {H3 : Hp} {s3 : Shared} {its : List Value} {k : Nat}, Inv (cxB X NB own scope P.objs.size fp s2 H2) [] σ3 H3 s3 → s3.heap.get? s2.heap.objs.size=some { cls := .type "list", data := .seq its.toArray k } → H3 s2.heap.objs.size=none →
      Inv (cxB X NB own scope P.objs.size fp s2 H2) [(s2.heap.objs.size, { cls := .type "list", data := .seq its.toArray k })] σ3 H3 s3 := fun I3 e n => I3.pins_of fun p hp => by
    have ep := x4.mp hp
    subst ep
    exact ⟨e, n, hDC, dnf, fun v z => by cases z⟩
  have ndf : s2.heap.objs.size∉fp := fun z => by
    obtain ⟨o, e⟩ := hfs _ z
    exact absurd (yd e) (yO _)
  have nCD : ∀ x c, (cxB X NB own scope P.objs.size fp s2 H2).env.cells.lookup x=some c → c≠s2.heap.objs.size := fun x c e z => by
    obtain ⟨v, o, ho, _⟩ := I.cell x c (B.cells I.ok e).1
    rw [z] at ho
    exact absurd (yd ho) (yO _)
  have loop : ∀ s₃ : Shared, s₃ = { s2 with heap := h₁, toks := tk4 } → codeAny (model X.prog X.w) X.A (.compLoop (.ListComp elt [⟨tg, iter, ifs, 0⟩] scope pos) 0 (.ref it) (.ref s2.heap.objs.size) (cxB X NB own scope P.objs.size fp s2 H2).env)
      (compPost (model X.prog X.w) X.A X.xe (some (assign (.Name y py) X.env)) (fun _ s' => SP X pins DD .next s') (.ref s2.heap.objs.size) P.objs.size) s₃ := by
    rintro s₃ rfl
    refine gX (fun n s' => ∃ i σB H' ys its k, Inv (cxB X NB own scope P.objs.size fp s2 H2) [] σB H' s' ∧ tn i s'.heap ∧ (∀ b∈fp, H' b=none) ∧ s'.heap.get? s2.heap.objs.size=some { cls := .type "list", data := .seq (its : List Value).toArray k } ∧ aL ys its ∧ H' s2.heap.objs.size=none ∧ W i n ys σB H') ?_ m0
      ⟨0, stB own cap σ, H2, [], [], 0, I4, st4, fun b hb => (f2 b hb).1, hD, .nil, I.hok.fresh (xT _), w0⟩
    rintro n s3 ⟨i, σ3, H3, ys, its, k, I3, st3, fr3, hD3, rv, hn3, w3⟩
    rcases turn i n ys σ3 H3 w3 with ⟨stop, hz, q⟩ | ⟨go, hz, step⟩
    · refine thn (T.done (cxB X NB own scope P.objs.size fp s2 H2) rfl rfl rfl hc i _ s3 σ3 H3 noE (I3D I3 hD3 hn3) (fun b hb => fOk hb (fr3 b hb)) st3 stop) fun r s4 zq1 => ?_
      obtain ⟨hr, I4'⟩ := zq1
      subst hr
      have hD4 : s4.heap.get? s2.heap.objs.size=some { cls := .type "list", data := .seq (its : List Value).toArray k } := (I4'.pin (s2.heap.objs.size, _) (x6 _ (x4.mpr rfl))).1
      have I5 : Inv (cxB X NB own scope P.objs.size fp s2 H2) [] σ3 H3 s4 := I4'.pins_of fun p hp => absurd (show p∈([] : List (Addr × Obj)) from hp) (by simp)
      obtain ⟨mC, hnC, _⟩ := I5.loc
      have I6 : Inv X pins σ (upd H3 s2.heap.objs.size (.lst ys)) s4 := B.done (h'' := s4.heap) I f2 hCle (xT _) hDC I5 hn3 hD4 rv hz ⟨rfl, fun _ _ => rfl⟩
      obtain ⟨oC, es, ep, hoC, hdC, rC⟩ := hnC
      have hCn : (upd H3 s2.heap.objs.size (.lst ys)) P.objs.size=none := by rw [ak hDC.symm];exact I5.free
      have nL : P.objs.size≠X.env.locals := fun z => absurd I.lt (by rw [← z];exact Nat.not_lt.mpr hCle)
      have I7 : Inv X (pins++[(P.objs.size, oC)]) σ (upd H3 s2.heap.objs.size (.lst ys)) s4 := I6.pins_of fun p hp => by
        rcases yn.mp hp with z | z
        · exact I6.pin p (x6 _ z)
        · have ep := x4.mp z
          subst ep
          exact ⟨hoC, hCn, nL, I.nofs hCle, fun v z => by rw [hdC] at z;cases z⟩
      refine thn (av (pos := py) hN hi0 hx hf (pins++[(P.objs.size, oC)]) s4 σ _ (.ref s2.heap.objs.size) (.ref s2.heap.objs.size) (fun σ' H' => DD.nx σ' H' ∧ H'=upd H3 s2.heap.objs.size (.lst ys)) I7 rfl ⟨q _ hn3, rfl⟩) fun _ s5 zq2 => ?_
      obtain ⟨σ5, H5, I8, q5, e5⟩ := zq2
      subst e5
      have pC := (I8.pin (P.objs.size, oC) (x6 _ (x6 _ (x4.mpr rfl)))).1
      refine ⟨mC, ⟨oC, es, ep, pC, hdC, rC⟩, fun h'' sb => ⟨σ5, _, ?_, q5⟩⟩
      have I9 : Inv X pins σ5 (upd H3 s2.heap.objs.size (.lst ys)) s5 := I8.pins_of fun p hp => I8.pin p (x6 _ (yE _ hp))
      refine I9.turned (t' := s5.toks) (it := P.objs.size) (fun b o hb e => (sb.2 b hb).trans e) hCn nL (.inr (yI I.sz hCle)) (fun x c e z => ?_) fun p hp z => ?_
      · obtain ⟨v, o, ho, _⟩ := I.cell x c e
        exact absurd (yd ho) (by rw [z];exact Nat.not_lt.mpr hCle)
      · exact absurd (yd (I.pin p hp).1) (by rw [z];exact Nat.not_lt.mpr hCle)
    · refine thn (T.item (cxB X NB own scope P.objs.size fp s2 H2) rfl rfl rfl hc i _ s3 σ3 H3 noE (I3D I3 hD3 hn3) (fun b hb => fOk hb (fr3 b hb)) st3 go) fun r s4 zq3 => ?_
      obtain ⟨u, hr, h4⟩ := zq3
      subst hr
      refine thn h4 fun _ s5 zq4 => ?_
      obtain ⟨x, H5, I5, r5, y5, st5, fr5⟩ := zq4
      have I5' := I5.pinned (fun b hb => fOk hb (fr5 b hb)) (T.obj _ _ st5)
      refine thn (hg _ fp s2 H2 _ s5 σ3 H5 x u _ I5' r5 (step x H5 y5)) fun _ s6 zq5 => ?_
      obtain ⟨σ6, H6, I6, q6⟩ := zq5
      refine thn (ht _ fp s2 H2 _ s6 σ6 H6 _ I6 q6) fun b s7 zq6 => ?_
      obtain ⟨H7, I7, q7⟩ := zq6
      have pinned : ∀ {σ8 : St} {H8 : Hp} {s8 : Shared}, Inv (cxB X NB own scope P.objs.size fp s2 H2) ([(s2.heap.objs.size, { cls := .type "list", data := .seq (its : List Value).toArray k })]++ff fp s5.heap) σ8 H8 s8 →
          tn (i+1) s8.heap ∧ (∀ b∈fp, H8 b=none) ∧ s8.heap.get? s2.heap.objs.size=some { cls := .type "list", data := .seq (its : List Value).toArray k } ∧ H8 s2.heap.objs.size=none := fun {σ8 H8 s8} I8 => by
        refine ⟨T.keep _ _ _ st5 fun b hb o e => (I8.pin (b, o) (x6 _ (x6 _ (bN hb e)))).1, fun b hb => ?_, ?_, ?_⟩
        · obtain ⟨o, e, d⟩ := T.obj _ _ st5 b hb
          exact (I8.pin (b, o) (x6 _ (x6 _ (bN hb e)))).2.1
        · exact (I8.pin (s2.heap.objs.size, _) (x6 _ (yE _ (x4.mpr rfl)))).1
        · exact (I8.pin (s2.heap.objs.size, _) (x6 _ (yE _ (x4.mpr rfl)))).2.1
      have nopin : ∀ {pp : List (Addr × Obj)} {σ8 : St} {H8 : Hp} {s8 : Shared}, Inv (cxB X NB own scope P.objs.size fp s2 H2) pp σ8 H8 s8 → Inv (cxB X NB own scope P.objs.size fp s2 H2) [] σ8 H8 s8 := fun I8 => I8.pins_of fun p hp => absurd (show p∈([] : List (Addr × Obj)) from hp) (by simp)
      cases b with
      | false =>
        rw [if_neg yc] at q7 ⊢
        obtain ⟨m', hm, w7⟩ := q7
        obtain ⟨p1, p2, p3, p4⟩ := pinned I7
        exact ⟨m', hm, i+1, σ6, H7, ys, its, k, nopin I7, p1, p2, p3, rv, p4, w7⟩
      | true =>
        rw [if_pos rfl] at q7 ⊢
        refine thn (he _ fp s2 H2 _ s7 σ6 H7 _ I7 q7) fun yv s8 zq7 => ?_
        obtain ⟨y, H8, I8, r8, m', hm, w8⟩ := zq7
        obtain ⟨p1, p2, p3, p4⟩ := pinned I8
        refine Af yV ⟨_, p3, rfl⟩ Bh (A5 _ _) (BD s2.heap.objs.size its.toArray k yv (by rw [x8, ← rv.length];omega)) ⟨p3, ?_⟩
        have q := BR p3 fun a => a.push yv
        have ea : its.toArray.push yv=(its++[yv]).toArray := by simp
        rw [ea] at q
        have I9 : Inv (cxB X NB own scope P.objs.size fp s2 H2) [] σ6 H8 { s8 with heap := s8.heap.update s2.heap.objs.size (Obj.mapSeq fun a => a.push yv), toks := s8.toks } :=
          (nopin I8).turned (it := s2.heap.objs.size) (fun b o hb e => (yT s8.heap _ (Ne.symm hb)).trans e) p4 hDC (.inr (xT _)) (fun x c e => nCD x c e) fun p hp => absurd (show p∈([] : List (Addr × Obj)) from hp) (by simp)
        refine ⟨m', hm, i+1, σ6, H8, ys++[y], its++[yv], _, I9, ?_, p2, q, rv.append (.cons r8 .nil), p4, w8⟩
        refine T.keep _ _ _ p1 fun b hb o e => (yT s8.heap _ ?_).trans e
        intro z
        rw [z] at ndf
        exact ndf hb
  exact codeAny_compStart_list (loop _ rfl) (T.self X.A 0 _ _ _ st4 (loop _ rfl))
end L2
namespace L2
open PySem PySem.Spec PyProof.Rows Wd
end L2
namespace L2
open PySem PySem.Spec PyProof.Rows Wd
section
variable {X : Cx}
inductive lU (x : V)(vs : List V)(H : Hp)(Q : VK) : Prop
  | mk : ∀ l xs i y, (x = .ref l) → (vs=[.int i, y]) → (H l=some (.lst xs)) → (0≤i) → (i≤xs.length) → (xs.length < sizeLine) → (Q .non (upd H l (.lst (xs.take i.toNat++y::xs.drop i.toNat)))) → lU x vs H Q
theorem hG : MtM X "list.insert" lU := by
  intro pins s σ H x vs v us Q I rx rv h
  obtain ⟨l, xs, i, y, rfl, rfl, hH, h0, h1, hz, q⟩ := h
  cases rx
  obtain ⟨u1, u2, rfl, ⟨t1, rfl⟩, r2⟩ := vF rv
  obtain ⟨z, its, n, r, hl, e⟩ := I.lstM hH
  have hn := cX
  have hfit : Builtin.List.listFitsIndex i=true := by
    unfold Builtin.List.listFitsIndex
    rw [yi, yw, yw]
    constructor <;> omega
  refine Af Al ⟨_, e, rfl⟩ PySem.F.entry_list_insert (PySem.F.args_list_insert_3 _ _ _) (PySem.AutoSeq1.list_insert_list_int_val_1 l its.toArray n i t1 u2 (by simp [hfit]) (by rw [x8];omega)) ⟨e, ?_⟩
  refine ⟨.non, _, I.lset (its' := its.take i.toNat++u2::its.drop i.toNat) hH e ?_ ((r.take _).append (.cons r2 (r.drop _))) ?_, rfl, q⟩
  · have hm : min i.toNat its.length=i.toNat := by omega
    simp only [x8, if_neg (show ¬ i < 0 by omega), hm]
    apply A3.mp
    simp
    exact yU (by rw [yK];exact xT _)
  · rw [xX, yF, yg, yK]
    omega
def uc (z : Str) : Str := Txt.sliceBy z none none (-1, 0)
def wa (te ts : TE) : TE := fun σ H Q => te σ H fun x H1 => ts σ H1 fun k H2 => ∃ z, x = .str z ∧ k = .int (-1) ∧ z.length≤sizeLine ∧ Q (.str (uc z)) H2
theorem q9 {e st : Expr}{te ts : TE}{pos p2 : Pos}(he : PE X e te)(hs : PE X st ts) : PE X (.Subscript e (.Slice none none (some st) p2) pos) (wa te ts) := by
  intro pins s σ H Q I h
  refine BC (thn (he pins s σ H _ I h) fun v s1 zq1 => ?_)
  obtain ⟨x, H1, I1, r1, q1⟩ := zq1
  refine wpAny_Slice ?_
  rw [BN]
  refine x9 ?_
  refine x9 ?_
  rw [evalPart_some]
  refine thn (hs pins s1 σ H1 _ I1 q1) fun vs s3 zq2 => ?_
  obtain ⟨k, H3, I3, r3, z, ez, ek, hz, q3⟩ := zq2
  subst ez ek
  obtain ⟨t, rfl⟩ := r1
  obtain ⟨tk, rfl⟩ := r3
  have I4 : Inv X pins σ H3 { s3 with heap := s3.heap.push { cls := .type "slice", data := .fields #[.none, .none, .int (-1) tk] } } := I3.kept (t' := s3.toks) fun b ob q => xW _ q
  show wpAny (model X.prog X.w) X.A (subscriptTail e (.Slice none none (some st) p2) (.str z t) (.ref s3.heap.objs.size)) (EP X pins σ Q) X.xe { s3 with heap := s3.heap.push { cls := .type "slice", data := .fields #[.none, .none, .int (-1) tk] } }
  refine tail_any (ops := [.ref s3.heap.objs.size, .str z t]) (Ak _ _ _) F.slot_str_getitem.lookup ?_ (by with_unfolding_all rfl)
  exact zx (l := none) (u := none) (st := some (-1, tk)) ⟨_, ya _ rfl, rfl, rfl⟩ rfl (Ax ⟨yI (Txt.sliceBy_le z none none (-1, tk) (by show (-1 : Int)≠0;decide)) hz, fun t' k => ⟨.str _, H3, I4.tok _, ⟨_, rfl⟩, q3⟩⟩)
theorem q_ {i o : Expr}{ty td : TE}{pos : Pos}(hu : X.A.units+1 < cLine)(hi : PE X i ty)(ho : PE X o td)(h1 : behindInMarks .NotIn o=false) : PT X (.Compare i [.NotIn] [o] pos) (tB (lz ty td)) := pU (lA hu hi ho) h1
theorem ud {i o : Expr}{ty td : TE}{pos : Pos}(hu : X.A.units+1 < cLine)(hi : PE X i ty)(ho : PE X o td)(h1 : behindInMarks .In o=false) : PT X (.Compare i [.In] [o] pos) (tB (w6 ty td)) := pU (tT hu hi ho) h1
theorem oG (u : List L) : uc (toS u)=toS u.reverse := by
  have h : (uc (toS u)).cps.toList=(toS u.reverse).cps.toList := by
    unfold uc
    rw [step_rev_list, bZ, af]
    apply List.ext_getElem?
    intro i
    rw [xY]
    by_cases hi : i < u.length
    · rw [List.getElem?_range hi, xY, zo hi]
      have e : (toS u).cps.getD (u.length - 1 - i) 0=cp u[u.length - 1 - i] := by
        simp [toS, Array.getD, show u.length - 1 - i < u.length by omega]
      rw [xS (show u.length - 1 - i < u.length by omega)]
      exact yB some e
    · rw [Aa (by simpa using hi), Aa (by simp;omega)]
      rfl
  cases hr : uc (toS u) with
  | mk c => 
    rw [hr] at h
    have : c=(toS u.reverse).cps := A3.mp h
    rw [this]
end
end L2
namespace Wd
structure Srf (u : List L) : Prop where
  ne : u≠[]
  nd : u.Nodup
  iv : ∀ x∈u, inv x∈u
  le : u.length≤12
def w_ (u : List L)(g : Nat) : L := u.getD ((g+1) % u.length) 0
def wb (u : List L)(g : Nat) : Nat := u.idxOf (inv (w_ u g))
def ue (u : List L) : Nat → Nat → List Nat → List L → List Nat × List L
  | 0, _, S, w => (S, w)
  | n+1, g, S, w => if g∈S then (S, w) else ue u n (wb u g) (S++[g]) (w++[w_ u g])
def wk (u : List L)(g : Nat)(S : List Nat)(w : List L) : List Nat × List L := ue u (u.length+1 - S.length) g S w
def fam (k : Nat) : List L := (List.range k).flatMap fun j => if h : j < 6 then [⟨j, by omega⟩, ⟨j+6, by omega⟩] else []
theorem fm : ∀ k : Fin 7, (fam k.val).Nodup ∧ (∀ x∈fam k.val, inv x∈fam k.val) ∧ (fam k.val).length=2*k.val := by decide
theorem jD {k : Nat}(h : k < 6) : fam (k+1)=fam k++[⟨k, by omega⟩, ⟨k+6, by omega⟩] := by
  unfold fam
  rw [zD, zU]
  simp [h]
theorem oH {u v : List L}(x : L)(i : Nat)(p : u.Perm v) : (u.take i++x::u.drop i).Perm (v++[x]) := by
  refine List.perm_middle.trans ?_
  rw [za]
  exact ((List.Perm.cons x p).trans (List.perm_append_singleton x v).symm)
end Wd
namespace Kx
open PySem PySem.Spec PyProof.Rows L2 Wd
theorem jE (u : List L)(x : L)(i : Nat) : StrLaws.At (toS u) (toS [x]) (toS u).length i ↔ u[i]? = some x := by
  unfold StrLaws.At
  rw [af, af, StrLaws.subAt_eq, af, bZ, bZ, beq_iff_eq, ← BP, ← A_]
  simp only [AO]
  constructor
  · rintro ⟨h1, h2⟩
    have h2 := dj h2
    have : (u.drop i).take 1=[u[i]] := by rw [zL (by omega)];rfl
    rw [this] at h2
    rw [xS (by omega)]
    exact yB some (Ag h2).1
  · intro h
    obtain ⟨hl, e⟩ := xV.mp h
    refine ⟨by omega, ?_⟩
    rw [zL hl, e]
    rfl
theorem qk {u : List L}{x : L}(h : x∈u) : ∃ rest, Builtin.Str.occurrences (toS u) (toS [x]) 0 (toS u).length 1=u.idxOf x::rest := by
  have hlt := yz h
  have hx : u[u.idxOf x]? = some x := by rw [xS hlt];exact yB some (zu hlt)
  rcases StrLaws.occ_head (toS u) (toS [x]) 1 (xT 1) with ⟨h0, hn⟩ | ⟨i, r, h0, hi, hn⟩
  · exact absurd ((jE u x _).mpr hx) (hn _)
  · refine ⟨r, ?_⟩
    rw [h0]
    have hi := (jE u x i).mp hi
    have : i=u.idxOf x := by
      rcases Nat.lt_trichotomy i (u.idxOf x) with h1 | h1 | h1
      · have q := B0 (p := (· == x)) h1
        obtain ⟨hl, e⟩ := xV.mp hi
        exact absurd (beq_iff_eq.mpr e) (by simpa using q)
      · exact h1
      · exact absurd ((jE u x _).mpr hx) (hn _ h1)
    rw [this]
theorem uf (x : L) : (!(Builtin.Str.occurrences ("ABCDEF" : Str) (toS [x]) 0 ("ABCDEF" : Str).length 1).isEmpty)=decide (¬ x.val < 6) := by
  have q : ∀ x : L, decide (cp x∈("ABCDEF" : Str).cps.toList)=decide (¬ x.val < 6) := by decide +kernel
  have h := StrLaws.found_one ("ABCDEF" : Str) (cp x)
  rw [q] at h
  exact h
structure Tp (H : Hp) (d c : Addr) : Prop where
  ex : ∃ (i l t : Int) (ns : List Int), H d=some (.lst [.ref c, .int i, .int l, .int t]) ∧ H c=some (.lst (ns.map V.int)) ∧ c≠d ∧ ns.length≤63
theorem Tp.same {H H' : Hp}{d c : Addr}(F : Tp H d c)(s : au H H') : Tp H' d c := by
  obtain ⟨i, l, t, ns, h1, h2, h3, h4⟩ := F.ex
  exact ⟨i, l, t, ns, s _ _ h1, s _ _ h2, h3, h4⟩
theorem Tp.new {H : Hp}{d c a : Addr}{o : HO}(F : Tp H d c)(h : H a=none) : Tp (upd H a o) d c := F.same (au.new h)
theorem Tp.ne {H : Hp}{d c a : Addr}(F : Tp H d c)(h : H a=none) : a≠d := by
  obtain ⟨i, l, t, ns, h1, h2, h3, h4⟩ := F.ex
  exact (ah h1 h).symm
theorem Tp.nec {H : Hp}{d c a : Addr}(F : Tp H d c)(h : H a=none) : a≠c := by
  obtain ⟨i, l, t, ns, h1, h2, h3, h4⟩ := F.ex
  exact (ah h2 h).symm
theorem Tp.but {H H' : Hp}{d c a : Addr}(F : Tp H d c)(h1 : a≠d)(h2 : a≠c)(s : a8 a H H') : Tp H' d c := by
  obtain ⟨i, l, t, ns, g1, g2, g3, g4⟩ := F.ex
  exact ⟨i, l, t, ns, s _ _ h1.symm g1, s _ _ h2.symm g2, g3, g4⟩
theorem none_of {H H' : Hp}{a : Addr}(s : au H H')(h : H' a=none) : H a=none := by
  cases e : H a with
  | none => rfl
  | some o => exact absurd (s _ _ e) (by rw [h];intro z;cases z)
inductive cH (vs : List V)(H : Hp)(Q : VK)(u3_ : XK) : Prop
  | mk : ∀ (d c : Addr) (m : Int), (vs=[.ref d, .int m]) → (Tp H d c) → (0 < m) → (m < 1000000) → (∀ (r : Int) (H' : Hp), 0≤r → r < m → Tp H' d c → a8 d H H' → Q (.int r) H') → cH vs H Q u3_
inductive lV (K : PySem.W.Frag)(vs : List V)(H : Hp)(Q : VK)(u3_ : XK) : Prop
  | mk : ∀ (a : Addr) (ns : List Int), (vs=[.ref a]) → (SqL K H a (ns.map V.int)) → (ns.length≤63) → (∀ (d c : Addr) (H' : Hp), H d=none → H c=none → Tp H' d c → au H H' → Q (.ref d) H') → lV K vs H Q u3_
theorem bg6 : ∀ j : Fin 6, ([6, 7, 8, 9, 10, 11] : List L)[j.val]? = some ⟨j.val+6, by omega⟩ := by decide
theorem sm_at {i : Nat}(h : i < 6) : atI ("abcdef" : Str).cps.toList (i : Int)=some (cp ⟨i, by omega⟩) := by
  rw [← oA]
  exact dk (k := i) rfl (sm6 ⟨i, h⟩)
theorem wc {i : Nat}(h : i < 6) : atI ("ABCDEF" : Str).cps.toList (i : Int)=some (cp ⟨i+6, by omega⟩) := by
  rw [← big]
  exact dk (k := i) rfl (bg6 ⟨i, h⟩)
theorem oI (W : List L)(x : L)(n : Nat) : (bF W).take n++tx [x]::(bF W).drop n=bF (W.take n++x::W.drop n) := by
  unfold bF
  simp
end Kx
namespace Wd
section
variable {α : Type}
def Adj : List α → α → α → Prop
  | a::b::t, x, y => (x=a ∧ y=b) ∨ Adj (b::t) x y
  | _, _, _ => False
theorem dn {a b : α}{t : List α}{x y : α} : Adj (a::b::t) x y ↔ (x=a ∧ y=b) ∨ Adj (b::t) x y := Iff.rfl
theorem iV {a x y : α} : Adj [a] x y ↔ False := Iff.rfl
theorem fV : ∀ (l : List α) (c : α) (m : List α) (x y : α), Adj (l++c::m) x y ↔ Adj (l++[c]) x y ∨ Adj (c::m) x y
  | [], c, m, x, y => by simp [iV]
  | [a], c, m, x, y => by
    show Adj (a::c::m) x y ↔ Adj [a, c] x y ∨ _
    rw [dn, dn, iV]
    simp
  | a::b::l, c, m, x, y => by
    have ih := fV (b::l) c m x y
    show Adj (a::b::(l++c::m)) x y ↔ Adj (a::b::(l++[c])) x y ∨ _
    rw [dn, dn]
    have ih : Adj (b::(l++c::m)) x y ↔ Adj (b::(l++[c])) x y ∨ Adj (c::m) x y := ih
    rw [ih, or_assoc]
theorem lX : ∀ {l : List α} {x y : α}, Adj l x y → x∈l ∧ y∈l
  | [], _, _, h => h.elim
  | [a], _, _, h => h.elim
  | a::b::t, x, y, h => by
    rcases h with ⟨rfl, rfl⟩ | h
    · simp
    · have := lX h
      exact ⟨x3 _ this.1, x3 _ this.2⟩
theorem eN : ∀ {l : List α} {x y : α}, Adj l x y → ∃ s t, l=s++x::y::t
  | [], _, _, h => h.elim
  | [a], _, _, h => h.elim
  | a::b::t, x, y, h => by
    rcases h with ⟨rfl, rfl⟩ | h
    · exact ⟨[], t, rfl⟩
    · obtain ⟨s, t', e⟩ := eN h
      exact ⟨a::s, t', by rw [e];rfl⟩
theorem ug {s t : List α}{x y : α} : Adj (s++x::y::t) x y := by
  rw [fV]
  exact .inr (.inl ⟨rfl, rfl⟩)
theorem rf {l : List α}{a b : α}(h : Adj l a b) : Adj l.reverse b a := by
  obtain ⟨s, t, rfl⟩ := eN h
  have : (s++a::b::t).reverse=t.reverse++b::a::s.reverse := by simp
  rw [this]
  exact ug
def Nx : List α → α → α → Prop
  | [], _, _ => False
  | h::t, x, y => Adj (h::t++[h]) x y
theorem fq : ∀ (A B : List α) (x y : α), Nx (A++B) x y ↔ Nx (B++A) x y
  | [], B, x, y => by simp
  | a::A, [], x, y => by simp
  | a::A, b::B, x, y => by
    show Adj (a::(A++b::B)++[a]) x y ↔ Adj (b::(B++a::A)++[b]) x y
    have e1 : a::(A++b::B)++[a]=(a::A)++b::(B++[a]) := by simp
    have e2 : b::(B++a::A)++[b]=(b::B)++a::(A++[b]) := by simp
    rw [e1, e2, fV (a::A) b, fV (b::B) a, or_comm]
    rfl
theorem ql {w : List α}{x y : α}(h : Nx w x y) : x∈w ∧ y∈w := by
  cases w with
  | nil => exact h.elim
  | cons a t =>
    have := lX h
    simp at this ⊢
    exact ⟨by rcases this.1 with h | h | h <;> simp [h], by rcases this.2 with h | h | h <;> simp [h]⟩
theorem lY {w : List α}{x : α}(h : x∈w) : ∃ A B, w=A++x::B := by
  obtain ⟨A, B, e⟩ := List.append_of_mem h
  exact ⟨A, B, e⟩
theorem fW {x y : α}{t : List α}(nd : (x::t).Nodup) : Nx (x::t) x y ↔ (t++[x]).head? = some y := by
  cases t with
  | nil =>
    show Adj [x, x] x y ↔ _
    rw [dn, iV]
    simp [eq_comm]
  | cons b r =>
    show Adj (x::b::(r++[x])) x y ↔ _
    rw [dn]
    constructor
    · rintro (⟨_, e⟩ | h)
      · simp [e]
      · exfalso
        have hx : x∉b::r := (y9.mp nd).1
        obtain ⟨s, t, e⟩ := eN h
        have e : (b::r)++[x]=s++x::y::t := e
        have h2 : (s++x::y::t)=(s++[x])++(y::t) := by simp
        rcases Bx.mp e with ⟨a', e1, e2⟩ | ⟨c', e1, e2⟩
        · have := yB List.length e2
          simp only [xX, yF, zQ] at this
          omega
        · cases c' with
          | nil => simp at e2
          | cons c c' =>
            have : c=x := by
              have := (Ag e2).1
              exact this.symm
            subst this
            exact hx (by rw [e1];simp)
    · intro h
      simp at h
      exact .inl ⟨rfl, h.symm⟩
theorem lZ {A B : List α}(nd : (A++B).Nodup) : (B++A).Nodup := (List.perm_append_comm.nodup_iff).mp nd
theorem uh {w : List α}{x y z : α}(nd : w.Nodup)(h1 : Nx w x y)(h2 : Nx w x z) : y=z := by
  obtain ⟨A, B, rfl⟩ := lY (ql h1).1
  have h1 := (fq _ _ _ _).mp h1
  have h2 := (fq _ _ _ _).mp h2
  have nd : (x::(B++A)).Nodup := lZ nd
  have h1 := (fW nd).mp h1
  have h2 := (fW nd).mp h2
  exact x5 (h1.symm.trans h2)
theorem qo {w : List α}{x y : α}(h : Nx w x y) : Nx w.reverse y x := by
  cases w with
  | nil => exact h.elim
  | cons a t =>
    have h := rf (show Adj (a::t++[a]) x y from h)
    have e : (a::t++[a]).reverse=a::t.reverse++[a] := by simp
    rw [e] at h
    have e2 : (a::t).reverse=t.reverse++[a] := by simp
    rw [e2, fq]
    exact h
theorem nx_inj {w : List α}{x y z : α}(nd : w.Nodup)(h1 : Nx w y x)(h2 : Nx w z x) : y=z := uh ((List.reverse_perm w).nodup_iff.mpr nd) (qo h1) (qo h2)
end
end Wd
namespace Wd
section
variable {α : Type}
end
def Rh (u : List L) : L → L → Prop := fun x y => Nx u (inv x) y
end Wd
namespace Wd
def rot (w : List L)(p : Nat) : List L := w.drop p++w.take p
end Wd
namespace Wd
def J (u v : List L) : Prop := ∀ x y, u.getLast? = some x → v.head? = some y → y≠inv x
structure Rnd (c : List L) : Prop where
  ne : c≠[]
  rd : Rd c
  jn : J c c
end Wd
namespace L2
open PySem PySem.Spec PyProof.Rows Wd
def ft (w : List L) : List (List L) := (List.range (max 1 w.length)).map fun i => w.drop i++w.take i
theorem oJ (ys : List Str)(h : ys≠[]) : ∃ m, e_ m ys := by
  have hp : 0 < ys.length := y_.mpr h
  obtain ⟨h1, h2⟩ := dm ys (ys.length - 1)
  have q : ∀ i, i < ys.length → cE ys i∈ys := fun i hi => by
    unfold cE
    rw [xU, xS hi]
    exact yP hi
  refine ⟨cE ys (argBest (btS ys) (ys.length - 1)), q _ (by omega), fun y hy => ?_⟩
  obtain ⟨j, hj, e⟩ := List.getElem_of_mem hy
  have := h2 j (by omega)
  have e2 : cE ys j=y := by
    unfold cE
    rw [xU, xS hj, e]
    rfl
  rw [e2] at this
  exact this
end L2
namespace Wd
def Rt (m p : List L) : Prop := ∃ a b, m=a++b ∧ p=b++a
theorem Rt.refl (m : List L) : Rt m m := ⟨[], m, rfl, by simp⟩
theorem Rt.symm {m p : List L}(h : Rt m p) : Rt p m := let ⟨a, b, e, f⟩ := h; ⟨b, a, f, e⟩
theorem Rt.trans {m p q : List L}(h : Rt m p)(g : Rt p q) : Rt m q := by
  obtain ⟨a, b, rfl, e⟩ := h
  obtain ⟨c, d, f, rfl⟩ := g
  have e : b++a=c++d := e.symm.trans f
  rcases Bx.mp e with ⟨x, rfl, rfl⟩ | ⟨x, rfl, rfl⟩
  · exact ⟨x, d++b, by simp, by simp⟩
  · exact ⟨a++c, x, by simp, by simp⟩
def R0 (m : List L) : Prop := m≠[] → Rnd m
end Wd
namespace L2
open PySem PySem.Spec PyProof.Rows Wd
theorem iW {m p : List L} : Rt m p ↔ p∈ft m := by
  unfold ft
  rw [yq]
  constructor
  · rintro ⟨a, b, rfl, rfl⟩
    by_cases hb : b=[]
    · subst hb
      refine ⟨0, yG.mpr (by omega), by simp⟩
    · have := y_.mpr hb
      refine ⟨a.length, yG.mpr (by rw [xX];omega), ?_⟩
      rw [List.drop_left' rfl, List.take_left' rfl]
  · rintro ⟨i, _, rfl⟩
    exact ⟨m.take i, m.drop i, (za i m).symm, rfl⟩
end L2
namespace Wd
end Wd
namespace Wd
section
variable {α : Type}
end
end Wd
namespace Wd
section
variable {α : Type}
def Pt (R : α → α → Prop)(a : α)(P : List α)(b : α) : Prop := ∀ c d, Adj (a::P++[b]) c d → R c d
end
end Wd
namespace Wd
theorem two_of {u : List L}(U : Srf u){x : L}(h1 : Rh u x x)(h2 : Rh u (inv x) (inv x)) : u.length≤2 := by
  unfold Rh at h1 h2
  rw [eG] at h2
  have hx := (ql h2).1
  obtain ⟨A, B, rfl⟩ := lY hx
  have h1 := (fq _ _ _ _).mp h1
  have h2 := (fq _ _ _ _).mp h2
  have nd : (x::(B++A)).Nodup := lZ U.nd
  have h2 := (fW nd).mp h2
  cases e : B++A with
  | nil =>
    obtain ⟨rfl, rfl⟩ := B1.mp e
    simp
  | cons c t =>
    rw [e] at h2
    simp at h2
    have h1 : Nx (x::(B++A)) (inv x) x := h1
    rw [e, h2] at h1 nd
    have h1 := (fq [x] (inv x::t) _ _).mp h1
    have nd' : (inv x::(t++[x])).Nodup := lZ (A := [x]) nd
    have h1 := (fW nd').mp h1
    cases t with
    | nil =>
      have := yB List.length e
      simp only [xX, yF, zQ] at this ⊢
      omega
    | cons d t =>
      simp at h1
      subst h1
      simp at nd
end Wd
namespace Wd
end Wd
namespace PySem
open Sem (wp)
open AutoSeq1 (wpAny_loadPart')
set_option maxHeartbeats 1000000 in
theorem l9 (tp : Addr)(its : Array Value)(m : Nat)(dc : Option Addr)(sls : Array (Option Value)) :
    Meets (Builtin.«enumerate.__new__» ⟨[.type "enumerate", .ref tp], []⟩) (fun _ R s => s.heap.get? tp=some { cls := .type "tuple", dict := dc, data := .seq its m, slots := sls } ∧
      R (.ok (.ret (.ref (s.heap.push { cls := .type "tuple_iterator", data := .fields #[.ref tp, .int 0 0] }).objs.size)))
        { s with heap := (s.heap.push { cls := .type "tuple_iterator", data := .fields #[.ref tp, .int 0 0] }).push { cls := .type "enumerate", data := .fields #[.none, .bool false, .ref s.heap.objs.size, rawInt 0, .none, .none] } }) :=
  .of_wp fun prog w A R s h => by
    obtain ⟨hp, gg, dd, tk, os⟩ := s;obtain ⟨ht, h⟩ := h
    have hsub := sub_enumerate
    have hT : Heap.IsTuple (Shared.heap ⟨hp, gg, dd, tk, os⟩) tp its := ⟨_, ht, rfl, m, rfl⟩
    wp_walk using wpAny_loadPart' ht
    refine wpAny_stack_any fun stk => x9 ?_
    split
    · rename_i cc _ _ _ _ _
      cases (cc == Value.type "enumerate")
      · (wp_walk using wpAny_loadPart' ht, z5 hT);exact ⟨_, rfl, h⟩
      · (wp_walk using wpAny_loadPart' ht, z5 hT);exact ⟨_, rfl, h⟩
    · (wp_walk using wpAny_loadPart' ht, z5 hT);exact ⟨_, rfl, h⟩
section
variable {prog : Program} {w : World} {A : Around} {E : Value → Shared → Prop} {s : Shared}
theorem oK {tp : Addr}{its : Array Value}{Q : Value → Shared → Prop}(hT : s.heap.IsTuple tp its)
    (h : ∀ h', IsEnum h' (s.heap.objs.size+1) s.heap.objs.size 0 .none → h'.IsTupleIter s.heap.objs.size tp 0 → (∀ b o, s.heap.get? b=some o → h'.get? b=some o) → Q (.ref (s.heap.objs.size+1)) { s with heap := h' }) :
    wpAny (model prog w) A (call (.type "enumerate") [.ref tp]) Q E s := by
  obtain ⟨⟨c, dc, dt, sls⟩, ht, hc, m, hd⟩ := hT
  obtain rfl : c = .type "tuple" := hc
  obtain rfl : dt = .seq its m := hd
  refine callType_new F.called_enumerate (by decide) (F.typeCall_enumerate_1 _) (F.newCall_enumerate_1 _) (fun ob => F.args_object_init_2 ob _) F.entry_enumerate_new (l9 tp its m dc sls) ⟨ht, ?_⟩
  have hz : (s.heap.push { cls := .type "tuple_iterator", data := .fields #[.ref tp, .int 0 0] }).objs.size=s.heap.objs.size+1 := Bv ..
  show _ ∧ _
  rw [hz]
  have he := ya (s.heap.push { cls := .type "tuple_iterator", data := .fields #[.ref tp, .int 0 0] }) (o := { cls := .type "enumerate", data := .fields #[.none, .bool false, .ref s.heap.objs.size, rawInt 0, .none, .none] }) rfl
  rw [hz] at he
  exact ⟨⟨_, he, rfl⟩, h _ he ⟨_, xW _ (ya _ rfl), rfl, rfl⟩ fun b o q => xW _ (xW _ q)⟩
theorem kj {it tp : Addr}{k : Nat}{its : Array Value}{v : Value}{Q : Value → Shared → Prop}(hit : s.heap.IsTupleIter it tp k)(ht : s.heap.IsTuple tp its)(hv : its[k]? = some v)
    (hQ : ∀ h', h'.IsTupleIter it tp (k+1) → Heap.SameBut it s.heap h' → Q v { s with heap := h' }) : wpAny (model prog w) A (Builtin.SmallTypes.nextOf (.ref it)) Q E s := by
  obtain ⟨oi, gi, ci, di⟩ := id hit
  obtain ⟨ot, gt, _, nt, dt⟩ := ht
  unfold Builtin.SmallTypes.nextOf
  refine xR (yM (name := Str.ofString "__next__") hit.typeIs zI (yZ zI hit.typeIs Bj ?_ (Bb _)))
  show wpAny _ _ (field (.ref it) 0 >>= _) _ _ s
  refine xR (zh gi di (x := .ref tp) rfl ?_)
  show wpAny _ _ (if (Value.ref tp == Value.none)=true then _ else _) _ _ s
  rw [if_neg (show ¬ ((Value.ref tp == Value.none)=true) from yc)]
  show wpAny _ _ (field (.ref it) 1 >>= _) _ _ s
  refine xR (zh gi di (x := .int k 0) rfl ?_)
  show wpAny _ _ (seqItems? (.ref tp) >>= _) _ _ s
  refine xR (Cd gt dt ?_)
  simp only [yf, hv]
  refine xR (zZ gi di (by simp) (x9 ⟨v, rfl, x9 (hQ _ ?_ (zT ..))⟩))
  exact ⟨_, zK _ gi (z_ (zc di _)), (BF ..).trans ci, by rw [zc di];simp [rawInt]⟩
theorem hU {it tp : Addr}{k : Nat}{its : Array Value}{Q : Value → Shared → Prop}(hh : A.handled=none)(hit : s.heap.IsTupleIter it tp k)(ht : s.heap.IsTuple tp its)(hv : its[k]? = none)
    (hE : ∀ h' e, Heap.ExtBut it s.heap h' → (∃ o, h'.get? e=some o ∧ o.cls = .type "StopIteration") → E (.ref e) { s with heap := h' }) : wpAny (model prog w) A (Builtin.SmallTypes.nextOf (.ref it)) Q E s := by
  obtain ⟨oi, gi, ci, di⟩ := id hit
  obtain ⟨ot, gt, _, nt, dt⟩ := ht
  unfold Builtin.SmallTypes.nextOf
  refine xR (yM (name := Str.ofString "__next__") hit.typeIs zI (yZ zI hit.typeIs Bj ?_ (Bb _)))
  show wpAny _ _ (field (.ref it) 0 >>= _) _ _ s
  refine xR (zh gi di (x := .ref tp) rfl ?_)
  show wpAny _ _ (if (Value.ref tp == Value.none)=true then _ else _) _ _ s
  rw [if_neg (show ¬ ((Value.ref tp == Value.none)=true) from yc)]
  show wpAny _ _ (field (.ref it) 1 >>= _) _ _ s
  refine xR (zh gi di (x := .int k 0) rfl ?_)
  show wpAny _ _ (seqItems? (.ref tp) >>= _) _ _ s
  refine xR (Cd gt dt ?_)
  simp only [yf, hv]
  refine xR (wpAny_rule (xR (zZ gi di (by simp) ?_)))
  show wpAny _ _ (newExc (.type "StopIteration") [] >>= _) _ _ _
  refine xR ?_
  simp only [newExc, newTuple]
  refine xR (y7 ?_ (by size_fits))
  refine xR (m := firstArgMember _ _) (AH (a := Value.none) (by first | rfl | (simp only [firstArgMember];rfl)) (y7 ?_ (by size_fits)))
  simp only [raiseNew]
  refine xR (wpAny_handled ?_)
  first | rw [show A.in1.handled=none from hh] | rw [hh]
  exact xR (x9 (wpAny_throw (hE _ _ (((zT ..).extBut.push _).push _) ⟨_, ya _ rfl, rfl⟩)))
theorem uk {prog : Program}{w : World}{A : Around}(hh : A.handled=none)(it tp : Addr)(hne : tp≠it)(its : Array Value) :
    Draws prog w A it [it, tp] its.size (fun i x => its[i]? = some x) (fun i h => h.IsTupleIter it tp i ∧ h.IsTuple tp its) where
  live := fun i h st => let ⟨⟨o, e, _⟩, _⟩ := st;⟨o, e⟩
  frame := fun i h h' st kk => ⟨st.1.at fun o e => kk it (by simp) o e, let ⟨o, e, r⟩ := st.2;⟨o, kk tp (by simp) o e, r⟩⟩
  item := fun i s Q E hi st hQ => kj st.1 st.2 (zk hi) fun h' st' sb => hQ _ h' s.toks (zk hi) ⟨st', let ⟨o, e, r⟩ := st.2;⟨o, (sb.2 tp hne).trans e, r⟩⟩ sb
  done := fun s Q E st hE => hU hh st.1 st.2 (B2 (xT _)) hE
end
end PySem
namespace L2
open PySem PySem.Spec PyProof.Rows Wd
def sR (K : PySem.W.Frag)(a : Addr) : It := ⟨fun i H => ∃ xs x, SqL K H a xs ∧ xs[i]? = some x,
  fun i H v H' => ∃ (T : Addr) (x : V), H T=none ∧ v = .ref T ∧ (∀ xs, SqL K H a xs → xs[i]? = some x) ∧ H'=upd H T (.tup [.int i, x]), fun i H => ∃ xs, SqL K H a xs ∧ xs.length≤i⟩
def sS (K : PySem.W.Frag)(a : Addr) : It := ⟨fun i H => ∃ xs x, SqT K H a xs ∧ xs[i]? = some x,
  fun i H v H' => ∃ (T : Addr) (x : V), H T=none ∧ v = .ref T ∧ (∀ xs, SqT K H a xs → xs[i]? = some x) ∧ H'=upd H T (.tup [.int i, x]), fun i H => ∃ xs, SqT K H a xs ∧ xs.length≤i⟩
theorem hV {X : Cx}{pins : List (Addr × Obj)}{σ : St}{H : Hp}{s : Shared}{E : Value → Shared → Prop}{elts : List Expr}{k : Nat}{pos : Pos}{e it : Addr}{fp : List Addr}{n i : Nat}{Pv : Nat → Value → Prop}{St' : Nat → Heap → Prop}{old : Value}{tn : Nat → Heap → Prop}{Y : V → Hp → Prop}{x : V}
    (D : Draws X.prog X.w X.A.in1 it fp n Pv St') (I : Inv X pins σ H s) (hf : ∀ b∈[e, it], jq X pins H b) (he : IsEnum s.heap e it i old) (hst : St' i s.heap) (hi : i < n) (hne : e≠it) (hef : e∉fp) (hrel : ∀ u, Pv i u → bf x u) (hit : ∃ o, s.heap.get? it=some o)
    (hY : ∀ T, H T=none → Y (.ref T) (upd H T (.tup [.int i, x]))) (htn : ∀ h', St' (i+1) h' → (∃ old, IsEnum h' e it ((i : Int)+1) old) → tn (i+1) h') :
    wpAny (model X.prog X.w) X.A (pyNext (.ref e)) (fun r s1 => ∃ u, r=some u ∧
      wpAny (model X.prog X.w) X.A (letOwnedTupleGo (.Tuple elts k pos) (.ref e) u) (fun _ s2 => ∃ y H', Inv X pins σ H' s2 ∧ bf y u ∧ Y y H' ∧ tn (i+1) s2.heap ∧ ∀ b∈[e, it], H' b=none) E s1) E s := by
  refine wpAny_pyNext_enum_itemD D he hst hi hne hef fun u h' tk hu b1 b2 b3 b4 b5 => ⟨_, rfl, wpAny_letOwnedTupleGo_enum b1 fun h2 c1 e2 => ?_⟩
  have hTe : s.heap.objs.size≠e := Nat.ne_of_gt (yd he)
  have kk : ∀ b o, b∉[e, it] → s.heap.get? b=some o → h2.get? b=some o := fun b o hb q => by
    simp only [ye, yD, zV, not_or] at hb
    exact e2.extBut _ _ hb.1 (b5 b o hb.1 hb.2 q)
  have there : ∀ b∈[e, it], ∃ o, s.heap.get? b=some o := fun b hb => by
    simp only [ye, yD, zV] at hb
    rcases hb with rfl | rfl
    · exact ⟨_, he⟩
    · exact hit
  have I2 : Inv X pins σ (upd H s.heap.objs.size (.tup [.int i, x])) { s with heap := h2, toks := tk+1 } :=
    I.stepT (ch := [e, it]) (its := [.int i tk, u]) hf kk (xT _) (by show 2≤sizeLine;decide) (.cons ⟨_, rfl⟩ (.cons (hrel u hu) .nil)) ⟨_, e2.extBut _ _ hTe b3, rfl, _, rfl⟩ ⟨_, e2.extBut _ _ hTe b3, rfl⟩ there
  have hn : H s.heap.objs.size=none := I.hok.fresh (xT _)
  refine ⟨.ref s.heap.objs.size, _, I2, rfl, hY _ hn, htn h2 (D.frame _ _ _ b2 fun b hb o q => e2.extBut _ _ (fun z => hef (z ▸ hb)) q) ⟨_, c1⟩, fun b hb => ?_⟩
  obtain ⟨o, q⟩ := there b hb
  rw [ak (yH (yd q))]
  exact (hf b hb).1
theorem oM {P : Program}{w : World}{K : PySem.W.Frag}{elts : List Expr}{k : Nat}{pos : Pos}{e it a : Addr}(hne : e≠it) :
    pY P w K (.Tuple elts k pos) (sR K a) [e, it] e (fun i h => (∃ old, IsEnum h e it i old) ∧ h.IsListIter it a i) where
  mem := by simp
  obj := fun i h st b hb => by
    obtain ⟨⟨old, s1⟩, ⟨o, s2, _, d2⟩⟩ := st
    simp only [ye, yD, zV] at hb
    rcases hb with rfl | rfl
    · exact ⟨_, s1, fun v q => by cases q⟩
    · exact ⟨_, s2, fun v q => by rw [d2] at q;cases q⟩
  keep := fun i h h' st kk => by
    obtain ⟨⟨old, s1⟩, s2⟩ := st
    exact ⟨⟨old, kk e (by simp) _ s1⟩, s2.at fun o q => kk it (by simp) o q⟩
  item := by
    intro X hP hw hK hc i pins s σ H E I hf st hg
    subst hP hw hK
    obtain ⟨xs, x, hq, hx⟩ := hg
    obtain ⟨its, rv, p, hz⟩ := I.list hq
    obtain ⟨u, hu, ru⟩ := rv.get hx
    obtain ⟨⟨old, s1⟩, s2⟩ := st
    have hu' : its.toArray[i]? = some u := by simpa using hu
    have ha : a≠e := fun z => by obtain ⟨o, q, c, _⟩ := p.isList;rw [z, s1] at q;cases q;simp at c
    have hb : a≠it := fun z => by obtain ⟨o, q, c, _⟩ := p.isList;obtain ⟨o2, q2, c2, _⟩ := s2;rw [z, q2] at q;cases q;rw [c2] at c;simp at c
    refine hV (tn := fun i h => (∃ old, IsEnum h e it i old) ∧ h.IsListIter it a i) (Draws.list (by exact I.ok.hd hc) it a hb its.toArray) I hf s1 ⟨s2, p.isList⟩ (zH.mp hu').1 hne (by simp only [ye, yD, zV, not_or];exact ⟨hne, fun z => ha z.symm⟩)
      (fun u2 h2 => by rw [show its.toArray[i]? = some u2 from h2] at hu';cases hu';exact ru) (let ⟨o, q, _⟩ := s2;⟨o, q⟩) (fun T hT => ⟨T, x, hT, rfl, fun ys hy => by rw [I.list_inj hy hq];exact hx, rfl⟩) fun h' st' ho => ⟨by simpa using ho, st'.1⟩
  done := by
    intro X hP hw hK hc i pins s σ H E I hf st hg
    subst hP hw hK
    obtain ⟨xs, hq, hx⟩ := hg
    obtain ⟨its, rv, p, hz⟩ := I.list hq
    obtain ⟨⟨old, s1⟩, s2⟩ := st
    obtain ⟨f0, f1, f2, f3, f4, f5⟩ := hf it (by simp)
    have hl := rv.length
    exact wpAny_pyNext_enum_end (I.ok.hd hc) s1 s2 p.isList (by simp;omega) fun h' eb => ⟨rfl, I.turned (t' := s.toks) (fun b o hb q => eb b o hb q) f0 f1 f3 f4 f5⟩
  self := fun _ _ _ _ _ st h => let ⟨⟨_, s1⟩, _⟩ := st;AJ s1 h
theorem oN {P : Program}{w : World}{K : PySem.W.Frag}{elts : List Expr}{k : Nat}{pos : Pos}{e it a : Addr}(hne : e≠it) :
    pY P w K (.Tuple elts k pos) (sS K a) [e, it] e (fun i h => (∃ old, IsEnum h e it i old) ∧ h.IsTupleIter it a i) where
  mem := by simp
  obj := fun i h st b hb => by
    obtain ⟨⟨old, s1⟩, ⟨o, s2, _, d2⟩⟩ := st
    simp only [ye, yD, zV] at hb
    rcases hb with rfl | rfl
    · exact ⟨_, s1, fun v q => by cases q⟩
    · exact ⟨_, s2, fun v q => by rw [d2] at q;cases q⟩
  keep := fun i h h' st kk => by
    obtain ⟨⟨old, s1⟩, s2⟩ := st
    exact ⟨⟨old, kk e (by simp) _ s1⟩, s2.at fun o q => kk it (by simp) o q⟩
  item := by
    intro X hP hw hK hc i pins s σ H E I hf st hg
    subst hP hw hK
    obtain ⟨xs, x, hq, hx⟩ := hg
    obtain ⟨its, rv, p, hz⟩ := I.tuple hq
    obtain ⟨u, hu, ru⟩ := rv.get hx
    obtain ⟨⟨old, s1⟩, s2⟩ := st
    have hu' : its.toArray[i]? = some u := by simpa using hu
    have ha : a≠e := fun z => by obtain ⟨o, q, c, _⟩ := p;rw [z, s1] at q;cases q;simp at c
    have hb : a≠it := fun z => by obtain ⟨o, q, c, _⟩ := p;obtain ⟨o2, q2, c2, _⟩ := s2;rw [z, q2] at q;cases q;rw [c2] at c;simp at c
    refine hV (tn := fun i h => (∃ old, IsEnum h e it i old) ∧ h.IsTupleIter it a i) (uk (by exact I.ok.hd hc) it a hb its.toArray) I hf s1 ⟨s2, p⟩ (zH.mp hu').1 hne (by simp only [ye, yD, zV, not_or];exact ⟨hne, fun z => ha z.symm⟩)
      (fun u2 h2 => by rw [show its.toArray[i]? = some u2 from h2] at hu';cases hu';exact ru) (let ⟨o, q, _⟩ := s2;⟨o, q⟩) (fun T hT => ⟨T, x, hT, rfl, fun ys hy => by rw [I.tuple_inj hy hq];exact hx, rfl⟩) fun h' st' ho => ⟨by simpa using ho, st'.1⟩
  done := by
    intro X hP hw hK hc i pins s σ H E I hf st hg
    subst hP hw hK
    obtain ⟨xs, hq, hx⟩ := hg
    obtain ⟨its, rv, p, hz⟩ := I.tuple hq
    obtain ⟨⟨old, s1⟩, s2⟩ := st
    obtain ⟨f0, f1, f2, f3, f4, f5⟩ := hf it (by simp)
    have hl := rv.length
    have hb : a≠it := fun z => by obtain ⟨o, q, c, _⟩ := p;obtain ⟨o2, q2, c2, _⟩ := s2;rw [z, q2] at q;cases q;rw [c2] at c;simp at c
    have T : wpAny (model X.prog X.w) X.A (pyNext (.ref e)) (fun r s1 => r=none ∧ Inv X pins σ H s1) E s := by
      have hT : s.TypeIs (.ref e) "enumerate" := ⟨_, s1, rfl⟩
      unfold pyNext
      refine xR (Ay (yM (name := Str.ofString "__next__") hT F.slot_enumerate_next (yZ F.slot_enumerate_next hT F.entry_enumerate_next ?_ (F.args_enumerate_next_1 _))))
      show wpAny _ _ (field (.ref e) 2 >>= _) _ _ _
      refine xR (zh s1 rfl (x := .ref it) rfl (xR (hU (by exact I.ok.hd hc) s2 p (by simp;omega) fun h' ex eb hx' => ?_)))
      obtain ⟨o, ho, hcl⟩ := hx'
      exact xR (A1 (T := "StopIteration") (b := true) ⟨o, ho, hcl⟩ Ca (x9 ⟨rfl, I.turned (t' := s.toks) (fun b o hb q => eb b o hb q) f0 f1 f3 f4 f5⟩))
    exact T
  self := fun _ _ _ _ _ st h => let ⟨⟨_, s1⟩, _⟩ := st;AJ s1 h
section
variable {X : Cx}
def xG (K : PySem.W.Frag)(ta : TA) : TI := fun σ H R => ta σ H fun vs H1 => ∃ a, vs=[.ref a] ∧ (∃ xs, SqL K H1 a xs) ∧ R (sR K a) H1
def xH (K : PySem.W.Frag)(ta : TA) : TI := fun σ H R => ta σ H fun vs H1 => ∃ a, vs=[.ref a] ∧ (∃ xs, SqT K H1 a xs) ∧ R (sS K a) H1
theorem fp2 {pins : List (Addr × Obj)}{σ : St}{H : Hp}{s : Shared}(I : Inv X pins σ H s) : ∀ b∈[s.heap.objs.size+1, s.heap.objs.size], jq X pins H b := fun b hb => by
  have hge : s.heap.objs.size≤b := by
    simp only [ye, yD, zV] at hb
    rcases hb with rfl | rfl <;> omega
  exact I.fpOk hge (I.hok.fresh hge)
theorem uo {K : PySem.W.Frag}(hK : X.K=K){a : Expr}{ta : TA}{p pos tp : Pos}{elts : List Expr}{k : Nat}(hg : Gl X "enumerate")(hm : X.mg "enumerate" = none)(hb : bootBuiltins "enumerate" = some (.type "enumerate"))(ha : PA X [a] ta)(hs : starEach [a] X.env=[(false, eval a X.env)] := by rfl) :
    PI X (.Tuple elts k tp) (.Call (.Name "enumerate" p) [a] [] pos) (xG K ta) := by
  subst hK
  intro pins s σ H R I h
  refine Call_ (dY I hg hm hb (yX (thn (ha pos pins s σ H _ I h) fun us s1 zq1 => ?_) hs rfl))
  obtain ⟨vs, H1, I1, r1, q1⟩ := zq1
  obtain ⟨l, rfl, ⟨xs, hq⟩, q⟩ := q1
  obtain ⟨u1, rfl, ru⟩ := cx r1
  cases ru
  obtain ⟨its, rv, pl, hz⟩ := I1.list hq
  refine call_enumerate_list pl.isList fun h' b1 b2 b3 b4 => ?_
  have I2 : Inv X pins σ H1 { s1 with heap := h', toks := s1.toks } := I1.kept b4
  exact AJ (s := { s1 with heap := h', toks := s1.toks }) b1 ⟨s1.heap.objs.size+1, [s1.heap.objs.size+1, s1.heap.objs.size], _, sR X.K l, H1, rfl, I2, oM (Nat.succ_ne_self _), ⟨⟨_, b1⟩, b2⟩, fp2 I1, q⟩
theorem uq {K : PySem.W.Frag}(hK : X.K=K){a : Expr}{ta : TA}{p pos tp : Pos}{elts : List Expr}{k : Nat}(hg : Gl X "enumerate")(hm : X.mg "enumerate" = none)(hb : bootBuiltins "enumerate" = some (.type "enumerate"))(ha : PA X [a] ta)(hs : starEach [a] X.env=[(false, eval a X.env)] := by rfl) :
    PI X (.Tuple elts k tp) (.Call (.Name "enumerate" p) [a] [] pos) (xH K ta) := by
  subst hK
  intro pins s σ H R I h
  refine Call_ (dY I hg hm hb (yX (thn (ha pos pins s σ H _ I h) fun us s1 zq2 => ?_) hs rfl))
  obtain ⟨vs, H1, I1, r1, q1⟩ := zq2
  obtain ⟨l, rfl, ⟨xs, hq⟩, q⟩ := q1
  obtain ⟨u1, rfl, ru⟩ := cx r1
  cases ru
  obtain ⟨its, rv, pl, hz⟩ := I1.tuple hq
  refine oK pl fun h' b1 b2 b4 => ?_
  have I2 : Inv X pins σ H1 { s1 with heap := h', toks := s1.toks } := I1.kept b4
  exact AJ (s := { s1 with heap := h', toks := s1.toks }) b1 ⟨s1.heap.objs.size+1, [s1.heap.objs.size+1, s1.heap.objs.size], _, sS X.K l, H1, rfl, I2, oN (Nat.succ_ne_self _), ⟨⟨_, b1⟩, b2⟩, fp2 I1, q⟩
end
theorem rg {K : PySem.W.Frag}{a : Addr}{xs : List V}{g : TG}{tb : TS}{D : fc}{σ : St}{H : Hp}(Pv : Nat → St → Hp → Prop)(h0 : Pv 0 σ H)(hl : ∀ i σ H, i≤xs.length → Pv i σ H → SqL K H a xs)
    (hs : ∀ i x σ H T, xs[i]? = some x → Pv i σ H → H T=none → g (.ref T) σ (upd H T (.tup [.int i, x])) fun σ2 H2 => tb { D with nx := Pv (i+1), ct := Pv (i+1), bk := D.nx } σ2 H2) (hd : ∀ σ H, Pv xs.length σ H → D.nx σ H) :
    ∃ W : Nat → Nat → St → Hp → Prop, (∃ m, W 0 m σ H) ∧ ∀ i m σ H, W i m σ H →
      ((sR K a).stop i H ∧ D.nx σ H) ∨ ((sR K a).go i H ∧ ∃ N : St → Hp → Prop, (∀ σ' H', N σ' H' → ∃ m', m' < m ∧ W (i+1) m' σ' H') ∧ ∀ x H', (sR K a).yld i H x H' → g x σ H' fun σ2 H2 => tb { D with nx := N, ct := N, bk := D.nx } σ2 H2) := by
  refine ⟨fun i m σ H => m=xs.length - i ∧ i≤xs.length ∧ Pv i σ H, ⟨xs.length, by simp, yQ _, h0⟩, ?_⟩
  rintro i m σ H ⟨rfl, hi, p⟩
  have q := hl i σ H hi p
  by_cases hlt : i < xs.length
  · refine .inr ⟨⟨xs, xs[i], q, by simp [hlt]⟩, Pv (i+1), fun σ' H' p' => ⟨xs.length - (i+1), by omega, rfl, hlt, p'⟩, ?_⟩
    rintro v H' ⟨T, x, hT, rfl, hx, rfl⟩
    exact hs i x σ _ T (hx xs q) p hT
  · obtain rfl : i=xs.length := by omega
    exact .inl ⟨⟨xs, q, xT _⟩, hd σ H p⟩
theorem rh {K : PySem.W.Frag}{a : Addr}{xs : List V}{g : TG}{tb : TS}{D : fc}{σ : St}{H : Hp}(Pv : Nat → St → Hp → Prop)(h0 : Pv 0 σ H)(hl : ∀ i σ H, i≤xs.length → Pv i σ H → SqT K H a xs)
    (hs : ∀ i x σ H T, xs[i]? = some x → Pv i σ H → H T=none → g (.ref T) σ (upd H T (.tup [.int i, x])) fun σ2 H2 => tb { D with nx := Pv (i+1), ct := Pv (i+1), bk := D.nx } σ2 H2) (hd : ∀ σ H, Pv xs.length σ H → D.nx σ H) :
    ∃ W : Nat → Nat → St → Hp → Prop, (∃ m, W 0 m σ H) ∧ ∀ i m σ H, W i m σ H →
      ((sS K a).stop i H ∧ D.nx σ H) ∨ ((sS K a).go i H ∧ ∃ N : St → Hp → Prop, (∀ σ' H', N σ' H' → ∃ m', m' < m ∧ W (i+1) m' σ' H') ∧ ∀ x H', (sS K a).yld i H x H' → g x σ H' fun σ2 H2 => tb { D with nx := N, ct := N, bk := D.nx } σ2 H2) := by
  refine ⟨fun i m σ H => m=xs.length - i ∧ i≤xs.length ∧ Pv i σ H, ⟨xs.length, by simp, yQ _, h0⟩, ?_⟩
  rintro i m σ H ⟨rfl, hi, p⟩
  have q := hl i σ H hi p
  by_cases hlt : i < xs.length
  · refine .inr ⟨⟨xs, xs[i], q, by simp [hlt]⟩, Pv (i+1), fun σ' H' p' => ⟨xs.length - (i+1), by omega, rfl, hlt, p'⟩, ?_⟩
    rintro v H' ⟨T, x, hT, rfl, hx, rfl⟩
    exact hs i x σ _ T (hx xs q) p hT
  · obtain rfl : i=xs.length := by omega
    exact .inl ⟨⟨xs, q, xT _⟩, hd σ H p⟩
end L2
namespace PySem
open Sem (wp)
section
variable {prog : Program} {w : World} {A : Around} {E : Value → Shared → Prop} {s : Shared} {z TI TO i1 i2 : Addr} {k n1 n2 : Nat} {a b : Value} {fp1 fp2 : List Addr} {P1 P2 : Nat → Value → Prop} {S1 S2 : Nat → Heap → Prop}
end
end PySem
namespace PySem
end PySem
namespace L2
open PySem PySem.Spec PyProof.Rows Wd
section
variable {X : Cx}
end
end L2
namespace PySem
end PySem
namespace L2
open PySem PySem.Spec PyProof.Rows Wd
section
variable {X : Cx}
end
end L2
namespace L2
open PySem PySem.Spec PyProof.Rows Wd
section
variable {X : Cx}
end
end L2
namespace Wd
def img (ws : List (List L))(x : L) : List L := if x.val < 6 then ws.getD x.val [] else bk (ws.getD (x.val - 6) [])
def sub (ws : List (List L))(u : List L) : List L := u.flatMap (img ws)
theorem l_ (x : L) : (inv x).val=if x.val < 6 then x.val+6 else x.val - 6 := by unfold inv; split <;> rfl
def fv (n : Nat) : List (List L) := (([0, 1, 2, 3, 4, 5] : List L).take n).map fun x => [x]
def InM (n : Nat)(u : List L) : Prop := ∀ x∈u, x.val % 6 < n
theorem InM.bk {n : Nat}{u : List L}(h : InM n u) : InM n (bk u) := by
  intro x hx
  unfold Wd.bk at hx
  rw [Aj, yq] at hx
  obtain ⟨y, hy, rfl⟩ := hx
  have h1 := h y hy
  have := y.isLt
  rw [l_]
  split <;> omega
structure xa (n b : Nat) (ws : List (List L)) : Prop where
  len : ws.length=n
  rd : ∀ w∈ws, red w=w
  ins : ∀ w∈ws, InM n w
  le : ∀ w∈ws, w.length≤b
theorem hX {n : Nat}(h : n≤6) : xa n 1 (fv n) := by
  have q : ∀ w∈fv n, ∃ x : L, w=[x] ∧ x.val < n := by
    intro w hw
    have : ∀ (n : Fin 7), ∀ w∈fv n.val, ∃ x : L, w=[x] ∧ x.val < n.val := by decide
    exact this ⟨n, by omega⟩ w hw
  refine ⟨by unfold fv;rw [fu, yg];simp;omega, ?_, ?_, ?_⟩
  all_goals
    intro w hw
    obtain ⟨x, rfl, hx⟩ := q w hw
  · rfl
  · intro y hy
    rw [x4] at hy
    subst hy
    omega
  · exact xT _
end Wd
namespace PySem
section
variable {prog : Program} {w : World} {A : Around} {E : Value → Shared → Prop}
end
end PySem
namespace L2
open PySem PySem.Spec PyProof.Rows Wd
section
variable {X : Cx} {pos : Pos}
inductive wd (x : V)(y : V)(H : Hp)(Q : VK) : Prop
  | mk : ∀ da db, (Dt H x da) → (Dt H y db) → (da.canLay0=true) → (db.canLay0=true) → (da.depth≤10) → (Q (.bl (!PyData.eqv da db)) H) → wd x y H Q
theorem ma (hu : X.A.units+64 < cLine) : OpR X (compareOp .NotEq) wd := by
  intro pins s σ H x y v u Q I rx ry h
  obtain ⟨da, db, ha, hb, la, lb, dp, q⟩ := h
  obtain ⟨as, ra⟩ := ha.reads I.hok rx
  obtain ⟨bs, rb⟩ := hb.reads I.hok ry
  exact BG (SeqAt.rcNeAt_reads ra rb la lb (by omega)) ⟨.bl _, H, I, rfl, q⟩
end
theorem rj (u : List L) : (PyData.str (toS u)).canLay0=true := by
  unfold PyData.canLay0 PyData.strOk
  rw [← Array.all_toList, bZ, Ai]
  intro c hc
  obtain ⟨x, _, rfl⟩ := yq.mp hc
  have := oz x
  exact yJ (by omega)
theorem h_ : ∀ ws : List (List L), PyData.canLayAll0 (ws.map fun u => .str (toS u))=true
  | [] => rfl
  | u::ws => by
    rw [yk, PyData.canLayAll0, rj, h_ ws]
    rfl
end L2
namespace L2
open PySem PySem.Spec PyProof.Rows Wd
section
variable {X : Cx}
inductive qp (x : V)(vs : List V)(H : Hp)(Q : VK) : Prop
  | mk : ∀ z y, (x = .str z) → (vs=[.str y]) → (Q (.int (Txt.find z y)) H) → qp x vs H Q
theorem oO : MtR X "str.find" qp := by
  intro pins s σ H x vs v us Q I rx rv h
  obtain ⟨z, y, rfl, rfl, q⟩ := h
  obtain ⟨t, rfl⟩ := rx
  obtain ⟨u1, rfl, ⟨t1, rfl⟩⟩ := cx rv
  exact SC.find ⟨.int _, H, I.tok _, ⟨_, rfl⟩, q⟩
theorem rk {K : PySem.W.Frag}(hK : X.K=K) : IxR X (vJ K) := by subst hK; exact aY
inductive jF (x : V)(vs : List V)(H : Hp)(Q : VK) : Prop
  | mk : ∀ z, (x = .str z) → (vs=[]) → (Q (.bl (Txt.islower z)) H) → jF x vs H Q
theorem km : MtR X "str.islower" jF := by
  intro pins s σ H x vs v us Q I rx rv h
  obtain ⟨z, rfl, rfl, q⟩ := h
  obtain ⟨t, rfl⟩ := rx
  cases rv
  exact SC.islower ⟨.bl _, H, I, rfl, q⟩
end
theorem md : ∀ x : L, Txt.islower (toS [x])=decide (x.val < 6) := by decide +kernel
theorem ur : ∀ i : _root_.Fin 6, ("abcdef" : Str).cps[i.val]? = some (cp ⟨i.val, by omega⟩) := by decide +kernel
theorem sm_at {i c : Nat}(h : ("abcdef" : Str).cps[i]? = some c) : ∃ x : L, x.val=i ∧ i < 6 ∧ c=cp x := by
  have hl : i < 6 := by
    obtain ⟨h1, _⟩ := zH.mp h
    have : ("abcdef" : Str).cps.size=6 := by decide +kernel
    omega
  have := ur ⟨i, hl⟩
  rw [this] at h
  exact ⟨⟨i, by omega⟩, rfl, hl, (x5 h).symm⟩
theorem mf : ∀ ws : List (List L), Txt.join ("" : Str) (ws.map toS)=toS ws.flatten := by
  intro ws
  have e0 : ("" : Str)=Str.empty := by decide +kernel
  unfold Txt.join
  rw [StrLaws.glued_eq_join, e0]
  induction ws with
  | nil => rfl
  | cons x r ih =>
    cases r with
    | nil =>
      show toS x=_
      simp
    | cons y r =>
      show toS x++Str.empty++Str.join Str.empty ((y::r).map toS)=_
      rw [ih, Str.append_empty, dh]
      rfl
end L2
namespace Kx
open PySem PySem.Spec PyProof.Rows L2 Wd
end Kx
namespace Wd
def vf (n : Nat)(e o : L) : List (List L) := (fv n).set (e.val % 6) (if e.val < 6 then [o, e] else bk [o, e])
theorem rm {n : Nat}(h : n≤6)(e o : L) : (vf n e o).length=n := by unfold vf; rw [zm, (hX h).len]
theorem put_map {n : Nat}(h : n≤6){e o : L}(he : e.val % 6 < n)(ho : o.val % 6 < n)(hn : o.val % 6≠e.val % 6) : xa n 2 (vf n e o) := by
  have P := hX h
  have hi : e≠inv o := fun z => hn (by rw [z, l_];split <;> omega)
  have r1 : red [o, e]=[o, e] := by
    show (act [e] [o]).reverse=_
    show (push [o] e).reverse=_
    show (if o=inv e then [] else [e, o]).reverse=_
    rw [if_neg (fun z => hi (by rw [z, eG]))]
    rfl
  have r2 : red (bk [o, e])=bk [o, e] := by
    show (push [inv e] (inv o)).reverse=[inv e, inv o]
    show (if inv e=inv (inv o) then [] else [inv o, inv e]).reverse=_
    rw [if_neg (fun z => hi (by rw [eG] at z;rw [← z, eG]))]
    rfl
  have i1 : InM n [o, e] := fun y hy => by
    simp only [ye, yD, zV] at hy
    rcases hy with rfl | rfl
    · exact ho
    · exact he
  have all : ∀ w∈vf n e o, w∈fv n ∨ w=[o, e] ∨ w=bk [o, e] := by
    intro w hw
    rcases By hw with hw | hw
    · exact .inl hw
    · rw [hw]
      split
      · exact .inr (.inl rfl)
      · exact .inr (.inr rfl)
  refine ⟨rm h e o, fun w hw => ?_, fun w hw => ?_, fun w hw => ?_⟩
  all_goals rcases all w hw with hw | rfl | rfl
  · exact P.rd w hw
  · exact r1
  · exact r2
  · exact P.ins w hw
  · exact i1
  · exact i1.bk
  · have := P.le w hw;omega
  · exact xT _
  · exact xT _
end Wd
namespace L2
open PySem PySem.Spec PyProof.Rows Wd
section
variable {X : Cx}
end
end L2
namespace Kx
open PySem PySem.Spec PyProof.Rows L2 Wd
end Kx
namespace L2
open PySem PySem.Spec PyProof.Rows Wd
section
variable {X : Cx}
end
end L2
namespace L2
open PySem PySem.Spec PyProof.Rows
section
variable {X : Cx}
end
end L2
namespace L2
open PySem PySem.Spec PyProof.Rows
section
variable {prog : Program} {w : World} {A : Around} {E : Value → Shared → Prop} {s : Shared}
end
section
variable {X : Cx}
def xI (ta tb : TE) : TE := fun σ H Q => ta σ H fun x H1 => ∃ z, x = .str z ∧ z.length≤sizeLine ∧ (if ((z.length : Int) != 0)=true then Q (.str z) H1 else tb σ H1 Q)
theorem uu {a b : Expr}{rest : List Expr}{ta tb : TE}{pos : Pos}(ha : PE X a ta)(hb : PE X (.BoolOp .Or (b::rest) pos) tb) : PE X (.BoolOp .Or (a::b::rest) pos) (xI ta tb) := by
  intro pins s σ H Q I h
  refine BoolOp_or (thn (ha pins s σ H _ I h) fun v s1 zq1 => ?_)
  obtain ⟨x, H1, I1, r1, z, ez, hz, q1⟩ := zq1
  subst ez
  refine thn (p0 pins s1 σ H1 (.str z) v (fun c H' => if c=true then Q (.str z) H' else tb σ H' Q) I1 r1 ⟨_, ⟨hz, rfl⟩, q1⟩) fun c s2 zq2 => ?_
  obtain ⟨H2, I2, q2⟩ := zq2
  cases c with
  | false => exact hb pins s2 σ H2 Q I2 (by simpa using q2)
  | true => exact ⟨.str z, H2, I2, r1, by simpa using q2⟩
end
end L2
namespace L2
open PySem PySem.Spec PyProof.Rows Wd
section
variable {X : Cx}
end
end L2
namespace Kx
open PySem PySem.Spec PyProof.Rows L2 Wd
def jn (yl : List Nat) : List (List Nat) → List Nat
  | [] => []
  | [p] => p
  | p::q::r => p++yl++jn yl (q::r)
end Kx
namespace L2
open PySem PySem.Spec PyProof.Rows Wd
section
variable {X : Cx} {tg : Expr}
end
end L2
namespace Kx
open PySem PySem.Spec PyProof.Rows L2 Wd
def dV : V → PyData
  | .int i => .int i
  | .str z => .str z
  | _ => .none
end Kx
namespace Wd
structure SK (u : List L) (k : Nat) : Prop where
  pm : u.Perm (fam k)
  lo : 1≤k
  hi : k≤6
theorem rp {k : Nat}(h : k≤6) : (fam k).length=2*k := (fm ⟨k, by omega⟩).2.2
theorem SK.len {u : List L}{k : Nat}(h : SK u k) : u.length=2*k := by rw [h.pm.length_eq, rp h.hi]
theorem rq : ∀ (k : Fin 7) (x : L), x∈fam k.val ↔ x.val % 6 < k.val := by decide
theorem SK.mem {u : List L}{k : Nat}(h : SK u k)(x : L) : x∈u ↔ x.val % 6 < k := by
  rw [h.pm.mem_iff]
  exact rq ⟨k, by have := h.hi;omega⟩ x
theorem cV : ∀ x : L, (inv x).val % 6=x.val % 6 := by decide
theorem mh {u : List L}{x : L}(h : x∈u) : u[u.idxOf x]? = some x := by
  have hlt := yz h
  rw [xS hlt]
  exact yB some (zu hlt)
theorem idx_inj {u : List L}{x y : L}(hx : x∈u)(hy : y∈u)(h : u.idxOf x=u.idxOf y) : x=y := by
  have h1 := mh hx
  have h2 := mh hy
  rw [h, h2] at h1
  exact (x5 h1).symm
def rfI (u : List L)(a b : L) : Int := ((u.idxOf b : Int) - (u.idxOf a : Int)) % (u.length : Int)
def ic (u : List L)(x z : L) : Int := if rfI u x z < rfI u x (inv x) then 1 else 0
def sd (u : List L)(x y : L) : Int := ic u x y - ic u x (inv y)
def lt6 (j : Nat) : L := if h : j < 12 then ⟨j, h⟩ else 0
end Wd
namespace L2
open PySem PySem.Spec PyProof.Rows
section
variable {X : Cx}
end
end L2
namespace Kx
open PySem PySem.Spec PyProof.Rows L2 Wd
theorem ia : ∀ (r : List Str) (x : Str), risingS x r=true → (x::r).Pairwise fun a b => a.cps.toList≤b.cps.toList
  | [], x, _ => by simp
  | z::r, x, h => by
    have l := dH (z::r) x h
    unfold risingS at h
    rw [yi] at h
    exact List.Pairwise.cons (fun y hy => l.2 y (x3 _ hy)) (ia r z h.2)
theorem ie {l : List Str}(h : sortedS l=true) : l.Pairwise fun a b => a.cps.toList≤b.cps.toList := by
  cases l with
  | nil => exact .nil
  | cons x r => exact ia r x h
theorem kq {a b : List Str}(ha : sortedS a=true)(hb : sortedS b=true)(p : a.Perm b) : a=b :=
  List.Perm.eq_of_pairwise (fun x y _ _ h1 h2 => Str.ext' (A3.mp (List.le_antisymm h1 h2))) (ie ha) (ie hb) p
def xQ (k : Nat) : List L := (List.range k).map lt6++bk ((List.range k).map lt6)
end Kx
namespace L2
open PySem PySem.Spec PyProof.Rows
section
variable {prog : Program} {w : World} {A : Around} {E : Value → Shared → Prop} {s : Shared}
end
section
variable {X : Cx}
end
end L2
namespace HT
open PySem PySem.Spec PyProof.Rows
section
variable {prog : Program} {w : World} {A : Around} {E : Value → Shared → Prop} {s : Shared}
end
end HT
namespace L2
open PySem PySem.Spec PyProof.Rows Wd
end L2
namespace L2
open PySem PySem.Spec PyProof.Rows Wd
section
variable {X : Cx}
end
end L2
namespace Kx
open PySem PySem.Spec PyProof.Rows L2 Wd
end Kx
namespace Kx
open PySem PySem.Spec PyProof.Rows L2 Wd
end Kx
namespace L2
open PySem PySem.Spec PyProof.Rows Wd
section
variable {X : Cx}
end
end L2
namespace Wd
def nm (N : List L)(x : L) : L := if x.val < 6 then N.getD x.val 0 else inv (N.getD (x.val - 6) 0)
end Wd
namespace L2
open PySem PySem.Spec PyProof.Rows Wd
theorem iX {α β : Type}(f : α → β){zs ys : List β}(p : ys.Perm zs) : ∀ W : List α, ys=W.map f → ∃ V : List α, V.Perm W ∧ zs=V.map f := by
  induction p with
  | nil =>
    intro W e
    exact ⟨W, .refl _, e⟩
  | cons x _ ih =>
    intro W e
    cases W with
    | nil => cases e
    | cons w W =>
      obtain ⟨e1, e2⟩ := Ag e
      obtain ⟨V, h1, h2⟩ := ih W e2
      exact ⟨w::V, h1.cons w, by rw [h2, e1];rfl⟩
  | swap x y l =>
    intro W e
    match W, e with
    | a::b::W, e =>
      obtain ⟨e1, e2⟩ := Ag e
      obtain ⟨e2, e3⟩ := Ag e2
      exact ⟨b::a::W, List.Perm.swap a b W, by rw [e1, e2, e3];rfl⟩
  | trans _ _ ih1 ih2 =>
    intro W e
    obtain ⟨V, h1, h2⟩ := ih1 W e
    obtain ⟨V2, h3, h4⟩ := ih2 V h2
    exact ⟨V2, h3.trans h1, h4⟩
section
variable {X : Cx}
inductive bQ (K : PySem.W.Frag)(xs : List V)(H : Hp)(Q : VK) : Prop
  | mk : ∀ (l : Addr) (W : List (List L)), (xs=[.ref l]) → (SqL K H l (W.map tx)) → (W.length < 64) → (∀ (p : Addr) (V : List (List L)), H p=none → V.Perm W → sortedS (V.map toS)=true → Q (.ref p) (upd H p (.lst (V.map tx)))) → bQ K xs H Q
theorem cg : cS X (.builtin "sorted") (bQ X.K) := by
  intro pins s σ H xs us Q I r h
  obtain ⟨l, W, rfl, hq, h64, q⟩ := h
  have ew : W.map tx=(W.map toS).map V.str := by rw [yR];rfl
  rw [ew] at hq
  obtain ⟨u, rfl, ru⟩ := cx r
  cases ru
  obtain ⟨its, rv, pl, hz⟩ := I.list hq
  have hS := cJ rv
  have hlen : its.length=(W.map toS).length := by rw [← rv.length, fu]
  rw [fu] at hlen
  refine sorted_strs pl.isList hS (by omega) fun out zs hO hp hs => ?_
  obtain ⟨e, he⟩ := sortedAll_at s.heap its out
  have hv : aL (zs.map V.str) out.toList := dI hO
  have I2 : Inv X pins σ (upd H (s.heap.objs.size+1) (.lst (zs.map V.str))) { s with heap := sortedAll s.heap its out, toks := s.toks } :=
    I.laid (fun b o e => sortedAll_old e) (BO _) ⟨by rw [fu, hp.length_eq];rw [fu] at hz;exact hz, out.toList, e, hv, by simpa [seqObj] using he⟩
  obtain ⟨V, h1, h2⟩ := iX toS hp.symm W rfl
  subst h2
  have q := q (s.heap.objs.size+1) V (I.hok.fresh (BO _)) h1 hs
  have ev : V.map tx=(V.map toS).map L2.V.str := by rw [yR];rfl
  rw [ev] at q
  exact ⟨.ref (s.heap.objs.size+1), _, I2, rfl, q⟩
end
end L2
namespace Kx
open PySem PySem.Spec PyProof.Rows L2 Wd
end Kx
namespace PySem
open Sem (wp)
section
variable {prog : Program} {w : World} {A : Around} {E : Value → Shared → Prop} {s : Shared}
section
variable {R : Result → Shared → Prop} {I : Addr} {fp wr : List Addr} {G : Array GenState → Array GenState → Prop} {n : Nat} {P : Nat → Value → Prop} {St : Nat → Shared → Prop}
end
end
end PySem
namespace PySem
open Sem (wp)
section
variable {prog : Program} {w : World} {A : Around} {E : Value → Shared → Prop} {s : Shared}
end
end PySem
namespace PySem
open Sem (wp)
section
variable {prog : Program} {w : World} {A : Around} {E : Value → Shared → Prop} {s : Shared}
section
variable {R : Result → Shared → Prop} {I : Addr} {fp wr : List Addr} {G : Array GenState → Array GenState → Prop} {n : Nat} {P : Nat → Value → Prop} {St : Nat → Shared → Prop}
end
end
end PySem
namespace PySem
open Sem (wp)
section
variable {prog : Program} {w : World} {A : Around} {E : Value → Shared → Prop} {s : Shared}
end
end PySem
namespace PySem
open Sem (wp)
section
variable {prog : Program} {w : World} {A : Around} {E : Value → Shared → Prop} {s : Shared}
end
end PySem
namespace PySem
open Sem (wp)
section
variable {prog : Program} {w : World} {A : Around} {E : Value → Shared → Prop} {s : Shared}
end
end PySem
namespace Ts
open PySem PyProof.Rows
section
variable {prog : Program} {w : World} {A : Around} {E : Value → Shared → Prop} {s : Shared} {κ : KeyKind}
end
end Ts
namespace Ts
open PySem PyProof.Rows
end Ts
namespace Ts
open PySem PyProof.Rows
variable {κ : KeyKind}
end Ts
namespace Ts
open PySem PyProof.Rows
section
variable {prog : Program} {w : World} {A : Around} {E : Value → Shared → Prop} {s : Shared} {κ : KeyKind}
end
end Ts
namespace Ts
open PySem PyProof.Rows
variable {κ : KeyKind}
section
variable {prog : Program} {w : World} {A : Around} {E : Value → Shared → Prop} {s : Shared}
end
end Ts
namespace Ts
open PySem PyProof.Rows
variable {κ : KeyKind}
section
variable {prog : Program} {w : World} {A : Around} {E : Value → Shared → Prop} {s : Shared}
end
end Ts
namespace Ts
open PySem PyProof.Rows
variable {κ : KeyKind}
section
variable {prog : Program} {w : World} {A : Around} {E : Value → Shared → Prop} {s : Shared}
end
end Ts
namespace Ts
open PySem PyProof.Rows
variable {κ : KeyKind}
section
variable {prog : Program} {w : World} {A : Around} {E : Value → Shared → Prop} {s : Shared}
end
end Ts
namespace Ts
open PySem PyProof.Rows
variable {κ : KeyKind}
section
variable {prog : Program} {w : World} {A : Around} {E : Value → Shared → Prop} {s : Shared}
end
end Ts
namespace Ts
open PySem PyProof.Rows
variable {κ : KeyKind}
section
variable {prog : Program} {w : World} {A : Around} {E : Value → Shared → Prop} {s : Shared}
end
end Ts
namespace L2
open PySem PySem.Spec PyProof.Rows
section
variable {prog : Program} {w : World} {A : Around} {E : Value → Shared → Prop} {s : Shared}
end
section
variable {X : Cx}
end
section
variable {prog : Program} {w : World} {A : Around} {E : Value → Shared → Prop} {s : Shared}
end
section
variable {X : Cx}
end
end L2
namespace Tv
open PySem PyProof.Rows
section
variable {prog : Program} {w : World} {A : Around} {E : Value → Shared → Prop} {s : Shared}
end
end Tv
namespace Ts
open PySem PyProof.Rows
end Ts
namespace L2
open PySem PySem.Spec PyProof.Rows Wd Ts
section
variable {prog : Program} {w : World} {A : Around} {E : Value → Shared → Prop} {s : Shared}
end
section
variable {X : Cx}
end
end L2
namespace Tv
open PySem PyProof.Rows
section
variable {prog : Program} {w : World} {A : Around} {E : Value → Shared → Prop} {s : Shared}
end
end Tv
namespace L2
open PySem PySem.Spec PyProof.Rows Wd Tv
section
variable {X : Cx}
end
end L2
namespace PySem
end PySem
namespace L2
open PySem PySem.Spec PyProof.Rows Wd
section
variable {X : Cx}
end
end L2
namespace HT
open PySem PySem.Spec PyProof.Rows
section
variable {prog : Program} {w : World} {A : Around} {E : Value → Shared → Prop} {s : Shared}
theorem dO {sl : Addr}{tk : Tok}{n : Nat}{Q : Int × Int × Nat → Shared → Prop}(hs : s.heap.IsSliceOf sl .none .none (.int (-1) tk))
    (h : Q ((n : Int) - 1, -1, n) s) : wpAny (model prog w) A (Builtin.Slice.sliceApplied (.ref sl) (pure (n : Int))) Q E s := by
  obtain ⟨os, hos, hcs, hds⟩ := id hs
  unfold Builtin.Slice.sliceApplied Builtin.Slice.sliceFields
  refine xR (xR (zh hos hds (x := .none) rfl (xR (zh hos hds (x := .none) rfl (xR (zh hos hds (x := .int (-1) tk) rfl (x9 ?_)))))))
  refine xR (slicePart_int ?_)
  show wpAny _ _ (if ((-1 : Int) == 0)=true then _ else _) _ _ s
  rw [if_neg (by decide)]
  refine xR (slicePart_none (xR (slicePart_none (xR (x9 ?_)))))
  have e : Builtin.Slice.slicePlaces ((n : Int) - 1) (-1) (-1)=n := by
    unfold Builtin.Slice.slicePlaces
    rw [if_neg (by decide)]
    by_cases hn : n=0
    · subst hn;decide
    · rw [if_pos (by omega), show (-(-1) : Int)=1 from rfl, Int.ediv_one];omega
  show wpAny _ _ (pure ((n : Int) - 1, (-1 : Int), Builtin.Slice.slicePlaces ((n : Int) - 1) (-1) (-1))) _ _ s
  rw [e]
  exact x9 h
theorem cR {α β : Type}{f : α → Option β}{g : α → β} : ∀ {l : List α}, (∀ m∈l, f m=some (g m)) → l.filterMap f=l.map g
  | [], _ => rfl
  | a::r, h => by rw [List.filterMap_cons_some (h a yb), yk, cR fun m hm => h m (x3 _ hm)]
theorem oP (xs : Array Value) : ((List.range xs.size).filterMap fun (m : Nat) => xs[((xs.size : Int) - 1+(m : Int)*(-1)).toNat]?).toArray=xs.toList.reverse.toArray := by
  congr 1
  have e : ∀ m∈List.range xs.size, xs[((xs.size : Int) - 1+(m : Int)*(-1)).toNat]? = some ((fun m => xs.toList.getD (xs.size - 1 - m) .none) m) := by
    intro m hm
    have hm := yG.mp hm
    have : ((xs.size : Int) - 1+(m : Int)*(-1)).toNat=xs.size - 1 - m := by omega
    rw [this]
    have hlt : xs.size - 1 - m < xs.size := by omega
    simp [List.getD, hlt]
  rw [cR e]
  apply List.ext_getElem?
  intro i
  rw [xY]
  by_cases hi : i < xs.size
  · rw [List.getElem?_range hi, zo (by simpa using hi)]
    have hlt : xs.size - 1 - i < xs.size := by omega
    simp [List.getD, hlt]
  · rw [Aa (by simpa using hi), Aa (by simp;omega)]
    rfl
theorem dq {t sl : Addr}{items : Array Value}{tk : Tok}{Q : Value → Shared → Prop}(ht : IsTup s.heap t items)(hs : s.heap.IsSliceOf sl .none .none (.int (-1) tk))
    (h : Q (.ref s.heap.objs.size) { s with heap := s.heap.push { cls := .type "tuple", data := .seq items.toList.reverse.toArray } })
    (hsz : items.size≤sizeLine) : wpAny (model prog w) A (getItem (.ref t) (.ref sl)) Q E s := by
  have htake : sizeOk (.seq items.toList.reverse.toArray) := by
    show items.toList.reverse.toArray.size≤sizeLine
    rw [x8, zW, zy]
    exact hsz
  obtain ⟨os, hos, hcs, hds⟩ := id hs
  have hTs : s.TypeIs (.ref sl) "slice" := ⟨os, hos, hcs⟩
  unfold getItem
  try with_reducible refine Aq ?_
  first | refine xR (x9 ?_) | skip
  refine xR (wpAny_sequenceKey ht.typeIs (by decide) ?_)
  refine xR (yM (name := Str.ofString "__getitem__") ht.typeIs AK
    (yZ AK ht.typeIs entry_tuple_getitem ?_ (args_tuple_getitem _ _)))
  show wpAny _ _ (Builtin.Tuple.tupleItemsOf (.ref t) >>= _) _ _ s
  refine xR (tupleItemsOf_ ht ?_)
  refine xR (wpAny_typeOf hTs ?_)
  rw [if_pos (by decide)]
  refine xR (dO hs ?_)
  show wpAny _ _ (if ((((items.size : Nat) : Int) - 1 == 0 && (-1 : Int) == 1 && items.size == items.size)=true) then _ else _) _ _ s
  rw [if_neg (by simp), oP]
  first
    | exact xR (m := Builtin.Tuple.tupleExact _) (y7 (x9 ⟨_, rfl, x9 h⟩) htake)
    | exact xR (m := Builtin.Tuple.tupleExact _) (y7 (xR (x9 (x9 ⟨_, rfl, x9 h⟩))) htake)
    | exact xR (xR (m := Builtin.Tuple.tupleExact _) (y7 (x9 (x9 ⟨_, rfl, x9 h⟩)) htake))
    | exact xR (xR (m := Builtin.Tuple.tupleExact _) (y7 (x9 ⟨_, rfl, x9 h⟩) htake))
end
end HT
namespace L2
open PySem PySem.Spec PyProof.Rows Wd
section
variable {X : Cx}
def we (te ts : TE) : TE := fun σ H Q => te σ H fun x H1 => ts σ H1 fun k H2 => ∃ a xs, x = .ref a ∧ k = .int (-1) ∧ H2 a=some (.tup xs) ∧ ∀ p, H2 p=none → Q (.ref p) (upd H2 p (.tup xs.reverse))
theorem rz {e st : Expr}{te ts : TE}{pos p2 : Pos}(he : PE X e te)(hs : PE X st ts) : PE X (.Subscript e (.Slice none none (some st) p2) pos) (we te ts) := by
  intro pins s σ H Q I h
  refine BC (thn (he pins s σ H _ I h) fun v s1 zq1 => ?_)
  obtain ⟨x, H1, I1, r1, q1⟩ := zq1
  refine wpAny_Slice ?_
  rw [BN]
  refine x9 ?_
  refine x9 ?_
  rw [evalPart_some]
  refine thn (hs pins s1 σ H1 _ I1 q1) fun vs s3 zq2 => ?_
  obtain ⟨k, H3, I3, r3, a, xs, ez, ek, hx, q3⟩ := zq2
  subst ez ek
  cases r1
  obtain ⟨tk, rfl⟩ := r3
  have I4 : Inv X pins σ H3 { s3 with heap := s3.heap.push { cls := .type "slice", data := .fields #[.none, .none, .int (-1) tk] } } := I3.kept (t' := s3.toks) fun b ob q => xW _ q
  obtain ⟨its, r, ht, hz⟩ := I4.tuple (SqT.of (K := X.K) hx)
  show wpAny (model X.prog X.w) X.A (subscriptTail e (.Slice none none (some st) p2) (.ref a) (.ref s3.heap.objs.size)) (EP X pins σ Q) X.xe { s3 with heap := s3.heap.push { cls := .type "slice", data := .fields #[.none, .none, .int (-1) tk] } }
  refine tail_any (ops := [.ref a, .ref s3.heap.objs.size]) ht.typeIs AK.lookup ?_ (by with_unfolding_all rfl)
  refine HT.dq (tk := tk) ht ⟨_, ya _ rfl, rfl, rfl⟩ ?_ (by rw [x8, ← r.length];exact hz)
  refine ⟨.ref _, _, I4.laid (t' := s3.toks) (o := .tup xs.reverse) (fun b ob q => xW _ q) (xT _) ?_, rfl, q3 _ (I4.hok.fresh (xT _))⟩
  refine ⟨by rw [zW];exact hz, _, ?_, IsTup.new _ _, .new _ _ rfl⟩
  exact r.reverse
end
theorem fX {X : Cx}{K : PySem.W.Frag}(hK : X.K=K) : cS X (.builtin "len") (bX K) := by
  subst hK
  exact aE
end L2
namespace Kx
open PySem PySem.Spec PyProof.Rows L2 Wd
def fst (c : Option (Int × Int)) : Int := match c with | some (i, _) => i | none => 0
end Kx
namespace Kx
open PySem PySem.Spec PyProof.Rows L2 Wd
end Kx
namespace L2
open PySem PySem.Spec PyProof.Rows Wd
section
variable {X : Cx}
inductive eO  (xs : List V)(H : Hp)(Q : VK) : Prop
  | mk : ∀ (j : Int), (xs=[.int j]) → (∀ p, H p=none → Q (.ref p) (upd H p (.rng 0 j))) → eO xs H Q
theorem ig : cS X (.type "range") eO := by
  intro pins s σ H xs us Q I r h
  obtain ⟨j, rfl, q⟩ := h
  obtain ⟨u, rfl, t, rfl⟩ := cx r
  refine call_range_1 ⟨.ref s.heap.objs.size, _, I.laid (o := .rng 0 j) (fun b ob q => xW _ q) (xT _) ⟨_, _, _, ya _ rfl⟩, rfl, q _ (I.hok.fresh (xT _))⟩
inductive cI  (xs : List V)(H : Hp)(Q : VK) : Prop
  | mk : ∀ (p : Addr) (n : Nat), (xs=[.ref p]) → (H p=some (.rng 0 (n : Int))) → (n≤16777216) → (∀ l, H l=none → Q (.ref l) (upd H l (.lst ((List.range n).map fun i : Nat => V.int (i : Int))))) → cI xs H Q
theorem c8 (hc : X.calm=true) : cS X (.type "list") cI := by
  intro pins s σ H xs us Q I r h
  obtain ⟨p, n, rfl, hp, hn, q⟩ := h
  obtain ⟨u, rfl, rx⟩ := cx r
  cases rx
  obtain ⟨t, u, v, e⟩ := (show bg X.prog X.w H s.heap p (.rng 0 (n : Int)) from I.hok p _ hp)
  refine call_list_range (n := n) (I.ok.hd hc) e (small_one (by omega) (by omega) (by omega) (by omega)) (by rw [rangeSize_one];split <;> omega) (by omega) fun h' tk acc' c' kp e hI => ?_
  have hv : aL ((List.range n).map fun i : Nat => V.int (i : Int)) acc'.toList := by
    have all : ∀ (m : Nat) (us : List Value) (k : Nat), us.length=m → (∀ (j : Nat) (v : Value), us[j]? = some v → ∃ t, v = .int ((k : Int)+(j : Int)) t) → aL ((List.range' k m).map fun i : Nat => V.int (i : Int)) us := by
      intro m
      induction m with
      | zero =>
        intro us k hl _
        have : us=[] := zX hl
        subst this
        exact .nil
      | succ m ih =>
        intro us k hl hj
        cases us with
        | nil => cases hl
        | cons a us =>
          rw [List.range'_succ, yk]
          obtain ⟨t, rfl⟩ := hj 0 a rfl
          refine .cons ⟨t, by simp⟩ (ih us (k+1) (by simpa using hl) fun j v e => ?_)
          obtain ⟨t, rfl⟩ := hj (j+1) v (by simpa using e)
          exact ⟨t, by congr 1;omega⟩
    rw [List.range_eq_range']
    refine all n acc'.toList 0 (by rw [zy];exact hI.1) fun j v e => ?_
    obtain ⟨t, rfl⟩ := hI.2 j v (by simpa using e)
    exact ⟨t, by congr 1;omega⟩
  refine ⟨.ref s.heap.objs.size, _, I.laid kp (xT _) (show bg X.prog X.w _ h' _ (.lst _) from ⟨?_, acc'.toList, c', hv, by simpa using e⟩), rfl, q _ (I.hok.fresh (xT _))⟩
  rw [fu, yo, Bg]
  exact hn
end
end L2
namespace HT
open PySem PySem.Spec PyProof.Rows PySem.SeqAt
end HT
namespace L2
open PySem PySem.Spec PyProof.Rows Wd
section
variable {X : Cx}
end
theorem qq : bootBuiltins "enumerate" = some (.type "enumerate") := by kernel_rfl
theorem ixN_nat {n k : Nat}(h : k < n) : ixN n (k : Int)=some k := by
  unfold ixN
  rw [if_pos (by omega), if_pos (by omega), yf]
end L2
namespace L2
open PySem PySem.Spec PyProof.Rows
section
variable {M : Model} {A : Around} {E : Value → Shared → Prop} {s : Shared}
end
end L2
namespace L2
open PySem PySem.Spec PyProof.Rows
def exo (a C : Addr)(d : Option Addr)(b : Bool) : Heap → Prop := fun h =>
  ∃ oe vs, h.get? a=some oe ∧ oe.cls = .ref C ∧ oe.dict=d ∧ oe.data = .fields vs ∧ vs.size=6 ∧ (b=true → vs[1]? = some .none)
abbrev Exo (a C : Addr)(d : Option Addr)(b : Bool) : HO := .ext (exo a C d b)
section
variable {P : Program} {w : World} {H : Hp} {h h' : Heap} {fs : List Addr} {e C : Addr} {d : Option Addr} {b : Bool} {fl : Value}
end
section
variable {P : Program} {w : World} {K : PySem.W.Frag} {mg : Str → Option Value} {base : Heap} {N : List Str} {qual : Str} {scope : Scope} {f : Addr} {cd : Value} {A : Around} {outer : List Env} {s : Shared} {H : Hp} {E : XK}
end
end L2
namespace L2
open PySem PySem.Spec PyProof.Rows
section
variable {prog : Program} {w : World} {A : Around} {E : Value → Shared → Prop} {h : Heap} {g : Array GenState} {d : Drawn} {t : Nat} {os : OsState} {K : PySem.W.Frag} {C fI : Addr} {bm : List Value}
end
section
variable {X : Cx} {k : Nat} {f C : Addr} {fd : FuncData} {ps : List Str} {sp : Sp} {x : Str} {p pos : Pos} {e : Expr} {es : List Expr} {t : TA} {bm : List Value}
end
end L2
namespace L2
open PySem PySem.Spec PyProof.Rows Builtin Builtin.ObjectAttr
section
variable {prog : Program} {w : World} {A : Around} {E : Value → Shared → Prop} {h : Heap} {g : Array GenState} {d : Drawn} {t : Nat} {os : OsState} {K : PySem.W.Frag} {C e : Addr} {bm : List Value} {oe : Obj} {vs : Array Value}
section
variable {name : Str} {v : Value} {mA : Str → Option Value}
end
end
end L2
namespace L2
open PySem PySem.Spec PyProof.Rows
def xdt (d : Addr)(fs : List (Str × V)) : Heap → Prop := fun h => ∃ mA, h.Ns1 d mA ∧ (∀ f, kI (fs.lookup f) (mA f)) ∧ PySem.Within mA (fs.map (·.1))
abbrev Xdt (d : Addr)(fs : List (Str × V)) : HO := .ext (xdt d fs)
section
variable {X : Cx} {pins : List (Addr × Obj)} {σ : St} {H : Hp} {s : Shared} {A : Around} {E : Value → Shared → Prop} {a C : Addr} {b : Bool} {f : Str} {y : V} {u : Value} {Q : Unit → Shared → Prop}
end
section
variable {X : Cx} {o e value : Expr} {es : List Expr} {f x : Str} {p pos pos' apos : Pos} {ta tv te : TE} {t : TA} {R : Addr} {E : XK}
end
end L2
namespace L2
open PySem PySem.Spec PyProof.Rows
section
variable {prog : Program} {w : World} {A : Around} {E : Value → Shared → Prop} {s : Shared} {K : PySem.W.Frag} {C a : Addr} {bm : List Value} {oe : Obj} {od : Option Obj} {name : Str} {fill expr : Bool} {tk : Tok}
end
section
variable {X : Cx} {pins : List (Addr × Obj)} {σ : St} {H : Hp} {s : Shared} {A : Around} {E : Value → Shared → Prop} {a C dx : Addr} {b : Bool} {fs : List (Str × V)} {f : Str} {v : V}
end
section
variable {X : Cx} {e : Expr} {f : Str} {pos : Pos} {ta : TE}
end
end L2
namespace L2
open PySem PySem.Spec PyProof.Rows
section
variable {X : Cx} {pins : List (Addr × Obj)} {σ : St} {H : Hp} {s : Shared}
end
section
variable {M : Model} {A : Around} {E : Value → Shared → Prop} {s : Shared}
end
end L2
namespace L2
open PySem PySem.Spec PyProof.Rows
section
variable {X : Cx} {E : XK} {x : Str} {ps : List Str} {k j : Nat} {sp : Sp} {e a b : Expr} {es : List Expr} {t : TA} {te tb : TE} {tt : TT} {p pos pos' : Pos}
end
end L2
namespace L2
open PySem PySem.Spec PyProof.Rows
section
variable {K : PySem.W.Frag} {C R N : Addr} {dd d0 : Option Addr} {c0 oc : Value} {cd cdR : ClassData} {k0 k1 k2 k3 k5 : Option Value} {sl sl' : Array (Option Value)} {es : Array DictEntry} {n : Nat} {bm bm' : List Value}
end
end L2
namespace L2
open PySem PySem.Spec PyProof.Rows
section
variable {X : Cx} {x : Str} {C : Addr} {names : List Str} {k j : Nat} {e : Expr} {es : List Expr} {t : TA} {p pos : Pos}
end
section
variable {K : PySem.W.Frag} {C dx a : Addr} {b : Bool} {H : Hp}
end
section
variable {X : Cx} {K : PySem.W.Frag} {e : Expr} {f : Str} {pos : Pos} {ta : TE}
end
end L2
namespace L2
open PySem PySem.Spec PyProof.Rows
section
variable {X : Cx} {E : XK} {e a b c : Expr} {te ta tb : TE} {tA : TT} {pos : Pos}
end
end L2
namespace L2
open PySem PySem.Spec PyProof.Rows
section
variable {X : Cx} {x : Str} {ps : List Str} {k j : Nat} {sp : Sp} {e : Expr} {es : List Expr} {t : TA} {p pos : Pos}
end
section
variable {prog : Program} {w : World} {A : Around} {E : Value → Shared → Prop} {h : Heap} {g : Array GenState} {d : Drawn} {t : Nat} {os : OsState} {K : PySem.W.Frag} {C : Addr} {bm : List Value}
end
end L2
namespace Kx
open PySem PySem.Spec PyProof.Rows L2 Wd
end Kx
namespace Kx
open PySem PySem.Spec PyProof.Rows L2 Wd
theorem dec_int (j n : Nat) : decide (V.int (0+(j : Int))=V.int (n : Int))=decide (n=j) := by
  by_cases e : n=j
  · subst e;simp
  · rw [yy e, yy]
    intro z
    have := V.int.inj z
    omega
end Kx
namespace L2
open PySem PySem.Spec PyProof.Rows
open Builtin
section
variable {X : Cx}
end
end L2
namespace Wd
def bA (W : List (List L)) : List (Int × Int) := (List.range W.length).flatMap fun i => (List.range (W.getD i []).length).map fun p : Nat => ((i : Int), (p : Int))
def ltS (W : List (List L))(p : Int × Int) : Nat := ((W.getD p.1.toNat []).getD p.2.toNat 0).val % 6
def okS (W : List (List L))(p : Int × Int) : Bool := decide (0≤p.1) && decide (p.1 < W.length) && (decide (0≤p.2) && decide (p.2 < (W.getD p.1.toNat []).length))
theorem bI {W : List (List L)}{p : Int × Int} : p∈bA W ↔ okS W p=true := by
  unfold bA okS
  rw [y6]
  simp only [yi, yw]
  constructor
  · rintro ⟨i, hi, h⟩
    obtain ⟨q, hq, rfl⟩ := yq.mp h
    rw [yG] at hi hq
    simp only [yf]
    omega
  · rintro ⟨⟨h1, h2⟩, h3, h4⟩
    refine ⟨p.1.toNat, yG.mpr (by omega), yq.mpr ⟨p.2.toNat, yG.mpr (by omega), ?_⟩⟩
    exact Cg (by show ((p.1.toNat : Nat) : Int)=p.1;omega) (by show ((p.2.toNat : Nat) : Int)=p.2;omega)
def ltp (p q : Int × Int) : Prop := p.1 < q.1 ∨ (p.1=q.1 ∧ p.2 < q.2)
theorem oQ (i : Nat)(n : Nat) : ((List.range n).map fun p : Nat => ((i : Int), (p : Int))).Pairwise ltp := by
  rw [Ah]
  refine zR ?_ AC
  intro a b h
  exact .inr ⟨rfl, by show ((a : Nat) : Int) < (b : Nat);omega⟩
theorem dS (W : List (List L)) : (bA W).Pairwise ltp := by
  unfold bA
  rw [AS]
  refine ⟨fun i _ => oQ i _, ?_⟩
  refine zR ?_ AC
  intro a b h x hx y hy
  obtain ⟨p, _, rfl⟩ := yq.mp hx
  obtain ⟨q, _, rfl⟩ := yq.mp hy
  exact .inl (by show ((a : Nat) : Int) < (b : Nat);omega)
theorem fY {l : List (Int × Int)}(h : l.Pairwise ltp) : l.Nodup := by
  refine zR ?_ h
  rintro a b h rfl
  unfold ltp at h
  omega
def rA (W : List (List L))(l : Nat) : List (Int × Int) := (bA W).filter fun p => decide (ltS W p=l)
theorem oR (W : List (List L))(l : Nat) : (rA W l).Pairwise ltp := (dS W).filter _
end Wd
namespace L2
open PySem PySem.Spec PyProof.Rows
theorem fb {X : Cx}{K : PySem.W.Frag}(hK : X.K=K) : cS X (.type "tuple") (bO K) := by subst hK; exact aQ
end L2
namespace Kx
open PySem PySem.Spec PyProof.Rows L2 Wd
theorem xJ {t u : TS}{D : fc}{σ : L2.St}{H : Hp}(h : t D σ H) : iL t u D σ true H := sQ h
theorem xb {t u : TS}{D : fc}{σ : L2.St}{H : Hp}(h : u D σ H) : iL t u D σ false H := nO h
theorem a9 {n : Nat}(h : n≤16777216) : n≤sizeLine := by rw [aO]; exact h
theorem Tp.nt {H : Hp}{d c a : Addr}{xs : List V}(F : Tp H d c)(h : H a=some (.tup xs)) : a≠d := by
  obtain ⟨i, l, t, ns, h1, _⟩ := F.ex
  exact cM h h1 (by intro z;cases z)
structure Wy4 (n : Nat) (W : List (List L)) (H : Hp) (a : Addr) : Prop where
  at_ : H a=some (.tup (W.map tx))
  le : W.length≤4
  lo : 1≤W.length
  ws : ∀ w∈W, w≠[] ∧ w.length≤15 ∧ InM n w
theorem Wy4.same {n : Nat}{W : List (List L)}{H H' : Hp}{a : Addr}(h : Wy4 n W H a)(s : au H H') : Wy4 n W H' a := ⟨s _ _ h.at_, h.le, h.lo, h.ws⟩
theorem Wy4.sb {n : Nat}{W : List (List L)}{H H' : Hp}{a d c : Addr}(h : Wy4 n W H a)(F : Tp H d c)(s : a8 d H H') : Wy4 n W H' a := ⟨s _ _ (F.nt h.at_) h.at_, h.le, h.lo, h.ws⟩
def StA (H : Hp)(zs : List (Addr × Int × Int)) : Prop := ∀ z∈zs, H z.1=some (.tup [.int z.2.1, .int z.2.2])
theorem StA.same {H H' : Hp}{zs : List (Addr × Int × Int)}(h : StA H zs)(s : au H H') : StA H' zs := fun z hz => s _ _ (h z hz)
theorem StA.app {H : Hp}{zs ys : List (Addr × Int × Int)}(h : StA H zs)(g : StA H ys) : StA H (zs++ys) := fun z hz => (yn.mp hz).elim (h z) (g z)
inductive mi (vs : List V)(H : Hp)(Q : VK)(u3_ : XK) : Prop
  | mk : ∀ (a : Addr) (n : Nat) (W : List (List L)), (vs=[.ref a]) → (Wy4 n W H a) → (∀ (l : Addr) (zs : List (Addr × Int × Int)) (H' : Hp), H l=none → au H H' → H' l=some (.lst ((zs.map (·.1)).map V.ref)) → StA H' zs → zs.map (·.2)=bA W → Q (.ref l) H') → mi vs H Q u3_
inductive rB (vs : List V)(H : Hp)(Q : VK)(u3_ : XK) : Prop
  | mk : ∀ (a p : Addr) (n : Nat) (W : List (List L)) (i j : Int), (vs=[.ref a, .ref p]) → (Wy4 n W H a) → (H p=some (.tup [.int i, .int j])) → (okS W (i, j)=true) → (Q (tx [(W.getD i.toNat []).getD j.toNat 0]) H) → rB vs H Q u3_
inductive fZ (vs : List V)(H : Hp)(Q : VK)(u3_ : XK) : Prop
  | mk : ∀ u, (vs=[tx u]) → (u.length≤60) → (∀ (v : List L) (H' : Hp), v.length≤u.length → (∀ x∈v, x∈u) → au H H' → Q (tx v) H') → fZ vs H Q u3_
inductive f_ (vs : List V)(H : Hp)(Q : VK)(u3_ : XK) : Prop
  | mk : ∀ u, (vs=[tx u]) → (u.length≤60) → (∀ (v : List L), v.length≤u.length → (∀ x∈v, x∈u) → Q (tx v) H) → f_ vs H Q u3_
inductive iY (vs : List V)(H : Hp)(Q : VK)(u3_ : XK) : Prop
  | mk : ∀ (d c : Addr) (m : Nat) (n : Int), (vs=[.ref d, .int (m : Int), .int n]) → (Tp H d c) → (1≤m) → (m≤6) → (1≤n) → (n≤15) → (∀ (v : List L) (H' : Hp), v≠[] → v.length≤15 → InM m v → Tp H' d c → a8 d H H' → Q (tx v) H') → iY vs H Q u3_
inductive iZ (vs : List V)(H : Hp)(Q : VK)(u3_ : XK) : Prop
  | mk : ∀ (d c : Addr) (m : Nat) (n : Int), (vs=[.ref d, .int (m : Int), .int 4, .int n]) → (Tp H d c) → (1≤m) → (m≤6) → (1≤n) → (n≤15) → (∀ (a : Addr) (W : List (List L)) (H' : Hp), Tp H' d c → a8 d H H' → Wy4 m W H' a → Q (.ref a) H') → iZ vs H Q u3_
end Kx
namespace PySem
open Sem (wp)
section
variable {prog : Program} {w : World}
def bt (prog : Program)(w : World)(h : Heap)(k : Str × List Int)(a : Addr) : Prop :=
  ∃ o t b n, h.get? a=some o ∧ o.cls = .type "tuple" ∧ o.data = .seq #[.str k.1 t, .ref b] n ∧ IsTupleKey (intKind prog w) h k.2 b ∧ PyData.strOk k.1=true
def jG (prog : Program)(w : World)(k : Str × List Int) : Int := reduceHash (Builtin.Tuple.tupleHashOf [hashStr w k.1, tupleKeyHash (intKind prog w) k.2])
theorem bt.typeIs {s : Shared}{k : Str × List Int}{a : Addr}(x : bt prog w s.heap k a) : s.TypeIs (.ref a) "tuple" := let ⟨o, _, _, _, ho, hc, _⟩ := x; ⟨o, ho, hc⟩
theorem bt.inj {h : Heap}{a : Addr}{x y : Str × List Int}(hx : bt prog w h x a)(hy : bt prog w h y a) : x=y := by
  obtain ⟨o, t, b, n, ho, _, hd, hi, _⟩ := hx
  obtain ⟨o', t', b', n', ho', _, hd', hi', _⟩ := hy
  obtain rfl : o=o' := x5 (ho.symm.trans ho')
  rw [hd] at hd'
  have e := hd'
  injection e with h1 _
  have h2 := yB Array.toList h1
  simp only [List.cons.injEq, Value.str.injEq, Value.ref.injEq, and_true] at h2
  obtain ⟨⟨e1, _⟩, e2⟩ := h2
  subst e2
  exact Cg e1 (hi.inj hi')
theorem bt.keeps {h h' : Heap}{k : Str × List Int}{a d : Addr}{o : Obj}{es ep}(x : bt prog w h k a)(ho : h.get? d=some o)(hd : o.data = .dict es ep)(hs : Heap.SameBut d h h') : bt prog w h' k a := by
  obtain ⟨o', t, b, n, ho', hc, hd', hi, ok⟩ := x
  have hne : a≠d := by
    rintro rfl
    obtain rfl : o'=o := x5 (ho'.symm.trans ho)
    rw [hd] at hd';exact nomatch hd'
  exact ⟨o', t, b, n, (hs.2 a hne).trans ho', hc, hd', hi.keeps ho hd hs, ok⟩
variable {A : Around} {E : Value → Shared → Prop} {s : Shared}
theorem du {k : Str × List Int}{a : Addr}{Q : Int → Shared → Prop}(hu : A.units+8 < cLine)(hk : bt prog w s.heap k a)(h : Q (jG prog w k) { s with toks := s.toks+(k.2.length+3) }) :
    wpAny (model prog w) A (pyHash (.ref a)) Q E s := by
  have ty := hk.typeIs
  have sl := F.slot_tuple_hash
  obtain ⟨o, t, b, n, at_, _, dat, inner, _⟩ := hk
  have room : A.units < cLine := by omega
  generalize hm : Builtin.Tuple.tupleHashOf [hashStr w k.1, tupleKeyHash (intKind prog w) k.2]=m
  have h : Q (reduceHash m) { s with toks := s.toks+1+(k.2.length+1)+1 } := by
    rw [← hm, show s.toks+1+(k.2.length+1)+1=s.toks+(k.2.length+3) by omega]
    exact h
  unfold pyHash pyHashByItsType
  refine xR (wpAny_cRoomFor_or (.inr room) (xR (z8 ty sl.lookup ?_)))
  rw [show (some (Value.builtin "tuple.__hash__") == some Value.none)=false from beq_builtin_none ..]
  refine xR (z8 ty sl.lookup (xR (wpAny_callSpecialIfBoundUnlessNone?_slot ty sl (yZ sl ty F.entry_tuple_hash (show wpAny _ A.in1 (Builtin.Tuple.tupleItemsOf (Value.ref a) >>= _) _ E s from xR (wpAny_tupleItemsOf at_ dat (xR ?_))) (F.args_tuple_hash_1 _)))))
  rw [← Array.forIn_toList]
  show wpAny _ _ (forIn [Value.str k.1 t, Value.ref b] _ _) _ _ _
  rw [Av]
  refine xR (xR (wpAny_pyHash_str (x9 ?_)))
  dsimp only
  rw [Av]
  refine xR (xR (wpAny_pyHash_tuple (knd := intKind prog w) (s := { s with toks := s.toks+1 }) (by show A.units+1 < cLine;omega) inner (x9 ?_)))
  dsimp only
  rw [List.forIn_nil]
  refine x9 (wpAny_ret_mkInt ?_)
  dsimp only
  rw [show Builtin.Tuple.tupleHashOf ((#[].push (hashStr w k.1)).push (tupleKeyHash (intKind prog w) k.2)).toList=m from hm]
  unfold reduceHash at h
  unfold pyHashByItsType.reduced
  split at h
  · rename_i c
    rw [if_pos c]
    exact x9 h
  · rename_i c
    rw [if_neg c]
    exact xR (wpAny_rule (x9 h))
def kr (k : Str × List Int) : PyData := .tuple [.str k.1, .tuple (k.2.map .int)]
theorem ij {h : Heap} : ∀ {ks : List Int} {vs : List Value}, ItemsAre (intKind prog w) ks vs → ReadsAll h vs (ks.map .int) []
  | _, _, .nil => .nil
  | _, _, .cons q r => by
    obtain ⟨t, rfl⟩ := Value.isInt_shape q
    exact .cons (as := []) (bs := []) (.int _ _) (ij r)
theorem bt.reads {h : Heap}{k : Str × List Int}{a : Addr}(q : bt prog w h k a) : Reads h (.ref a) (kr k) [] := by
  obtain ⟨o, t, b, n, h1, h2, h3, ⟨o2, its, n2, g1, g2, g3, g4⟩, _⟩ := q
  exact .tuple h1 h2 h3 (.cons (as := []) (bs := []) (.str _ _) (.cons (as := []) (bs := []) (.tuple g1 g2 g3 (ij g4)) .nil))
theorem jH : ∀ x y : List Int, PyData.eqvAll (x.map .int) (y.map .int)=decide (x=y)
  | [], [] => rfl
  | [], _::_ => rfl
  | _::_, [] => rfl
  | a::x, b::y => by
    show ((a == b) && PyData.eqvAll (x.map .int) (y.map .int))=_
    rw [jH x y, zb]
    simp
theorem oS (x y : Str × List Int) : PyData.eqv (kr x) (kr y)=decide (x=y) := by
  show ((x.1 == y.1) && (PyData.eqvAll (x.2.map .int) (y.2.map .int) && true))=_
  rw [jH, zb]
  simp [Prod.ext_iff]
theorem jI : ∀ x : List Int, PyData.canLayAll0 (x.map .int)=true
  | [] => rfl
  | a::x => by
    rw [yk, PyData.canLayAll0, jI x]
    rfl
theorem bt.ok {h : Heap}{k : Str × List Int}{a : Addr}(q : bt prog w h k a) : PyData.strOk k.1=true := let ⟨_, _, _, _, _, _, _, _, ok⟩ := q; ok
theorem jJ {x : Str × List Int}(ok : PyData.strOk x.1=true) : (kr x).canLay0=true := by
  unfold kr PyData.canLay0
  rw [PyData.canLayAll0, PyData.canLayAll0, PyData.canLayAll0]
  have : (PyData.tuple (x.2.map .int)).canLay0=true := by unfold PyData.canLay0;exact jI x.2
  rw [this]
  simp [PyData.canLay0, ok]
theorem ik : ∀ x : List Int, PyData.depthAll (x.map .int)=0
  | [] => rfl
  | a::x => by
    show max 0 (PyData.depthAll (x.map .int))=0
    rw [ik x]
    rfl
theorem mj (x : Str × List Int) : (kr x).depth≤2 := by
  show max 0 (max (PyData.depthAll (x.2.map .int)+1) 0)+1≤2
  rw [ik]
  decide
theorem dy {x y : Str × List Int}{a b : Addr}{Q : Bool → Shared → Prop}(hu : A.units+8 < cLine)(hx : bt prog w s.heap x a)(hy : bt prog w s.heap y b)(h : Q (decide (x=y)) s) :
    wpAny (model prog w) A (eqBool (.ref a) (.ref b)) Q E s := by
  have d := mj x
  refine SeqAt.eqAt_reads _ _ A s _ _ _ _ hx.reads hy.reads (jJ hx.ok) (jJ hy.ok) (by omega) prog w E Q ?_
  rw [oS]
  exact h
theorem eP {m : Nat}{a : Addr}{o : Obj}{its : Array Value}{n : Nat}{Q : Bool → Shared → Prop}(g : s.heap.get? a=some o)(c : o.cls = .type "tuple")(dt : o.data = .seq its n)(all : ∀ v∈its.toList, ∀ R : Bool → Shared → Prop, R true s → wpAny (model prog w) A (eqIsQuiet m v) R E s)
    (fin : Q true s) : wpAny (model prog w) A (eqIsQuiet (m+1) (.ref a)) Q E s := by
  have ty : s.TypeIs (.ref a) "tuple" := ⟨o, g, c⟩
  unfold eqIsQuiet
  refine xR (z8 ty F.slot_tuple_eq.lookup (show wpAny _ A (isInstance (Value.ref a) (Value.type "tuple") >>= _) Q E s from xR (A1 ty isSubtype_tuple_tuple ?_)))
  simp only [Bool.not_true, Aw, ↓reduceIte]
  refine xR (Cd g dt (xR (show wpAny _ A (forIn its _ _) _ E s from ?_)))
  rw [← Array.forIn_toList]
  generalize its.toList=vs at all
  induction vs with
  | nil => rw [List.forIn_nil];exact x9 (x9 fin)
  | cons v r ih =>
    rw [Av]
    refine xR (xR (all v yb _ ?_))
    simp only [Bool.not_true, Aw, ↓reduceIte]
    exact x9 (ih fun u hu => all u (x3 _ hu))
theorem eQ {m : Nat}{v : Value}{R : Bool → Shared → Prop}(c : carriedByValue v=true)(r : R true s) : wpAny (model prog w) A (eqIsQuiet m v) R E s := by
  rw [eqIsQuiet_byValue m c]
  exact x9 r
theorem cN {k : Str × List Int}{a : Addr}{Q : Bool → Shared → Prop}(hk : bt prog w s.heap k a)(h : Q true s) : wpAny (model prog w) A (eqIsQuiet 8 (.ref a)) Q E s := by
  obtain ⟨o, t, b, n, h1, h2, h3, ⟨o2, its, n2, g1, g2, g3, g4⟩, _⟩ := hk
  refine eP h1 h2 h3 (fun v hv R r => ?_) h
  simp only [ye, yD, zV] at hv
  rcases hv with rfl | rfl
  · exact eQ rfl r
  · exact eP g1 g2 g3 (fun u hu R r => eQ (g4.byValue u hu) r) r
end
def dU (prog : Program)(w : World) : HeapKind prog w (Str × List Int) where
  is := bt prog w
  hash := jG prog w
  draws := fun k => k.2.length+3
  room := fun A => A.units+8 < cLine
  inj := fun hx hy => hx.inj hy
  keeps := fun x ho hd hs => x.keeps ho hd hs
  pyHash := fun hu hk h => du hu hk h
  eqBool := fun hu hx hy h => dy hu hx hy h
  quiet := fun hk h => cN hk h
end PySem
namespace L2
open PySem PySem.Spec PyProof.Rows
abbrev NE := (Str × List Int) × Addr × Int
inductive NEs : List NE → List ((Str × List Int) × Addr × Value) → Prop
  | nil : NEs [] []
  | cons {k : Str × List Int} {a : Addr} {i : Int} {t : Tok} {es : List NE} {xs : List ((Str × List Int) × Addr × Value)} (h : NEs es xs) : NEs ((k, a, i)::es) ((k, a, .int i t)::xs)
def nd (P : Program)(w : World)(d : Addr)(es : List NE) : Heap → Prop := fun h =>
  es.length≤sizeLine ∧ (d == sysModules)=false ∧ (es.map (·.1)).Nodup ∧ ∃ xs, NEs es xs ∧ ∃ o en ep, h.get? d=some o ∧ o.ExactDict ∧ o.data = .dict en ep ∧ en.toList=xs.map (entryOfKey (dU P w))
abbrev Nd (P : Program)(w : World)(d : Addr)(es : List NE) : HO := .ext (nd P w d es)
theorem uv {P : Program}{w : World}{H : Hp}{h : Heap}{d : Addr}{es : List NE}(x : nd P w d es h) : bg P w H h d (Nd P w d es) := by
  refine ⟨x, ?_, fun h1 h2 y k => ?_⟩
  · obtain ⟨_, _, _, xs, _, o, _, _, ho, _⟩ := x
    exact ⟨o, ho⟩
  · obtain ⟨y1, y2, y3, xs, y4, o, en, ep, ho, y5⟩ := y
    exact ⟨y1, y2, y3, xs, y4, o, en, ep, k _ ho, y5⟩
theorem NEs.keys {es : List NE}{xs : List ((Str × List Int) × Addr × Value)}(h : NEs es xs) : xs.map (·.1)=es.map (·.1) := by
  induction h with
  | nil => rfl
  | cons _ ih => rw [yk, yk, ih]
theorem NEs.length {es : List NE}{xs : List ((Str × List Int) × Addr × Value)}(h : NEs es xs) : xs.length=es.length := by
  have := yB List.length h.keys
  rwa [fu, fu] at this
theorem NEs.mem {es : List NE}{xs : List ((Str × List Int) × Addr × Value)}(h : NEs es xs){x : (Str × List Int) × Addr × Value}(hx : x∈xs) : ∃ i, (x.1, x.2.1, i)∈es := by
  induction h with
  | nil => cases hx
  | cons _ ih =>
    rcases ye.mp hx with rfl | hx
    · exact ⟨_, yb⟩
    · obtain ⟨i, hi⟩ := ih hx
      exact ⟨i, x3 _ hi⟩
def rD (es : List NE)(k : Str × List Int) : Option Int := (es.find? fun e => decide (e.1=k)).map (·.2.2)
theorem NEs.val {es : List NE}{xs : List ((Str × List Int) × Addr × Value)}(h : NEs es xs){k : Str × List Int}{i : Int}(e : rD es k=some i) : ∃ p t, atKey xs k=some p ∧ p.2 = .int i t := by
  induction h with
  | nil => cases e
  | @cons k' a' i' t' es' xs' h ih =>
    unfold rD at e
    unfold atKey
    by_cases c : k'=k
    · rw [AD (by simpa using c)] at e ⊢
      have e : i'=i := x5 e
      exact ⟨(a', .int i' t'), t', rfl, by rw [e]⟩
    · rw [AE (by simpa using c)] at e ⊢
      exact ih e
def oT (es : List NE)(k : Str × List Int)(a : Addr)(i : Int) : List NE := if k∈es.map (·.1) then es.map fun e => if e.1=k then (e.1, e.2.1, i) else e else es++[(k, a, i)]
structure kD (H : Hp) (k : Str × List Int) (a : Addr) : Prop where
  ex : ∃ b, H a=some (.tup [.str k.1, .ref b]) ∧ H b=some (.tup (k.2.map V.int))
  ok : PyData.strOk k.1=true
theorem jK {P : Program}{w : World} : ∀ {ks : List Int} {us : List Value}, aL (ks.map V.int) us → ItemsAre (intKind P w) ks us
  | [], _, r => by rw [Br] at r;cases r;exact .nil
  | k::ks, _, r => by
    rw [yk] at r
    cases r with
    | cons h t =>
      obtain ⟨u, rfl⟩ := h
      exact .cons (by simp [intKind, Value.isInt]) (jK t)
theorem i0 {P : Program}{w : World}{H : Hp}{h : Heap}{k : Str × List Int}{a : Addr}(ok : HOk P w H h)(q : kD H k a) : bt P w h k a := by
  obtain ⟨b, e, eb⟩ := q.ex
  obtain ⟨_, its, r, ⟨o, h1, h2, n, h3⟩, _⟩ := (show bg P w H h a (.tup [.str k.1, .ref b]) from ok a _ e)
  obtain ⟨_, its2, r2, ⟨o2, g1, g2, n2, g3⟩, _⟩ := (show bg P w H h b (.tup (k.2.map V.int)) from ok b _ eb)
  cases r with
  | cons r1 r =>
    cases r with
    | cons r3 r =>
      cases r
      obtain ⟨t, rfl⟩ := r1
      cases r3
      exact ⟨o, t, b, n, h1, h2, h3, ⟨o2, its2.toArray, n2, g1, g2, g3, by simpa using jK r2⟩, q.ok⟩
theorem uw {P : Program}{w : World}{H : Hp}{h : Heap}{d : Addr}{es : List NE}(ok : HOk P w H h)(e : H d=some (Nd P w d es))(hk : ∀ x∈es, kD H x.1 x.2.1) :
    es.length≤sizeLine ∧ (d == sysModules)=false ∧ ∃ xs, NEs es xs ∧ h.DictOfH (dU P w) d xs := by
  obtain ⟨z, y, nk, xs, r, o, en, ep, h1, h2, h3, h4⟩ : nd P w d es h := (ok d _ e).1
  refine ⟨z, y, xs, r, o, en, ep, h1, h2, h3, h4, fun x hx => ?_, by rw [r.keys];exact nk⟩
  obtain ⟨i, hi⟩ := r.mem hx
  exact i0 ok (hk _ hi)
theorem ku {es : List NE}{xs : List ((Str × List Int) × Addr × Value)}(h : NEs es xs)(k : Str × List Int)(a : Addr)(i : Int)(t : Tok) : NEs (oT es k a i) (storedH xs k a (.int i t)) := by
  have hk : (atKey xs k).isSome=true ↔ k∈es.map (·.1) := by
    unfold atKey
    rw [AG, List.find?_isSome, ← h.keys, yq]
    constructor
    · rintro ⟨x, hx, e⟩
      exact ⟨x, hx, by simpa using e⟩
    · rintro ⟨x, hx, e⟩
      exact ⟨x, hx, by simpa using e⟩
  have mp : ∀ {es : List NE} {xs : List ((Str × List Int) × Addr × Value)}, NEs es xs → NEs (es.map fun e => if e.1=k then (e.1, e.2.1, i) else e) (xs.map (putAt k (.int i t))) := by
    intro es xs h
    induction h with
    | nil => exact .nil
    | @cons k' a' i' t' es' xs' h ih =>
      rw [yk, yk]
      unfold putAt
      by_cases c : k'=k
      · rw [if_pos c, if_pos c]
        exact .cons ih
      · rw [if_neg c, if_neg c]
        exact .cons ih
  have ap : ∀ {es : List NE} {xs : List ((Str × List Int) × Addr × Value)}, NEs es xs → NEs (es++[(k, a, i)]) (xs++[(k, a, .int i t)]) := by
    intro es xs h
    induction h with
    | nil => exact .cons .nil
    | cons _ ih => exact .cons ih
  unfold oT storedH
  by_cases c : k∈es.map (·.1)
  · rw [if_pos c, if_pos (hk.mpr c)]
    exact mp h
  · rw [if_neg c, if_neg fun q => c (hk.mp q)]
    exact ap h
section
variable {X : Cx} {pins : List (Addr × Obj)} {σ : St} {H : Hp} {s : Shared} {d b : Addr} {es : List NE} {k : Str × List Int} {A : Around} {E : Value → Shared → Prop}
theorem mm {i : Int}{Q : Value → Shared → Prop}(hu : A.units+9 < cLine)(I : Inv X pins σ H s)(e : H d=some (Nd X.prog X.w d es))(hk : ∀ x∈es, kD H x.1 x.2.1)(eb : kD H k b)(hv : rD es k=some i)(h : ∀ w' s', Inv X pins σ H s' → bf (.int i) w' → Q w' s') :
    wpAny (model X.prog X.w) A (getItem (.ref d) (.ref b)) Q E s := by
  obtain ⟨z, hd, xs, rel, dd⟩ := uw I.hok e hk
  obtain ⟨p, t, hp, hp2⟩ := rel.val hv
  refine wpAny_getItem_heap (knd := dU X.prog X.w) (by show A.units+1+8 < cLine;omega) (i0 I.hok eb) dd hp ?_
  rw [hp2]
  exact h _ _ (I.tok _) ⟨t, rfl⟩
theorem oU (es : List NE)(k : Str × List Int)(a : Addr)(i : Int) : (oT es k a i).length≤es.length+1 := by
  unfold oT
  split
  · rw [fu];omega
  · rw [xX];exact xT _
theorem mn {i : Int}{r : Value}{Q : Unit → Shared → Prop}(hu : A.units+9 < cLine)(I : Inv X pins σ H s)(e : H d=some (Nd X.prog X.w d es))(hk : ∀ x∈es, kD H x.1 x.2.1)(eb : kD H k b)(hl : es.length < sizeLine)(rv : bf (.int i) r)
    (h : ∀ s', Inv X pins σ (upd H d (Nd X.prog X.w d (oT es k b i))) s' → Q () s') : wpAny (model X.prog X.w) A (setItem (.ref d) (.ref b) r) Q E s := by
  obtain ⟨z, hd, xs, rel, dd⟩ := uw I.hok e hk
  obtain ⟨t, rfl⟩ := rv
  refine wpAny_setItem_heap (knd := dU X.prog X.w) (hsz := by rw [rel.length];exact z) (by show A.units+1+8 < cLine;omega) (i0 I.hok eb) dd fun h' dd' hs => h _ ?_
  obtain ⟨q, en, ep, hq, h2, h3, h4, _, h5⟩ := dd'
  have st := ku rel k b i t
  have := oU es k b i
  exact fJ I (by rw [e];exact True.intro) hs ⟨q, hq⟩ (uv ⟨by omega, hd, by rw [← st.keys];exact h5, _, st, q, en, ep, hq, h2, h3, h4⟩)
theorem mq (I : Inv X pins σ H s)(e : H d=some (Nd X.prog X.w d es)) : s.TypeIs (.ref d) "dict" := by
  obtain ⟨_, _, _, xs, _, o, en, ep, h1, h2, _⟩ : nd X.prog X.w d es s.heap := (I.hok d _ e).1
  exact ⟨o, h1, h2.1⟩
end
theorem oV {P : Program}{w : World}{H : Hp}(h : Heap)(hb : sysModules < h.objs.size) : bg P w H (h.push { cls := .type "dict", data := .dict #[] }) h.objs.size (Nd P w h.objs.size []) :=
  uv ⟨yQ _, zf.mpr (Ne.symm (yH hb)), zY, [], .nil, _, #[], 0, ya _ rfl, ⟨rfl, rfl, rfl⟩, rfl, rfl⟩
inductive qr (P : Program)(w : World)(σ : St)(H : Hp)(Q : VK) : Prop
  | mk : (∀ p, H p=none → Q (.ref p) (upd H p (Nd P w p []))) → qr P w σ H Q
inductive rE (P : Program)(w : World)(x y : V)(H : Hp)(Q : VK) : Prop
  | mk : ∀ (d b : Addr) (es : List NE) (k : Str × List Int) (i : Int), (x = .ref d) → (y = .ref b) → (H d=some (Nd P w d es)) → (∀ x∈es, kD H x.1 x.2.1) → (kD H k b) → (rD es k=some i) → (Q (.int i) H) → rE P w x y H Q
inductive ux (P : Program)(w : World)(x y v : V)(H : Hp)(R : Hp → Prop) : Prop
  | mk : ∀ (d b : Addr) (es : List NE) (k : Str × List Int) (i : Int), (x = .ref d) → (y = .ref b) → (v = .int i) → (H d=some (Nd P w d es)) → (∀ x∈es, kD H x.1 x.2.1) → (kD H k b) → (es.length < sizeLine) → (R (upd H d (Nd P w d (oT es k b i)))) → ux P w x y v H R
def wg (P : Program)(w : World)(td ty : TE) : TE := fun σ H Q => td σ H fun x H1 => ty σ H1 fun y H2 => rE P w x y H2 Q
def wj (P : Program)(w : World)(td ty tv : TE) : TS := fun D σ H => tv σ H fun v H1 => td σ H1 fun x H2 => ty σ H2 fun y H3 => ux P w x y v H3 (D.nx σ)
section
variable {X : Cx} {pos pos' : Pos} {o i value : Expr} {td ty tv : TE}
theorem oW {P : Program}{w : World}(hP : X.prog=P)(hw : X.w=w) : PE X (.Dict [] [] pos) (qr P w) := by
  subst hP hw
  exact fun pins s σ H Q I ⟨h⟩ =>
    BS ⟨.ref s.heap.objs.size, _, I.laid (a := s.heap.objs.size) (o := Nd X.prog X.w s.heap.objs.size []) (t' := s.toks) (fun _ _ q => xW _ q) (xT _) (oV s.heap I.big), rfl, h _ (I.hok.fresh (xT _))⟩
theorem jL {P : Program}{w : World}(hP : X.prog=P)(hw : X.w=w)(hu : X.A.units+9 < cLine)(ho : PE X o td)(hi : PE X i ty)(hs : vM i) : PE X (.Subscript o i pos) (wg P w td ty) := by
  subst hP hw
  intro pins s σ H Q I h
  refine ly PySem.F.slot_dict_getitem.lookup hs (thn (ho pins s σ H _ I h) fun u s1 ⟨x, H1, I1, rx, q1⟩ => thn (hi pins s1 σ H1 _ I1 q1) fun iv s2 zq68 => ?_)
  obtain ⟨y, H2, I2, ry, d, b, es, k, j, ex, ey, e, hk, eb, hv, q2⟩ := zq68
  subst ex ey
  obtain rfl : u=Value.ref d := rx
  obtain rfl : iv=Value.ref b := ry
  exact ⟨mq I2 e, mm hu I2 e hk eb hv fun w' s3 I3 rw' => ⟨.int j, H2, I3, rw', q2⟩⟩
theorem oX {P : Program}{w : World}(hP : X.prog=P)(hw : X.w=w)(hu : X.A.units+9 < cLine)(ho : PE X o td)(hi : PE X i ty)(hv : PE X value tv)(hs : swapsWith value (some (.Subscript o i pos')) pos.line X.env=pure false) :
    PS X (.Assign [.Subscript o i pos'] value pos) (wj P w td ty tv) := by
  subst hP hw
  intro pins s σ H D I h
  refine wpAny_Assign_Subscript (thn (hv pins s σ H _ I h) fun r s1 ⟨v, H1, I1, rv, q1⟩ => thn (ho pins s1 σ H1 _ I1 q1) fun u s2 ⟨x, H2, I2, rx, q2⟩ => thn (hi pins s2 σ H2 _ I2 q2) fun iv s3 zq71 => ?_) hs
  obtain ⟨y, H3, I3, ry, d, b, es, k, j, ex, ey, ev, e, hk, eb, hl, q3⟩ := zq71
  subst ex ey ev
  obtain rfl : u=Value.ref d := rx
  obtain rfl : iv=Value.ref b := ry
  exact mn hu I3 e hk eb hl rv fun s4 I4 => ⟨σ, _, I4, q3⟩
end
end L2
namespace L2
open PySem PySem.Spec PyProof.Rows
section
variable {X : Cx}
open Classical in
end
end L2
namespace Wd
open PySem L2
def lcp : List L → List L → List L
  | x::u, y::v => if x=y then x::lcp u v else []
  | _, _ => []
def xK (t o : List L) : Bool := decide (o≠t) && decide (t.length≤6*(lcp t o).length)
end Wd
namespace Kx
open PySem PySem.Spec PyProof.Rows L2 Wd
theorem nl : ¬ ("letter" : Str) = "number" := by decide +kernel
theorem nt : ¬ ("turn" : Str) = "number" := by decide +kernel
theorem tl : ¬ ("turn" : Str) = "letter" := by decide +kernel
end Kx
namespace Kx
open PySem PySem.Spec PyProof.Rows L2 Wd
end Kx
namespace Wd
open PySem L2
theorem rt_bk {m p : List L}(h : Rt m p) : Rt (bk m) (bk p) := by
  obtain ⟨a, b, rfl, rfl⟩ := h
  exact ⟨bk b, bk a, c5 _ _, c5 _ _⟩
end Wd
namespace Kx
open PySem L2 Wd
end Kx
namespace PySem
open Sem (wp)
section
variable {prog : Program} {w : World} {A : Around} {E : Value → Shared → Prop} {s : Shared} {z TI TO i1 i2 : Addr} {x y : Str} {t u : Tok} {k c d : Nat} {a b : Value}
end
end PySem
namespace L2
open PySem PySem.Spec PyProof.Rows
section
variable {X : Cx}
end
end L2
namespace Wd
end Wd
namespace Kx
open PySem PySem.Spec PyProof.Rows L2 Wd
def iv (r : List Nat) : List V := r.map fun i : Nat => V.int (i : Int)
end Kx
namespace Kx
open PySem PySem.Spec PyProof.Rows L2 Wd
end Kx
namespace L2
open PySem PySem.Spec PyProof.Rows Wd
section
variable {X : Cx}
end
end L2
namespace Kx
open PySem PySem.Spec PyProof.Rows L2 Wd
def oL (o : Option (List L)) : List V := o.toList.map tx
end Kx
namespace L2
open PySem PySem.Spec PyProof.Rows Wd
end L2
namespace Kx
open PySem PySem.Spec PyProof.Rows L2 Wd
def XP (C : Addr)(H : Hp)(a : Addr)(z : Str)(k : Nat) : Prop := ∃ dx, H a=some (Exo a C (some dx) false) ∧ H dx=some (Xdt dx [("word", .str z), ("at", .int (k : Nat))])
end Kx
namespace L2
open PySem PySem.Spec PyProof.Rows
theorem fw {α β : Type}{R : α → β → Prop} : ∀ {xs : List α} {ys : List β}, Paired R xs ys → ∀ {i : Nat} {x : α}, xs[i]? = some x → ∃ y, ys[i]? = some y ∧ R x y
  | _, _, .nil, i, x, h => by simp at h
  | _, _, .cons r q, 0, x, h => by cases h;exact ⟨_, rfl, r⟩
  | _, _, .cons r q, i+1, x, h => fw q (i := i) (by simpa using h)
section
variable {X : Cx} {tg : Expr}
end
end L2
namespace PySem
open Sem (wp)
section
variable {prog : Program} {w : World} {A : Around} {E : Value → Shared → Prop} {s : Shared}
end
end PySem
namespace L2
open PySem PySem.Spec PyProof.Rows
theorem mr {P : Program}{w : World}{H : Hp}{h : Heap}{d : Addr}{o : Obj}{kvs : List (List Key × V)}{es : Array DictEntry}{ep : Nat}(hok : HOk P w H h)(e : H d=some (.frz o (.dT kvs)))(he : o.data = .dict es ep) :
    h.get? d=some o ∧ ∃ xs, KT H kvs xs ∧ es.toList=xs.map (entryOfKey (tupleKind (ba P w))) := by
  obtain ⟨g, z, hd, xs, rel, o', es', ep', g', ex, dt, r, _⟩ := hok d _ e
  rw [g] at g'
  cases g'
  rw [he] at dt
  cases dt
  exact ⟨g, xs, rel, r⟩
section
variable {X : Cx} {tg : Expr}
end
end L2
namespace PySem
open Sem (wp)
namespace F
end F
section
variable {prog : Program} {w : World} {A : Around} {E : Value → Shared → Prop} {s : Shared} {a : Addr} {its : Array Value} {n : Nat} {sl : Array (Option Value)}
end
end PySem
namespace L2
open PySem PySem.Spec PyProof.Rows Wd
theorem i3 : ∀ {ns : List Int} {us : List Value}, aL (ns.map V.int) us → ∃ ps : List (Int × Tok), us=ps.map (fun p => Value.int p.1 p.2) ∧ ps.map Prod.fst=ns
  | [], _, .nil => ⟨[], rfl, rfl⟩
  | n::ns, _, .cons r q => by
    obtain ⟨ps, rfl, e⟩ := i3 q
    obtain ⟨t, rfl⟩ := r
    exact ⟨(n, t)::ps, rfl, by rw [yk, e]⟩
section
variable {X : Cx}
end
section
variable {P : Program} {w : World} {A : Around} {E : Value → Shared → Prop} {I : Addr} {fp wr : List Addr} {G : Array GenState → Array GenState → Prop} {n : Nat} {Pv : Nat → Value → Prop} {St' : Nat → Shared → Prop}
end
end L2
namespace L2
open PySem PySem.Spec PyProof.Rows Wd
section
variable {X : Cx}
end
end L2
namespace L2
open PySem PySem.Spec PyProof.Rows Wd
section
variable {X : Cx}
end
end L2
namespace L2
open PySem PySem.Spec PyProof.Rows Wd
section
variable {X : Cx}
end
end L2
namespace Kx
open PySem PySem.Spec PyProof.Rows L2 Wd
theorem wo : bootBuiltins "sum" = some (.builtin "sum") := by kernel_rfl
end Kx
namespace L2
open PySem PySem.Spec PyProof.Rows
end L2
namespace Kx
open PySem PySem.Spec PyProof.Rows L2 Wd
theorem lt9 {n c : Nat}(h : n+64 < c) : n+9 < c := by omega
end Kx
namespace L2
open PySem PySem.Spec PyProof.Rows Wd
def VwO (v d : Addr) : HO := .ext fun h => h.IsValuesView v d
theorem VwO.lay {P : Program}{w : World}{H : Hp}{h : Heap}{v d : Addr}(x : h.IsValuesView v d) : bg P w H h v (VwO v d) := by
  refine ⟨x, ?_, fun h1 h2 y k => ?_⟩
  · obtain ⟨o, e, _⟩ := x
    exact ⟨o, e⟩
  · obtain ⟨o, e, r⟩ := y
    exact ⟨o, k _ e, r⟩
section
variable {X : Cx} {o : Expr} {apos cpos : Pos} {to : TE}
end
end L2
namespace PySem
open Sem (wp)
section
variable {prog : Program} {w : World} {A : Around} {E : Value → Shared → Prop} {s : Shared}
theorem oY {it d : Addr}{i ep : Nat}{od : Obj}{es : Array DictEntry}{Q : Option Value → Shared → Prop}(st : s.heap.IsValIter it d i es.size ep)(g : s.heap.get? d=some od)(dt : od.data = .dict es ep)(hi : i < es.size)
    (fin : ∀ h', h'.IsValIter it d (i+1) es.size ep → Heap.SameBut it s.heap h' → Q (some es[i].val) { s with heap := h' }) : wpAny (model prog w) A (pyNext (.ref it)) Q E s := by
  have ty := st.typeIs
  have sl := AU
  obtain ⟨o, ho, hc, hd⟩ := id st
  unfold pyNext
  refine xR (Ay (yM (name := Str.ofString "__next__") ty sl (yZ sl ty AL ?_ (AA _))))
  obtain ⟨hp, gn, dr, tk, os⟩ := s
  repeat (first | with_reducible refine AM ho ?_ | with_reducible refine AM g ?_ | wp_step)
  have own : Builtin.Dict_items.ownsTuple ((Manifest.find? "dict_valueiterator").elim "dict_valueiterator" fun x => x.tpName)=false := by kernel_rfl
  have fl : wpAny (model prog w) A.in1 (match o.data with | Data.fields vs => pure vs | x => unsupported "internal:no-fields") (fun a s' => a=#[Value.ref d, Value.int (↑i) 0, Value.int (↑es.size) 0, Value.int (↑ep) 0] ∧ s'=⟨hp, gn, dr, tk, os⟩) (fun _ _ => False) ⟨hp, gn, dr, tk, os⟩ := by
    rw [hd]
    exact x9 ⟨rfl, rfl⟩
  refine zt fl (fun a s' q => ?_) fun _ _ q => q.elim
  obtain ⟨rfl, rfl⟩ := q
  rw [own]
  show wpAny _ _ (if (Value.ref d == Value.none)=true then _ else _) _ _ _
  rw [if_neg (by intro z;cases z)]
  refine xR (x9 (xR (AN g dt ?_)))
  dsimp only
  rw [if_neg (by simp)]
  refine xR (x9 (xR (B6 g dt ?_)))
  rw [if_neg (by simp)]
  refine x9 ?_
  dsimp only
  rw [if_neg (by omega), yf, zk hi]
  dsimp only
  let up := fun x : Array Value => x.setIfInBounds 1 (rawInt ((i : Int)+1))
  have st2 : (hp.update it (Obj.mapFields up)).IsValIter it d (i+1) es.size ep := by
    refine ⟨_, zK _ ho (z_ (zc hd _)), ?_, ?_⟩
    · rw [BF];exact hc
    · rw [zc hd];simp [up, rawInt]
  refine xR (xR (A4 ty (x9 (xR (AV ty (show wpAny _ _ (setField (Value.ref it) 1 (rawInt ((i : Int)+1)) >>= _) _ _ _ from xR (zZ ho hd (by simp) ?_)))))))
  refine xR (Aq (xR (AV (s := ⟨hp.update it (Obj.mapFields up), gn, dr, tk, os⟩) st2.typeIs ?_)))
  rw [if_neg (by decide)]
  refine xR (AV (s := ⟨hp.update it (Obj.mapFields up), gn, dr, tk, os⟩) st2.typeIs ?_)
  rw [if_pos (by decide)]
  exact x9 (x9 ⟨_, rfl, x9 (fin _ st2 (zT ..))⟩)
theorem rF {it d : Addr}{i ep : Nat}{od : Obj}{es : Array DictEntry}{Q : Option Value → Shared → Prop}(hh : A.handled=none)(st : s.heap.IsValIter it d i es.size ep)(g : s.heap.get? d=some od)(dt : od.data = .dict es ep)(hi : es.size≤i)
    (fin : ∀ h', Heap.ExtBut it s.heap h' → Q none { s with heap := h' }) : wpAny (model prog w) A (pyNext (.ref it)) Q E s := by
  have ty := st.typeIs
  have sl := AU
  obtain ⟨o, ho, hc, hd⟩ := id st
  unfold pyNext
  refine xR (Ay (yM (name := Str.ofString "__next__") ty sl (yZ sl ty AL ?_ (AA _))))
  obtain ⟨hp, gn, dr, tk, os⟩ := s
  repeat (first | with_reducible refine AM ho ?_ | with_reducible refine AM g ?_ | wp_step)
  have own : Builtin.Dict_items.ownsTuple ((Manifest.find? "dict_valueiterator").elim "dict_valueiterator" fun x => x.tpName)=false := by kernel_rfl
  have fl : wpAny (model prog w) A.in1 (match o.data with | Data.fields vs => pure vs | x => unsupported "internal:no-fields") (fun a s' => a=#[Value.ref d, Value.int (↑i) 0, Value.int (↑es.size) 0, Value.int (↑ep) 0] ∧ s'=⟨hp, gn, dr, tk, os⟩) (fun _ _ => False) ⟨hp, gn, dr, tk, os⟩ := by
    rw [hd]
    exact x9 ⟨rfl, rfl⟩
  refine zt fl (fun a s' q => ?_) fun _ _ q => q.elim
  obtain ⟨rfl, rfl⟩ := q
  rw [own]
  show wpAny _ _ (if (Value.ref d == Value.none)=true then _ else _) _ _ _
  rw [if_neg (by intro z;cases z)]
  refine xR (x9 (xR (AN g dt ?_)))
  dsimp only
  rw [if_neg (by simp)]
  refine xR (x9 (xR (B6 g dt ?_)))
  rw [if_neg (by simp)]
  refine x9 ?_
  dsimp only
  rw [if_neg (by omega), yf, B2 hi]
  dsimp only
  refine xR (xR (A4 ty (x9 (show wpAny _ _ (setField (Value.ref it) 0 Value.none >>= _) _ _ _ from xR (zZ ho hd (by simp) ?_)))))
  have hh1 : A.in1.handled=none := hh
  simp only [newExc, newTuple, raiseNew]
  refine xR (xR (y7 (xR (m := firstArgMember _ _) (AH (a := Value.none) rfl (y7 (xR (wpAny_handled ?_)) (by size_fits)))) (by size_fits)))
  rw [hh1]
  exact wpAny_throw (xR (A1 (T := "StopIteration") (b := true) ⟨_, ya _ rfl, rfl⟩ Ca (x9 (fin _ (((zT ..).extBut.push _).push _)))))
theorem mw {v d : Addr}{ep : Nat}{od : Obj}{es : Array DictEntry}{Q : Value → Shared → Prop}(hv : s.heap.IsValuesView v d)(g : s.heap.get? d=some od)(dt : od.data = .dict es ep)
    (fin : Q (.ref s.heap.objs.size) { s with heap := s.heap.push { cls := .type "dict_valueiterator", data := .fields #[.ref d, .int 0 0, .int es.size 0, .int ep 0] } }) : wpAny (model prog w) A (pyIter (.ref v)) Q E s := by
  obtain ⟨ov, hov, hcv, hdv⟩ := id hv
  refine wpAny_pyIter_slot hv.typeIs F.slot_dict_values_iter (yZ F.slot_dict_values_iter hv.typeIs F.entry_dict_values_iter ?_ (F.args_dict_values_iter_1 _))
  unfold Builtin.«dict_values.__iter__»
  refine xR (x9 ?_)
  refine xR ?_
  unfold Builtin.Dict_items.dictOf
  refine xR (zh hov hdv (x := .ref d) rfl (x9 ?_))
  refine xR ?_
  unfold Builtin.Dict_items.newIterator
  refine xR (AN g dt ?_)
  refine xR (B6 g dt ?_)
  have hown : Builtin.Dict_items.ownsTuple "dict_valueiterator" = false := by decide
  simp only [hown, Aw, Cj]
  refine y7 (x9 ⟨_, rfl, "dict_valueiterator", _, ⟨_, ya _ rfl, rfl⟩, AU.lookup, ?_⟩)
  simpa [rawInt] using fin
end
end PySem
namespace L2
open PySem PySem.Spec PyProof.Rows
theorem eR (d : Addr)(hd : (d == sysModules)=false){prog : Program}{w : World} :
    MeetsIn prog w (Builtin.«dict.values» ⟨[.ref d], []⟩) (fun _ R s => s.TypeIs (.ref d) "dict" ∧ R (.ok (.ret (.ref s.heap.objs.size))) { s with heap := s.heap.push { cls := .type "dict_values", data := .fields #[.ref d] } }) :=
  .of_wp fun A R s ⟨hm, h⟩ => by
    refine xR ?_
    unfold Builtin.Dict.noArgs
    refine xR (wpAny_notOrdered_dict hm ?_)
    show wpAny _ _ (pure d) _ _ s
    refine x9 ?_
    show wpAny _ _ (Builtin.Dict.showsAll d >>= _) _ _ s
    unfold Builtin.Dict.showsAll
    rw [if_neg (by rw [hd];exact yc)]
    refine xR (x9 ?_)
    exact xR (y7 (x9 ⟨_, rfl, h⟩))
def sT (d : Addr)(o : Obj)(kvs : List (List Key × V)) : It := ⟨fun i H => i < kvs.length ∧ H d=some (.frz o (.dT kvs)), fun i H x H' => H'=H ∧ ∃ k, kvs[i]? = some (k, x), fun i H => i=kvs.length ∧ H d=some (.frz o (.dT kvs))⟩
theorem ky {P : Program}{w : World}{K : PySem.W.Frag}{tg : Expr}{d it : Addr}{o : Obj}{es : Array DictEntry}{ep : Nat}{kvs : List (List Key × V)}(he : o.data = .dict es ep)(hz : es.size=kvs.length) : pY P w K tg (sT d o kvs) [it] it (fun i h => h.IsValIter it d i es.size ep) where
  mem := by simp
  obj := fun i h st b hb => by
    have e : b=it := by simpa using hb
    subst e
    obtain ⟨o, e, c, dd⟩ := st
    exact ⟨o, e, fun v z => by rw [dd] at z;cases z⟩
  keep := fun i h h' st kk => let ⟨o, ho, r⟩ := st;⟨o, kk it (by simp) _ ho, r⟩
  item := by
    intro X hP hw hK hc i pins s σ H E I hf st hg
    subst hP hw hK
    obtain ⟨hi, e⟩ := hg
    obtain ⟨f0, f1, f2, f3, f4, f5⟩ := hf it (by simp)
    obtain ⟨g, xs, rel, r⟩ := mr I.hok e he
    obtain ⟨p, hp⟩ : ∃ p, kvs[i]? = some p := ⟨_, xS hi⟩
    obtain ⟨p', hp', ek, eb, rv⟩ := fw rel hp
    have hi2 : i < es.size := by omega
    have key : es[i].val=p'.2.2 := by
      have q : es.toList[i]? = some (entryOfKey (tupleKind (ba X.prog X.w)) p') := by rw [r, xY, hp'];rfl
      have q2 : es.toList[i]? = some es[i] := by rw [AQ, zk hi2]
      rw [q2] at q
      rw [x5 q]
      rfl
    refine oY st g he hi2 fun h' st' hsb => ⟨_, rfl, ?_⟩
    refine letGo_valiter (s' := { s with heap := h' }) st' ⟨p.2, H, ?_, by rw [key];exact rv, ⟨rfl, p.1, hp⟩, st', fun b hb => (hf b hb).1⟩
    exact I.turned (t' := s.toks) (fun b o hb e => by rw [hsb.2 b hb];exact e) f0 f1 f3 f4 f5
  done := by
    intro X hP hw hK hc i pins s σ H E I hf st hg
    subst hP hw hK
    obtain ⟨hi, e⟩ := hg
    obtain ⟨f0, f1, f2, f3, f4, f5⟩ := hf it (by simp)
    obtain ⟨g, xs, rel, r⟩ := mr I.hok e he
    refine rF (I.ok.hd hc) st g he (by omega) fun h' hx => ⟨rfl, ?_⟩
    exact I.turned (t' := s.toks) (fun b o hb e => hx b o hb e) f0 f1 f3 f4 f5
  self := fun A i s Q E st h => wpAny_pyIter_valiter st h
section
variable {X : Cx} {tg o : Expr} {apos cpos : Pos} {to : TE}
inductive jM (R : It → Hp → Prop)(x : V)(H1 : Hp) : Prop
  | mk : ∀ d kvs, (x = .ref d) → (H1 d=some (.dT kvs)) → (∀ o v H2, H1 v=none → H2 d=some (.frz o (.dT kvs)) → (∀ b, b≠d → b≠v → H2 b=H1 b) → R (sT d o kvs) H2) → jM R x H1
def uy (to : TE) : TI := fun σ H R => to σ H (jM R)
theorem oZ (ho : PE X o to)(hbase : attributeBase o "values" X.env (eval o X.env)=eval o X.env := by rfl)(hline : (apos.endLine == cpos.line)=true := by rfl) : PI X tg (.Call (.Attribute o "values" apos) [] [] cpos) (uy to) := by
  intro pins s σ H R I h
  refine wpAny_Call_method0_late hbase hline (thn (ho pins s σ H _ I h) fun v s1 zq65 => ?_)
  obtain ⟨x, H1, I1, r1, d, kvs, rfl, e, q⟩ := zq65
  cases r1
  obtain ⟨t1, t2, hd⟩ := tW I1 (.inr ⟨kvs, .inl e⟩)
  refine ⟨"dict", "dict.values", PySem.F.plainAttrs_dict, BH, PySem.F.type_dict_values, t1, t2, AB rfl (PySem.evalArgs_none ?_)⟩
  refine call_meetsIn BH t1 PySem.F.entry_dict_values (PySem.F.args_dict_values_1 _) (eR d hd) ⟨t1, ?_⟩
  have hv : H1 s1.heap.objs.size=none := I1.hok.fresh (xT _)
  have I2 : Inv X pins σ (upd H1 s1.heap.objs.size (VwO s1.heap.objs.size d)) { s1 with heap := s1.heap.push { cls := .type "dict_values", data := .fields #[.ref d] }, toks := s1.toks } := I1.laid (t' := s1.toks) (fun b o e => xW _ e) (xT _) (VwO.lay ⟨_, ya _ rfl, rfl, rfl⟩)
  have nv : d≠s1.heap.objs.size := ah e hv
  have e2 : (upd H1 s1.heap.objs.size (VwO s1.heap.objs.size d)) d=some (.dT kvs) := by rw [ak nv];exact e
  have view : Heap.IsValuesView (s1.heap.push { cls := .type "dict_values", data := .fields #[.ref d] }) s1.heap.objs.size d := ⟨_, ya _ rfl, rfl, rfl⟩
  have k2 : ∀ b, b≠d → b≠s1.heap.objs.size → (upd H1 s1.heap.objs.size (VwO s1.heap.objs.size d)) b=H1 b := fun b _ nb => ak nb
  generalize hs2 : ({ s1 with heap := s1.heap.push { cls := .type "dict_values", data := .fields #[.ref d] }, toks := s1.toks } : Shared)=s2 at I2
  generalize upd H1 s1.heap.objs.size (VwO s1.heap.objs.size d)=H2 at I2 e2 k2
  have view2 : s2.heap.IsValuesView s1.heap.objs.size d := by rw [← hs2];exact view
  show wpAny _ _ (pyIter (.ref s1.heap.objs.size)) _ _ _
  obtain ⟨z, hd, xs, rel, o, es, ep, g, ex, he, r, nd⟩ := (show bg X.prog X.w H2 s2.heap d (.dT kvs) from I2.hok d _ e2)
  have hz : es.size=kvs.length := by rw [← zy, r, fu];exact (Ap rel).symm
  have I3 : Inv X pins σ (upd H2 d (.frz o (.dT kvs))) s2 := by
    refine fJ (t' := s2.toks) I2 (by rw [e2];exact True.intro) ⟨rfl, fun _ _ => rfl⟩ ⟨o, g⟩ ⟨g, z, hd, xs, KT.keeps rel fun c ys ec => ?_, o, es, ep, g, ex, he, r, nd⟩
    rw [ak (cM ec e2 (fun z => nomatch z))]
    exact ec
  refine mw view2 g he ?_
  refine ⟨s2.heap.objs.size, [s2.heap.objs.size], _, sT d o kvs, _, rfl, I3.kept (t' := s2.toks) fun b o e => xW _ e, ky he hz, ⟨_, ya _ rfl, rfl, rfl⟩, fun b hb => ?_, q o s1.heap.objs.size _ hv ab fun b nb nv => by rw [ak nb];exact k2 b nb nv⟩
  have e : b=s2.heap.objs.size := by simpa using hb
  subst e
  exact I3.fpOk (xT _) (I3.hok.fresh (xT _))
end
end L2
namespace L2
open PySem PySem.Spec PyProof.Rows Wd
section
variable {X : Cx}
inductive eS (K : PySem.W.Frag)(xs : List V)(H : Hp)(Q : VK) : Prop
  | mk : ∀ (l : Addr) (ns : List Int), xs=[.ref l] → SqT K H l (ns.map V.int) → Q (.int ns.sum) H → eS K xs H Q
theorem mx (hc : X.calm=true) : cS X (.builtin "sum") (eS X.K) := by
  intro pins s σ H xs us Q I r h
  obtain ⟨l, ns, rfl, hq, q⟩ := h
  obtain ⟨u, rfl, ru⟩ := cx r
  cases ru
  obtain ⟨its, rv, pl, _⟩ := I.tuple hq
  obtain ⟨ps, rfl, e⟩ := i3 rv
  have hl : s.heap.IsTuple l (intItems ps.toArray) := by
    obtain ⟨o, h1, h2, n, h3⟩ := pl
    refine ⟨o, h1, h2, n, ?_⟩
    rw [h3]
    unfold intItems
    simp
  have hlt : l < s.heap.objs.size := by
    obtain ⟨o, h1, _⟩ := hl
    exact yd h1
  refine call_sum_walkG (z5 hl ?_)
  refine ⟨_, _, _, _, _, _, numAt ps.toArray, rfl, Walks.tuple (A := X.A.in1) (I.ok.hd hc) _ l (yH hlt) (intItems ps.toArray), ⟨⟨_, ya _ rfl, rfl, rfl⟩, hl.at fun o e => xW _ e⟩, fun b hb => ?_, (fun _ _ => intItems_at), fun h' tk t' hk => ?_⟩
  · have hb : b=s.heap.objs.size ∨ b=l := by simpa using hb
    have e : (s.heap.push { cls := .type "tuple_iterator", data := .fields #[.ref l, .int 0 0] }).objs.size=s.heap.objs.size+1 := Array.size_push ..
    show b < (s.heap.push _).objs.size
    rw [e]
    rcases hb with rfl | rfl
    · exact A0 _
    · exact Nat.lt_succ_of_lt hlt
  · have old : ∀ b o, s.heap.get? b=some o → h'.get? b=some o := fun b o e => hk b o (fun z => by rw [x4.mp z] at e;exact absurd (yd e) (yO _)) (xW _ e)
    refine ⟨.int ns.sum, H, I.kept old, ⟨t', ?_⟩, q⟩
    have e2 : (intItems ps.toArray).size=ps.toArray.size := by unfold intItems;simp
    rw [e2, preSum_eq, yU (by simp)]
    have : (ps.toArray.toList.map Prod.fst)=ns := by simpa using e
    exact yB (fun l : List Int => Value.int l.sum t') this
theorem ip {prog : Program}{w : World}{d : Addr}(hd : (d == sysModules)=false) :
    MeetsIn prog w (Builtin.«dict.__len__» ⟨[.ref d], []⟩) (fun _ R s => ∃ (o : Obj) (es : Array DictEntry) (ep : Nat), s.heap.get? d=some o ∧ o.data = .dict es ep ∧ R (.ok (.ret (.int es.size s.toks))) { s with toks := s.toks+1 }) :=
  .of_wp fun A R s ⟨o, es, ep, ho, hdat, h⟩ => by
    show wpAny _ _ (dictSize d >>= _) _ _ s
    unfold dictSize
    refine xR (xR (AN ho hdat (x9 ?_)))
    show wpAny _ _ (Builtin.Dict.pendingCount d >>= _) _ _ s
    refine xR (wpAny_pendingCount_other hd ?_)
    refine wpAny_ret_mkInt ?_
    rw [B7];exact h
theorem i4 {prog : Program}{w : World}{A : Around}{E : Value → Shared → Prop}{s : Shared}{d : Addr}{o : Obj}{es : Array DictEntry}{ep : Nat}{Q : Value → Shared → Prop}(hd : (d == sysModules)=false)(ho : s.heap.get? d=some o)(ex : o.ExactDict)(hdat : o.data = .dict es ep)(hfit : (es.size : Int) < 2 ^ 63)
    (h : Q (.int es.size (s.toks+1)) { s with toks := s.toks+1+1 }) : wpAny (model prog w) A (Builtin.«len» ⟨[.ref d], []⟩) (fun fin s' => ∃ r, fin = .done (.ret r) ∧ Q r s') E s := by
  have ty : s.TypeIs (.ref d) "dict" := ⟨o, ho, ex.1⟩
  unfold Builtin.«len»
  refine xR (m := oneArg "len" _) (x9 ?_)
  refine xR (m := callSpecial? (.ref d) (Str.ofString "__len__")) (yM (name := Str.ofString "__len__") ty F.slot_dict_len
    (call_meetsIn F.slot_dict_len ty F.entry_dict_len (F.args_dict_len_1 _) (ip hd) ⟨o, es, ep, ho, hdat, ?_⟩))
  show wpAny _ _ _ _ _ { s with toks := s.toks+1 }
  refine xR (Aq (x9 ?_))
  refine xR (wpAny_letGo ?_)
  show wpAny _ _ (if ((es.size : Nat) : Int) < 0 then _ else _) _ _ _
  rw [if_neg (by omega)]
  show wpAny _ _ (if ((es.size : Nat) : Int)≥2 ^ 63 then _ else _) _ _ _
  rw [if_neg (by omega)]
  exact xR (wpAny_mkInt (x9 ⟨_, rfl, h⟩))
inductive dJ (xs : List V)(H : Hp)(Q : VK) : Prop
  | mk : ∀ a kvs, (xs=[V.ref a]) → (H a=some (.dT kvs)) → (Q (.int kvs.length) H) → dJ xs H Q
theorem kz : cS X (.builtin "len") dJ := by
  intro pins s σ H xs us Q I r h
  obtain ⟨a, kvs, rfl, ha, q⟩ := h
  obtain ⟨u, rfl, ru⟩ := cx r
  cases ru
  obtain ⟨z, hd, ys, rel, o, es, ep, g, ex, he, r, nd⟩ := (show bg X.prog X.w H s.heap a (.dT kvs) from I.hok a _ ha)
  have hz : es.size=kvs.length := by rw [← zy, r, fu];exact (Ap rel).symm
  have e16 : sizeLine=16777216 := Bg
  refine Calls.call_function_entry kind_len plain_len entry_len (args_len1 _) (i4 hd g ex he (by rw [hz];omega) ?_)
  rw [hz]
  exact ⟨.int kvs.length, H, I.tok _, ⟨_, rfl⟩, q⟩
end
end L2
namespace Kx
open PySem PySem.Spec PyProof.Rows L2 Wd
end Kx
namespace L2
open PySem PySem.Spec PyProof.Rows Wd
section
variable {X : Cx}
inductive qt (x : V)(vs : List V)(H : Hp)(Q : VK) : Prop
  | mk : ∀ z y, (x = .str z) → (vs=[.str y]) → (Q (.int (Txt.rfind z y)) H) → qt x vs H Q
theorem o5 : MtR X "str.rfind" qt := by
  intro pins s σ H x vs v us Q I rx rv h
  obtain ⟨z, y, rfl, rfl, q⟩ := h
  obtain ⟨t, rfl⟩ := rx
  obtain ⟨u1, rfl, ⟨t1, rfl⟩⟩ := cx rv
  exact SC.rfind ⟨.int _, H, I.tok _, ⟨_, rfl⟩, q⟩
def isI (i : Int) : Value → Bool
  | .int j _ => j == i
  | _ => false
theorem rG (i j : Int)(t u : Tok) : MeetsSeq.EqGives (.int j t) (.int i u) (isI i (.int j t)) := by
  exact MeetsSeq.EqGives.int j i t u
inductive uz (x : V)(vs : List V)(H : Hp)(Q : VK) : Prop
  | mk : ∀ l (ns : List Int) i, (x = .ref l) → (vs=[.int i]) → (H l=some (.lst (ns.map V.int))) → (i∈ns) → (Q .non (upd H l (.lst ((ns.erase i).map V.int)))) → uz x vs H Q
theorem jN {i : Int} : ∀ (l : List Int), l.eraseIdx (l.idxOf i)=l.erase i
  | [] => rfl
  | x::r => by
    rw [Bk, B8]
    cases c : x == i with
    | true => rfl
    | false =>
      show x::r.eraseIdx (r.idxOf i)=x::r.erase i
      rw [jN r]
theorem my : ∀ (l : List Int) (i : Nat), (l.map V.int).eraseIdx i=(l.eraseIdx i).map V.int
  | [], _ => rfl
  | x::r, 0 => rfl
  | x::r, i+1 => by
    rw [yk, zw, zw, yk, my r i]
theorem jO {i : Int} : ∀ (l : List Int) (m : Nat) (hm : m < l.length), m < l.idxOf i → l[m]≠i
  | [], m, hm, _ => absurd hm (Bl _)
  | x::r, m, hm, h => by
    rw [Bk] at h
    cases c : x == i with
    | true => rw [c] at h;exact absurd h (Bl _)
    | false =>
      rw [c] at h
      cases m with
      | zero => exact fun e => by have e : x=i := e;rw [e, BV] at c;cases c
      | succ m => exact jO r m (by simpa using hm) (Nat.lt_of_succ_lt_succ h)
theorem fz : MtM X "list.remove" uz := by
  intro pins s σ H x vs v us Q I rx rv h
  obtain ⟨l, ns, i, rfl, rfl, hH, hi, q⟩ := h
  cases rx
  obtain ⟨u, rfl, ru⟩ := rv.one
  obtain ⟨t, rfl⟩ := ru
  obtain ⟨z, its, n, r, hl, e⟩ := I.lstM hH
  obtain ⟨ps, rfl, ep⟩ := i3 r
  have hj := yz hi
  have pl : ps.length=ns.length := by rw [← ep, fu]
  have at_ : ∀ m (hm : m < ps.length), ps[m].1=ns[m]'(by omega) := fun m hm => by
    have : (ps.map Prod.fst)[m]'(by rw [fu];exact hm)=ns[m]'(by omega) := by congr 1
    rwa [zJ] at this
  refine Af F.slot_list_remove ⟨_, e, rfl⟩ F.entry_list_remove (F.args_list_remove_2 _ _) (MeetsSeq.list_remove l _ n (.int i t) (isI i) (fun y hy => ?_) (ns.idxOf i) (by simp;omega) ?_ (fun m hm hmj => ?_) (by rw [x8];omega)) ⟨e, ?_⟩
  · have hy : y∈ps.map (fun p => Value.int p.1 p.2) := by rw [← List.mem_toArray];exact hy
    obtain ⟨p, _, rfl⟩ := yq.mp hy
    exact rG i p.1 p.2 t
  · show isI i ((ps.map fun p => Value.int p.1 p.2).toArray[ns.idxOf i]'(by simp;omega))=true
    rw [List.getElem_toArray, zJ]
    show (ps[ns.idxOf i].1 == i)=true
    rw [at_ _ (by omega), zu hj, BV]
  · have hm' : m < ps.length := by simpa using hm
    show isI i ((ps.map fun p => Value.int p.1 p.2).toArray[m]'hm)=false
    rw [List.getElem_toArray, zJ]
    show (ps[m].1 == i)=false
    rw [at_ m hm']
    exact zf.mpr (jO ns m (by omega) hmj)
  · refine ⟨.non, _, I.lset (its' := (ps.map fun p => Value.int p.1 p.2).eraseIdx (ns.idxOf i)) hH e ?_ (r.eraseIdx (ns.idxOf i)) ?_, rfl, ?_⟩
    · show (ps.map fun p => Value.int p.1 p.2).toArray.eraseIdxIfInBounds (ns.idxOf i)=_
      rw [zP]
    · have := eh (ns.map V.int) (ns.idxOf i)
      omega
    · have em : (ns.map V.int).eraseIdx (ns.idxOf i)=(ns.erase i).map V.int := by rw [← jN ns, my]
      rw [em]
      exact q
end
end L2
namespace Kx
open PySem PySem.Spec PyProof.Rows L2 Wd
def bb (ms : List Nat)(x : L) : Nat := ms.getD (x.val % 6) 0
def aA (ms : List Nat)(u : List L) : List L := u.flatMap fun x => List.replicate (bb ms x) x
def bgZ (ms : List Nat)(u : List L)(x : L) : Nat := (aA ms (u.take (u.idxOf x))).length
theorem bR (ms : List Nat)(y : L)(r : List L) : aA ms (y::r)=List.replicate (bb ms y) y++aA ms r := by unfold aA; rw [zi]
theorem o7 (ms : List Nat)(u v : List L) : aA ms (u++v)=aA ms u++aA ms v := by unfold aA; rw [zU]
theorem i5 (ms : List Nat)(y : L)(r : List L) : bgZ ms (y::r) y=0 := by
  unfold bgZ
  rw [List.idxOf_cons_self]
  rfl
theorem i6 {ms : List Nat}{y x : L}{r : List L}(h : y≠x) : bgZ ms (y::r) x=bb ms y+bgZ ms r x := by
  unfold bgZ
  rw [Bk, show (y == x)=false from zf.mpr h]
  show (aA ms ((y::r).take (r.idxOf x+1))).length=_
  rw [List.take_succ_cons, bR, xX, yp]
theorem jP {ms : List Nat} : ∀ {u : List L}, u.Nodup → ∀ {p : Nat} {x : L}, (aA ms u)[p]? = some x → x∈u ∧ bgZ ms u x≤p ∧ p < bgZ ms u x+bb ms x
  | [], _, p, x, h => by simp [aA] at h
  | y::r, nd, p, x, h => by
    obtain ⟨n1, nd2⟩ := y9.mp nd
    rw [bR] at h
    by_cases c : p < bb ms y
    · rw [yN (by rw [yp];exact c), Ar, if_pos c] at h
      obtain rfl := x5 h
      rw [i5]
      exact ⟨yb, yQ _, by omega⟩
    · rw [y8 (by rw [yp];omega), yp] at h
      obtain ⟨h1, h2, h3⟩ := jP nd2 h
      have ne : y≠x := fun e => n1 (e ▸ h1)
      rw [i6 ne]
      exact ⟨x3 _ h1, by omega, by omega⟩
theorem dM {ms : List Nat} : ∀ {u : List L} {x : L}, x∈u → ∀ {k : Nat}, k < bb ms x → (aA ms u)[bgZ ms u x+k]? = some x
  | y::r, x, h, k, hk => by
    rw [bR]
    by_cases c : y=x
    · subst c
      rw [i5, Ab, yN (by rw [yp];exact hk), Ar, if_pos hk]
    · have h : x∈r := by
        rcases ye.mp h with h | h
        · exact absurd h.symm c
        · exact h
      rw [i6 c, y8 (by rw [yp];omega), yp, show bb ms y+bgZ ms r x+k - bb ms y=bgZ ms r x+k by omega]
      exact dM h hk
def enZ (ms : List Nat)(u : List L)(p : Nat) : L := (aA ms u).getD p 0
def sdZ (ms : List Nat)(u : List L)(p : Nat) : Nat := bgZ ms u (inv (enZ ms u p))+(bb ms (enZ ms u p) - 1 - (p - bgZ ms u (enZ ms u p)))
theorem i7 (ms : List Nat)(x : L) : bb ms (inv x)=bb ms x := by unfold bb; rw [cV]
theorem uA {ms : List Nat}{u : List L}{p : Nat}(h : p < (aA ms u).length) : (aA ms u)[p]? = some (enZ ms u p) := by
  unfold enZ
  rw [xU, xS h]
  rfl
theorem o8 {ms : List Nat}{u : List L}{p : Nat}{x : L}(h : (aA ms u)[p]? = some x) : enZ ms u p=x := by
  unfold enZ
  rw [xU, h]
  rfl
theorem uB : ∀ x : L, inv (inv x)=x := by decide
theorem uC : ∀ x : L, inv x≠x := by decide
theorem mz {u : List L}{n : Nat}(U : SK u n) : u.Nodup := U.pm.nodup_iff.mpr (fm ⟨n, by have := U.hi; omega⟩).1
theorem iq {u : List L}{n : Nat}(U : SK u n){x : L}(h : x∈u) : inv x∈u := by rw [U.mem, cV]; exact (U.mem x).mp h
theorem kA {ms : List Nat}{u : List L}{n : Nat}(U : SK u n){x : L}(hx : x∈u){k : Nat}(hk : k < bb ms x) : sdZ ms u (bgZ ms u x+k)=bgZ ms u (inv x)+(bb ms x - 1 - k) := by
  have e := o8 (dM hx hk)
  unfold sdZ
  rw [e]
  congr 2
  omega
theorem mB {ms : List Nat}{u : List L}{n : Nat}(U : SK u n){p : Nat}(h : p < (aA ms u).length) : ∃ x k, x∈u ∧ k < bb ms x ∧ p=bgZ ms u x+k ∧ enZ ms u p=x := by
  obtain ⟨h1, h2, h3⟩ := jP (mz U) (uA h)
  exact ⟨_, p - bgZ ms u (enZ ms u p), h1, by omega, by omega, rfl⟩
theorem o9 {ms : List Nat}{u : List L}{n : Nat}(U : SK u n){p : Nat}(h : p < (aA ms u).length) : sdZ ms u p < (aA ms u).length ∧ enZ ms u (sdZ ms u p)=inv (enZ ms u p) ∧ sdZ ms u (sdZ ms u p)=p ∧ sdZ ms u p≠p := by
  obtain ⟨x, k, hx, hk, rfl, ex⟩ := mB U h
  have hk2 : bb ms x - 1 - k < bb ms (inv x) := by rw [i7];omega
  have e := dM (ms := ms) (iq U hx) hk2
  rw [kA U hx hk, ex, kA U (iq U hx) hk2, uB, i7]
  refine ⟨(xV.mp e).1, o8 e, by omega, fun q => ?_⟩
  rw [q, dM hx hk] at e
  exact uC x (x5 e).symm
def cj (E : Nat → L)(sd nx : Nat → Nat) : Nat → List Nat → Nat → List L → List Nat × List L
  | 0, S, _, w => (S, w)
  | f+1, S, p, w => if p∈S then (S, w) else cj E sd nx f (S++[p, sd p]) (nx p) (w++[E p])
def dW (E : Nat → L)(sd nx : Nat → Nat)(N : Nat) : List Nat → List Nat → List (List L) → List (List L)
  | [], _, t => t
  | i::r, S, t => if i∈S then dW E sd nx N r S t else dW E sd nx N r (cj E sd nx N S i []).1 (t++[(cj E sd nx N S i []).2])
def uns (N : Nat)(S : List Nat) : List Nat := (List.range N).filter fun j => decide (j∉S)
theorem cq {N : Nat}{S : List Nat}{j : Nat} : j∈uns N S ↔ j < N ∧ j∉S := by
  unfold uns
  rw [z6, yG, decide_eq_true_iff]
theorem mD (N : Nat)(S R : List Nat) : uns N (S++R)=(uns N S).filter fun j => decide (j∉R) := by
  unfold uns
  rw [Bu]
  refine BI fun j _ => ?_
  rw [zb]
  simp only [yi, yw, yn, not_or]
  exact ⟨fun h => ⟨h.2, h.1⟩, fun h => ⟨h.2, h.1⟩⟩
theorem qu {N : Nat}{S : List Nat}{p q : Nat}(hp : p < N)(h : p∉S) : (uns N (S++[p, q])).length < (uns N S).length := by
  rw [mD, Ac]
  exact ⟨p, cq.mpr ⟨hp, h⟩, by simp⟩
theorem mE (N : Nat)(S : List Nat) : (uns N S).Nodup := List.Nodup.sublist Bm List.nodup_range
theorem rH {N : Nat}{S : List Nat}{p q : Nat} : uns N (S++[p, q])=((uns N S).erase p).erase q := by
  rw [mD, (mE N S).erase_eq_filter, (List.Nodup.sublist Bm (mE N S)).erase_eq_filter, Bu]
  refine BI fun j _ => ?_
  rw [zb]
  simp only [yi, yw, ye, yD, zV, not_or, bne_iff_ne]
  exact ⟨fun h => ⟨h.2, h.1⟩, fun h => ⟨h.2, h.1⟩⟩
structure Cl (N : Nat) (sd : Nat → Nat) (S : List Nat) : Prop where
  lt : ∀ p∈S, p < N
  sd : ∀ p∈S, sd p∈S
structure Sds (N : Nat) (sd nx : Nat → Nat) : Prop where
  lt : ∀ p, p < N → sd p < N
  inv : ∀ p, p < N → sd (sd p)=p
  ne : ∀ p, p < N → sd p≠p
  nx : ∀ p, p < N → nx p < N
theorem Cl.step {N : Nat}{sd nx : Nat → Nat}{S : List Nat}(h : Cl N sd S)(D : Sds N sd nx){p : Nat}(hp : p < N) : Cl N sd (S++[p, sd p]) := by
  refine ⟨fun q hq => ?_, fun q hq => ?_⟩
  · rcases yn.mp hq with hq | hq
    · exact h.lt q hq
    · simp only [ye, yD, zV] at hq
      rcases hq with rfl | rfl
      · exact hp
      · exact D.lt p hp
  · rcases yn.mp hq with hq | hq
    · exact yE _ (h.sd q hq)
    · simp only [ye, yD, zV] at hq
      rcases hq with rfl | rfl
      · exact x6 _ (by simp)
      · rw [D.inv p hp]
        exact x6 _ (by simp)
theorem Cl.out {N : Nat}{sd nx : Nat → Nat}{S : List Nat}(h : Cl N sd S)(D : Sds N sd nx){p : Nat}(hp : p < N)(hn : p∉S) : sd p∉S := fun q => hn (by have := h.sd _ q; rwa [D.inv p hp] at this)
theorem gb {E : Nat → L}{sd nx : Nat → Nat} : ∀ (f : Nat) {S : List Nat} {p : Nat} {w : List L} {q : Nat}, q∈S → q∈(cj E sd nx f S p w).1
  | 0, _, _, _, _, h => h
  | f+1, S, p, w, q, h => by
    unfold cj
    split
    · exact h
    · exact gb f (yE _ h)
theorem ir {E : Nat → L}{sd nx : Nat → Nat}{f : Nat}{S : List Nat}{p : Nat}{w : List L}(hf : 0 < f) : p∈(cj E sd nx f S p w).1 := by
  cases f with
  | zero => exact absurd hf (yO _)
  | succ f =>
    unfold cj
    split
    · assumption
    · exact gb f (x6 _ (by simp))
theorem mF {E : Nat → L}{sd nx : Nat → Nat} : ∀ (f : Nat) {S : List Nat} {p : Nat} {w : List L}, (cj E sd nx f S p w).2.length≤w.length+f
  | 0, _, _, _ => xT _
  | f+1, S, p, w => by
    unfold cj
    split
    · exact Nat.le_add_right _ _
    · have := mF (E := E) (sd := sd) (nx := nx) f (S := S++[p, sd p]) (p := nx p) (w := w++[E p])
      rw [xX] at this
      have e : [E p].length=1 := rfl
      omega
theorem dX {E : Nat → L}{sd nx : Nat → Nat}{N : Nat} : ∀ {is : List Nat} {S : List Nat} {t : List (List L)}, (∀ i∈is, i∈S) → ∀ r, dW E sd nx N (is++r) S t=dW E sd nx N r S t
  | [], _, _, _, _ => rfl
  | i::is, S, t, h, r => by
    rw [List.cons_append, show dW E sd nx N (i::(is++r)) S t=if i∈S then dW E sd nx N (is++r) S t else dW E sd nx N (is++r) (cj E sd nx N S i []).1 (t++[(cj E sd nx N S i []).2]) from rfl, if_pos (h i yb)]
    exact dX (fun j hj => h j (x3 _ hj)) r
theorem i8 {E : Nat → L}{sd nx : Nat → Nat}{N : Nat} : ∀ (is : List Nat) (S : List Nat) (t : List (List L)), (∀ w∈t, w.length≤N) → (dW E sd nx N is S t).length≤t.length+is.length ∧ ∀ w∈dW E sd nx N is S t, w.length≤N
  | [], _, t, h => ⟨xT _, h⟩
  | i::r, S, t, h => by
    unfold dW
    split
    · have := i8 (E := E) (sd := sd) (nx := nx) r S t h
      exact ⟨by rw [yF];omega, this.2⟩
    · have := i8 (E := E) (sd := sd) (nx := nx) r (cj E sd nx N S i []).1 (t++[(cj E sd nx N S i []).2]) (fun w hw => by
        rcases yn.mp hw with hw | hw
        · exact h w hw
        · rw [x4.mp hw]
          have := mF (E := E) (sd := sd) (nx := nx) N (S := S) (p := i) (w := [])
          rwa [zQ, Ab] at this)
      rw [xX] at this
      exact ⟨by rw [yF];have e : [(cj E sd nx N S i []).2].length=1 := rfl;omega, this.2⟩
theorem dz {α : Type}(P : α → Prop)[DecidablePred P] : ∀ (l : List α) (b : Option α), (forIn (m := Id) l b fun i s => if P i then pure (ForInStep.yield (some i)) else pure (ForInStep.yield s)).run=l.foldl (fun a i => if P i then some i else a) b
  | [], b => rfl
  | x::r, b => by
    rw [Av, zB]
    by_cases h : P x
    · rw [if_pos h, if_pos h]
      exact dz P r (some x)
    · rw [if_neg h, if_neg h]
      exact dz P r b
theorem iu {α : Type}{P : α → Prop}[DecidablePred P] : ∀ {l : List α} {b : Option α}, (∀ x∈l, ¬ P x) → l.foldl (fun a i => if P i then some i else a) b=b
  | [], _, _ => rfl
  | x::r, b, h => by
    rw [zB, if_neg (h x yb)]
    exact iu fun y hy => h y (x3 _ hy)
theorem o_ {E : List L}{x : L}{m : Nat}(h : E[m]? = some x)(hl : ∀ j, m < j → E[j]? ≠ some x) : Txt.rfind (toS E) (toS [x])=(m : Int) := by
  have hm : m < E.length := (xV.mp h).1
  have e : Builtin.Str.lastOccurrence (toS E) (toS [x]) 0 (toS E).length=some m := by
    unfold Builtin.Str.lastOccurrence
    simp only [Std.Legacy.Range.forIn_eq_forIn_range', Std.Legacy.Range.size]
    simp only [Bs, Nat.add_sub_cancel, Nat.div_one, yi, yw]
    have key := dz (fun i => i+(toS [x]).length≤(toS E).length ∧ Builtin.Str.subAt (toS E) (toS [x]) i=true) (List.range' 0 ((toS E).length+1)) none
    have p : ∀ i, (i+(toS [x]).length≤(toS E).length ∧ Builtin.Str.subAt (toS E) (toS [x]) i=true) ↔ E[i]? = some x := fun i => jE E x i
    have sp : List.range' 0 ((toS E).length+1)=List.range' 0 m++m::List.range' (m+1) (E.length - m) := by
      have e1 : List.range' 0 m++List.range' (0+m) (E.length+1 - m)=List.range' 0 (m+(E.length+1 - m)) := List.range'_append_1
      rw [af, show E.length+1=m+(E.length+1 - m) by omega, ← e1, Ab, show E.length+1 - m=(E.length - m)+1 by omega, List.range'_succ]
    refine Eq.trans ?_ (key.trans ?_)
    · rfl
    · rw [sp, List.foldl_append, zB, if_pos ((p m).mpr h)]
      exact iu fun j hj q => by
        have hj := (List.mem_range'_1.mp hj).1
        exact hl j (by omega) ((p j).mp q)
  unfold Txt.rfind
  rw [e]
theorem rJ {E : List L}{x : L}(h : x∈E) : Txt.find (toS E) (toS [x])=(E.idxOf x : Int) := by
  obtain ⟨r, e⟩ := qk h
  unfold Txt.find
  rw [e]
theorem pb {ms : List Nat}{u : List L}{n : Nat}(U : SK u n){x : L}(hx : x∈u)(hk : 0 < bb ms x) : Txt.find (toS (aA ms u)) (toS [x])=(bgZ ms u x : Int) := by
  have h0 := dM (ms := ms) hx hk
  rw [B7] at h0
  have hm := x_ h0
  rw [rJ hm]
  have hl := yz hm
  have h1 := jP (mz U) (x := x) (p := (aA ms u).idxOf x) (by rw [xS hl, zu hl])
  have h2 := B0 (p := (· == x)) (xs := aA ms u) (i := bgZ ms u x)
  rcases Nat.lt_or_ge (bgZ ms u x) ((aA ms u).idxOf x) with q | q
  · obtain ⟨hl2, e⟩ := xV.mp h0
    exact absurd (h2 q) (by simp [e])
  · omega
theorem mG {ms : List Nat}{u : List L}{n : Nat}(U : SK u n){x : L}(hx : x∈u)(hk : 0 < bb ms x) : Txt.rfind (toS (aA ms u)) (toS [x])=((bgZ ms u x+(bb ms x - 1) : Nat) : Int) := by
  refine o_ (dM hx (by omega)) fun j hj e => ?_
  have := jP (mz U) e
  omega
end Kx
namespace Kx
open PySem PySem.Spec PyProof.Rows L2 Wd
def top (i : Nat) : Stmt := PySem.Challenge.pw_ringwords_k37_words_of_pictures.main.body.getD i (.Pass ⟨0, 0, 0, 0⟩)
theorem nP {α : Type}{us : List α}(h : us.length=1) : ∃ a0, us=[a0] := by
  cases us with
  | nil => cases h
  | cons a0 us =>
    cases us with
    | nil => exact ⟨a0, rfl⟩
    | cons b us => cases h
theorem kE {α : Type}{us : List α}(h : us.length=2) : ∃ a0 a1, us=[a0, a1] := by
  cases us with
  | nil => cases h
  | cons a0 us =>
    cases us with
    | nil => cases h
    | cons a1 us =>
      cases us with
      | nil => exact ⟨a0, a1, rfl⟩
      | cons b us => cases h
theorem sU {α : Type}{us : List α}(h : us.length=3) : ∃ a0 a1 a2, us=[a0, a1, a2] := by
  cases us with
  | nil => cases h
  | cons a0 us =>
    cases us with
    | nil => cases h
    | cons a1 us =>
      cases us with
      | nil => cases h
      | cons a2 us =>
        cases us with
        | nil => exact ⟨a0, a1, a2, rfl⟩
        | cons b us => cases h
theorem xM {α : Type}{us : List α}(h : us.length=4) : ∃ a0 a1 a2 a3, us=[a0, a1, a2, a3] := by
  cases us with
  | nil => cases h
  | cons a0 us =>
    cases us with
    | nil => cases h
    | cons a1 us =>
      cases us with
      | nil => cases h
      | cons a2 us =>
        cases us with
        | nil => cases h
        | cons a3 us =>
          cases us with
          | nil => exact ⟨a0, a1, a2, a3, rfl⟩
          | cons b us => cases h
end Kx
namespace Kx
open PySem PySem.Spec PyProof.Rows L2 Wd
section
variable {P : Program} {w : World} {K : PySem.W.Frag} {mg : Str → Option Value} {base : Heap} {aB : Addr}
abbrev mH : Stmt := top 22
theorem rK : aC ["_law_script"] ["_law_script"] (aq mH) := ⟨rfl, rfl, rfl, by decide +kernel, rfl, by decide +kernel, by decide +kernel⟩
theorem uD (D : Df K mg "_law_tape" mH)(T : Bt K w mg aB) : Fnc P w K mg base "_law_tape" ["_law_script"] 1 (lV K) := by
  have sc := rK
  refine D.ok sc (fun _ _ _ _ _ _ us hl => by obtain ⟨_, rfl⟩ := nP hl;rfl) (fun vs H Q E h => ?_) (fun f cdv A outer s H vs Q E hr h => ?_)
  · obtain ⟨a, ns, rfl, _⟩ := h
    rfl
  · obtain ⟨a, ns, rfl, hS, hlen, k⟩ := h
    refine ⟨_, (@ao _ _ _ (@aH _ _ _ _ (@bM _ _ _ _ (@aa _ _ _ _ _ (@aU _ _ _ _ _ _ _ _ _ gO (by rfl) T.list lO (@aa _ _ _ _ _ (@aM _ _ _ _ _ _ _ _ _ _ lg (pv 0) bh (@aX _ _ _ ai)) ag (by rfl)) (by decide) (by decide) (by rfl) (by rfl)) (@aa _ _ _ _ _ ai (@aa _ _ _ _ _ ai (@aa _ _ _ _ _ ai ag (by rfl)) (by rfl)) (by rfl)) (by rfl))))), ?_⟩
    refine ⟨_, rfl, _, rfl, a, _, rfl, hS, fun q1 hq1 => ?_⟩
    rw [vZ hlen]
    have s2 : au H (upd H q1 (.lst (ns.map V.int))) := au.new hq1
    have l2 : (upd H q1 (.lst (ns.map V.int))) q1=some (.lst (ns.map V.int)) := ab
    generalize upd H q1 (.lst (ns.map V.int))=H2 at s2 l2 ⊢
    refine ⟨q1, _, rfl, .inl (SqL.of l2), fun q2 hq2 => ?_⟩
    have s3 : au H2 (upd H2 q2 (.lst (ns.map V.int))) := au.new hq2
    have l3 : (upd H2 q2 (.lst (ns.map V.int))) q2=some (.lst (ns.map V.int)) := ab
    generalize upd H2 q2 (.lst (ns.map V.int))=H3 at s3 l3 ⊢
    refine ⟨(by show 4≤sizeLine;decide), fun d hd => ?_⟩
    have n1 := none_of s2 hq2
    have n0 := none_of s2 (none_of s3 hd)
    exact k d q2 _ n0 n1 ⟨0, 0, 0, ns, ab, (au.new hd) _ _ l3, ah l3 hd, hlen⟩ ((s2.trans s3).trans (au.new hd))
abbrev mI : Stmt := top 23
theorem rL : aC ["_law_tape_here", "_law_many", "_law_spot", "_law_cell", "_law_mixed", "_law_found"] ["_law_tape_here", "_law_many"] (aq mI) := ⟨rfl, rfl, rfl, by decide +kernel, rfl, by decide +kernel, by decide +kernel⟩
theorem uE (D : Df K mg "_law_draw" mI)(T : Bt K w mg aB) : Fnc P w K mg base "_law_draw" ["_law_tape_here", "_law_many"] 1 cH := by
  have sc := rL
  refine D.ok sc (fun _ _ _ _ _ _ us hl => by obtain ⟨_, _, rfl⟩ := kE hl;rfl) (fun vs H Q E h => ?_) (fun f cdv A outer s H vs Q E hr h => ?_)
  · obtain ⟨d, c, m, rfl, _⟩ := h
    rfl
  · obtain ⟨d, c, m, rfl, F, m0, m1, k⟩ := h
    have hu := iU hr
    refine ⟨_, (@ae _ _ _ _ _ (@cO _ _ _ _ _ _ (@aF _ _ _ _ _ _ _ _ bK (@aI _ _ _ _ _ _ _ aN (pv 0) ai (fun _ _ => rfl)) ai) (@dD _ _ _ _ _ _ _ (pv 0) ai bT (by intro _ ;rfl)) (by rfl) (by rfl) (by rfl)) (@ae _ _ _ _ _ (@e9 _ _ _ _ _ _ _ _ (@aW _ _ _ _ _ _ _ _ j8 (@aI _ _ _ _ _ _ _ aN (pv 0) ai (fun _ _ => rfl)) ai (bL _)) (@ae _ _ _ _ _ (@ar _ _ (2) _ _ _ _ sc.nd rfl (Or.inl rfl) (@aI _ _ _ _ _ _ _ aN (pv 0) ai (fun _ _ => rfl)) (by rfl) (by first | exact .inl rfl | exact .inr rfl | assumption)) (@ae _ _ _ _ _ (@cO _ _ _ _ _ _ (@aF _ _ _ _ _ _ _ _ bK (pv 2) ai) (@dD _ _ _ _ _ _ _ (pv 0) ai bT (by intro _ ;rfl)) (by rfl) (by rfl) (by rfl)) (@ae _ _ _ _ _ (@ar _ _ (3) _ _ _ _ sc.nd rfl (Or.inl rfl) ai (by rfl) (by first | exact .inl rfl | exact .inr rfl | assumption)) (@ae _ _ _ _ _ (@e9 _ _ _ _ _ _ _ _ (@aW _ _ _ _ _ _ _ _ nW (@ay _ _ _ _ _ _ _ _ _ aE (by rfl) T.len yu (@aa _ _ _ _ _ (@aI _ _ _ _ _ _ _ aN (pv 0) ai (fun _ _ => rfl)) ag (by rfl)) (by decide) (by decide) (by rfl) (by rfl)) ai (bL _)) (@ao _ _ _ (@ar _ _ (3) _ _ _ _ sc.nd rfl (Or.inl rfl) (@aI _ _ _ _ _ _ _ aN (@aI _ _ _ _ _ _ _ aN (pv 0) ai (fun _ _ => rfl)) (@aF _ _ _ _ _ _ _ _ d_ (pv 2) (@ay _ _ _ _ _ _ _ _ _ aE (by rfl) T.len yu (@aa _ _ _ _ _ (@aI _ _ _ _ _ _ _ aN (pv 0) ai (fun _ _ => rfl)) ag (by rfl)) (by decide) (by decide) (by rfl) (by rfl))) (fun _ _ => rfl)) (by rfl) (by first | exact .inl rfl | exact .inr rfl | assumption))) ck) (@ae _ _ _ _ _ (@e9 _ _ _ _ _ _ _ _ (@PW.pt _ _ _ (@vk _ _ _ _ _ _ _ (@aW _ _ _ _ _ _ _ _ vC (pv 3) (@aF _ _ _ _ _ _ _ _ tD ai ai) (bL _)) (@tf _ _ _ _ (@aW _ _ _ _ _ _ _ _ vD (pv 2) (@ay _ _ _ _ _ _ _ _ _ aE (by rfl) T.len yu (@aa _ _ _ _ _ (@aI _ _ _ _ _ _ _ aN (pv 0) ai (fun _ _ => rfl)) ag (by rfl)) (by decide) (by decide) (by rfl) (by rfl)) (bL _))))) (@ae _ _ _ _ _ (@ar _ _ (4) _ _ _ _ sc.nd rfl (Or.inl rfl) (@aF _ _ _ _ _ _ _ _ d_ (@aF _ _ _ _ _ _ _ _ d9 (@aF _ _ _ _ _ _ _ _ bK (@aF _ _ _ _ _ _ _ _ d_ (pv 3) ai) (@aF _ _ _ _ _ _ _ _ d9 ai (@aI _ _ _ _ _ _ _ aN (pv 0) ai (fun _ _ => rfl)))) ai) ai) (by rfl) (by first | exact .inl rfl | exact .inr rfl | assumption)) (@ae _ _ _ _ _ (@ar _ _ (4) _ _ _ _ sc.nd rfl (Or.inl rfl) (@aF _ _ _ _ _ _ _ _ d_ (@aF _ _ _ _ _ _ _ _ d9 (@aF _ _ _ _ _ _ _ _ bK (@aF _ _ _ _ _ _ _ _ bV (pv 4) ai) (@aF _ _ _ _ _ _ _ _ d9 ai (@aI _ _ _ _ _ _ _ aN (pv 0) ai (fun _ _ => rfl)))) ai) ai) (by rfl) (by first | exact .inl rfl | exact .inr rfl | assumption)) (@ao _ _ _ (@aH _ _ _ _ (@aF _ _ _ _ _ _ _ _ d_ (@aF _ _ _ _ _ _ _ _ bV (pv 4) ai) (pv 1)))))) ck) (@ao _ _ _ (@cO _ _ _ _ _ _ (pv 3) (@dD _ _ _ _ _ _ _ (pv 0) ai bT (by intro _ ;rfl)) (by rfl) (by rfl) (by rfl)))))))) ck) (@ae _ _ _ _ _ (@ar _ _ (5) _ _ _ _ sc.nd rfl (Or.inl rfl) (@aF _ _ _ _ _ _ _ _ d_ (@aI _ _ _ _ _ _ _ aN (pv 0) ai (fun _ _ => rfl)) (pv 1)) (by rfl) (by first | exact .inl rfl | exact .inr rfl | assumption)) (@ae _ _ _ _ _ (@cO _ _ _ _ _ _ (@aF _ _ _ _ _ _ _ _ bV (@aI _ _ _ _ _ _ _ aN (pv 0) ai (fun _ _ => rfl)) (pv 1)) (@dD _ _ _ _ _ _ _ (pv 0) ai bT (by intro _ ;rfl)) (by rfl) (by rfl) (by rfl)) (@ao _ _ _ (@aH _ _ _ _ (pv 5))))))), ?_⟩
    obtain ⟨i, l, t, ns, hd, hc, dc, h63⟩ := F.ex
    have fin : ∀ (r i' l' t' : Int), 0≤r → r < m → Q (.int r) (upd H d (.lst [.ref c, .int i', .int l', .int t'])) := fun r i' l' t' h0 h1 =>
      k r _ h0 h1 ⟨i', l', t', ns, ab, by rw [ak dc];exact hc, dc, h63⟩ a8.upd
    have c1 : ∀ o, (upd H d o) c=some (.lst (ns.map V.int)) := fun o => by rw [ak dc];exact hc
    refine ⟨_, rfl, d, _, _, _, rfl, rfl, SqL.of hd, rfl, _, _, rfl, rfl, _, rfl, d, _, _, _, rfl, rfl, hd, rfl, ?_⟩
    refine ⟨_, rfl, d, _, _, _, rfl, rfl, SqL.of ab, rfl, rfl, _, rfl, ?_⟩
    refine kh (fun _ => ?_) (fun _ => ?_)
    rotate_left
    · refine ⟨_, rfl, d, _, _, _, rfl, rfl, SqL.of ab, rfl, _, rfl, _, _, rfl, rfl, m0, ?_⟩
      refine ⟨_, rfl, d, _, _, _, rfl, rfl, SqL.of ab, rfl, _, rfl, _, _, rfl, rfl, ⟨m0, by omega⟩, _, rfl, d, _, _, _, rfl, rfl, ab, rfl, ?_⟩
      refine ⟨_, rfl, ?_⟩
      rw [c_]
      exact fin _ _ _ _ (zd _ (by omega)) (yW _ m0)
    refine ⟨_, rfl, d, _, _, _, rfl, rfl, SqL.of ab, rfl, ?_⟩
    refine ⟨_, rfl, _, _, rfl, rfl, _, rfl, d, _, _, _, rfl, rfl, ab, rfl, ?_⟩
    rw [c_]
    refine ⟨_, rfl, d, _, _, _, rfl, rfl, SqL.of ab, rfl, c, _, rfl, .inl (SqL.of (c1 _)), _, _, rfl, rfl, _, rfl, ?_⟩
    refine kh (fun h0 => ?_) (fun h0 => ?_)
    · have hne : ns≠[] := by
        intro e
        subst e
        simp at h0
      have hl0 : (0 : Int) < ((ns.map V.int).length : Int) := by
        rw [fu]
        have := y_.mpr hne
        omega
      obtain ⟨n, hn⟩ := q8 hne i
      refine ⟨_, rfl, d, _, _, _, rfl, rfl, SqL.of ab, rfl, _, rfl, _, rfl, d, _, _, _, rfl, rfl, SqL.of ab, rfl, c, _, rfl, .inl (SqL.of (c1 _)), _, _, rfl, rfl, hl0, c, _, _, _, rfl, rfl, SqL.of (c1 _), hn, ?_⟩
      refine ⟨_, rfl, _, _, rfl, rfl, ⟨by decide, by decide, by decide⟩, _, _, rfl, rfl, _, rfl, ?_⟩
      refine kh (fun h1 => ?_) (fun h1 => ?_)
      · refine ⟨_, rfl, _, _, rfl, rfl, (by show (0 : Int) < 1000003;decide), _, rfl, d, _, _, _, rfl, rfl, SqL.of ab, rfl, _, _, rfl, rfl, .inl ⟨by decide, by decide⟩, _, _, rfl, rfl, _, _, rfl, rfl, .inr ⟨by decide, by decide⟩, _, _, rfl, rfl, (by show (0 : Int) < 2147483647;decide), ?_⟩
        refine ⟨_, rfl, _, _, rfl, rfl, ⟨by decide, by decide⟩, _, rfl, d, _, _, _, rfl, rfl, SqL.of ab, rfl, _, _, rfl, rfl, .inl ⟨by decide, by decide⟩, _, _, rfl, rfl, _, _, rfl, rfl, .inr ⟨by decide, by decide⟩, _, _, rfl, rfl, (by show (0 : Int) < 2147483587;decide), ?_⟩
        refine ⟨_, rfl, _, _, rfl, rfl, ⟨by decide, by decide⟩, _, rfl, _, _, rfl, rfl, m0, ?_⟩
        exact fin _ _ _ _ (zd _ (by omega)) (yW _ m0)
      · refine ⟨_, rfl, _, rfl, d, _, _, _, rfl, rfl, SqL.of ab, rfl, c, _, rfl, .inl (SqL.of (c1 _)), _, _, rfl, rfl, _, rfl, ?_⟩
        refine kh (fun h2 => ?_) (fun h2 => ?_)
        · refine ⟨_, rfl, _, _, rfl, rfl, (by show (0 : Int) < 1000003;decide), _, rfl, d, _, _, _, rfl, rfl, SqL.of ab, rfl, _, _, rfl, rfl, .inl ⟨by decide, by decide⟩, _, _, rfl, rfl, _, _, rfl, rfl, .inr ⟨by decide, by decide⟩, _, _, rfl, rfl, (by show (0 : Int) < 2147483647;decide), ?_⟩
          refine ⟨_, rfl, _, _, rfl, rfl, ⟨by decide, by decide⟩, _, rfl, d, _, _, _, rfl, rfl, SqL.of ab, rfl, _, _, rfl, rfl, .inl ⟨by decide, by decide⟩, _, _, rfl, rfl, _, _, rfl, rfl, .inr ⟨by decide, by decide⟩, _, _, rfl, rfl, (by show (0 : Int) < 2147483587;decide), ?_⟩
          refine ⟨_, rfl, _, _, rfl, rfl, ⟨by decide, by decide⟩, _, rfl, _, _, rfl, rfl, m0, ?_⟩
          exact fin _ _ _ _ (zd _ (by omega)) (yW _ m0)
        · refine ⟨_, rfl, _, rfl, d, _, _, _, rfl, rfl, ab, rfl, ?_⟩
          rw [c_]
          refine ⟨_, rfl, d, _, _, _, rfl, rfl, SqL.of ab, rfl, _, rfl, _, _, rfl, rfl, m0, ?_⟩
          refine ⟨_, rfl, d, _, _, _, rfl, rfl, SqL.of ab, rfl, _, rfl, _, _, rfl, rfl, ⟨m0, by omega⟩, _, rfl, d, _, _, _, rfl, rfl, ab, rfl, ?_⟩
          refine ⟨_, rfl, ?_⟩
          rw [c_]
          exact fin _ _ _ _ (zd _ (by omega)) (yW _ m0)
    · refine ⟨_, rfl, _, _, rfl, rfl, ⟨by decide, by decide, by decide⟩, _, _, rfl, rfl, _, rfl, ?_⟩
      refine kh (fun h1 => ?_) (fun h1 => ?_)
      · refine ⟨_, rfl, _, _, rfl, rfl, (by show (0 : Int) < 1000003;decide), _, rfl, d, _, _, _, rfl, rfl, SqL.of ab, rfl, _, _, rfl, rfl, .inl ⟨by decide, by decide⟩, _, _, rfl, rfl, _, _, rfl, rfl, .inr ⟨by decide, by decide⟩, _, _, rfl, rfl, (by show (0 : Int) < 2147483647;decide), ?_⟩
        refine ⟨_, rfl, _, _, rfl, rfl, ⟨by decide, by decide⟩, _, rfl, d, _, _, _, rfl, rfl, SqL.of ab, rfl, _, _, rfl, rfl, .inl ⟨by decide, by decide⟩, _, _, rfl, rfl, _, _, rfl, rfl, .inr ⟨by decide, by decide⟩, _, _, rfl, rfl, (by show (0 : Int) < 2147483587;decide), ?_⟩
        refine ⟨_, rfl, _, _, rfl, rfl, ⟨by decide, by decide⟩, _, rfl, _, _, rfl, rfl, m0, ?_⟩
        exact fin _ _ _ _ (zd _ (by omega)) (yW _ m0)
      · refine ⟨_, rfl, _, rfl, d, _, _, _, rfl, rfl, SqL.of ab, rfl, c, _, rfl, .inl (SqL.of (c1 _)), _, _, rfl, rfl, _, rfl, ?_⟩
        refine kh (fun h2 => ?_) (fun h2 => ?_)
        · refine ⟨_, rfl, _, _, rfl, rfl, (by show (0 : Int) < 1000003;decide), _, rfl, d, _, _, _, rfl, rfl, SqL.of ab, rfl, _, _, rfl, rfl, .inl ⟨by decide, by decide⟩, _, _, rfl, rfl, _, _, rfl, rfl, .inr ⟨by decide, by decide⟩, _, _, rfl, rfl, (by show (0 : Int) < 2147483647;decide), ?_⟩
          refine ⟨_, rfl, _, _, rfl, rfl, ⟨by decide, by decide⟩, _, rfl, d, _, _, _, rfl, rfl, SqL.of ab, rfl, _, _, rfl, rfl, .inl ⟨by decide, by decide⟩, _, _, rfl, rfl, _, _, rfl, rfl, .inr ⟨by decide, by decide⟩, _, _, rfl, rfl, (by show (0 : Int) < 2147483587;decide), ?_⟩
          refine ⟨_, rfl, _, _, rfl, rfl, ⟨by decide, by decide⟩, _, rfl, _, _, rfl, rfl, m0, ?_⟩
          exact fin _ _ _ _ (zd _ (by omega)) (yW _ m0)
        · refine ⟨_, rfl, _, rfl, d, _, _, _, rfl, rfl, ab, rfl, ?_⟩
          rw [c_]
          refine ⟨_, rfl, d, _, _, _, rfl, rfl, SqL.of ab, rfl, _, rfl, _, _, rfl, rfl, m0, ?_⟩
          refine ⟨_, rfl, d, _, _, _, rfl, rfl, SqL.of ab, rfl, _, rfl, _, _, rfl, rfl, ⟨m0, by omega⟩, _, rfl, d, _, _, _, rfl, rfl, ab, rfl, ?_⟩
          refine ⟨_, rfl, ?_⟩
          rw [c_]
          exact fin _ _ _ _ (zd _ (by omega)) (yW _ m0)
end
end Kx
namespace Kx
open PySem PySem.Spec PyProof.Rows L2 Wd
section
variable {P : Program} {w : World} {K : PySem.W.Frag} {mg : Str → Option Value} {base : Heap} {aB : Addr}
abbrev mJ : Stmt := top 4
theorem rM : aC ["word"] ["word"] (aq mJ) := ⟨rfl, rfl, rfl, by decide +kernel, rfl, by decide +kernel, by decide +kernel⟩
theorem uF (D : Df K mg "back" mJ)(T : Bt K w mg aB) : Fnc P w K mg base "back" ["word"] 1 oE := by
  have sc := rM
  refine D.ok sc (fun _ _ _ _ _ _ us hl => by obtain ⟨_, rfl⟩ := nP hl;rfl) (fun vs H Q E h => ?_) (fun f cdv A outer s H vs Q E hr h => ?_)
  · obtain ⟨u, rfl, _⟩ := h
    rfl
  · obtain ⟨u, rfl, hu, k⟩ := h
    have l16 := aO
    refine ⟨_, (@ao _ _ _ (@aH _ _ _ _ (@bD _ _ _ _ _ _ _ _ _ _ _ _ yh zp zq de bC (@aa _ _ _ _ _ (@bz _ _ _ _ _ _ _ (["letter"]) (["letter"]) ([]) _ _ _ _ (@bP _ _ _ _ _ _ rfl (by kernel_rfl)) rfl (@qW _ _ _ _ _ _ rfl T.reversed ki (@aa _ _ _ _ _ (pv 0) ag (by rfl)) (by rfl)) (fun _ _ _ _ => @av _ _ (0) _ (show (["letter"] : List Str).Nodup from by decide +kernel) rfl (Or.inl rfl) (by first | exact .inl rfl | exact .inr rfl | assumption)) (fun _ _ _ _ => aR) (fun _ _ _ _ => by (exact (@qX _ _ _ _ _ _ _ _ _ T.dB rfl rfl rfl T.mgB (pv 0) (fun _ _ => rfl) (by decide)))) (by intro _ ;rfl)) ag (by rfl)) (by rfl) (by rfl) (by rfl) (by rfl) (by rfl)))), ?_⟩
    refine ⟨rfl, _, rfl, _, rfl, (by rw [af];omega), ?_⟩
    refine bH (own := ["letter"]) (cap := []) (J := vS (toS u)) u.length (fun i ys σ H' => H'=H ∧ ys=bF ((bk u).take i) ∧ ∃ v, σ = [v]) ⟨rfl, rfl, none, rfl⟩ (fun i ys σ H' hi ⟨_, e, _⟩ => ?_) (by omega) (fun i ys σ H' hi _ => ?_) (fun ys σ H' _ => ?_) ?_ ?_
    · rw [e, aT, yg];omega
    · show i < (toS u).cps.size;rw [a_];exact hi
    · show _=(toS u).cps.size;rw [a_]
    · rintro i ys σ H1 x H2 N hi ⟨rfl, rfl, v, rfl⟩ ⟨rfl, c, hc, rfl⟩ hN
      rw [a_] at hc
      obtain ⟨y, hy, e⟩ := cC hc
      obtain ⟨t, ht⟩ := T.gB y
      refine ⟨_, rfl, toS [y], toS [inv y], t, by rw [e], ht, hN _ _ _ ⟨rfl, ?_, _, rfl⟩⟩
      rw [cG (qg u hi hy), ← b_]
      rfl
    · rintro ys σ H1 l ⟨rfl, rfl, v, rfl⟩ hl
      rw [yU (by rw [bE];exact xT _)]
      refine ⟨_, l, (bk u).map fun x => toS [x], rfl, rfl, SqL.of (by rw [ab, cL]), cf _ (by rw [bE];omega), ?_⟩
      rw [cb]
      exact k _ (au.new hl)
abbrev i9 : Stmt := top 24
theorem pd : aC ["_law_word"] ["_law_word"] (aq i9) := ⟨rfl, rfl, rfl, by decide +kernel, rfl, by decide +kernel, by decide +kernel⟩
theorem rN (D : Df K mg "_law_back" i9) : Fnc P w K mg base "_law_back" ["_law_word"] 1 oE := by
  have sc := pd
  refine D.ok sc (fun _ _ _ _ _ _ us hl => by obtain ⟨_, rfl⟩ := nP hl;rfl) (fun vs H Q E h => ?_) (fun f cdv A outer s H vs Q E hr h => ?_)
  · obtain ⟨u, rfl, _⟩ := h
    rfl
  · obtain ⟨u, rfl, hu, k⟩ := h
    have l16 := aO
    refine ⟨_, (@ao _ _ _ (@aH _ _ _ _ (@bD _ _ _ _ _ _ _ _ _ _ _ _ yh zp zq de bC (@aa _ _ _ _ _ (@bz _ _ _ _ _ _ _ (["_law_sign"]) (["_law_sign"]) ([]) _ _ _ _ (@bP _ _ _ _ _ _ rfl (by kernel_rfl)) rfl (@eE _ _ _ _ (@q9 _ _ _ _ _ _ _ (pv 0) (@kT _ _ _ _ _ _ gH ai))) (fun _ _ _ _ => @av _ _ (0) _ (show (["_law_sign"] : List Str).Nodup from by decide +kernel) rfl (Or.inl rfl) (by first | exact .inl rfl | exact .inr rfl | assumption)) (fun _ _ _ _ => aR) (fun _ _ _ _ => by (exact (@fB _ _ _ _ _ _ _ _ (@aW _ _ _ _ _ _ _ _ kY (pv 0) bC rfl) (@lR _ _ _ _ _ _ _ _ _ (K) rfl yh zF zG c4 (pv 0) (by rfl) (by rfl)) (@lR _ _ _ _ _ _ _ _ _ (K) rfl yh PySem.F.slot_str_upper PySem.F.type_str_upper ow (pv 0) (by rfl) (by rfl))))) (by intro _ ;rfl)) ag (by rfl)) (by rfl) (by rfl) (by rfl) (by rfl) (by rfl)))), ?_⟩
    refine ⟨rfl, _, rfl, _, rfl, toS u, rfl, rfl, (by rw [af];omega), ?_⟩
    rw [oG]
    refine ⟨_, rfl, ?_⟩
    refine bH (own := ["_law_sign"]) (cap := []) (J := Its (toS u.reverse)) u.length (fun i ys σ H' => H'=H ∧ ys=bF ((bk u).take i) ∧ ∃ v, σ = [v]) ⟨rfl, rfl, none, rfl⟩ (fun i ys σ H' hi ⟨_, e, _⟩ => ?_) (by omega) (fun i ys σ H' hi _ => ?_) (fun ys σ H' _ => ?_) ?_ ?_
    · rw [e, aT, yg];omega
    · show i < (toS u.reverse).cps.size;rw [a_, zW];exact hi
    · show _=(toS u.reverse).cps.size;rw [a_, zW]
    · rintro i ys σ H1 x H2 N hi ⟨rfl, rfl, v, rfl⟩ ⟨rfl, c, hc, rfl⟩ hN
      obtain ⟨y, hy, e⟩ := cC hc
      have hb : (bk u)[i]? = some (inv y) := qg u hi (by rw [zo hi] at hy;exact hy)
      refine ⟨_, rfl, _, _, rfl, rfl, _, rfl, ?_⟩
      rw [e, uf]
      refine kh (fun h => ?_) (fun h => ?_)
      · have h : ¬ y.val < 6 := by simpa using h
        exact ⟨_, rfl, rfl, _, rfl, rfl, (by rw [af];show 1≤5592405;decide), hN _ _ _ ⟨rfl, by rw [lK h, cG hb, ← b_];rfl, _, rfl⟩⟩
      · have h : y.val < 6 := by simpa using h
        exact ⟨_, rfl, rfl, _, rfl, rfl, (by rw [af];show 1≤5592405;decide), hN _ _ _ ⟨rfl, by rw [lJ h, cG hb, ← b_];rfl, _, rfl⟩⟩
    · rintro ys σ H1 l ⟨rfl, rfl, v, rfl⟩ hl
      rw [yU (by rw [bE];exact xT _)]
      refine ⟨_, l, (bk u).map fun x => toS [x], rfl, rfl, SqL.of (by rw [ab, cL]), cf _ (by rw [bE];omega), ?_⟩
      rw [cb]
      exact k _ (au.new hl)
end
end Kx
namespace Kx
open PySem PySem.Spec PyProof.Rows L2 Wd
@[irreducible] def sml (m : Int) : List L := ([0, 1, 2, 3, 4, 5] : List L).take m.toNat
theorem mK {m : Int}(h : 1≤m) : Txt.slice ("abcdef" : Str) none (some m)=toS (sml m) := by
  rw [← oA, aV, c6 _ (by omega)]
  unfold sml
  rfl
theorem rO {k x : Nat}(hk : k≤6)(hx : x < k) : (sml (k : Int))[x]? = some (lt6 x) := by
  have q : ∀ x : Fin 6, ([0, 1, 2, 3, 4, 5] : List L)[x.val]? = some (lt6 x.val) := by decide
  unfold sml
  rw [BB (by omega)]
  exact q ⟨x, by omega⟩
theorem rP {k : Nat}(hk : k≤6) : (sml (k : Int)).length=k := by
  unfold sml
  rw [yg]
  show min _ 6=k
  omega
inductive mL (vs : List V)(H : Hp)(Q : VK)(u3_ : XK) : Prop
  | mk : ∀ (d c : Addr) (m : Int), (vs=[.ref d, .int m]) → (Tp H d c) → (1≤m) → (m≤6) → (∀ (u : List L) (k : Nat) (H' : Hp), SK u k → (k : Int)≤m → Tp H' d c → a8 d H H' → Q (tx u) H') → mL vs H Q u3_
theorem rQ : ∀ x : Fin 6, lt6 x.val=⟨x.val, by omega⟩ := by decide
theorem mM {F : List L}{x : L}(h : F.head? = some x) : atI (bF F) 0=some (tx [x]) := by
  cases F with
  | nil => simp at h
  | cons z r =>
    have : z=x := x5 h
    subst this
    unfold atI ixN bF
    rw [if_pos (by decide), if_pos (by simp)]
    rfl
inductive mN (vs : List V)(H : Hp)(Q : VK)(u3_ : XK) : Prop
  | mk : ∀ (z : Str) (k : Nat), (vs=[.str z]) → (z.length / 2=k) → (1≤k) → (k≤6) → (Q (tx (sml (k : Int))) H) → mN vs H Q u3_
def kF (W : List (List L))(i : Nat) : List (Int × Int) := (List.range i).flatMap fun i => (List.range (W.getD i []).length).map fun p : Nat => ((i : Int), (p : Int))
theorem eT (W : List (List L))(i : Nat) : kF W (i+1)=kF W i++(List.range (W.getD i []).length).map fun p : Nat => ((i : Int), (p : Int)) := by
  unfold kF
  rw [zD, zU, zi, BW, zA]
theorem cu {W : List (List L)}(h : ∀ w∈W, w.length≤15) : ∀ i, (kF W i).length≤15*i
  | 0 => xT _
  | i+1 => by
    rw [eT, xX, fu, yo]
    have := cu h i
    have g : (W.getD i []).length≤15 := by
      rw [xU]
      cases e : W[i]? with
      | none => exact yQ _
      | some w => exact h w (x_ e)
    omega
theorem mO {W : List (List L)}{i : Nat}{w : List L}(h : W[i]? = some w) : W.getD i []=w := by rw [xU, h]; rfl
theorem dN {W : List (List L)}{i : Nat}{w : List L}{zs ys : List (Addr × Int × Int)}(hw : W[i]? = some w)(h1 : zs.map (·.2)=kF W i)(h2 : ys.map (·.2)=(List.range w.length).map fun p : Nat => ((i : Int), (p : Int))) : (zs++ys).map (·.2)=kF W (i+1) := by
  rw [xZ, h1, h2, eT, mO hw]
end Kx
namespace Kx
open PySem PySem.Spec PyProof.Rows L2 Wd
section
variable {P : Program} {w : World} {K : PySem.W.Frag} {mg : Str → Option Value} {base : Heap} {aB : Addr}
abbrev rR : Stmt := top 3
theorem uG : aC ["letter"] ["letter"] (aq rR) := ⟨rfl, rfl, rfl, by decide +kernel, rfl, by decide +kernel, by decide +kernel⟩
theorem wq (D : Df K mg "number_of" rR)(T : Bt K w mg aB)(S : ∃ t, mg "SMALL" = some (.str "abcdef" t)) : Fnc P w K mg base "number_of" ["letter"] 1 lS := by
  have sc := uG
  refine D.ok sc (fun _ _ _ _ _ _ us hl => by obtain ⟨_, rfl⟩ := nP hl;rfl) (fun vs H Q E h => ?_) (fun f cdv A outer s H vs Q E hr h => ?_)
  · obtain ⟨x, rfl, _⟩ := h
    rfl
  · obtain ⟨x, rfl, k⟩ := h
    obtain ⟨tS, mgS⟩ := S
    refine ⟨_, (@ao _ _ _ (@aH _ _ _ _ (@bD _ _ _ _ _ _ _ _ _ _ _ _ yh z3 z4 dQ (@kM _ _ (.str "abcdef") _ _ rfl mgS ⟨_, rfl⟩ (by decide)) (@aa _ _ _ _ _ (@eg _ _ _ _ _ _ _ _ _ yh zF zG c4 (pv 0) (by rfl) (by rfl)) ag (by rfl)) (by rfl) (by rfl) (by rfl) (by rfl) (by rfl)))), ?_⟩
    exact ⟨rfl, _, rfl, rfl, _, rfl, rfl, (by rw [af];show 1≤5592405;decide), _, _, _, _, rfl, rfl, ub x, k⟩
end
end Kx
namespace Kx
open PySem PySem.Spec PyProof.Rows L2 Wd
section
variable {P : Program} {w : World} {K : PySem.W.Frag} {mg : Str → Option Value} {base : Heap} {aB : Addr}
abbrev rS : Stmt := top 6
theorem uH : aC ["ways", "found", "number", "way"] ["ways"] (aq rS) := ⟨rfl, rfl, rfl, by decide +kernel, rfl, by decide +kernel, by decide +kernel⟩
theorem wt (D : Df K mg "strands_of" rS)(T : Bt K w mg aB)(Te : mg "enumerate" = none) : Fnc P w K mg base "strands_of" ["ways"] 1 mi := by
  have sc := uH
  refine D.ok sc (fun _ _ _ _ _ _ us hl => by obtain ⟨_, rfl⟩ := nP hl;rfl) (fun vs H Q E h => ?_) (fun f cdv A outer s H vs Q E hr h => ?_)
  · obtain ⟨a, n, W, rfl, _⟩ := h
    rfl
  · obtain ⟨a, n, W, rfl, hW, k⟩ := h
    have l16 := aO
    have w15 : ∀ w∈W, w.length≤15 := fun w hw => (hW.ws w hw).2.1
    refine ⟨_, (@ae _ _ _ _ _ (@ar _ _ (1) _ _ _ _ sc.nd rfl (Or.inl rfl) (@bM _ _ _ _ ag) (by rfl) (by first | exact .inl rfl | exact .inr rfl | assumption)) (@ae _ _ _ _ _ (@bj _ _ _ _ _ _ _ _ yr rfl (@uq _ _ rfl _ _ _ _ _ _ _ rfl Te qq (@aa _ _ _ _ _ (pv 0) ag (by rfl)) (by rfl)) (@gG _ _ _ _ _ _ rfl (@bB _ _ _ _ _ (@av _ _ (2) _ sc.nd rfl (Or.inr rfl) (by first | exact .inl rfl | exact .inr rfl | assumption)) (@bB _ _ _ _ _ (@av _ _ (3) _ sc.nd rfl (Or.inl rfl) (by first | exact .inl rfl | exact .inr rfl | assumption)) dZ (by rfl)) (by rfl)) (by rfl) (by rfl)) (@ao _ _ _ (@bu _ _ _ _ (@bD _ _ _ _ _ _ _ _ _ _ _ _ yt Am An eA (pv 1) (@aa _ _ _ _ _ (@bz _ _ _ _ _ _ _ (["place", "number"]) (["place"]) ([2]) _ _ _ _ (@bP _ _ _ _ _ _ rfl (by kernel_rfl)) rfl (@aJ _ _ _ _ _ _ rfl T.range (@aa _ _ _ _ _ (@ay _ _ _ _ _ _ _ _ _ aD (by rfl) T.len yu (@aa _ _ _ _ _ (pv 3) ag (by rfl)) (by decide) (by decide) (by rfl) (by rfl)) ag (by rfl)) (by rfl)) (fun _ _ _ _ => @av _ _ (0) _ (show (["place", "number"] : List Str).Nodup from by decide +kernel) rfl (Or.inl rfl) (by first | exact .inl rfl | exact .inr rfl | assumption)) (fun _ _ _ _ => aR) (fun _ _ _ _ => by (exact (@cw _ _ _ _ _ (@aa _ _ _ _ _ (pv 1) (@aa _ _ _ _ _ (pv 0) ag (by rfl)) (by rfl))))) (by intro _ ;rfl)) ag (by rfl)) (by rfl) (by rfl) (by rfl) (by rfl) (by rfl)) (by rfl))) (by intro _ ;rfl)) (@ao _ _ _ (@aH _ _ _ _ (pv 1))))), ?_⟩
    refine ⟨(by show 0≤sizeLine;decide), fun l hl => ?_⟩
    have s1 : au H (upd H l (.lst [])) := au.new hl
    have f1 : (upd H l (.lst [])) l=some (.lst ((([] : List (Addr × Int × Int)).map (·.1)).map V.ref)) := ab
    generalize upd H l (.lst [])=H1 at s1 f1 ⊢
    refine ⟨_, rfl, a, rfl, ⟨_, SqT.of (s1 _ _ hW.at_)⟩, ?_⟩
    refine rh (xs := W.map tx) (fun i σ H' => ∃ (v2 v3 : Option V) (zs : List (Addr × Int × Int)), σ = [some (.ref a), some (.ref l), v2, v3] ∧ H' l=some (.lst ((zs.map (·.1)).map V.ref)) ∧ StA H' zs ∧ zs.map (·.2)=kF W i ∧ au H H') ⟨none, none, [], rfl, f1, (fun z hz => by cases hz), rfl, s1⟩ (fun i σ H' _ ⟨_, _, _, _, _, _, _, q⟩ => SqT.of (q _ _ hW.at_)) ?_ ?_
    · rintro i x σ H2 t hx ⟨v2, v3, zs, rfl, f2, hz, ez, s2⟩ ht
      rw [xY] at hx
      cases hw : W[i]? with
      | none => rw [hw] at hx;cases hx
      | some w' =>
        rw [hw] at hx
        obtain rfl := x5 hx
        have hwl := w15 w' (x_ hw)
        have hil : i < W.length := (xV.mp hw).1
        have hle := hW.le
        have zl : zs.length≤60 := by
          have := cu w15 i
          rw [← ez, fu] at this
          omega
        have s3 := s2.then (o := .tup [.int i, tx w']) ht
        have f3 := (au.new (o := .tup [.int i, tx w']) ht) _ _ f2
        have hz3 := hz.same (au.new (o := .tup [.int i, tx w']) ht)
        refine ⟨t, _, rfl, SqT.of ab, rfl, _, _, rfl, _, _, rfl, rfl, ?_⟩
        generalize upd H2 t (.tup [.int i, tx w'])=H3 at s3 f3 hz3 ⊢
        refine ⟨_, rfl, .inl ⟨rfl, _, SqL.of f3⟩, _, rfl, _, rfl, (by rw [af];omega), _, rfl, (by rw [af];omega), (by rw [af];omega), ?_⟩
        rw [af, yf]
        refine bH (own := ["place"]) (cap := [2]) (J := Itr 0 w'.length) w'.length (fun j ys σ H' => ∃ (b : Option V) (ps : List (Addr × Int × Int)), σ = [b, some (.int (i : Int))] ∧ ys=(ps.map (·.1)).map V.ref ∧ StA H' ps ∧ ps.map (·.2)=(List.range j).map (fun p : Nat => ((i : Int), (p : Int))) ∧ au H3 H') ⟨none, [], rfl, rfl, (fun z hz => by cases hz), rfl, au.refl _⟩
          (fun j ys σ H' hj ⟨_, ps, _, e, _, e2, _⟩ => ?_) (by omega) (fun j ys σ H' hj _ => hj) (fun ys σ H' _ => xT _) ?_ ?_
        · have := yB List.length e2
          rw [fu, fu, yo] at this
          rw [e, fu, fu]
          omega
        · rintro j ys σ H4 x H5 N hj ⟨b, ps, rfl, rfl, hp, e2, s4⟩ ⟨rfl, rfl⟩ hN
          refine ⟨_, rfl, _, rfl, (a9 (n := 2) (by decide)), fun q hq => hN _ _ _ ⟨_, ps++[(q, (i : Int), (j : Int))], rfl, ?_, ?_, ?_, s4.then hq⟩⟩
          · rw [xZ, xZ];rfl
          · rw [zS]
            exact (hp.same (au.new hq)).app fun z hz => by
              rw [x4] at hz
              subst hz
              exact ab
          · rw [xZ, e2, zD, xZ];rfl
        · rintro ys σ H4 q ⟨b, ps, rfl, rfl, hp, e2, s4⟩ hq
          have s5 : au H4 (upd H4 q (.lst ((ps.map (·.1)).map V.ref))) := au.new hq
          have g5 : (upd H4 q (.lst ((ps.map (·.1)).map V.ref))) q=some (.lst ((ps.map (·.1)).map V.ref)) := ab
          have f5 := s5 _ _ (s4 _ _ f3)
          have hp5 := hp.same s5
          have hz5 := (hz3.same s4).same s5
          have s6 := (s3.trans s4).trans s5
          generalize upd H4 q (.lst ((ps.map (·.1)).map V.ref))=H5 at g5 f5 hp5 hz5 s6 ⊢
          have pl : ps.length=w'.length := by
            have := yB List.length e2
            rwa [fu, fu, yo] at this
          refine ⟨l, q, _, _, rfl, rfl, f5, g5, by rw [fu, fu, fu, fu];omega, ?_⟩
          have keepT : ∀ b xs, H5 b=some (.tup xs) → (upd H5 l (.lst ((zs.map (·.1)).map V.ref++(ps.map (·.1)).map V.ref))) b=some (.tup xs) := fun b xs e => by
            rw [ak (cM e f5 (by intro z;cases z))];exact e
          refine ⟨_, _, zs++ps, rfl, ?_, fun z hz => keepT _ _ ((hz5.app hp5) z hz), dN hw ez e2, fun b o e => ?_⟩
          · rw [ab, xZ, xZ]
          · rw [ak (ah e hl)];exact s6 _ _ e
    · rintro σ H2 ⟨v2, v3, zs, rfl, f2, hz, ez, s2⟩
      rw [fu] at ez
      exact ⟨_, rfl, k l zs _ hl s2 f2 hz ez⟩
end
end Kx
namespace Kx
open PySem PySem.Spec PyProof.Rows L2 Wd
section
variable {P : Program} {w : World} {K : PySem.W.Frag} {mg : Str → Option Value} {base : Heap} {aB : Addr}
theorem gf {W : List (List L)}{i : Int}(h0 : 0≤i)(h1 : i < W.length) : atI (W.map tx) i=some (tx (W.getD i.toNat [])) := by
  have hi : i.toNat < W.length := by omega
  have := bW (xs := W.map tx) (j := i.toNat) (v := tx (W.getD i.toNat [])) (by rw [xY, xS hi, xU, xS hi];rfl)
  rwa [show ((i.toNat : Nat) : Int)=i by omega] at this
theorem mP {w : List L}{j : Int}(h0 : 0≤j)(h1 : j < w.length) : atI (toS w).cps.toList j=some (cp (w.getD j.toNat 0)) := by
  have hj : j.toNat < w.length := by omega
  refine dk (k := j.toNat) (by omega) ?_
  rw [xU, xS hj]
  rfl
theorem gh {n : Nat}{W : List (List L)}{H : Hp}{a : Addr}(hW : Wy4 n W H a)(i : Nat) : (W.getD i []).length≤15 := by
  rw [xU]
  cases e : W[i]? with
  | none => exact yQ _
  | some w => exact (hW.ws w (x_ e)).2.1
theorem mQ (x : L) : Txt.lower (toS [x])=toS [⟨x.val % 6, by omega⟩] := by
  have : ∀ x : L, Txt.lower (toS [x])=toS [⟨x.val % 6, by omega⟩] := by decide +kernel
  exact this x
abbrev rT : Stmt := top 7
theorem uI : aC ["ways", "strand"] ["ways", "strand"] (aq rT) := ⟨rfl, rfl, rfl, by decide +kernel, rfl, by decide +kernel, by decide +kernel⟩
theorem wu (D : Df K mg "letter_of" rT)(T : Bt K w mg aB) : Fnc P w K mg base "letter_of" ["ways", "strand"] 1 rB := by
  have sc := uI
  refine D.ok sc (fun _ _ _ _ _ _ us hl => by obtain ⟨_, _, rfl⟩ := kE hl;rfl) (fun vs H Q E h => ?_) (fun f cdv A outer s H vs Q E hr h => ?_)
  · obtain ⟨a, p, n, W, i, j, rfl, _⟩ := h
    rfl
  · obtain ⟨a, p, n, W, i, j, rfl, hW, hp, ok, k⟩ := h
    have l16 := aO
    unfold okS at ok
    simp only [yi, yw] at ok
    obtain ⟨⟨o1, o2⟩, o3, o4⟩ := ok
    have hl := gh hW i.toNat
    refine ⟨_, (@ao _ _ _ (@aH _ _ _ _ (@aI _ _ _ _ _ _ _ ee (@aI _ _ _ _ _ _ _ aY (pv 0) (@aI _ _ _ _ _ _ _ aY (pv 1) ai (fun _ _ => rfl)) (fun _ _ => rfl)) (@aI _ _ _ _ _ _ _ aY (pv 1) ai (fun _ _ => rfl)) (fun _ _ => rfl)))), ?_⟩
    exact ⟨_, rfl, _, rfl, p, _, _, _, rfl, rfl, SqT.of hp, rfl, a, _, _, _, rfl, rfl, SqT.of hW.at_, gf o1 o2, _, rfl, p, _, _, _, rfl, rfl, SqT.of hp, rfl, _, _, _, rfl, rfl, by rw [af];omega, mP o3 o4, k⟩
end
end Kx
namespace Kx
open PySem PySem.Spec PyProof.Rows L2 Wd
section
variable {P : Program} {w : World} {K : PySem.W.Frag} {mg : Str → Option Value} {base : Heap} {aB : Addr}
abbrev rV : Stmt := top 25
theorem uJ : aC ["_law_tape_here", "_law_most", "_law_row", "_law_k", "_law_sign"] ["_law_tape_here", "_law_most"] (aq rV) := ⟨rfl, rfl, rfl, by decide +kernel, rfl, by decide +kernel, by decide +kernel⟩
theorem wx (D : Df K mg "_law_any_row" rV)(T : Bt K w mg aB)(F_draw : Fnc P w K mg base "_law_draw" ["_law_tape_here", "_law_many"] 1 cH) : Fnc P w K mg base "_law_any_row" ["_law_tape_here", "_law_most"] 2 mL := by
  have sc := uJ
  refine D.ok sc (fun _ _ _ _ _ _ us hl => by obtain ⟨_, _, rfl⟩ := kE hl;rfl) (fun vs H Q E h => ?_) (fun f cdv A outer s H vs Q E hr h => ?_)
  · obtain ⟨d, c, m, rfl, _⟩ := h
    rfl
  · obtain ⟨d, c, m, rfl, F, m1, m6, k⟩ := h
    have l16 := aO
    refine ⟨_, (@ae _ _ _ _ _ (@ar _ _ (2) _ _ _ _ sc.nd rfl (Or.inl rfl) (@bM _ _ _ _ ag) (by rfl) (by first | exact .inl rfl | exact .inr rfl | assumption)) (@ae _ _ _ _ _ (@bj _ _ _ _ _ _ _ _ yr rfl (@aJ _ _ _ _ _ _ rfl T.range (@aa _ _ _ _ _ (@aF _ _ _ _ _ _ _ _ bK ai (@aG _ _ _ _ _ _ _ _ _ _ _ F_draw hr (by decide) rfl (@aa _ _ _ _ _ (pv 0) (@aa _ _ _ _ _ (pv 1) ag (by rfl)) (by rfl)) (by decide) (by rfl) (by rfl))) ag (by rfl)) (by rfl)) (@av _ _ (3) _ sc.nd rfl (Or.inl rfl) (by first | exact .inl rfl | exact .inr rfl | assumption)) (@ao _ _ _ (@bj _ _ _ _ _ _ _ _ yr rfl (@jr _ _ _ _ (@cw _ _ _ _ _ (@aa _ _ _ _ _ (@aI _ _ _ _ _ _ _ ee bC (pv 3) (fun _ _ => rfl)) (@aa _ _ _ _ _ (@aI _ _ _ _ _ _ _ ee bC (pv 3) (fun _ _ => rfl)) ag (by rfl)) (by rfl)))) (@av _ _ (4) _ sc.nd rfl (Or.inl rfl) (by first | exact .inl rfl | exact .inr rfl | assumption)) (@ao _ _ _ (@bu _ _ _ _ (@bD _ _ _ _ _ _ _ _ _ _ _ _ yt Al BJ hG (pv 2) (@aa _ _ _ _ _ (@aG _ _ _ _ _ _ _ _ _ _ _ F_draw hr (by decide) rfl (@aa _ _ _ _ _ (pv 0) (@aa _ _ _ _ _ (@aF _ _ _ _ _ _ _ _ bK (@ay _ _ _ _ _ _ _ _ _ aE (by rfl) T.len yu (@aa _ _ _ _ _ (pv 2) ag (by rfl)) (by decide) (by decide) (by rfl) (by rfl)) ai) ag (by rfl)) (by rfl)) (by decide) (by rfl) (by rfl)) (@aa _ _ _ _ _ (pv 4) ag (by rfl)) (by rfl)) (by rfl) (by rfl) (by rfl) (by rfl) (by rfl)) (by rfl))) (by intro _ ;rfl))) (by intro _ ;rfl)) (@ao _ _ _ (@aH _ _ _ _ (@bD _ _ _ _ _ _ _ _ _ _ _ _ yh zp zq de bC (@aa _ _ _ _ _ (pv 2) ag (by rfl)) (by rfl) (by rfl) (by rfl) (by rfl) (by rfl)))))), ?_⟩
    refine ⟨(by show 0≤sizeLine;decide), fun p hp => ?_⟩
    have hpd := F.ne hp
    have hpc := F.nec hp
    refine ⟨_, rfl, _, rfl, d, c, m, rfl, F.new hp, by omega, by omega, fun r H1 r0 r1 F1 sb1 => ?_⟩
    have f1 := sb1 _ _ hpd ab
    have sb1 := ((au.new (o := .lst []) hp).b (d := d)).trans sb1
    refine ⟨_, _, rfl, rfl, _, rfl, by omega, by omega, ?_⟩
    refine bo (lo := 0) (n := (1+r).toNat) (fun i σ H' => ∃ (a b : Option V) (W : List L), σ = [some (.ref d), some (.int m), some (.ref p), a, b] ∧ H' p=some (.lst (bF W)) ∧ W.Perm (fam i) ∧ Tp H' d c ∧ a8 d H H') ⟨none, none, [], rfl, f1, List.Perm.refl _, F1, sb1⟩ ?_ ?_
    · rintro i σ H2 hi ⟨a, b, W, rfl, hW, pW, F2, sb2⟩
      have hi : i < 6 := by omega
      rw [zS]
      have lW : (bF W).length≤12 := by
        obtain ⟨_, _, c⟩ := fm ⟨i, by omega⟩
        have c : (fam i).length=2*i := c
        have := pW.length_eq
        rw [aT]
        omega
      refine ⟨_, rfl, _, _, _, rfl, rfl, (by rw [jC];omega), sm_at hi, _, rfl, _, _, _, rfl, rfl, (by rw [lQ];omega), wc hi, ?_⟩
      refine ⟨(a9 (n := 2) (by decide)), fun t ht => ?_⟩
      generalize ex : (⟨i, by omega⟩ : L)=x
      generalize ey : (⟨i+6, by omega⟩ : L)=y
      have htp : t≠p := (ah hW ht).symm
      have htd : t≠d := F2.ne ht
      refine ⟨t, rfl, ⟨_, SqT.of ab⟩, qL (xs := [tx [x], tx [y]]) (fun j σ H' => ∃ (b : Option V) (W : List L), σ = [some (.ref d), some (.int m), some (.ref p), some (.int (i : Int)), b] ∧ H' p=some (.lst (bF W)) ∧ W.Perm (fam i++[x, y].take j) ∧ Tp H' d c ∧ a8 d H H' ∧ H' t=some (.tup [tx [x], tx [y]])) ⟨b, W, rfl, (au.new ht) _ _ hW, by rw [List.take_zero, zA];exact pW, F2.new ht, sb2.trans (au.new ht).b, ab⟩ (fun j σ H' hj ⟨_, _, _, _, _, _, _, q⟩ => SqT.of q) ?_ ?_⟩
      · rintro j z σ H3 hz ⟨b, W, rfl, hW, pW, F3, sb3, h3⟩
        have hj : j < 2 := by
          have := (xV.mp hz).1
          exact this
        have lW : (bF W).length≤14 := by
          obtain ⟨_, _, c⟩ := fm ⟨i, by omega⟩
          have c : (fam i).length=2*i := c
          have := pW.length_eq
          rw [xX, yg, c] at this
          rw [aT, this]
          simp only [yF, zQ]
          omega
        obtain ⟨z', ez, hz'⟩ : ∃ z', z=tx [z'] ∧ [x, y][j]? = some z' := by
          have : j=0 ∨ j=1 := by omega
          rcases this with rfl | rfl
          · exact ⟨x, (x5 hz).symm, rfl⟩
          · exact ⟨y, (x5 hz).symm, rfl⟩
        subst ez
        refine ⟨_, rfl, .inl ⟨rfl, _, SqL.of hW⟩, _, rfl, _, rfl, p, _, rfl, .inl (SqL.of hW), _, _, rfl, rfl, d, c, _, rfl, F3, by omega, by omega, fun q H4 q0 q1 F4 sb4 => ?_⟩
        have h4 := sb4 _ _ hpd hW
        refine ⟨_, rfl, p, _, q, _, rfl, rfl, h4, q0, by omega, by omega, ?_⟩
        rw [oI]
        have s5 : a8 p H4 (upd H4 p (.lst (bF (W.take q.toNat++z'::W.drop q.toNat)))) := a8.upd
        refine ⟨_, _, rfl, ab, ?_, F4.but hpd hpc s5, fun b o n e => s5 _ _ (ah e hp) (sb4 _ _ n (sb3 _ _ n e)), s5 _ _ htp (sb4 _ _ htd h3)⟩
        have e : [x, y].take (j+1)=[x, y].take j++[z'] := cG hz'
        rw [e, ← AF]
        exact oH z' q.toNat pW
      · rintro σ H3 ⟨b, W, rfl, hW, pW, F3, sb3, h3⟩
        refine ⟨_, _, W, rfl, hW, ?_, F3, sb3⟩
        rw [jD hi, ex, ey]
        exact pW
    · rintro σ H2 ⟨a, b, W, rfl, hW, pW, F2, sb2⟩
      have hl := pW.length_eq
      obtain ⟨_, _, c⟩ := fm ⟨(1+r).toNat, by omega⟩
      have c : (fam (1+r).toNat).length=2*(1+r).toNat := c
      refine ⟨rfl, _, rfl, _, p, W.map fun x => toS [x], rfl, rfl, SqL.of (by rw [hW, cL]), cf _ (by omega), ?_⟩
      rw [cb]
      exact k _ _ _ ⟨pW, by omega, by omega⟩ (by omega) F2 sb2
end
end Kx
namespace Kx
open PySem PySem.Spec PyProof.Rows L2 Wd
theorem uK (V0 : List L)(y : L) : (bF (V0++[y]))[(bF (V0++[y])).length - 1]? = some (tx [y]) := by
  unfold bF
  simp
theorem pe (V0 : List L)(y : L) : some (HO.lst (bF (V0++[y])).dropLast)=some (HO.lst (bF V0)) := by
  unfold bF
  simp
theorem pf (x y : L)(mid : List L) : p6 (bF (x::(mid++[y]))) (some 1) (some (-1))=bF mid := by
  unfold p6
  have hl : (bF (x::(mid++[y]))).length=mid.length+2 := by rw [aT];simp
  have e1 : HT.sIx (bF (x::(mid++[y]))).length 0 (some 1)=1 := by
    have q := HT.fE (bF (x::(mid++[y]))).length 0 1
    rw [show ((1 : Nat) : Int)=1 from rfl] at q
    rw [q, hl]
    omega
  have e2 : HT.sIx (bF (x::(mid++[y]))).length (bF (x::(mid++[y]))).length (some (-1))=mid.length+1 := by
    show (if (-1 : Int) < 0 then ((-1 : Int)+((bF (x::(mid++[y]))).length : Int)).toNat else min (-1 : Int).toNat (bF (x::(mid++[y]))).length)=_
    rw [if_pos (by decide), hl]
    omega
  rw [e1, e2]
  unfold bF
  simp
section
variable {P : Program} {w : World} {K : PySem.W.Frag} {mg : Str → Option Value} {base : Heap} {aB : Addr}
abbrev eU : Stmt := top 27
theorem kC : aC ["_law_word", "_law_size"] ["_law_word"] (aq eU) := ⟨rfl, rfl, rfl, by decide +kernel, rfl, by decide +kernel, by decide +kernel⟩
theorem mR (D : Df K mg "_law_rooted" eU)(T : Bt K w mg aB) : Fnc P w K mg base "_law_rooted" ["_law_word"] 1 f_ := by
  have sc := kC
  refine D.ok sc (fun _ _ _ _ _ _ us hl => by obtain ⟨_, rfl⟩ := nP hl;rfl) (fun vs H Q E h => ?_) (fun f cdv A outer s H vs Q E hr h => ?_)
  · obtain ⟨u, rfl, _⟩ := h
    rfl
  · obtain ⟨u, rfl, hu, k⟩ := h
    have l16 := aO
    have hll : (toS u).length≤sizeLine := by rw [af];omega
    refine ⟨_, (@ae _ _ _ _ _ (@bj _ _ _ _ _ _ _ _ yr rfl (@kQ _ _ _ _ _ _ _ rfl T.range (@aa _ _ _ _ _ ai (@aa _ _ _ _ _ (@ay _ _ _ _ _ _ _ _ _ aD (by rfl) T.len yu (@aa _ _ _ _ _ (pv 0) ag (by rfl)) (by decide) (by decide) (by rfl) (by rfl)) ag (by rfl)) (by rfl)) (by rfl) (by rfl)) (@av _ _ (1) _ sc.nd rfl (Or.inl rfl) (by first | exact .inl rfl | exact .inr rfl | assumption)) (@ao _ _ _ (@e9 _ _ _ _ _ _ _ _ (@aW _ _ _ _ _ _ _ _ j8 (@aF _ _ _ _ _ _ _ _ dg (@aM _ _ _ _ _ _ _ _ _ _ bU (pv 0) bh (@aX _ _ _ (pv 1))) (@aF _ _ _ _ _ _ _ _ bV (@ay _ _ _ _ _ _ _ _ _ aD (by rfl) T.len yu (@aa _ _ _ _ _ (pv 0) ag (by rfl)) (by decide) (by decide) (by rfl) (by rfl)) (pv 1))) (pv 0) (bL _)) (@ao _ _ _ (@aH _ _ _ _ (@aM _ _ _ _ _ _ _ _ _ _ bU (pv 0) bh (@aX _ _ _ (pv 1))))) ck)) (by intro _ ;rfl)) (@ao _ _ _ (@aH _ _ _ _ (pv 0)))), ?_⟩
    refine ⟨_, rfl, _, rfl, hll, _, _, rfl, (by first | omega | (rw [af];omega)), ?_⟩
    rw [af]
    refine bo (lo := 1) (n := ((u.length : Int) - 1).toNat) (fun i σ H' => ∃ v : Option V, σ = [some (tx u), v] ∧ H'=H) ⟨none, rfl, rfl⟩ ?_ ?_
    · rintro i σ H1 hi ⟨v, rfl, rfl⟩
      have hi : i+1 < u.length := by omega
      have e1 : (1 : Int)+(i : Int)=((i+1 : Nat) : Int) := by omega
      rw [e1]
      have c1 : Txt.slice (toS u) none (some ((i+1 : Nat) : Int))=toS (u.take (i+1)) := by rw [aV, c6 _ (by omega)];rfl
      have dv : ((toS u).length : Int) / ((i+1 : Nat) : Int)=((u.length / (i+1) : Nat) : Int) := by rw [af];rfl
      have db : u.length / (i+1)≤u.length := Nat.div_le_self _ _
      refine ⟨_, rfl, _, rfl, _, rfl, _, rfl, hll, ?_⟩
      rw [c1]
      refine ⟨_, rfl, _, rfl, hll, _, rfl, _, _, rfl, rfl, ⟨by omega, by omega⟩, ?_⟩
      refine ⟨_, ((u.length / (i+1) : Nat) : Int), rfl, yB V.int dv, eK _ (Int.le_trans (by decide) (Int.natCast_nonneg _)) (Int.ofNat_le.mpr (show u.length / (i+1)≤1000 by omega)) (by rw [yg];omega), ?_⟩
      refine ⟨_, rfl, rfl, _, rfl, kh (fun _ => ?_) (fun _ => ⟨_, rfl, rfl⟩)⟩
      refine ⟨_, rfl, _, rfl, _, rfl, _, rfl, hll, ?_⟩
      rw [c1]
      exact k _ (by rw [yg];omega) fun x hx => ze hx
    · rintro σ H1 ⟨v, rfl, rfl⟩
      exact ⟨_, rfl, k u (xT _) fun x hx => hx⟩
abbrev i_ : Stmt := top 26
theorem pg : aC ["_law_word", "_law_left", "_law_sign"] ["_law_word"] (aq i_) := ⟨rfl, rfl, rfl, by decide +kernel, rfl, by decide +kernel, by decide +kernel⟩
theorem rW (D : Df K mg "_law_inner" i_)(T : Bt K w mg aB)(F_lback : Fnc P w K mg base "_law_back" ["_law_word"] 1 oE) : Fnc P w K mg base "_law_inner" ["_law_word"] 2 fZ := by
  have sc := pg
  refine D.ok sc (fun _ _ _ _ _ _ us hl => by obtain ⟨_, rfl⟩ := nP hl;rfl) (fun vs H Q E h => ?_) (fun f cdv A outer s H vs Q E hr h => ?_)
  · obtain ⟨u, rfl, _⟩ := h
    rfl
  · obtain ⟨u, rfl, hu, k⟩ := h
    have l16 := aO
    refine ⟨_, (@ae _ _ _ _ _ (@ar _ _ (1) _ _ _ _ sc.nd rfl (Or.inl rfl) (@bM _ _ _ _ ag) (by rfl) (by first | exact .inl rfl | exact .inr rfl | assumption)) (@ae _ _ _ _ _ (@bj _ _ _ _ _ _ _ _ yr rfl (@eE _ _ _ _ (pv 0)) (@av _ _ (2) _ sc.nd rfl (Or.inl rfl) (by first | exact .inl rfl | exact .inr rfl | assumption)) (@ao _ _ _ (@e9 _ _ _ _ _ _ _ _ (@PW.pt _ _ _ (@pV _ _ _ _ _ _ _ (@aW _ _ _ _ _ _ _ _ nW (@ay _ _ _ _ _ _ _ _ _ aE (by rfl) T.len yu (@aa _ _ _ _ _ (pv 1) ag (by rfl)) (by decide) (by decide) (by rfl) (by rfl)) ai (bL _)) (@kN _ _ _ _ (@aW _ _ _ _ _ _ _ _ j8 (@aI _ _ _ _ _ _ _ aN (pv 1) (@kT _ _ _ _ _ _ gH ai) (fun _ _ => rfl)) (@aG _ _ _ _ _ _ _ _ _ _ _ F_lback hr (by decide) rfl (@aa _ _ _ _ _ (pv 2) ag (by rfl)) (by decide) (by rfl) (by rfl)) (bL _))))) (@ao _ _ _ (@bu _ _ _ _ (@eg _ _ _ _ _ _ _ _ _ yt AW AX tO (pv 1) (by rfl) (by rfl)) (by rfl))) (@ao _ _ _ (@bu _ _ _ _ (@bD _ _ _ _ _ _ _ _ _ _ _ _ yt yV zv cA (pv 1) (@aa _ _ _ _ _ (pv 2) ag (by rfl)) (by rfl) (by rfl) (by rfl) (by rfl) (by rfl)) (by rfl))))) (by intro _ ;rfl)) (@ae _ _ _ _ _ (@cW _ _ _ _ _ _ yr (@PW.pt _ _ _ (@pV _ _ _ _ _ _ _ (@aW _ _ _ _ _ _ _ _ nW (@ay _ _ _ _ _ _ _ _ _ aE (by rfl) T.len yu (@aa _ _ _ _ _ (pv 1) ag (by rfl)) (by decide) (by decide) (by rfl) (by rfl)) ai (bL _)) (@kN _ _ _ _ (@aW _ _ _ _ _ _ _ _ j8 (@aI _ _ _ _ _ _ _ aN (pv 1) ai (fun _ _ => rfl)) (@aG _ _ _ _ _ _ _ _ _ _ _ F_lback hr (by decide) rfl (@aa _ _ _ _ _ (@aI _ _ _ _ _ _ _ aN (pv 1) (@kT _ _ _ _ _ _ gH ai) (fun _ _ => rfl)) ag (by rfl)) (by decide) (by rfl) (by rfl)) (bL _))))) (@ao _ _ _ (@ar _ _ (1) _ _ _ _ sc.nd rfl (Or.inl rfl) (@aM _ _ _ _ _ _ _ _ _ _ lg (pv 1) (@aX _ _ _ ai) (@aX _ _ _ (@kT _ _ _ _ _ _ gH ai))) (by rfl) (by first | exact .inl rfl | exact .inr rfl | assumption)))) (@ao _ _ _ (@aH _ _ _ _ (@bD _ _ _ _ _ _ _ _ _ _ _ _ yh zp zq de bC (@aa _ _ _ _ _ (pv 1) ag (by rfl)) (by rfl) (by rfl) (by rfl) (by rfl) (by rfl))))))), ?_⟩
    refine ⟨(by show 0≤sizeLine;decide), fun l hl => ?_⟩
    refine ⟨_, rfl, _, rfl, eF (z := toS u) (fun i σ H' => ∃ (v : Option V) (W : List L), σ = [some (tx u), some (.ref l), v] ∧ H' l=some (.lst (bF W)) ∧ W.length≤i ∧ (∀ x∈W, x∈u) ∧ au H H') ⟨none, [], rfl, ab, xT _, (fun x hx => by cases hx), au.new hl⟩ ?_ ?_⟩
    · rintro i cc σ H1 hc ⟨v, W, rfl, h1, hW, mW, s1⟩
      obtain ⟨x, hx, ex⟩ := cC hc
      rw [ex]
      have hi : i < u.length := (xV.mp hx).1
      have push : ∀ H2, au H1 H2 → ∃ (v : Option V) (W' : List L), [some (tx u), some (V.ref l), some (V.str (toS [x]))]=[some (tx u), some (V.ref l), v] ∧ (upd H2 l (.lst (bF W++[V.str (toS [x])]))) l=some (.lst (bF W')) ∧ W'.length≤i+1 ∧ (∀ x∈W', x∈u) ∧ au H (upd H2 l (.lst (bF W++[V.str (toS [x])]))) := fun H2 s2 => by
        refine ⟨_, W++[x], rfl, ?_, by rw [xX];simp;omega, fun y hy => ?_, fun b o e => ?_⟩
        · rw [ab, ← b_]
          rfl
        · rcases yn.mp hy with hy | hy
          · exact mW y hy
          · rw [x4.mp hy]
            exact x_ hx
        · rw [ak (ah e hl)]
          exact s2 _ _ (s1 _ _ e)
      refine ⟨_, rfl, l, _, rfl, .inl (SqL.of h1), _, _, rfl, rfl, _, rfl, ?_⟩
      by_cases h0 : W=[]
      · subst h0
        refine ve (yy (by simp [bF])) (nO ?_)
        refine ⟨_, rfl, .inl ⟨rfl, _, SqL.of h1⟩, _, rfl, l, _, _, rfl, rfl, h1, (by rw [aT];simp;omega), ?_⟩
        exact push H1 (au.refl _)
      · obtain ⟨V0, y, rfl⟩ : ∃ V0 y, W=V0++[y] := ⟨W.dropLast, W.getLast h0, (Bc h0).symm⟩
        have hl1 : (bF (V0++[y])).length=V0.length+1 := by rw [aT];simp
        have al : atI (bF (V0++[y])) (-1)=some (tx [y]) := by
          unfold bF
          rw [xZ]
          exact jv _ _
        refine vd (yJ (by rw [hl1];omega)) ?_
        refine ⟨_, rfl, _, rfl, l, _, _, _, rfl, rfl, SqL.of h1, al, _, rfl, [x], rfl, (by show 1≤5000;decide), fun H2 s2 => ?_⟩
        refine ⟨rfl, _, rfl, ?_⟩
        rw [qd]
        by_cases hyx : y=inv x
        · refine vd (by rw [hyx];exact yJ rfl) ?_
          have h2 := s2 _ _ h1
          refine ⟨_, rfl, .inl ⟨rfl, _, SqL.of h2⟩, l, _, _, rfl, rfl, h2, uK _ _, _, V0, rfl, ?_, by simp at hW;omega, fun z hz => mW z (yE _ hz), fun b o e => ?_⟩
          · rw [ab, pe]
          · rw [ak (ah e hl)]
            exact s2 _ _ (s1 _ _ e)
        · refine ve (yy fun e => hyx (Ag (qe e)).1) ?_
          refine ⟨_, rfl, .inl ⟨rfl, _, SqL.of (s2 _ _ h1)⟩, _, rfl, l, _, _, rfl, rfl, s2 _ _ h1, (by rw [hl1];simp at hW;omega), ?_⟩
          exact push H2 s2
    · rintro σ H1 ⟨v, W, rfl, h1, hW, mW, s1⟩
      rw [a_] at hW
      refine ⟨fun m σ H' => ∃ (v : Option V) (W : List L) (l2 : Addr), σ = [some (tx u), some (.ref l2), v] ∧ H' l2=some (.lst (bF W)) ∧ W.length≤u.length ∧ (∀ x∈W, x∈u) ∧ au H H' ∧ m=W.length, ⟨_, v, W, l, rfl, h1, hW, mW, s1, rfl⟩, ?_⟩
      rintro m σ H2 ⟨v, W, l2, rfl, h2, hW2, mW2, s2, rfl⟩
      have fin : ∀ H3, au H2 H3 → Q (tx W) H3 := fun H3 s3 => k W H3 hW2 mW2 (s2.trans s3)
      refine ⟨_, rfl, l2, _, rfl, .inl (SqL.of h2), _, _, rfl, rfl, _, rfl, ?_⟩
      rw [aT]
      by_cases g1 : 1 < W.length
      · refine vd (yJ (by omega)) ?_
        obtain ⟨x, mid, y, rfl⟩ : ∃ x mid y, W=x::(mid++[y]) := by
          cases W with
          | nil => simp at g1
          | cons x r =>
            have hr : r≠[] := by
              intro e
              subst e
              simp at g1
            exact ⟨x, r.dropLast, r.getLast hr, by rw [Bc]⟩
        have a0 : atI (bF (x::(mid++[y]))) 0=some (tx [x]) := mM rfl
        have al : atI (bF (x::(mid++[y]))) (-1)=some (tx [y]) := by
          have e : bF (x::(mid++[y]))=bF (x::mid)++[tx [y]] := by rw [b_];rfl
          rw [e]
          exact jv _ _
        refine ⟨_, rfl, l2, _, _, _, rfl, rfl, SqL.of h2, a0, _, rfl, _, rfl, l2, _, _, _, rfl, rfl, SqL.of h2, al, [y], rfl, (by show 1≤5000;decide), fun H3 s3 => ?_⟩
        refine ⟨rfl, _, rfl, ?_⟩
        rw [qd]
        by_cases hxy : x=inv y
        · refine vd (by rw [hxy];exact yJ rfl) ⟨_, fun σ' H' q => q, ?_⟩
          refine ⟨_, rfl, _, rfl, _, rfl, _, rfl, l2, _, rfl, SqL.of (s3 _ _ h2), fun l3 hl3 => ?_⟩
          rw [pf]
          refine ⟨mid.length, by simp;omega, v, mid, l3, rfl, ab, by simp at hW2;omega, fun z hz => mW2 z (x3 _ (yE _ hz)), (s2.trans s3).then hl3, rfl⟩
        · refine ve (yy fun e => hxy (Ag (qe e)).1) ?_
          exact ⟨rfl, _, rfl, _, l2, (_ : List L).map fun x => toS [x], rfl, rfl, SqL.of (by rw [s3 _ _ h2, cL]), cf _ (by omega), by rw [cb];exact fin H3 s3⟩
      · refine ve (yy (by omega)) (nO ?_)
        exact ⟨rfl, _, rfl, _, l2, (_ : List L).map fun x => toS [x], rfl, rfl, SqL.of (by rw [(au.refl _) _ _ h2, cL]), cf _ (by omega), by rw [cb];exact fin H2 (au.refl _)⟩
end
end Kx
namespace Kx
open PySem PySem.Spec PyProof.Rows L2 Wd
theorem uL {m : Nat}(h : m≤6){x : L}(hx : x∈sg (m : Int)) : x.val % 6 < m := by
  have q : ∀ (m : Fin 7) (x : L), x∈([0, 1, 2, 3, 4, 5] : List L).take m.val++([6, 7, 8, 9, 10, 11] : List L).take m.val → x.val % 6 < m.val := by decide
  exact q ⟨m, by omega⟩ x hx
theorem mS {u : List L}{x : L} : ∀ {n : Nat}, x∈rep n u → x∈u
  | 0, h => by cases h
  | n+1, h => by
    have h : x∈rep n u++u := h
    rcases yn.mp h with h | h
    · exact mS h
    · exact h
section
variable {P : Program} {w : World} {K : PySem.W.Frag} {mg : Str → Option Value} {base : Heap} {aB : Addr}
abbrev wy : Stmt := top 28
theorem wz : aC ["_law_tape_here", "_law_many", "_law_long", "_law_signs", "_law_word", "_law_at"] ["_law_tape_here", "_law_many", "_law_long"] (aq wy) := ⟨rfl, rfl, rfl, by decide +kernel, rfl, by decide +kernel, by decide +kernel⟩
theorem xN (D : Df K mg "_law_any_way" wy)(T : Bt K w mg aB)(F_draw : Fnc P w K mg base "_law_draw" ["_law_tape_here", "_law_many"] 1 cH)(F_inner : Fnc P w K mg base "_law_inner" ["_law_word"] 2 fZ)(F_lrooted : Fnc P w K mg base "_law_rooted" ["_law_word"] 1 f_) : Fnc P w K mg base "_law_any_way" ["_law_tape_here", "_law_many", "_law_long"] 3 iY := by
  have sc := wz
  refine D.ok sc (fun _ _ _ _ _ _ us hl => by obtain ⟨_, _, _, rfl⟩ := sU hl;rfl) (fun vs H Q E h => ?_) (fun f cdv A outer s H vs Q E hr h => ?_)
  · obtain ⟨d, c, m, n, rfl, _⟩ := h
    rfl
  · obtain ⟨d, c, m0, n, rfl, F, m1, m2, n1, n2, k⟩ := h
    have m1 : (1 : Int)≤(m0 : Int) := by omega
    have m2 : (m0 : Int)≤6 := by omega
    have k : ∀ (v : List L) (H2 : Hp), v≠[] → v.length≤15 → (∀ x∈v, x∈sg (m0 : Int)) → Tp H2 d c → a8 d H H2 → Q (tx v) H2 := fun v H2 a1 a2 a3 => k v H2 a1 a2 fun x hx => uL (by omega) (a3 x hx)
    generalize (m0 : Int)=m at m1 m2 k ⊢
    have l16 := aO
    refine ⟨_, (@ae _ _ _ _ _ (@ar _ _ (3) _ _ _ _ sc.nd rfl (Or.inr rfl) (@aF _ _ _ _ _ _ _ _ bw (@aM _ _ _ _ _ _ _ _ _ _ bU bC bh (@aX _ _ _ (pv 1))) (@aM _ _ _ _ _ _ _ _ _ _ bU bC bh (@aX _ _ _ (pv 1)))) (by rfl) (by first | exact .inl rfl | exact .inr rfl | assumption)) (@ae _ _ _ _ _ (@ar _ _ (4) _ _ _ _ sc.nd rfl (Or.inl rfl) (@bD _ _ _ _ _ _ _ _ _ _ _ _ yh zp zq de bC (@aa _ _ _ _ _ (@bz _ _ _ _ _ _ _ (["_law_k", "_law_signs", "_law_tape_here", "_law_many"]) (["_law_k"]) ([3, 0, 1]) _ _ _ _ (@bP _ _ _ _ _ _ rfl (by kernel_rfl)) rfl (@aJ _ _ _ _ _ _ rfl T.range (@aa _ _ _ _ _ (@aF _ _ _ _ _ _ _ _ bK ai (@aG _ _ _ _ _ _ _ _ _ _ _ F_draw hr (by decide) rfl (@aa _ _ _ _ _ (pv 0) (@aa _ _ _ _ _ (pv 2) ag (by rfl)) (by rfl)) (by decide) (by rfl) (by rfl))) ag (by rfl)) (by rfl)) (fun _ _ _ _ => @av _ _ (0) _ (show (["_law_k", "_law_signs", "_law_tape_here", "_law_many"] : List Str).Nodup from by decide +kernel) rfl (Or.inl rfl) (by first | exact .inl rfl | exact .inr rfl | assumption)) (fun _ _ _ _ => aR) (fun _ _ _ _ => by (exact (@aI _ _ _ _ _ _ _ ee (pv 1) (@aG _ _ _ _ _ _ _ _ _ _ _ F_draw hr (by decide) rfl (@aa _ _ _ _ _ (pv 2) (@aa _ _ _ _ _ (@aF _ _ _ _ _ _ _ _ d9 ai (pv 3)) ag (by rfl)) (by rfl)) (by decide) (by rfl) (by rfl)) (fun _ _ => rfl)))) (by intro _ ;rfl)) ag (by rfl)) (by rfl) (by rfl) (by rfl) (by rfl) (by rfl)) (by rfl) (by first | exact .inl rfl | exact .inr rfl | assumption)) (@ae _ _ _ _ _ (@e9 _ _ _ _ _ _ _ _ (@aW _ _ _ _ _ _ _ _ j8 (@aG _ _ _ _ _ _ _ _ _ _ _ F_draw hr (by decide) rfl (@aa _ _ _ _ _ (pv 0) (@aa _ _ _ _ _ ai ag (by rfl)) (by rfl)) (by decide) (by rfl) (by rfl)) ai (bL _)) (@ae _ _ _ _ _ (@ar _ _ (5) _ _ _ _ sc.nd rfl (Or.inl rfl) (@aF _ _ _ _ _ _ _ _ bK ai (@aG _ _ _ _ _ _ _ _ _ _ _ F_draw hr (by decide) rfl (@aa _ _ _ _ _ (pv 0) (@aa _ _ _ _ _ ai ag (by rfl)) (by rfl)) (by decide) (by rfl) (by rfl))) (by rfl) (by first | exact .inl rfl | exact .inr rfl | assumption)) (@ao _ _ _ (@ar _ _ (4) _ _ _ _ sc.nd rfl (Or.inl rfl) (@aF _ _ _ _ _ _ _ _ bw (@aF _ _ _ _ _ _ _ _ dg (@aM _ _ _ _ _ _ _ _ _ _ bU (pv 4) bh (@aX _ _ _ (pv 5))) (@aF _ _ _ _ _ _ _ _ bK ai (@aG _ _ _ _ _ _ _ _ _ _ _ F_draw hr (by decide) rfl (@aa _ _ _ _ _ (pv 0) (@aa _ _ _ _ _ ai ag (by rfl)) (by rfl)) (by decide) (by rfl) (by rfl)))) (@aM _ _ _ _ _ _ _ _ _ _ bU (pv 4) (@aX _ _ _ (pv 5)) bh)) (by rfl) (by first | exact .inl rfl | exact .inr rfl | assumption)))) ck) (@ao _ _ _ (@aH _ _ _ _ (@uu _ _ _ _ _ _ _ (@aG _ _ _ _ _ _ _ _ _ _ _ F_lrooted hr (by decide) rfl (@aa _ _ _ _ _ (@aG _ _ _ _ _ _ _ _ _ _ _ F_inner hr (by decide) rfl (@aa _ _ _ _ _ (@aM _ _ _ _ _ _ _ _ _ _ bU (pv 4) bh (@aX _ _ _ (pv 2))) ag (by rfl)) (by decide) (by rfl) (by rfl)) ag (by rfl)) (by decide) (by rfl) (by rfl)) (@tj _ _ _ _ _ (@aI _ _ _ _ _ _ _ ee (pv 3) ai (fun _ _ => rfl))))))))), ?_⟩
    refine ⟨_, rfl, _, rfl, _, rfl, (by rw [jC];omega), _, rfl, _, rfl, _, rfl, (by rw [lQ];omega), _, _, rfl, rfl, ?_, ?_⟩
    · have h1 := AR ("abcdef" : Str) none (some m)
      have h2 := AR ("ABCDEF" : Str) none (some m)
      rw [jC] at h1
      rw [lQ] at h2
      omega
    rw [oF m1]
    have hsg := lP m1 m2
    refine ⟨rfl, _, rfl, _, rfl, d, c, _, rfl, F, by omega, by omega, fun r H1 r0 r1 F1 sb1 => ?_⟩
    refine ⟨_, _, rfl, rfl, _, rfl, by omega, by omega, ?_⟩
    refine bH (own := ["_law_k"]) (cap := [3, 0, 1]) (J := Itr 0 (1+r).toNat) (1+r).toNat (fun i ys σ H' => ∃ (v : Option V) (W : List L), σ = [v, some (tx (sg m)), some (.ref d), some (.int m)] ∧ ys=bF W ∧ W.length=i ∧ (∀ x∈W, x∈sg m) ∧ Tp H' d c ∧ a8 d H H')
      ⟨none, [], rfl, rfl, rfl, (fun x hx => by cases hx), F1, sb1⟩ (fun i ys σ H' hi ⟨v, W, _, e, e2, _⟩ => by rw [e, aT, e2];exact xT _) (by omega) (fun i ys σ H' hi _ => hi) (fun ys σ H' _ => xT _) ?_ ?_
    · rintro i ys σ H2 x H3 N hi ⟨v, W, rfl, rfl, hW, mW, F2, sb2⟩ ⟨rfl, rfl⟩ hN
      refine ⟨_, rfl, _, rfl, _, rfl, _, _, rfl, rfl, .inl ⟨by decide, by decide⟩, d, c, _, rfl, F2, by omega, by omega, fun q H4 q0 q1 F4 sb4 => ?_⟩
      have hq : q.toNat < (sg m).length := by omega
      refine ⟨_, _, cp (sg m)[q.toNat], rfl, rfl, (by rw [af];omega), dk (k := q.toNat) (by omega) (xS hq), hN _ _ _ ⟨_, W++[(sg m)[q.toNat]], rfl, (b_ _ _), by rw [xX, hW];rfl, fun x hx => (yn.mp hx).elim (mW x) (fun hx => by rw [x4.mp hx];exact yP hq), F4, sb2.trans sb4⟩⟩
    rintro ys σ H2 l ⟨v, W, rfl, rfl, hW, mW, F2, sb2⟩ hl
    refine ⟨_, l, W.map fun x => toS [x], rfl, rfl, SqL.of (by rw [ab, cL]), cf _ (by omega), ?_⟩
    rw [cb]
    have F3 := F2.new (o := .lst (bF W)) hl
    have sb3 := sb2.trans (au.new (o := .lst (bF W)) hl).b
    generalize upd H2 l (.lst (bF W))=H3 at F3 sb3 ⊢
    have hW15 : W.length≤15 := by omega
    -- what comes behind
    have hs0 : ∃ x, (sg m)[0]? = some x := ⟨(sg m)[0]'(by omega), xS (by omega)⟩
    obtain ⟨x0, hx0⟩ := hs0
    refine ⟨_, rfl, d, c, _, rfl, F3, by decide, by decide, fun q H4 q0 q1 F4 sb4 => ?_⟩
    refine ⟨rfl, _, rfl, ?_⟩
    have end_ : ∀ (Z : List L) (H5 : Hp), Z.length≤60 → Tp H5 d c → a8 d H H5 → (∀ (v : List L) (H6 : Hp), v≠[] → v.length≤15 → (∀ x∈v, x∈sg m) → au H5 H6 → Q (tx v) H6) := fun Z H5 _ F5 sb5 v H6 ne hv mv s6 => k v H6 ne hv mv (F5.same s6) (sb5.trans s6.b)
    refine kh (fun _ => ?_) (fun _ => ?_)
    · refine ⟨_, rfl, d, c, _, rfl, F4, by decide, by decide, fun a H5 a0 a1 F5 sb5 => ⟨_, _, rfl, rfl, ?_⟩⟩
      have c1 : Txt.slice (toS W) none (some (1+a))=toS (W.take (1+a).toNat) := by rw [aV, c6 _ (by omega)]
      have c2 : Txt.slice (toS W) (some (1+a)) none=toS (W.drop (1+a).toNat) := by rw [aV, fQ _ (by omega)]
      refine ⟨_, rfl, _, rfl, _, rfl, _, rfl, (by rw [af];omega), ?_⟩
      rw [c1]
      refine ⟨_, rfl, d, c, _, rfl, F5, by decide, by decide, fun b H6 b0 b1 F6 sb6 => ⟨_, _, rfl, rfl, ?_⟩⟩
      refine ⟨_, _, rfl, rfl, eK _ (by omega) (by omega) (by rw [yg];omega), ?_⟩
      rw [lM]
      have hrl : (rep (2+b).toNat (W.take (1+a).toNat)).length≤12 := by
        rw [fj, yg]
        exact yI (Cc (show (2+b).toNat≤4 by omega) (show min (1+a).toNat W.length≤3 by omega)) (by decide)
      have hrm : ∀ x∈rep (2+b).toNat (W.take (1+a).toNat), x∈sg m := fun x hx => mW x (ze (mS hx))
      generalize rep (2+b).toNat (W.take (1+a).toNat)=R1 at hrl hrm ⊢
      refine ⟨_, rfl, _, rfl, _, rfl, _, rfl, (by rw [af];omega), ?_⟩
      rw [c2]
      refine ⟨_, _, rfl, rfl, (by rw [af, af, yK];omega), ?_⟩
      rw [eL]
      have hZ : (R1++W.drop (1+a).toNat).length≤60 := by rw [xX, yK];omega
      have hZm : ∀ x∈R1++W.drop (1+a).toNat, x∈sg m := fun x hx => (yn.mp hx).elim (hrm x) fun hx => mW x (A7 hx)
      have sb06 := sb3.trans (sb4.trans (sb5.trans sb6))
      generalize R1++W.drop (1+a).toNat=Z at hZ hZm ⊢
      have cz : Txt.slice (toS Z) none (some n)=toS (Z.take n.toNat) := by rw [aV, c6 _ (by omega)]
      refine ⟨_, rfl, _, rfl, _, rfl, _, rfl, (by rw [af];omega), ?_⟩
      rw [cz]
      have hzl : (Z.take n.toNat).length≤15 := by rw [yg];omega
      refine ⟨Z.take n.toNat, rfl, by omega, fun v1 H7 hv1 mv1 s7 => ⟨v1, rfl, by omega, fun v2 hv2 mv2 => ?_⟩⟩
      refine ⟨_, rfl, (by rw [af];omega), kh (fun e2 => end_ Z _ hZ F6 sb06 v2 H7 (by rintro rfl;exact absurd e2 (by decide)) (by omega) (fun x hx => hZm x (ze (mv1 x (mv2 x hx)))) s7) (fun _ => ?_)⟩
      refine ⟨_, rfl, _, _, cp x0, rfl, rfl, (by rw [af];omega), dk (k := 0) rfl hx0, ?_⟩
      exact end_ Z _ hZ F6 sb06 [x0] H7 (by intro z;cases z) (by show 1≤15;decide) (fun x hx => by rw [x4.mp hx];exact x_ hx0) s7
    · have hZ : W.length≤60 := by omega
      have sb06 := sb3.trans sb4
      have hZm := mW
      generalize W=Z at hZ hZm ⊢
      have cz : Txt.slice (toS Z) none (some n)=toS (Z.take n.toNat) := by rw [aV, c6 _ (by omega)]
      refine ⟨_, rfl, _, rfl, _, rfl, _, rfl, (by rw [af];omega), ?_⟩
      rw [cz]
      have hzl : (Z.take n.toNat).length≤15 := by rw [yg];omega
      refine ⟨Z.take n.toNat, rfl, by omega, fun v1 H7 hv1 mv1 s7 => ⟨v1, rfl, by omega, fun v2 hv2 mv2 => ?_⟩⟩
      refine ⟨_, rfl, (by rw [af];omega), kh (fun e2 => end_ Z _ hZ F4 sb06 v2 H7 (by rintro rfl;exact absurd e2 (by decide)) (by omega) (fun x hx => hZm x (ze (mv1 x (mv2 x hx)))) s7) (fun _ => ?_)⟩
      refine ⟨_, rfl, _, _, cp x0, rfl, rfl, (by rw [af];omega), dk (k := 0) rfl hx0, ?_⟩
      exact end_ Z _ hZ F4 sb06 [x0] H7 (by intro z;cases z) (by show 1≤15;decide) (fun x hx => by rw [x4.mp hx];exact x_ hx0) s7
end
end Kx
namespace Kx
open PySem PySem.Spec PyProof.Rows L2 Wd
def GW (n : Nat)(w : List L) : Prop := w≠[] ∧ w.length≤15 ∧ InM n w
theorem GW.bk {n : Nat}{w : List L}(h : GW n w) : GW n (bk w) := ⟨fun e => h.1 (BQ.mp (by rw [← bE, e]; rfl)), by rw [bE]; exact h.2.1, InM.bk h.2.2⟩
theorem GW.turn {n : Nat}{w : List L}(h : GW n w)(a : Nat) : GW n (w.drop a++w.take a) := by
  have hl : (w.drop a++w.take a).length=w.length := by rw [xX, yK, yg];omega
  refine ⟨fun e => h.1 (BQ.mp (by rw [← hl, e];rfl)), by rw [hl];exact h.2.1, fun x hx => ?_⟩
  rcases yn.mp hx with hx | hx
  · exact h.2.2 x (A7 hx)
  · exact h.2.2 x (ze hx)
theorem mT {α : Type}{xs : List α}{j : Int}(h0 : 0≤j)(h1 : j < xs.length) : ∃ v, v∈xs ∧ atI xs j=some v := by
  have hj : j.toNat < xs.length := by omega
  refine ⟨xs[j.toNat], yP hj, ?_⟩
  unfold atI ixN
  rw [if_pos h0, if_pos (by omega)]
  exact xS hj
section
variable {P : Program} {w : World} {K : PySem.W.Frag} {mg : Str → Option Value} {base : Heap} {aB : Addr}
abbrev ja : Stmt := top 29
theorem ph : aC ["_law_tape_here", "_law_many", "_law_most", "_law_long", "_law_ways", "_law_k", "_law_word", "_law_at"] ["_law_tape_here", "_law_many", "_law_most", "_law_long"] (aq ja) := ⟨rfl, rfl, rfl, by decide +kernel, rfl, by decide +kernel, by decide +kernel⟩
theorem rX (D : Df K mg "_law_some_ways" ja)(T : Bt K w mg aB)(F_draw : Fnc P w K mg base "_law_draw" ["_law_tape_here", "_law_many"] 1 cH)(F_lback : Fnc P w K mg base "_law_back" ["_law_word"] 1 oE)(F_aw : Fnc P w K mg base "_law_any_way" ["_law_tape_here", "_law_many", "_law_long"] 3 iY) : Fnc P w K mg base "_law_some_ways" ["_law_tape_here", "_law_many", "_law_most", "_law_long"] 4 iZ := by
  have sc := ph
  refine D.ok sc (fun _ _ _ _ _ _ us hl => by obtain ⟨_, _, _, _, rfl⟩ := xM hl;rfl) (fun vs H Q E h => ?_) (fun f cdv A outer s H vs Q E hr h => ?_)
  · obtain ⟨d, c, m, n, rfl, _⟩ := h
    rfl
  · obtain ⟨d, c, m, n, rfl, F, m1, m2, n1, n2, k⟩ := h
    have l16 := aO
    refine ⟨_, (@ae _ _ _ _ _ (@ar _ _ (4) _ _ _ _ sc.nd rfl (Or.inl rfl) (@bM _ _ _ _ (@aa _ _ _ _ _ (@aG _ _ _ _ _ _ _ _ _ _ _ F_aw hr (by decide) rfl (@aa _ _ _ _ _ (pv 0) (@aa _ _ _ _ _ (pv 1) (@aa _ _ _ _ _ (pv 3) ag (by rfl)) (by rfl)) (by rfl)) (by decide) (by rfl) (by rfl)) ag (by rfl))) (by rfl) (by first | exact .inl rfl | exact .inr rfl | assumption)) (@ae _ _ _ _ _ (@bj _ _ _ _ _ _ _ _ yr rfl (@aJ _ _ _ _ _ _ rfl T.range (@aa _ _ _ _ _ (@aG _ _ _ _ _ _ _ _ _ _ _ F_draw hr (by decide) rfl (@aa _ _ _ _ _ (pv 0) (@aa _ _ _ _ _ (pv 2) ag (by rfl)) (by rfl)) (by decide) (by rfl) (by rfl)) ag (by rfl)) (by rfl)) (@av _ _ (5) _ sc.nd rfl (Or.inl rfl) (by first | exact .inl rfl | exact .inr rfl | assumption)) (@ae _ _ _ _ _ (@ar _ _ (6) _ _ _ _ sc.nd rfl (Or.inl rfl) (@aG _ _ _ _ _ _ _ _ _ _ _ F_aw hr (by decide) rfl (@aa _ _ _ _ _ (pv 0) (@aa _ _ _ _ _ (pv 1) (@aa _ _ _ _ _ (pv 3) ag (by rfl)) (by rfl)) (by rfl)) (by decide) (by rfl) (by rfl)) (by rfl) (by first | exact .inl rfl | exact .inr rfl | assumption)) (@ae _ _ _ _ _ (@e9 _ _ _ _ _ _ _ _ (@aW _ _ _ _ _ _ _ _ j8 (@aG _ _ _ _ _ _ _ _ _ _ _ F_draw hr (by decide) rfl (@aa _ _ _ _ _ (pv 0) (@aa _ _ _ _ _ ai ag (by rfl)) (by rfl)) (by decide) (by rfl) (by rfl)) ai (bL _)) (@ae _ _ _ _ _ (@ar _ _ (6) _ _ _ _ sc.nd rfl (Or.inl rfl) (@aI _ _ _ _ _ _ _ aN (pv 4) (@aG _ _ _ _ _ _ _ _ _ _ _ F_draw hr (by decide) rfl (@aa _ _ _ _ _ (pv 0) (@aa _ _ _ _ _ (@ay _ _ _ _ _ _ _ _ _ aE (by rfl) T.len yu (@aa _ _ _ _ _ (pv 4) ag (by rfl)) (by decide) (by decide) (by rfl) (by rfl)) ag (by rfl)) (by rfl)) (by decide) (by rfl) (by rfl)) (fun _ _ => rfl)) (by rfl) (by first | exact .inl rfl | exact .inr rfl | assumption)) (@ae _ _ _ _ _ (@ar _ _ (7) _ _ _ _ sc.nd rfl (Or.inl rfl) (@aG _ _ _ _ _ _ _ _ _ _ _ F_draw hr (by decide) rfl (@aa _ _ _ _ _ (pv 0) (@aa _ _ _ _ _ (@ay _ _ _ _ _ _ _ _ _ aD (by rfl) T.len yu (@aa _ _ _ _ _ (pv 6) ag (by rfl)) (by decide) (by decide) (by rfl) (by rfl)) ag (by rfl)) (by rfl)) (by decide) (by rfl) (by rfl)) (by rfl) (by first | exact .inl rfl | exact .inr rfl | assumption)) (@ae _ _ _ _ _ (@ar _ _ (6) _ _ _ _ sc.nd rfl (Or.inl rfl) (@aI _ _ _ _ _ _ _ aN (@bM _ _ _ _ (@aa _ _ _ _ _ (pv 6) (@aa _ _ _ _ _ (@aG _ _ _ _ _ _ _ _ _ _ _ F_lback hr (by decide) rfl (@aa _ _ _ _ _ (pv 6) ag (by rfl)) (by decide) (by rfl) (by rfl)) ag (by rfl)) (by rfl))) (@aG _ _ _ _ _ _ _ _ _ _ _ F_draw hr (by decide) rfl (@aa _ _ _ _ _ (pv 0) (@aa _ _ _ _ _ ai ag (by rfl)) (by rfl)) (by decide) (by rfl) (by rfl)) (fun _ _ => rfl)) (by rfl) (by first | exact .inl rfl | exact .inr rfl | assumption)) (@ao _ _ _ (@ar _ _ (6) _ _ _ _ sc.nd rfl (Or.inl rfl) (@aF _ _ _ _ _ _ _ _ bw (@aM _ _ _ _ _ _ _ _ _ _ bU (pv 6) (@aX _ _ _ (pv 7)) bh) (@aM _ _ _ _ _ _ _ _ _ _ bU (pv 6) bh (@aX _ _ _ (pv 7)))) (by rfl) (by first | exact .inl rfl | exact .inr rfl | assumption)))))) ck) (@ao _ _ _ (@bu _ _ _ _ (@bD _ _ _ _ _ _ _ _ _ _ _ _ yt yV zv cA (pv 4) (@aa _ _ _ _ _ (pv 6) ag (by rfl)) (by rfl) (by rfl) (by rfl) (by rfl) (by rfl)) (by rfl))))) (by intro _ ;rfl)) (@ao _ _ _ (@aH _ _ _ _ (@aU _ _ _ _ _ _ _ _ _ aQ (by rfl) T.tuple cU (@aa _ _ _ _ _ (pv 4) ag (by rfl)) (by decide) (by decide) (by rfl) (by rfl)))))), ?_⟩
    refine ⟨_, rfl, _, rfl, _, rfl, d, c, m, n, rfl, F, m1, m2, n1, n2, fun v0 H1 ne0 hv0 iv0 F1 sb1 => ⟨(a9 (n := 1) (by decide)), fun l hl => ?_⟩⟩
    have hld := F1.ne hl
    have hlc := F1.nec hl
    have hlH : H l=none := by
      cases e : H l with
      | none => rfl
      | some o =>
        have := sb1 _ _ hld e
        rw [hl] at this
        cases this
    refine ⟨_, rfl, _, rfl, d, c, 4, rfl, F1.new hl, by decide, by decide, fun r H2 r0 r1 F2 sb2 => ?_⟩
    have f2 := sb2 _ _ hld (ab (o := .lst [tx v0]))
    have sb2 := (sb1.trans ((au.new (o := .lst [tx v0]) hl).b (d := d))).trans sb2
    refine ⟨_, rfl, by omega, by omega, ?_⟩
    refine bo (lo := 0) (n := r.toNat) (fun i σ H' => ∃ (a5 a6 a7 : Option V) (W : List (List L)), σ = [some (.ref d), some (.int (m : Int)), some (.int 4), some (.int n), some (.ref l), a5, a6, a7] ∧ H' l=some (.lst (W.map tx)) ∧ W.length=i+1 ∧ (∀ w∈W, GW m w) ∧ Tp H' d c ∧ a8 d H H') ⟨none, none, none, [v0], rfl, f2, rfl, (fun w hw => by rw [x4.mp hw];exact ⟨ne0, hv0, iv0⟩), F2, sb2⟩ ?_ ?_
    · rintro i σ H3 hi ⟨a5, a6, a7, W, rfl, f3, hW, gW, F3, sb3⟩
      refine ⟨_, rfl, _, rfl, _, rfl, d, c, m, n, rfl, F3, m1, m2, n1, n2, fun v H4 ne hv iv F4 sb4 => ?_⟩
      have f4 := sb4 _ _ hld f3
      have sb4 := sb3.trans sb4
      have fin : ∀ (w : List L) (a7 : Option V) (H' : Hp), GW m w → H' l=some (.lst (W.map tx)) → Tp H' d c → a8 d H H' → ∃ (a5 a6 a7' : Option V) (W' : List (List L)), [some (V.ref d), some (.int (m : Int)), some (.int 4), some (.int n), some (.ref l), some (.int (0+(i : Int))), some (tx w), a7]=[some (V.ref d), some (.int (m : Int)), some (.int 4), some (.int n), some (.ref l), a5, a6, a7'] ∧ (upd H' l (.lst (W.map tx++[tx w]))) l=some (.lst (W'.map tx)) ∧ W'.length=i+1+1 ∧ (∀ w∈W', GW m w) ∧ Tp (upd H' l (.lst (W.map tx++[tx w]))) d c ∧ a8 d H (upd H' l (.lst (W.map tx++[tx w]))) := by
        intro w a7 H' hw f' F' sb'
        refine ⟨_, _, _, W++[w], rfl, by rw [ab, xZ];rfl, by rw [xX, hW];rfl, fun x hx => ?_, F'.but hld hlc a8.upd, fun b o nb e => ?_⟩
        · rcases yn.mp hx with hx | hx
          · exact gW x hx
          · rw [x4.mp hx];exact hw
        · rw [ak (ah e hlH)];exact sb' _ _ nb e
      refine ⟨_, rfl, d, c, _, rfl, F4, by decide, by decide, fun q H5 q0 q1 F5 sb5 => ⟨rfl, _, rfl, ?_⟩⟩
      have f5 := sb5 _ _ hld f4
      have sb5 := sb4.trans sb5
      refine kh (fun _ => ?_) (fun _ => ?_)
      · refine ⟨_, rfl, _, rfl, _, rfl, l, _, rfl, .inl (SqL.of f5), d, c, _, rfl, F5, by rw [fu];omega, by rw [fu];omega, fun j H6 j0 j1 F6 sb6 => ?_⟩
        have f6 := sb6 _ _ hld f5
        have sb6 := sb5.trans sb6
        obtain ⟨x, hx, ax⟩ := mT j0 j1
        obtain ⟨w0, hw0, rfl⟩ := yq.mp hx
        have gw := gW w0 hw0
        have wl := gw.2.1
        have wp : 0 < w0.length := y_.mpr gw.1
        refine ⟨l, _, _, _, rfl, rfl, SqL.of f6, ax, ?_⟩
        refine ⟨_, rfl, _, rfl, _, rfl, (by rw [af];omega), d, c, _, rfl, F6, by rw [af];omega, by rw [af];omega, fun a H7 a0 a1 F7 sb7 => ?_⟩
        have f7 := sb7 _ _ hld f6
        have sb7 := sb6.trans sb7
        refine ⟨_, rfl, _, rfl, w0, rfl, by omega, fun H8 s8 => ⟨(a9 (n := 2) (by decide)), fun p hp => ?_⟩⟩
        have s9 := s8.then (o := .lst [tx w0, tx (bk w0)]) hp
        have f9 := s9 _ _ f7
        have F9 := F7.same s9
        have sb9 := sb7.trans s9.b
        have hpd := (F7.same s8).ne hp
        refine ⟨_, rfl, d, c, _, rfl, F9, by decide, by decide, fun b H10 b0 b1 F10 sb10 => ?_⟩
        have f10 := sb10 _ _ hld f9
        have g10 := sb10 _ _ hpd (ab (o := .lst [tx w0, tx (bk w0)]))
        have sb10 := sb9.trans sb10
        obtain ⟨x, hx, ax⟩ := mT (xs := [tx w0, tx (bk w0)]) b0 b1
        obtain ⟨w1, g1, rfl⟩ : ∃ w1, GW m w1 ∧ x=tx w1 := by
          rcases ye.mp hx with rfl | hx
          · exact ⟨w0, gw, rfl⟩
          · rw [x4.mp hx]
            exact ⟨_, gw.bk, rfl⟩
        have w1l := g1.2.1
        refine ⟨p, _, _, _, rfl, rfl, SqL.of g10, ax, ?_⟩
        have c1 : Txt.slice (toS w1) none (some a)=toS (w1.take a.toNat) := by rw [aV, c6 _ (by omega)]
        have c2 : Txt.slice (toS w1) (some a) none=toS (w1.drop a.toNat) := by rw [aV, fQ _ (by omega)]
        refine ⟨_, rfl, _, rfl, _, rfl, _, rfl, (by rw [af];omega), ?_⟩
        rw [c2]
        refine ⟨_, rfl, _, rfl, _, rfl, _, rfl, (by rw [af];omega), ?_⟩
        rw [c1]
        refine ⟨_, _, rfl, rfl, (by rw [af, af, yK, yg];omega), ?_⟩
        rw [eL]
        refine ⟨_, rfl, .inl ⟨rfl, _, SqL.of f10⟩, _, rfl, l, _, _, rfl, rfl, f10, by rw [fu];omega, ?_⟩
        exact fin _ _ _ (g1.turn _) f10 F10 sb10
      · refine ⟨_, rfl, .inl ⟨rfl, _, SqL.of f5⟩, _, rfl, l, _, _, rfl, rfl, f5, by rw [fu];omega, ?_⟩
        exact fin _ _ _ ⟨ne, hv, iv⟩ f5 F5 sb5
    · rintro σ H3 ⟨a5, a6, a7, W, rfl, f3, hW, gW, F3, sb3⟩
      refine ⟨_, rfl, l, _, rfl, .inl ⟨SqL.of f3, fun p hp => ?_⟩⟩
      exact k p W _ (F3.new hp) (sb3.trans (au.new hp).b) ⟨ab, by omega, by omega, gW⟩
end
end Kx
namespace Kx
open PySem PySem.Spec PyProof.Rows L2 Wd
section
variable {P : Program} {w : World} {K : PySem.W.Frag} {mg : Str → Option Value} {base : Heap} {aB : Addr}
abbrev mU : Stmt := top 30
theorem rY : aC ["_law_ways", "_law_found", "_law_i"] ["_law_ways"] (aq mU) := ⟨rfl, rfl, rfl, by decide +kernel, rfl, by decide +kernel, by decide +kernel⟩
theorem uM (D : Df K mg "_law_all_strands" mU)(T : Bt K w mg aB) : Fnc P w K mg base "_law_all_strands" ["_law_ways"] 1 mi := by
  have sc := rY
  refine D.ok sc (fun _ _ _ _ _ _ us hl => by obtain ⟨_, rfl⟩ := nP hl;rfl) (fun vs H Q E h => ?_) (fun f cdv A outer s H vs Q E hr h => ?_)
  · obtain ⟨a, n, W, rfl, _⟩ := h
    rfl
  · obtain ⟨a, n, W, rfl, hW, k⟩ := h
    have l16 := aO
    have w15 : ∀ w∈W, w.length≤15 := fun w hw => (hW.ws w hw).2.1
    have hle := hW.le
    refine ⟨_, (@ae _ _ _ _ _ (@ar _ _ (1) _ _ _ _ sc.nd rfl (Or.inl rfl) (@bM _ _ _ _ ag) (by rfl) (by first | exact .inl rfl | exact .inr rfl | assumption)) (@ae _ _ _ _ _ (@bj _ _ _ _ _ _ _ _ yr rfl (@aJ _ _ _ _ _ _ rfl T.range (@aa _ _ _ _ _ (@ay _ _ _ _ _ _ _ _ _ aE (by rfl) T.len yu (@aa _ _ _ _ _ (pv 0) ag (by rfl)) (by decide) (by decide) (by rfl) (by rfl)) ag (by rfl)) (by rfl)) (@av _ _ (2) _ sc.nd rfl (Or.inr rfl) (by first | exact .inl rfl | exact .inr rfl | assumption)) (@ao _ _ _ (@bu _ _ _ _ (@bD _ _ _ _ _ _ _ _ _ _ _ _ yt Am An eA (pv 1) (@aa _ _ _ _ _ (@bz _ _ _ _ _ _ _ (["_law_p", "_law_i"]) (["_law_p"]) ([2]) _ _ _ _ (@bP _ _ _ _ _ _ rfl (by kernel_rfl)) rfl (@aJ _ _ _ _ _ _ rfl T.range (@aa _ _ _ _ _ (@ay _ _ _ _ _ _ _ _ _ aD (by rfl) T.len yu (@aa _ _ _ _ _ (@aI _ _ _ _ _ _ _ aY (pv 0) (pv 2) (fun _ _ => rfl)) ag (by rfl)) (by decide) (by decide) (by rfl) (by rfl)) ag (by rfl)) (by rfl)) (fun _ _ _ _ => @av _ _ (0) _ (show (["_law_p", "_law_i"] : List Str).Nodup from by decide +kernel) rfl (Or.inl rfl) (by first | exact .inl rfl | exact .inr rfl | assumption)) (fun _ _ _ _ => aR) (fun _ _ _ _ => by (exact (@cw _ _ _ _ _ (@aa _ _ _ _ _ (pv 1) (@aa _ _ _ _ _ (pv 0) ag (by rfl)) (by rfl))))) (by intro _ ;rfl)) ag (by rfl)) (by rfl) (by rfl) (by rfl) (by rfl) (by rfl)) (by rfl))) (by intro _ ;rfl)) (@ao _ _ _ (@aH _ _ _ _ (pv 1))))), ?_⟩
    refine ⟨(by show 0≤sizeLine;decide), fun l hl => ?_⟩
    have s1 : au H (upd H l (.lst [])) := au.new hl
    have f1 : (upd H l (.lst [])) l=some (.lst ((([] : List (Addr × Int × Int)).map (·.1)).map V.ref)) := ab
    generalize upd H l (.lst [])=H1 at s1 f1 ⊢
    refine ⟨_, rfl, a, _, rfl, .inr (SqT.of (s1 _ _ hW.at_)), _, rfl, by rw [fu];omega, by rw [fu];omega, ?_⟩
    rw [fu, yf]
    refine bo (lo := 0) (n := W.length) (fun i σ H' => ∃ (v2 : Option V) (zs : List (Addr × Int × Int)), σ = [some (.ref a), some (.ref l), v2] ∧ H' l=some (.lst ((zs.map (·.1)).map V.ref)) ∧ StA H' zs ∧ zs.map (·.2)=kF W i ∧ au H H') ⟨none, [], rfl, f1, (fun z hz => by cases hz), rfl, s1⟩ ?_ ?_
    · rintro i σ H3 hil ⟨v2, zs, rfl, f3, hz3, ez, s3⟩
      rw [zS]
      have hw : W[i]? = some (W.getD i []) := by rw [xU, xS hil];rfl
      have aw := gf (W := W) (i := (i : Int)) (by omega) (by omega)
      rw [yf] at aw
      generalize W.getD i []=w' at hw aw
      have hwl := w15 w' (x_ hw)
      have zl : zs.length≤60 := by
        have := cu w15 i
        rw [← ez, fu] at this
        omega
      refine ⟨_, rfl, .inl ⟨rfl, _, SqL.of f3⟩, _, rfl, _, rfl, a, _, _, _, rfl, rfl, SqT.of (s3 _ _ hW.at_), aw, _, rfl, (by rw [af];omega), _, rfl, (by rw [af];omega), (by rw [af];omega), ?_⟩
      rw [af, yf]
      refine bH (own := ["_law_p"]) (cap := [2]) (J := Itr 0 w'.length) w'.length (fun j ys σ H' => ∃ (b : Option V) (ps : List (Addr × Int × Int)), σ = [b, some (.int (i : Int))] ∧ ys=(ps.map (·.1)).map V.ref ∧ StA H' ps ∧ ps.map (·.2)=(List.range j).map (fun p : Nat => ((i : Int), (p : Int))) ∧ au H3 H') ⟨none, [], rfl, rfl, (fun z hz => by cases hz), rfl, au.refl _⟩
        (fun j ys σ H' hj ⟨_, ps, _, e, _, e2, _⟩ => ?_) (by omega) (fun j ys σ H' hj _ => hj) (fun ys σ H' _ => xT _) ?_ ?_
      · have := yB List.length e2
        rw [fu, fu, yo] at this
        rw [e, fu, fu]
        omega
      · rintro j ys σ H4 x H5 N hj ⟨b, ps, rfl, rfl, hp, e2, s4⟩ ⟨rfl, rfl⟩ hN
        refine ⟨_, rfl, _, rfl, (a9 (n := 2) (by decide)), fun q hq => hN _ _ _ ⟨_, ps++[(q, (i : Int), (j : Int))], rfl, ?_, ?_, ?_, s4.then hq⟩⟩
        · rw [xZ, xZ];rfl
        · rw [zS]
          exact (hp.same (au.new hq)).app fun z hz => by
            rw [x4] at hz
            subst hz
            exact ab
        · rw [xZ, e2, zD, xZ];rfl
      · rintro ys σ H4 q ⟨b, ps, rfl, rfl, hp, e2, s4⟩ hq
        have s5 : au H4 (upd H4 q (.lst ((ps.map (·.1)).map V.ref))) := au.new hq
        have g5 : (upd H4 q (.lst ((ps.map (·.1)).map V.ref))) q=some (.lst ((ps.map (·.1)).map V.ref)) := ab
        have f5 := s5 _ _ (s4 _ _ f3)
        have hp5 := hp.same s5
        have hz5 := (hz3.same s4).same s5
        have s6 := (s3.trans s4).trans s5
        generalize upd H4 q (.lst ((ps.map (·.1)).map V.ref))=H5 at g5 f5 hp5 hz5 s6 ⊢
        have pl : ps.length=w'.length := by
          have := yB List.length e2
          rwa [fu, fu, yo] at this
        refine ⟨l, q, _, _, rfl, rfl, f5, g5, by rw [fu, fu, fu, fu];omega, ?_⟩
        have keepT : ∀ b xs, H5 b=some (.tup xs) → (upd H5 l (.lst ((zs.map (·.1)).map V.ref++(ps.map (·.1)).map V.ref))) b=some (.tup xs) := fun b xs e => by
          rw [ak (cM e f5 (by intro z;cases z))];exact e
        refine ⟨_, zs++ps, rfl, ?_, fun z hz => keepT _ _ ((hz5.app hp5) z hz), dN hw ez e2, fun b o e => ?_⟩
        · rw [ab, xZ, xZ]
        · rw [ak (ah e hl)];exact s6 _ _ e
    · rintro σ H2 ⟨v2, zs, rfl, f2, hz, ez, s2⟩
      exact ⟨_, rfl, k l zs _ hl s2 f2 hz ez⟩
end
end Kx
namespace Kx
open PySem PySem.Spec PyProof.Rows L2 Wd
theorem qv {x : L}(h : x.val < 6) : ∃ rest, Builtin.Str.occurrences ("abcdef" : Str) (toS [x]) 0 ("abcdef" : Str).length 1=x.val::rest := by
  have q : ∀ x : L, x.val < 6 → x∈([0, 1, 2, 3, 4, 5] : List L) ∧ ([0, 1, 2, 3, 4, 5] : List L).idxOf x=x.val := by decide
  obtain ⟨h1, h2⟩ := q x h
  obtain ⟨r, e⟩ := qk h1
  rw [oA, h2] at e
  exact ⟨r, e⟩
def uN (W : List (List L))(ps : List (Int × Int))(H : Hp)(m : Nat)(q : Addr) : Prop := ∃ row : List (Addr × Int × Int), H q=some (.lst ((row.map (·.1)).map V.ref)) ∧ StA H row ∧ (row.map (·.2)).Perm (ps.filter fun p => decide (ltS W p=m))
theorem uN.to {W : List (List L)}{ps : List (Int × Int)}{H H' : Hp}{m : Nat}{q : Addr}(h : uN W ps H m q)(k1 : ∀ xs, H q=some (.lst xs) → H' q=some (.lst xs))(k2 : ∀ a xs, H a=some (.tup xs) → H' a=some (.tup xs)) : uN W ps H' m q := by
  obtain ⟨row, h1, h2, h3⟩ := h
  exact ⟨row, k1 _ h1, fun z hz => k2 _ _ (h2 z hz), h3⟩
structure Dw (n : Nat) (W : List (List L)) (H : Hp) (r : Addr) (rows : List (List (Int × Int))) : Prop where
  ex : ∃ bs : List Addr, H r=some (.tup (bs.map V.ref)) ∧ bs.length=n ∧ ∀ (i : Nat) (b : Addr), bs[i]? = some b → ∃ row : List (Addr × Int × Int), H b=some (.tup ((row.map (·.1)).map V.ref)) ∧ StA H row ∧ rows[i]? = some (row.map (·.2))
  len : rows.length=n
  pm : ∀ (i : Nat) (row : List (Int × Int)), rows[i]? = some row → row.Perm (rA W i)
inductive jb (vs : List V)(H : Hp)(Q : VK)(u3_ : XK) : Prop
  | mk : ∀ (d c : Addr) (u : List L) (n : Nat) (a : Addr) (W : List (List L)), (vs=[.ref d, tx u, .ref a]) → (Tp H d c) → (SK u n) → (Wy4 n W H a) → (∀ (r : Addr) (rows : List (List (Int × Int))) (H' : Hp), Tp H' d c → a8 d H H' → Dw n W H' r rows → Q (.ref r) H') → jb vs H Q u3_
theorem jQ {n : Nat}{W : List (List L)}(hW : ∀ w∈W, InM n w){p : Int × Int}(o : okS W p=true) : ltS W p < n := by
  unfold okS at o
  simp only [yi, yw] at o
  obtain ⟨⟨o1, o2⟩, o3, o4⟩ := o
  have hi : p.1.toNat < W.length := by omega
  have g : W.getD p.1.toNat []=W[p.1.toNat] := by rw [xU, xS hi];rfl
  unfold ltS
  rw [g] at o4 ⊢
  have hj : p.2.toNat < W[p.1.toNat].length := by omega
  rw [xU, xS hj]
  exact hW _ (yP hi) _ (yP hj)
section
variable {P : Program} {w : World} {K : PySem.W.Frag} {mg : Str → Option Value} {base : Heap} {aB : Addr}
abbrev mV : Stmt := top 31
theorem rZ : aC ["_law_tape_here", "_law_surface", "_law_ways", "_law_rows", "_law_i", "_law_p", "_law_row"] ["_law_tape_here", "_law_surface", "_law_ways"] (aq mV) := ⟨rfl, rfl, rfl, by decide +kernel, rfl, by decide +kernel, by decide +kernel⟩
theorem uO (D : Df K mg "_law_any_drawing" mV)(T : Bt K w mg aB)(F_draw : Fnc P w K mg base "_law_draw" ["_law_tape_here", "_law_many"] 1 cH)(F_alls : Fnc P w K mg base "_law_all_strands" ["_law_ways"] 1 mi) : Fnc P w K mg base "_law_any_drawing" ["_law_tape_here", "_law_surface", "_law_ways"] 2 jb := by
  have sc := rZ
  refine D.ok sc (fun _ _ _ _ _ _ us hl => by obtain ⟨_, _, _, rfl⟩ := sU hl;rfl) (fun vs H Q E h => ?_) (fun f cdv A outer s H vs Q E hr h => ?_)
  · obtain ⟨d, c, u, n, a, W, rfl, _⟩ := h
    rfl
  · obtain ⟨d, c, u, n, a, W, rfl, F, hu, hW, k⟩ := h
    have l16 := aO
    have h6 := hu.hi
    have hul : (toS u).length=2*n := by rw [af, hu.len]
    have e2 : ((toS u).length : Int) / 2=(n : Int) := by omega
    refine ⟨_, (@ae _ _ _ _ _ (@lT _ (3) _ _ _ _ _ _ _ _ _ (["_law_k"]) (["_law_k"]) ([]) _ _ _ _ sc.nd rfl (Or.inl rfl) (@bP _ _ _ _ _ _ rfl (by kernel_rfl)) rfl (@aJ _ _ _ _ _ _ rfl T.range (@aa _ _ _ _ _ (@aF _ _ _ _ _ _ _ _ bV (@ay _ _ _ _ _ _ _ _ _ aD (by rfl) T.len yu (@aa _ _ _ _ _ (pv 1) ag (by rfl)) (by decide) (by decide) (by rfl) (by rfl)) ai) ag (by rfl)) (by rfl)) (fun _ _ _ _ => @av _ _ (0) _ (show (["_law_k"] : List Str).Nodup from by decide +kernel) rfl (Or.inl rfl) (by first | exact .inl rfl | exact .inr rfl | assumption)) (fun _ _ _ _ => aR) (fun _ _ _ _ => by (exact (@bM _ _ _ _ ag))) (by intro _ ;rfl) (by rfl) (by first | exact .inl rfl | exact .inr rfl | assumption)) (@ae _ _ _ _ _ (@bj _ _ _ _ _ _ _ _ yr rfl (@fC _ _ _ _ (@aG _ _ _ _ _ _ _ _ _ _ _ F_alls hr (by decide) rfl (@aa _ _ _ _ _ (pv 2) ag (by rfl)) (by decide) (by rfl) (by rfl))) (@gG _ _ _ _ _ _ rfl (@bB _ _ _ _ _ (@av _ _ (4) _ sc.nd rfl (Or.inl rfl) (by first | exact .inl rfl | exact .inr rfl | assumption)) (@bB _ _ _ _ _ (@av _ _ (5) _ sc.nd rfl (Or.inl rfl) (by first | exact .inl rfl | exact .inr rfl | assumption)) dZ (by rfl)) (by rfl)) (by rfl) (by rfl)) (@ae _ _ _ _ _ (@ar _ _ (6) _ _ _ _ sc.nd rfl (Or.inl rfl) (@aI _ _ _ _ _ _ _ aN (pv 3) (@bD _ _ _ _ _ _ _ _ _ _ _ _ yh z3 z4 dQ bC (@aa _ _ _ _ _ (@eg _ _ _ _ _ _ _ _ _ yh zF zG c4 (@aI _ _ _ _ _ _ _ ee (@aI _ _ _ _ _ _ _ aY (pv 2) (pv 4) (fun _ _ => rfl)) (pv 5) (fun _ _ => rfl)) (by rfl) (by rfl)) ag (by rfl)) (by rfl) (by rfl) (by rfl) (by rfl) (by rfl)) (fun _ _ => rfl)) (by rfl) (by first | exact .inl rfl | exact .inr rfl | assumption)) (@ao _ _ _ (@bu _ _ _ _ (@bD _ _ _ _ _ _ _ _ _ _ _ _ yt Al BJ hG (pv 6) (@aa _ _ _ _ _ (@aG _ _ _ _ _ _ _ _ _ _ _ F_draw hr (by decide) rfl (@aa _ _ _ _ _ (pv 0) (@aa _ _ _ _ _ (@aF _ _ _ _ _ _ _ _ bK (@ay _ _ _ _ _ _ _ _ _ aE (by rfl) T.len yu (@aa _ _ _ _ _ (pv 6) ag (by rfl)) (by decide) (by decide) (by rfl) (by rfl)) ai) ag (by rfl)) (by rfl)) (by decide) (by rfl) (by rfl)) (@aa _ _ _ _ _ (@cw _ _ _ _ _ (@aa _ _ _ _ _ (pv 4) (@aa _ _ _ _ _ (pv 5) ag (by rfl)) (by rfl))) ag (by rfl)) (by rfl)) (by rfl) (by rfl) (by rfl) (by rfl) (by rfl)) (by rfl)))) (by intro _ ;rfl)) (@ao _ _ _ (@aH _ _ _ _ (@aU _ _ _ _ _ _ _ _ _ aQ (by rfl) T.tuple cU (@aa _ _ _ _ _ (@bz _ _ _ _ _ _ _ (["_law_row"]) (["_law_row"]) ([]) _ _ _ _ (@bP _ _ _ _ _ _ rfl (by kernel_rfl)) rfl (@fC _ _ _ _ (pv 3)) (fun _ _ _ _ => @av _ _ (0) _ (show (["_law_row"] : List Str).Nodup from by decide +kernel) rfl (Or.inl rfl) (by first | exact .inl rfl | exact .inr rfl | assumption)) (fun _ _ _ _ => aR) (fun _ _ _ _ => by (exact (@aU _ _ _ _ _ _ _ _ _ (@fb _ (K) rfl) (by rfl) T.tuple cU (@aa _ _ _ _ _ (pv 0) ag (by rfl)) (by decide) (by decide) (by rfl) (by rfl)))) (by intro _ ;rfl)) ag (by rfl)) (by decide) (by decide) (by rfl) (by rfl)))))), ?_⟩
    refine ⟨_, rfl, _, rfl, (by omega), _, _, rfl, rfl, ⟨by decide, by decide⟩, _, rfl, by omega, by omega, ?_⟩
    rw [e2, yf]
    refine bH (own := ["_law_k"]) (cap := []) (J := Itr 0 n) n (fun i ys σ H' => ∃ (v : Option V) (ls : List Addr), σ = [v] ∧ ys=ls.map V.ref ∧ ls.length=i ∧ ls.Nodup ∧ (∀ q∈ls, H q=none ∧ H' q=some (.lst [])) ∧ au H H') ⟨none, [], rfl, rfl, rfl, zY, (fun q hq => by cases hq), au.refl _⟩ (fun i ys σ H' hi ⟨_, ls, _, e, e3, _⟩ => by rw [e, fu];omega) (by omega) (fun i ys σ H' hi _ => hi) (fun ys σ H' _ => xT _) ?_ ?_
    · rintro i ys σ H1 x H2 N hi ⟨v, ls, rfl, rfl, hl, nd, hq, s1⟩ ⟨rfl, rfl⟩ hN
      refine ⟨(by show 0≤sizeLine;decide), fun q hqn => hN _ _ _ ⟨_, ls++[q], rfl, by rw [xZ];rfl, by rw [xX, hl];rfl, ?_, ?_, s1.then hqn⟩⟩
      · refine BK.mpr ⟨nd, y9.mpr ⟨yD, zY⟩, fun x hx y hy e => ?_⟩
        rw [x4.mp hy] at e
        subst e
        have := (hq x hx).2
        rw [hqn] at this
        cases this
      · intro x hx
        rcases yn.mp hx with hx | hx
        · exact ⟨(hq x hx).1, (au.new hqn) _ _ (hq x hx).2⟩
        · rw [x4.mp hx]
          exact ⟨none_of s1 hqn, ab⟩
    rintro ys σ H1 R ⟨v, ls, rfl, rfl, hl, nd, hq, s1⟩ hR
    have s2 := s1.then (o := .lst (ls.map V.ref)) hR
    have fR : (upd H1 R (.lst (ls.map V.ref))) R=some (.lst (ls.map V.ref)) := ab
    have q2 : ∀ q∈ls, (upd H1 R (.lst (ls.map V.ref))) q=some (.lst []) := fun q hm => (au.new hR) _ _ (hq q hm).2
    have nR : ∀ q∈ls, q≠R := fun q hm => ah (hq q hm).2 hR
    have hRH : H R=none := none_of s1 hR
    generalize upd H1 R (.lst (ls.map V.ref))=H2 at s2 fR q2 ⊢
    have hW2 := hW.same s2
    refine ⟨_, rfl, a, n, W, rfl, hW2, fun l zs H3 hl3 s3 f3 hz ez => ⟨l, rfl, ⟨_, SqL.of f3⟩, ?_⟩⟩
    have s03 := s2.trans s3
    have hlH : H l=none := none_of s2 hl3
    have zl : zs.length≤60 := by
      have := cu (fun w hw => (hW.ws w hw).2.1) W.length
      have e : (bA W).length=(kF W W.length).length := rfl
      have hle := hW.le
      rw [← e, ← ez, fu] at this
      omega
    have zok : ∀ z∈zs, okS W z.2=true := fun z hz' => bI.mp (by rw [← ez];exact yq.mpr ⟨z, hz', rfl⟩)
    have nl : ∀ q∈ls, q≠l := fun q hm => ah (q2 q hm) hl3
    have nRl : R≠l := ah fR hl3
    have nd_ : ∀ q∈ls, q≠d ∧ q≠c := fun q hm => ⟨F.ne (hq q hm).1, F.nec (hq q hm).1⟩
    have hRd := F.ne hRH
    have hld := F.ne hlH
    refine jt (xs := (zs.map (·.1)).map V.ref) (fun j σ H' => ∃ v4 v5 v6 : Option V, σ = [some (.ref d), some (tx u), some (.ref a), some (.ref R), v4, v5, v6] ∧ H' R=some (.lst (ls.map V.ref)) ∧ H' l=some (.lst ((zs.map (·.1)).map V.ref)) ∧ StA H' zs ∧ Wy4 n W H' a ∧ (∀ (m : Nat) (q : Addr), ls[m]? = some q → uN W ((zs.map (·.2)).take j) H' m q) ∧ Tp H' d c ∧ a8 d H H') ⟨none, none, none, rfl, s3 _ _ fR, f3, hz, hW2.same s3, (fun m q hm => ⟨[], s3 _ _ (q2 q (x_ hm)), (fun z hz => by cases hz), .nil⟩), F.same s03, s03.b⟩ (fun j σ H' _ ⟨_, _, _, _, _, q, _⟩ => SqL.of q) ?_ ?_
    · rintro j x σ H4 hx ⟨v4, v5, v6, rfl, gR, gl, hz4, hW4, rw4, F4, sb4⟩
      rw [xY, xY] at hx
      cases hz1 : zs[j]? with
      | none => rw [hz1] at hx;cases hx
      | some z =>
        rw [hz1] at hx
        obtain rfl := x5 hx
        have hm := x_ hz1
        have hj : j < zs.length := (xV.mp hz1).1
        have ok1 := zok z hm
        have lt := jQ (fun w hw => (hW.ws w hw).2.2) ok1
        have hz5 := hz4 z hm
        obtain ⟨z0, p1, p2⟩ := z
        have hz5 : H4 z0=some (.tup [.int p1, .int p2]) := hz5
        have ok1 : okS W (p1, p2)=true := ok1
        have lt : ltS W (p1, p2) < n := lt
        unfold okS at ok1
        simp only [yi, yw] at ok1
        obtain ⟨⟨o1, o2⟩, o3, o4⟩ := ok1
        have hwl := gh hW p1.toNat
        refine ⟨z0, _, rfl, SqT.of hz5, rfl, _, _, rfl, _, _, rfl, rfl, ?_⟩
        refine ⟨_, rfl, rfl, _, rfl, _, rfl, a, _, _, _, rfl, rfl, SqT.of hW4.at_, gf o1 o2, _, rfl, _, _, _, rfl, rfl, (by rw [af];omega), mP o3 o4, ?_⟩
        have lt' : ltS W (p1, p2)=((W.getD p1.toNat []).getD p2.toNat 0).val % 6 := rfl
        generalize (W.getD p1.toNat []).getD p2.toNat 0=x1 at lt' ⊢
        refine ⟨rfl, _, rfl, rfl, (by show 1≤5592405;decide), ?_⟩
        rw [show (⟨#[cp x1]⟩ : Str)=toS [x1] from rfl, mQ]
        have kx : x1.val % 6 < n := by omega
        obtain ⟨rest, ho⟩ := qv (x := ⟨x1.val % 6, by omega⟩) (by show x1.val % 6 < 6;omega)
        have hk : x1.val % 6 < ls.length := by omega
        obtain ⟨q, hqk⟩ : ∃ q, ls[x1.val % 6]? = some q := ⟨_, xS hk⟩
        have qm := x_ hqk
        obtain ⟨row, g1, g2, g3⟩ := rw4 _ q hqk
        have rl : row.length≤60 := by
          have h1 := g3.length_eq
          rw [fu] at h1
          rw [h1]
          refine yI (zr _ _) ?_
          rw [yg, fu]
          omega
        have el : ((row.map (·.1)).map V.ref).length=row.length := by rw [fu, fu]
        obtain ⟨nqd, nqc⟩ := nd_ q qm
        refine ⟨_, _, _, rest, rfl, rfl, ho, R, _, _, _, rfl, rfl, SqL.of gR, bW (v := .ref q) (by rw [xY, hqk];rfl), ?_⟩
        refine ⟨_, rfl, .inl ⟨rfl, _, SqL.of g1⟩, _, rfl, _, rfl, q, _, rfl, .inl (SqL.of g1), _, _, rfl, rfl, d, c, _, rfl, F4, by omega, by omega, fun b H5 b0 b1 F5 sb5 => ?_⟩
        rw [el] at b1
        have g5 := sb5 _ _ nqd g1
        refine ⟨_, rfl, _, rfl, (a9 (n := 2) (by decide)), fun t ht => ?_⟩
        have s6 : au H5 (upd H5 t (.tup [.int p1, .int p2])) := au.new ht
        have g6 := s6 _ _ g5
        have F6 := F5.same s6
        have t6 : (upd H5 t (.tup [.int p1, .int p2])) t=some (.tup [.int p1, .int p2]) := ab
        generalize upd H5 t (.tup [.int p1, .int p2])=H6 at s6 g6 F6 t6 ⊢
        refine ⟨q, _, b, _, rfl, rfl, g6, b0, by omega, by omega, ?_⟩
        have ei : ((row.map (·.1)).map V.ref).take b.toNat++V.ref t::((row.map (·.1)).map V.ref).drop b.toNat=((row.take b.toNat++(t, p1, p2)::row.drop b.toNat).map (·.1)).map V.ref := by
          rw [← A_, ← A_, ← BP, ← BP, xZ, xZ]
          rfl
        rw [ei]
        have keep : ∀ (zz : List V) b o, b≠d → b≠q → H4 b=some o → (upd H6 q (.lst zz)) b=some o := fun zz b o n1 n2 e => by rw [ak n2];exact s6 _ _ (sb5 _ _ n1 e)
        have keepT : ∀ (zz : List V) b xs, H4 b=some (.tup xs) → (upd H6 q (.lst zz)) b=some (.tup xs) := fun zz b xs e => keep zz b _ (F4.nt e) (cM e g1 (by intro z;cases z)) e
        refine ⟨_, _, _, rfl, keep _ _ _ hRd (nR q qm).symm gR, keep _ _ _ hld (nl q qm).symm gl, fun z hz' => keepT _ _ _ (hz4 z hz'), ⟨keepT _ _ _ hW4.at_, hW4.le, hW4.lo, hW4.ws⟩, fun m' q' hq' => ?_, F6.but nqd nqc a8.upd, fun b o nb e => ?_⟩
        · have et : (zs.map (·.2)).take (j+1)=(zs.map (·.2)).take j++[(p1, p2)] := by
            rw [AI, xY, hz1]
            rfl
          by_cases eq : q'=q
          · subst eq
            have em : m'=x1.val % 6 := by
              have a1 := (xV.mp hq').1
              have a2 := (xV.mp hq').2
              have a3 := (xV.mp hqk).2
              have e1 := nd.idxOf_getElem m' a1
              have e3 := nd.idxOf_getElem (x1.val % 6) hk
              rw [a2] at e1
              rw [a3] at e3
              exact e1.symm.trans e3
            subst em
            refine ⟨row.take b.toNat++(t, p1, p2)::row.drop b.toNat, ab, fun z hz' => ?_, ?_⟩
            · have hz' : z=(t, p1, p2) ∨ z∈row := by
                rcases yn.mp hz' with hz' | hz'
                · exact .inr (ze hz')
                · rcases ye.mp hz' with hz' | hz'
                  · exact .inl hz'
                  · exact .inr (A7 hz')
              rcases hz' with rfl | hz'
              · show (upd H6 q' _) t=_
                rw [ak (cM t6 g6 (by intro z;cases z))]
                exact t6
              · exact keepT _ _ _ (g2 z hz')
            · rw [et, List.filter_append, List.filter_cons_of_pos (by show decide (ltS W (p1, p2)=x1.val % 6)=true;exact yJ lt')]
              refine List.Perm.trans (List.Perm.map _ (List.perm_middle.trans (List.Perm.cons _ (List.Perm.of_eq (za _ _))))) ?_
              exact (List.Perm.cons _ g3).trans (List.perm_append_comm (l₁ := [(p1, p2)]))
          · have ne : ¬ m'=x1.val % 6 := fun e => eq (by rw [e, hqk] at hq';exact (x5 hq').symm)
            have := (rw4 m' q' hq').to (H' := upd H6 q (.lst (((row.take b.toNat++(t, p1, p2)::row.drop b.toNat).map (·.1)).map V.ref))) (fun xs e => keep _ _ _ (nd_ q' (x_ hq')).1 eq e) (keepT _)
            rw [et]
            obtain ⟨row', h1, h2, h3⟩ := this
            refine ⟨row', h1, h2, ?_⟩
            rw [List.filter_append, List.filter_cons_of_neg (by show ¬ decide (ltS W (p1, p2)=m')=true;rw [lt'];simpa using fun e => ne e.symm), List.filter_nil, zA]
            exact h3
        · rw [ak (ah e (hq q qm).1)];exact s6 _ _ (sb5 _ _ nb (sb4 _ _ nb e))
    · rintro σ H4 ⟨v4, v5, v6, rfl, gR, gl, hz4, hW4, rw4, F4, sb4⟩
      rw [fu, fu] at rw4
      have rw5 : ∀ (m : Nat) (q : Addr), ls[m]? = some q → uN W (bA W) H4 m q := fun m q h => by
        have := rw4 m q h
        rwa [yU (by rw [fu];exact xT _), ez] at this
      refine ⟨_, rfl, R, rfl, ⟨_, SqL.of gR⟩, ?_⟩
      refine g_ (xs := ls.map V.ref) (own := ["_law_row"]) (cap := []) (fun i ys σ H' => ∃ (v : Option V) (bs : List Addr) (rows : List (List (Int × Int))), σ = [v] ∧ ys=bs.map V.ref ∧ bs.length=i ∧ rows.length=i ∧ (∀ (m : Nat) (b : Addr), bs[m]? = some b → ∃ row : List (Addr × Int × Int), H' b=some (.tup ((row.map (·.1)).map V.ref)) ∧ StA H' row ∧ rows[m]? = some (row.map (·.2))) ∧ (∀ (m : Nat) (row : List (Int × Int)), rows[m]? = some row → row.Perm (rA W m)) ∧ au H4 H') ⟨none, [], [], rfl, rfl, rfl, rfl, (fun m b e => by simp at e), (fun m b e => by simp at e), au.refl _⟩ (fun i ys σ H' hi ⟨_, bs, _, _, e, e2, _⟩ => by rw [e, fu];omega) (by rw [fu];omega) (fun i ys σ H' ⟨_, _, _, _, _, _, _, _, _, q⟩ => SqL.of (q _ _ gR)) ?_ ?_
      · rintro i ys σ H5 y N hy ⟨v, bs, rows, rfl, rfl, hbl, hrl, hb, hpm, s5⟩ hN
        rw [xY] at hy
        cases hqi : ls[i]? with
        | none => rw [hqi] at hy;cases hy
        | some q =>
          rw [hqi] at hy
          obtain rfl := x5 hy
          obtain ⟨row, g1, g2, g3⟩ := rw5 i q hqi
          refine ⟨_, rfl, q, _, rfl, .inl ⟨SqL.of (s5 _ _ g1), fun t ht => hN _ _ _ ⟨_, bs++[t], rows++[row.map (·.2)], rfl, by rw [xZ];rfl, by rw [xX, hbl];rfl, by rw [xX, hrl];rfl, fun m b e => ?_, fun m rw e => ?_, s5.then ht⟩⟩⟩
          · by_cases hm : m < bs.length
            · rw [yN hm] at e
              obtain ⟨row', h1, h2, h3⟩ := hb m b e
              exact ⟨row', au.new ht _ _ h1, h2.same (au.new ht), by rw [yN (by omega)];exact h3⟩
            · have em : m=bs.length := by
                have := (xV.mp e).1
                rw [xX] at this
                have : m < bs.length+1 := this
                omega
              subst em
              rw [Ad] at e
              obtain rfl := x5 e
              exact ⟨row, ab, (g2.same s5).same (au.new ht), by rw [hbl, ← hrl, Ad]⟩
          · by_cases hm : m < rows.length
            · rw [yN hm] at e
              exact hpm m rw e
            · have em : m=rows.length := by
                have := (xV.mp e).1
                rw [xX] at this
                have : m < rows.length+1 := this
                omega
              subst em
              rw [Ad] at e
              rw [← x5 e, hrl]
              exact g3
      · rintro ys σ H5 L5 ⟨v, bs, rows, rfl, rfl, hbl, hrl, hb, hpm, s5⟩ hL
        rw [fu] at hbl hrl
        have s6 := s5.then (o := .lst (bs.map V.ref)) hL
        have s56 : au H5 (upd H5 L5 (.lst (bs.map V.ref))) := au.new hL
        have g6 : (upd H5 L5 (.lst (bs.map V.ref))) L5=some (.lst (bs.map V.ref)) := ab
        generalize upd H5 L5 (.lst (bs.map V.ref))=H6 at s6 s56 g6 ⊢
        refine ⟨L5, _, rfl, .inl ⟨SqL.of g6, fun r hr => ?_⟩⟩
        refine k r rows _ ((F4.same s6).new hr) (sb4.trans (s6.then hr).b) ⟨⟨bs, ab, by omega, fun m b e => ?_⟩, by omega, hpm⟩
        obtain ⟨row', h1, h2, h3⟩ := hb m b e
        have s7 := s56.then (o := .tup (bs.map V.ref)) hr
        exact ⟨row', s7 _ _ h1, h2.same s7, h3⟩
end
end Kx
namespace Kx
open PySem PySem.Spec PyProof.Rows L2 Wd
section
variable {P : Program} {w : World} {K : PySem.W.Frag} {mg : Str → Option Value} {base : Heap} {aB : Addr}
def nxZ (W : List (List L))(p : Int × Int) : Int × Int := (p.1, (p.2+1) % ((W.getD p.1.toNat []).length : Int))
inductive wA (vs : List V)(H : Hp)(Q : VK)(u3_ : XK) : Prop
  | mk : ∀ (a p : Addr) (n : Nat) (W : List (List L)) (i j s : Int), (vs=[.ref a, .ref p, .int s]) → (Wy4 n W H a) → (H p=some (.tup [.int i, .int j])) → (okS W (i, j)=true) → (∀ t, H t=none → Q (.ref t) (upd H t (.tup [.int i, .int ((j+s) % ((W.getD i.toNat []).length : Int))]))) → wA vs H Q u3_
inductive eV (vs : List V)(H : Hp)(Q : VK)(u3_ : XK) : Prop
  | mk : ∀ (a p : Addr) (n : Nat) (W : List (List L)) (i j : Int), (vs=[.ref a, .ref p]) → (Wy4 n W H a) → (H p=some (.tup [.int i, .int j])) → (okS W (i, j)=true) → (∀ t, H t=none → Q (.ref t) (upd H t (.tup [.int (nxZ W (i, j)).1, .int (nxZ W (i, j)).2]))) → eV vs H Q u3_
def rowZ (rows : List (List (Int × Int)))(x : L) : List (Int × Int) := if x.val < 6 then rows.getD (x.val % 6) [] else (rows.getD (x.val % 6) []).reverse
inductive jc (vs : List V)(H : Hp)(Q : VK)(u3_ : XK) : Prop
  | mk : ∀ (r : Addr) (n : Nat) (W : List (List L)) (rows : List (List (Int × Int))) (x : L), (vs=[.ref r, tx [x]]) → (Dw n W H r rows) → (x.val % 6 < n) → (∀ (b : Addr) (row : List (Addr × Int × Int)) (H' : Hp), au H H' → H' b=some (.tup ((row.map (·.1)).map V.ref)) → StA H' row → row.map (·.2)=rowZ rows x → Q (.ref b) H') → jc vs H Q u3_
theorem Dw.same {n : Nat}{W : List (List L)}{H H' : Hp}{r : Addr}{rows : List (List (Int × Int))}(h : Dw n W H r rows)(s : au H H') : Dw n W H' r rows := by
  obtain ⟨⟨bs, h1, h2, h3⟩, h4, h5⟩ := h
  exact ⟨⟨bs, s _ _ h1, h2, fun i b e => let ⟨row, g1, g2, g3⟩ := h3 i b e;⟨row, s _ _ g1, g2.same s, g3⟩⟩, h4, h5⟩
abbrev wB : Stmt := top 9
theorem wC : aC ["ways", "strand", "step"] ["ways", "strand", "step"] (aq wB) := ⟨rfl, rfl, rfl, by decide +kernel, rfl, by decide +kernel, by decide +kernel⟩
theorem xO (D : Df K mg "strand_on" wB)(T : Bt K w mg aB) : Fnc P w K mg base "strand_on" ["ways", "strand", "step"] 1 wA := by
  have sc := wC
  refine D.ok sc (fun _ _ _ _ _ _ us hl => by obtain ⟨_, _, _, rfl⟩ := sU hl;rfl) (fun vs H Q E h => ?_) (fun f cdv A outer s H vs Q E hr h => ?_)
  · obtain ⟨a, p, n, W, i, j, s, rfl, _⟩ := h
    rfl
  · obtain ⟨a, p, n, W, i, j, s, rfl, hW, hp, ok, k⟩ := h
    have l16 := aO
    unfold okS at ok
    simp only [yi, yw] at ok
    obtain ⟨⟨o1, o2⟩, o3, o4⟩ := ok
    have hl := gh hW i.toNat
    refine ⟨_, (@ao _ _ _ (@aH _ _ _ _ (@cw _ _ _ _ _ (@aa _ _ _ _ _ (@aI _ _ _ _ _ _ _ aY (pv 1) ai (fun _ _ => rfl)) (@aa _ _ _ _ _ (@aF _ _ _ _ _ _ _ _ d_ (@aF _ _ _ _ _ _ _ _ bK (@aI _ _ _ _ _ _ _ aY (pv 1) ai (fun _ _ => rfl)) (pv 2)) (@ay _ _ _ _ _ _ _ _ _ aD (by rfl) T.len yu (@aa _ _ _ _ _ (@aI _ _ _ _ _ _ _ aY (pv 0) (@aI _ _ _ _ _ _ _ aY (pv 1) ai (fun _ _ => rfl)) (fun _ _ => rfl)) ag (by rfl)) (by decide) (by decide) (by rfl) (by rfl))) ag (by rfl)) (by rfl))))), ?_⟩
    refine ⟨_, rfl, p, _, _, _, rfl, rfl, SqT.of hp, rfl, _, rfl, p, _, _, _, rfl, rfl, SqT.of hp, rfl, _, rfl, _, _, rfl, rfl, _, rfl, _, rfl, p, _, _, _, rfl, rfl, SqT.of hp, rfl, a, _, _, _, rfl, rfl, SqT.of hW.at_, gf o1 o2, _, rfl, (by rw [af];omega), _, _, rfl, rfl, (by rw [af];omega), (a9 (n := 2) (by decide)), fun t ht => ?_⟩
    rw [af]
    exact k t ht
abbrev gk : Stmt := top 8
theorem mX : aC ["ways", "strand"] ["ways", "strand"] (aq gk) := ⟨rfl, rfl, rfl, by decide +kernel, rfl, by decide +kernel, by decide +kernel⟩
theorem pk (D : Df K mg "strand_behind" gk)(T : Bt K w mg aB)(F_on : Fnc P w K mg base "strand_on" ["ways", "strand", "step"] 1 wA) : Fnc P w K mg base "strand_behind" ["ways", "strand"] 2 eV := by
  have sc := mX
  refine D.ok sc (fun _ _ _ _ _ _ us hl => by obtain ⟨_, _, rfl⟩ := kE hl;rfl) (fun vs H Q E h => ?_) (fun f cdv A outer s H vs Q E hr h => ?_)
  · obtain ⟨a, p, n, W, i, j, rfl, _⟩ := h
    rfl
  · obtain ⟨a, p, n, W, i, j, rfl, hW, hp, ok, k⟩ := h
    refine ⟨_, (@ao _ _ _ (@aH _ _ _ _ (@aG _ _ _ _ _ _ _ _ _ _ _ F_on hr (by decide) rfl (@aa _ _ _ _ _ (pv 0) (@aa _ _ _ _ _ (pv 1) (@aa _ _ _ _ _ ai ag (by rfl)) (by rfl)) (by rfl)) (by decide) (by rfl) (by rfl)))), ?_⟩
    exact ⟨_, rfl, _, rfl, a, p, n, W, i, j, 1, rfl, hW, hp, ok, k⟩
abbrev jd : Stmt := top 14
theorem pq : aC ["drawing", "end", "order"] ["drawing", "end"] (aq jd) := ⟨rfl, rfl, rfl, by decide +kernel, rfl, by decide +kernel, by decide +kernel⟩
theorem r6 (D : Df K mg "met_at" jd)(T : Bt K w mg aB)(F_num : Fnc P w K mg base "number_of" ["letter"] 1 lS) : Fnc P w K mg base "met_at" ["drawing", "end"] 2 jc := by
  have sc := pq
  refine D.ok sc (fun _ _ _ _ _ _ us hl => by obtain ⟨_, _, rfl⟩ := kE hl;rfl) (fun vs H Q E h => ?_) (fun f cdv A outer s H vs Q E hr h => ?_)
  · obtain ⟨r, n, W, rows, x, rfl, _⟩ := h
    rfl
  · obtain ⟨r, n, W, rows, x, rfl, dw, hx, k⟩ := h
    have l16 := aO
    obtain ⟨bs, h1, h2, h3⟩ := dw.ex
    obtain ⟨b, hb⟩ : ∃ b, bs[x.val % 6]? = some b := ⟨_, xS (by omega)⟩
    obtain ⟨row, g1, g2, g3⟩ := h3 _ b hb
    have er : rows.getD (x.val % 6) []=row.map (·.2) := by rw [xU, g3];rfl
    refine ⟨_, (@ae _ _ _ _ _ (@ar _ _ (2) _ _ _ _ sc.nd rfl (Or.inl rfl) (@aI _ _ _ _ _ _ _ aY (pv 0) (@aG _ _ _ _ _ _ _ _ _ _ _ F_num hr (by decide) rfl (@aa _ _ _ _ _ (pv 1) ag (by rfl)) (by decide) (by rfl) (by rfl)) (fun _ _ => rfl)) (by rfl) (by first | exact .inl rfl | exact .inr rfl | assumption)) (@ao _ _ _ (@aH _ _ _ _ (@fB _ _ _ _ _ _ _ _ (@nY _ _ _ (@eg _ _ _ _ _ _ _ _ _ yh PySem.F.slot_str_islower PySem.F.type_str_islower km (pv 1) (by rfl) (by rfl)) (fun _ => rfl)) (pv 2) (@rz _ _ _ _ _ _ _ (pv 2) (@kT _ _ _ _ _ _ gH ai)))))), ?_⟩
    refine ⟨_, rfl, _, rfl, x, rfl, r, _, _, _, rfl, rfl, SqT.of h1, bW (v := .ref b) (by rw [xY, hb];rfl), ?_⟩
    refine ⟨_, rfl, rfl, _, rfl, rfl, _, rfl, ?_⟩
    rw [md]
    by_cases c : x.val < 6
    · rw [yJ c]
      refine sQ ⟨_, rfl, k b row H (au.refl _) g1 g2 ?_⟩
      unfold rowZ
      rw [if_pos c, er]
    · rw [yy c]
      refine nO ⟨_, rfl, _, rfl, b, _, rfl, rfl, g1, fun t ht => ?_⟩
      refine k t row.reverse _ (au.new ht) (by rw [ab, A2, A2]) (fun z hz => au.new ht _ _ (g2 z (Aj.mp hz))) ?_
      unfold rowZ
      rw [if_neg c, er, A2]
end
end Kx
namespace Kx
open PySem PySem.Spec PyProof.Rows L2 Wd
section
variable {P : Program} {w : World} {K : PySem.W.Frag} {mg : Str → Option Value} {base : Heap} {aB : Addr}
abbrev Pt := Addr × L × Addr × Int × Int
def PtA (H : Hp)(zs : List Pt) : Prop := ∀ z∈zs, H z.1=some (.tup [tx [z.2.1], .ref z.2.2.1]) ∧ H z.2.2.1=some (.tup [.int z.2.2.2.1, .int z.2.2.2.2])
theorem PtA.to {H H' : Hp}{zs : List Pt}(h : PtA H zs)(k : ∀ a xs, H a=some (.tup xs) → H' a=some (.tup xs)) : PtA H' zs := fun z hz => ⟨k _ _ (h z hz).1, k _ _ (h z hz).2⟩
theorem PtA.app {H : Hp}{zs ys : List Pt}(h : PtA H zs)(g : PtA H ys) : PtA H (zs++ys) := fun z hz => (yn.mp hz).elim (h z) (g z)
def ptZ (z : Pt) : L × (Int × Int) := (z.2.1, z.2.2.2)
def az (rows : List (List (Int × Int)))(u : List L) : List (L × (Int × Int)) := u.flatMap fun x => (rowZ rows x).map fun p => (x, p)
inductive r9 (vs : List V)(H : Hp)(Q : VK)(u3_ : XK) : Prop
  | mk : ∀ (u : List L) (a r : Addr) (n : Nat) (W : List (List L)) (rows : List (List (Int × Int))), (vs=[tx u, .ref a, .ref r]) → (SK u n) → (Wy4 n W H a) → (Dw n W H r rows) → (∀ (l : Addr) (zs : List Pt) (H' : Hp), H l=none → au H H' → H' l=some (.lst ((zs.map (·.1)).map V.ref)) → PtA H' zs → zs.map ptZ=az rows u → Q (.ref l) H') → r9 vs H Q u3_
theorem mY {n : Nat}{W : List (List L)}{H H' : Hp}{a r : Addr}{rows : List (List (Int × Int))}(hW : Wy4 n W H a)(dw : Dw n W H' r rows)(x : L) : (rowZ rows x).length≤60 := by
  have g : (rows.getD (x.val % 6) []).length≤60 := by
    rw [xU]
    cases e : rows[x.val % 6]? with
    | none => exact yQ _
    | some row =>
      show row.length≤60
      rw [(dw.pm _ _ e).length_eq]
      refine yI (zr _ _) ?_
      have := cu (fun w hw => (hW.ws w hw).2.1) W.length
      have hle := hW.le
      have : (bA W).length≤15*W.length := this
      omega
  unfold rowZ
  split
  · exact g
  · rw [zW];exact g
abbrev r_ : Stmt := top 13
theorem uP : aC ["surface", "ways", "drawing", "told", "end"] ["surface", "ways", "drawing"] (aq r_) := ⟨rfl, rfl, rfl, by decide +kernel, rfl, by decide +kernel, by decide +kernel⟩
theorem wD (D : Df K mg "points" r_)(T : Bt K w mg aB)(F_metat : Fnc P w K mg base "met_at" ["drawing", "end"] 2 jc) : Fnc P w K mg base "points" ["surface", "ways", "drawing"] 3 r9 := by
  have sc := uP
  refine D.ok sc (fun _ _ _ _ _ _ us hl => by obtain ⟨_, _, _, rfl⟩ := sU hl;rfl) (fun vs H Q E h => ?_) (fun f cdv A outer s H vs Q E hr h => ?_)
  · obtain ⟨u, a, r, n, W, rows, rfl, _⟩ := h
    rfl
  · obtain ⟨u, a, r, n, W, rows, rfl, U, hW, dw, k⟩ := h
    have l16 := aO
    have hul := U.len
    have h6 := U.hi
    refine ⟨_, (@ae _ _ _ _ _ (@ar _ _ (3) _ _ _ _ sc.nd rfl (Or.inl rfl) (@bM _ _ _ _ ag) (by rfl) (by first | exact .inl rfl | exact .inr rfl | assumption)) (@ae _ _ _ _ _ (@bj _ _ _ _ _ _ _ _ yr rfl (@eE _ _ _ _ (pv 0)) (@av _ _ (4) _ sc.nd rfl (Or.inr rfl) (by first | exact .inl rfl | exact .inr rfl | assumption)) (@ao _ _ _ (@bu _ _ _ _ (@bD _ _ _ _ _ _ _ _ _ _ _ _ yt Am An eA (pv 3) (@aa _ _ _ _ _ (@bz _ _ _ _ _ _ _ (["strand", "end"]) (["strand"]) ([4]) _ _ _ _ (@bP _ _ _ _ _ _ rfl (by kernel_rfl)) rfl (@jr _ _ _ _ (@aG _ _ _ _ _ _ _ _ _ _ _ F_metat hr (by decide) rfl (@aa _ _ _ _ _ (pv 2) (@aa _ _ _ _ _ (pv 4) ag (by rfl)) (by rfl)) (by decide) (by rfl) (by rfl))) (fun _ _ _ _ => @av _ _ (0) _ (show (["strand", "end"] : List Str).Nodup from by decide +kernel) rfl (Or.inl rfl) (by first | exact .inl rfl | exact .inr rfl | assumption)) (fun _ _ _ _ => aR) (fun _ _ _ _ => by (exact (@cw _ _ _ _ _ (@aa _ _ _ _ _ (pv 1) (@aa _ _ _ _ _ (pv 0) ag (by rfl)) (by rfl))))) (by intro _ ;rfl)) ag (by rfl)) (by rfl) (by rfl) (by rfl) (by rfl) (by rfl)) (by rfl))) (by intro _ ;rfl)) (@ao _ _ _ (@aH _ _ _ _ (pv 3))))), ?_⟩
    refine ⟨(by show 0≤sizeLine;decide), fun l hl => ?_⟩
    have s1 : au H (upd H l (.lst [])) := au.new hl
    have f1 : (upd H l (.lst [])) l=some (.lst ((([] : List Pt).map (·.1)).map V.ref)) := ab
    generalize upd H l (.lst [])=H1 at s1 f1 ⊢
    refine ⟨_, rfl, _, rfl, eF (z := toS u) (fun i σ H' => ∃ (v4 : Option V) (zs : List Pt), σ = [some (tx u), some (.ref a), some (.ref r), some (.ref l), v4] ∧ H' l=some (.lst ((zs.map (·.1)).map V.ref)) ∧ PtA H' zs ∧ zs.length≤60*i ∧ zs.map ptZ=az rows (u.take i) ∧ au H H') ⟨none, [], rfl, f1, (fun z hz => by cases hz), xT _, rfl, s1⟩ ?_ ?_⟩
    · rintro i cc σ H2 hc ⟨v4, zs, rfl, f2, hz, zl, ez, s2⟩
      obtain ⟨x, hx, ex⟩ := cC hc
      rw [ex]
      have hi : i < u.length := (xV.mp hx).1
      have hxn : x.val % 6 < n := (U.mem x).mp (x_ hx)
      refine ⟨_, rfl, .inl ⟨rfl, _, SqL.of f2⟩, _, rfl, _, rfl, r, n, W, rows, x, rfl, dw.same s2, hxn, fun b row H3 s3 hb st er => ⟨b, rfl, ⟨_, SqT.of hb⟩, ?_⟩⟩
      have rl : row.length≤60 := by
        have := mY hW dw x
        rw [← er, fu] at this
        exact this
      refine fU (xs := (row.map (·.1)).map V.ref) (own := ["strand"]) (cap := [4]) (fun j ys σ H' => ∃ (v : Option V) (ps : List Pt), σ = [v, some (tx [x])] ∧ ys=(ps.map (·.1)).map V.ref ∧ ps.length=j ∧ PtA H' ps ∧ ps.map ptZ=(row.take j).map (fun z => (x, z.2)) ∧ au H3 H') ⟨none, [], rfl, rfl, rfl, (fun z hz => by cases hz), rfl, au.refl _⟩ (fun j ys σ H' hj ⟨_, ps, _, e, e2, _⟩ => by rw [e, fu, fu];omega) (by rw [fu, fu];omega) (fun j ys σ H' ⟨_, _, _, _, _, _, _, q⟩ => SqT.of (q _ _ hb)) ?_ ?_
      · rintro j ys σ H4 y N hy ⟨v, ps, rfl, rfl, pl, hp, ep, s4⟩ hN
        rw [xY, xY] at hy
        cases hzj : row[j]? with
        | none => rw [hzj] at hy;cases hy
        | some z =>
          rw [hzj] at hy
          obtain rfl := x5 hy
          have hm := x_ hzj
          refine ⟨_, rfl, _, rfl, (a9 (n := 2) (by decide)), fun t ht => hN _ _ _ ⟨_, ps++[(t, x, z.1, z.2)], rfl, by rw [xZ, xZ];rfl, by rw [xX, pl];rfl, ?_, ?_, s4.then ht⟩⟩
          · refine (hp.to fun c xs e => au.new ht _ _ e).app fun y hy => ?_
            rw [x4.mp hy]
            exact ⟨ab, au.new ht _ _ (s4 _ _ (st z hm))⟩
          · rw [xZ, ep, AI, hzj, Option.toList_some, xZ]
            rfl
      · rintro ys σ H4 q ⟨v, ps, rfl, rfl, pl, hp, ep, s4⟩ hq
        rw [fu, fu] at pl ep
        rw [yL] at ep
        have s5 : au H4 (upd H4 q (.lst ((ps.map (·.1)).map V.ref))) := au.new hq
        have g5 : (upd H4 q (.lst ((ps.map (·.1)).map V.ref))) q=some (.lst ((ps.map (·.1)).map V.ref)) := ab
        generalize upd H4 q (.lst ((ps.map (·.1)).map V.ref))=H5 at s5 g5 ⊢
        have s25 := s3.trans (s4.trans s5)
        have f5 := s25 _ _ f2
        refine ⟨l, q, _, _, rfl, rfl, f5, g5, by rw [fu, fu, fu, fu];omega, ?_⟩
        have keepT : ∀ (zz : List V) b xs, H5 b=some (.tup xs) → (upd H5 l (.lst zz)) b=some (.tup xs) := fun zz b xs e => by
          rw [ak (cM e f5 (by intro z;cases z))];exact e
        refine ⟨_, zs++ps, rfl, by rw [ab, xZ, xZ], ?_, by rw [xX];omega, ?_, fun b o e => ?_⟩
        · exact ((hz.to fun c xs e => s25 _ _ e).app (hp.to fun c xs e => s5 _ _ e)).to (keepT _)
        · rw [xZ, ez, ep, cG hx]
          unfold az
          rw [zU, zi, BW, zA, ← er, yR]
          rfl
        · rw [ak (ah e hl)];exact s25 _ _ (s2 _ _ e)
    · rintro σ H2 ⟨v4, zs, rfl, f2, hz, zl, ez, s2⟩
      rw [a_, yL] at ez
      exact ⟨_, rfl, k l zs _ hl s2 f2 hz ez⟩
end
end Kx
namespace Kx
open PySem PySem.Spec PyProof.Rows L2 Wd
section
variable {P : Program} {w : World} {K : PySem.W.Frag} {mg : Str → Option Value} {base : Heap} {aB : Addr}
abbrev se : Stmt := top 11
theorem uQ : aC ["surface"] ["surface"] (aq se) := ⟨rfl, rfl, rfl, by decide +kernel, rfl, by decide +kernel, by decide +kernel⟩
theorem wF (D : Df K mg "letters_of" se)(T : Bt K w mg aB)(S : ∃ t, mg "SMALL" = some (.str "abcdef" t)) : Fnc P w K mg base "letters_of" ["surface"] 1 mN := by
  have sc := uQ
  refine D.ok sc (fun _ _ _ _ _ _ us hl => by obtain ⟨_, rfl⟩ := nP hl;rfl) (fun vs H Q E h => ?_) (fun f cdv A outer s H vs Q E hr h => ?_)
  · obtain ⟨z, k, rfl, _⟩ := h
    rfl
  · obtain ⟨z, k, rfl, hl, h1, h6, q⟩ := h
    obtain ⟨tS, mgS⟩ := S
    have l16 := aO
    refine ⟨_, (@ao _ _ _ (@aH _ _ _ _ (@aM _ _ _ _ _ _ _ _ _ _ bU (@kM _ _ (.str "abcdef") _ _ rfl mgS ⟨_, rfl⟩ (by decide)) bh (@aX _ _ _ (@aF _ _ _ _ _ _ _ _ bV (@ay _ _ _ _ _ _ _ _ _ aD (by rfl) T.len yu (@aa _ _ _ _ _ (pv 0) ag (by rfl)) (by decide) (by decide) (by rfl) (by rfl)) ai))))), ?_⟩
    refine ⟨_, rfl, _, rfl, (by omega), _, _, rfl, rfl, ⟨by decide, by decide⟩, _, rfl, _, rfl, (by rw [jC];omega), ?_⟩
    have e : (z.length : Int) / 2=(k : Int) := by omega
    rw [e, mK (by omega)]
    exact q
end
end Kx
namespace Kx
open PySem PySem.Spec PyProof.Rows L2 Wd
def ltZ (W : List (List L))(p : Int × Int) : L := (W.getD p.1.toNat []).getD p.2.toNat 0
def iF (z : L × (Int × Int)) : Str × List Int := (toS [z.1], [z.2.1, z.2.2])
theorem jR {y z : L × (Int × Int)}(h : iF y=iF z) : y=z := by
  obtain ⟨a, b, c⟩ := y
  obtain ⟨a', b', c'⟩ := z
  have h1 : toS [a]=toS [a'] := yB Prod.fst h
  have h2 : [b, c]=[b', c'] := yB Prod.snd h
  have h1 := eI h1
  cases h1
  cases h2
  rfl
theorem je (z : L × (Int × Int)) : PyData.strOk (iF z).1=true := by
  have q : ∀ x : L, PyData.strOk (toS [x])=true := by decide +kernel
  exact q z.1
def cdZ (pts : List (L × (Int × Int)))(W : List (List L))(p : Int × Int) : Nat × Nat := (pts.idxOf (inv (ltZ W p), p), pts.idxOf (ltZ W (nxZ W p), nxZ W p))
theorem si {n : Nat}{W : List (List L)}{H : Hp}{r : Addr}{rows : List (List (Int × Int))}(dw : Dw n W H r rows)(x : L) : (rowZ rows x).Nodup := by
  have g : (rows.getD (x.val % 6) []).Nodup := by
    rw [xU]
    cases e : rows[x.val % 6]? with
    | none => exact zY
    | some row => exact (dw.pm _ _ e).nodup_iff.mpr (fY (oR W _))
  unfold rowZ
  split
  · exact g
  · exact (List.reverse_perm _).nodup_iff.mpr g
theorem pw {n : Nat}{W : List (List L)}{H : Hp}{r : Addr}{rows : List (List (Int × Int))}(dw : Dw n W H r rows){x : L}(hx : x.val % 6 < n){p : Int × Int}(ok : okS W p=true)(h : ltS W p=x.val % 6) : p∈rowZ rows x := by
  have hl : x.val % 6 < rows.length := by rw [dw.len];exact hx
  have e : rows[x.val % 6]? = some rows[x.val % 6] := xS hl
  have m : p∈rows[x.val % 6] := by
    rw [(dw.pm _ _ e).mem_iff]
    unfold rA
    rw [z6]
    exact ⟨bI.mpr ok, by simpa using h⟩
  unfold rowZ
  rw [xU, e, BU]
  split
  · exact m
  · exact Aj.mpr m
theorem fA {n : Nat}{W : List (List L)}{H : Hp}{r : Addr}{rows : List (List (Int × Int))}{u : List L}(U : SK u n)(dw : Dw n W H r rows) : (az rows u).Nodup := by
  have nd : u.Nodup := U.pm.nodup_iff.mpr (fm ⟨n, by have := U.hi;omega⟩).1
  unfold az List.Nodup
  rw [AS]
  refine ⟨fun x _ => ?_, zR ?_ nd⟩
  · rw [Ah]
    exact zR (fun h e => h (yB Prod.snd e)) (si dw x)
  · intro a b h y hy z hz e
    obtain ⟨_, _, rfl⟩ := yq.mp hy
    obtain ⟨_, _, rfl⟩ := yq.mp hz
    exact h (yB Prod.fst e)
theorem gm {n : Nat}{W : List (List L)}{H : Hp}{r : Addr}{rows : List (List (Int × Int))}{u : List L}(U : SK u n)(dw : Dw n W H r rows){x : L}(hx : x.val % 6 < n){p : Int × Int}(ok : okS W p=true)(h : ltS W p=x.val % 6) : (x, p)∈az rows u := by
  unfold az
  rw [y6]
  exact ⟨x, (U.mem x).mpr hx, yq.mpr ⟨p, pw dw hx ok h, rfl⟩⟩
theorem sj {W : List (List L)}{p : Int × Int}(ok : okS W p=true) : okS W (nxZ W p)=true := by
  unfold okS at ok ⊢
  unfold nxZ
  simp only [yi, yw] at ok ⊢
  obtain ⟨⟨h1, h2⟩, h3, h4⟩ := ok
  have hp : 0 < ((W.getD p.1.toNat []).length : Int) := by omega
  exact ⟨⟨h1, h2⟩, zd _ (by omega), yW _ hp⟩
theorem px {n : Nat}{W : List (List L)}{H : Hp}{r : Addr}{rows : List (List (Int × Int))}{u : List L}(U : SK u n)(dw : Dw n W H r rows)(hW : ∀ w∈W, InM n w){p : Int × Int}(ok : okS W p=true) : (inv (ltZ W p), p)∈az rows u ∧ (ltZ W (nxZ W p), nxZ W p)∈az rows u := by
  have l1 := jQ hW ok
  have l2 := jQ hW (sj ok)
  exact ⟨gm U dw (by rw [cV];exact l1) ok (by rw [cV];rfl), gm U dw l2 (sj ok) rfl⟩
def esZ : Nat → List Pt → List NE
  | _, [] => []
  | k, z::r => (iF (ptZ z), z.1, (k : Int))::esZ (k+1) r
theorem qw : ∀ (k : Nat) (zs : List Pt), (esZ k zs).length=zs.length
  | _, [] => rfl
  | k, z::r => by show (esZ (k+1) r).length+1=_;rw [qw];rfl
theorem qx : ∀ (k : Nat) (zs : List Pt) (z : Pt), esZ k (zs++[z])=esZ k zs++[(iF (ptZ z), z.1, ((k+zs.length : Nat) : Int))]
  | _, [], _ => rfl
  | k, y::r, z => by
    show _::esZ (k+1) (r++[z])=_
    rw [qx (k+1) r z]
    show _=_::(esZ (k+1) r++_)
    rw [show k+1+r.length=k+(y::r).length by rw [yF];omega]
theorem mZ : ∀ (k : Nat) (zs : List Pt), (esZ k zs).map (·.1)=(zs.map ptZ).map iF
  | _, [] => rfl
  | k, z::r => by show iF (ptZ z)::(esZ (k+1) r).map (·.1)=_;rw [mZ];rfl
theorem m3 : ∀ (k : Nat) (zs : List Pt) {q : L × (Int × Int)}, q∈zs.map ptZ → rD (esZ k zs) (iF q)=some ((k+(zs.map ptZ).idxOf q : Nat) : Int)
  | _, [], q, h => by cases h
  | k, z::r, q, h => by
    rw [yk] at h ⊢
    unfold rD
    show ((((iF (ptZ z), z.1, (k : Int)) : NE)::esZ (k+1) r).find? _).map _=_
    by_cases c : ptZ z=q
    · rw [AD (by simpa using yB iF c), c, List.idxOf_cons_self]
      rfl
    · have hq : q∈r.map ptZ := by
        rcases ye.mp h with h | h
        · exact absurd h.symm c
        · exact h
      have ih := m3 (k+1) r hq
      unfold rD at ih
      rw [AE (by simpa using fun e => c (jR e)), ih, Bk, show (ptZ z == q)=false from zf.mpr c]
      show some (((k+1+_ : Nat) : Int))=some (((k+(_+1) : Nat) : Int))
      congr 2
      omega
theorem uR {zs : List Pt}{z : Pt}(h : ptZ z∉zs.map ptZ) : oT (esZ 0 zs) (iF (ptZ z)) z.1 (zs.length : Int)=esZ 0 (zs++[z]) := by
  unfold oT
  rw [qx, Ab, if_neg]
  rw [mZ]
  intro q
  obtain ⟨y, hy, e⟩ := yq.mp q
  exact h (jR e ▸ hy)
theorem qy : ∀ (k : Nat) (zs : List Pt) {x : NE}, x∈esZ k zs → ∃ z∈zs, x.1=iF (ptZ z) ∧ x.2.1=z.1
  | _, [], _, h => by cases h
  | k, z::r, x, h => by
    rcases ye.mp h with h | h
    · exact ⟨z, yb, by rw [h], by rw [h]⟩
    · obtain ⟨y, hy, e⟩ := qy (k+1) r h
      exact ⟨y, x3 _ hy, e⟩
theorem qz {H : Hp}{z : Pt}(h : H z.1=some (.tup [tx [z.2.1], .ref z.2.2.1]) ∧ H z.2.2.1=some (.tup [.int z.2.2.2.1, .int z.2.2.2.2])) : kD H (iF (ptZ z)) z.1 := ⟨⟨z.2.2.1, h.1, h.2⟩, je _⟩
theorem sk {H : Hp}{zs : List Pt}(h : PtA H zs) : ∀ x∈esZ 0 zs, kD H x.1 x.2.1 := fun x hx => by
  obtain ⟨z, hz, e1, e2⟩ := qy 0 zs hx
  rw [e1, e2]
  exact qz (h z hz)
def keyT (p : Int × Int) : List Key := [.inl p.1, .inl p.2]
theorem gq {p q : Int × Int}(h : keyT p=keyT q) : p=q := by
  obtain ⟨a, b⟩ := p
  obtain ⟨c, d⟩ := q
  cases h
  rfl
structure CdA (H : Hp) (pts : List (L × (Int × Int))) (W : List (List L)) (ps : List (Int × Int)) (kvs : List (List Key × V)) : Prop where
  ks : kvs.map (·.1)=ps.map keyT
  vl : ∀ p∈ps, ∃ b, cy kvs (keyT p)=some (.ref b) ∧ H b=some (.tup [.int ((cdZ pts W p).1 : Int), .int ((cdZ pts W p).2 : Int)])
theorem CdA.to {H H' : Hp}{pts : List (L × (Int × Int))}{W : List (List L)}{ps : List (Int × Int)}{kvs : List (List Key × V)}(h : CdA H pts W ps kvs)(k : ∀ a xs, H a=some (.tup xs) → H' a=some (.tup xs)) : CdA H' pts W ps kvs := ⟨h.ks, fun p hp => let ⟨b, h1, h2⟩ := h.vl p hp; ⟨b, h1, k _ _ h2⟩⟩
theorem pz {kvs : List (List Key × V)}{ps : List (Int × Int)}(h : kvs.map (·.1)=ps.map keyT){p : Int × Int}(hp : p∉ps) : cy kvs (keyT p)=none := by
  unfold cy
  rw [Option.map_eq_none_iff, List.find?_eq_none]
  intro x hx e
  have e : x.1=keyT p := by simpa using e
  have : keyT p∈ps.map keyT := by rw [← h, ← e];exact yq.mpr ⟨x, hx, rfl⟩
  obtain ⟨q, hq, e2⟩ := yq.mp this
  exact hp (gq e2 ▸ hq)
theorem CdA.put {H H' : Hp}{pts : List (L × (Int × Int))}{W : List (List L)}{ps : List (Int × Int)}{kvs : List (List Key × V)}{p : Int × Int}{b : Addr}(h : CdA H pts W ps kvs)(hp : p∉ps)(k : ∀ a xs, H a=some (.tup xs) → H' a=some (.tup xs))(hb : H' b=some (.tup [.int ((cdZ pts W p).1 : Int), .int ((cdZ pts W p).2 : Int)])) : CdA H' pts W (ps++[p]) (bS kvs (keyT p) (.ref b)) := by
  refine ⟨by rw [og _ (pz h.ks hp), xZ, xZ, h.ks];rfl, fun q hq => ?_⟩
  rw [cm]
  by_cases e : q=p
  · subst e
    rw [if_pos rfl]
    exact ⟨b, rfl, hb⟩
  · rw [if_neg fun z => e (gq z)]
    rcases yn.mp hq with hq | hq
    · obtain ⟨c, h1, h2⟩ := h.vl q hq
      exact ⟨c, h1, k _ _ h2⟩
    · exact absurd (x4.mp hq) e
theorem jS {α : Type}{l : List α}(nd : l.Nodup){j : Nat}{p : α}(h : l[j]? = some p) : p∉l.take j := by
  intro m
  obtain ⟨hl, e⟩ := xV.mp h
  have nd' := nd
  rw [← za j l, BK] at nd'
  exact nd'.2.2 p m p (by rw [zL hl, e];exact yb) rfl
theorem m4 (rows : List (List (Int × Int)))(h : ∀ x, (rowZ rows x).length≤60) : ∀ u : List L, (az rows u).length≤60*u.length
  | [] => yQ _
  | x::r => by
    have ih := m4 rows h r
    unfold az at ih ⊢
    rw [zi, xX, fu, yF]
    have := h x
    omega
theorem bc {α : Type}{l : List α}{i : Nat}{x : α}(h : l[i]? = some x) : l.take (i+1)=l.take i++[x] := by
  rw [AI, h]
  rfl
section
variable {P : Program} {w : World} {K : PySem.W.Frag} {mg : Str → Option Value} {base : Heap} {aB : Addr}
inductive gr (vs : List V)(H : Hp)(Q : VK)(u3_ : XK) : Prop
  | mk : ∀ (u : List L) (a r : Addr) (n : Nat) (W : List (List L)) (rows : List (List (Int × Int))), (vs=[tx u, .ref a, .ref r]) → (SK u n) → (Wy4 n W H a) → (Dw n W H r rows) → (∀ (d : Addr) (kvs : List (List Key × V)) (H' : Hp), H d=none → au H H' → H' d=some (.dT kvs) → CdA H' (az rows u) W (bA W) kvs → Q (.ref d) H') → gr vs H Q u3_
abbrev gs : Stmt := top 15
theorem m5 : aC ["surface", "ways", "drawing", "numbers", "number", "point", "found", "strand", "onward", "start"] ["surface", "ways", "drawing"] (aq gs) := ⟨rfl, rfl, rfl, by decide +kernel, rfl, by decide +kernel, by decide +kernel⟩
theorem pA (D : Df K mg "chords" gs)(T : Bt K w mg aB)(Te : mg "enumerate" = none)(F_back : Fnc P w K mg base "back" ["word"] 1 oE)(F_lof : Fnc P w K mg base "letter_of" ["ways", "strand"] 1 rB)(F_behind : Fnc P w K mg base "strand_behind" ["ways", "strand"] 2 eV)(F_pts : Fnc P w K mg base "points" ["surface", "ways", "drawing"] 3 r9)(F_str : Fnc P w K mg base "strands_of" ["ways"] 1 mi) : Fnc P w K mg base "chords" ["surface", "ways", "drawing"] 4 gr := by
  have sc := m5
  refine D.ok sc (fun _ _ _ _ _ _ us hl => by obtain ⟨_, _, _, rfl⟩ := sU hl;rfl) (fun vs H Q E h => ?_) (fun f cdv A outer s H vs Q E hr h => ?_)
  · obtain ⟨u, a, r, n, W, rows, rfl, _⟩ := h
    rfl
  · obtain ⟨u, a, r, n, W, rows, rfl, U, hW, dw, k⟩ := h
    have l16 := aO
    have hu := iU hr
    have iw : ∀ w∈W, InM n w := fun w hw => (hW.ws w hw).2.2
    refine ⟨_, (@ae _ _ _ _ _ (@ar _ _ (3) _ _ _ _ sc.nd rfl (Or.inl rfl) (oW (P := P) (w := w) rfl rfl) (by rfl) (by first | exact .inl rfl | exact .inr rfl | assumption)) (@ae _ _ _ _ _ (@bj _ _ _ _ _ _ _ _ yr rfl (@uo _ _ rfl _ _ _ _ _ _ _ rfl Te qq (@aa _ _ _ _ _ (@aG _ _ _ _ _ _ _ _ _ _ _ F_pts hr (by decide) rfl (@aa _ _ _ _ _ (pv 0) (@aa _ _ _ _ _ (pv 1) (@aa _ _ _ _ _ (pv 2) ag (by rfl)) (by rfl)) (by rfl)) (by decide) (by rfl) (by rfl)) ag (by rfl)) (by rfl)) (@gG _ _ _ _ _ _ rfl (@bB _ _ _ _ _ (@av _ _ (4) _ sc.nd rfl (Or.inl rfl) (by first | exact .inl rfl | exact .inr rfl | assumption)) (@bB _ _ _ _ _ (@av _ _ (5) _ sc.nd rfl (Or.inl rfl) (by first | exact .inl rfl | exact .inr rfl | assumption)) dZ (by rfl)) (by rfl)) (by rfl) (by rfl)) (@ao _ _ _ (oX (P := P) (w := w) rfl rfl (lt9 hr.units) (pv 3) (pv 5) (pv 4) rfl)) (by intro _ ;rfl)) (@ae _ _ _ _ _ (@ar _ _ (6) _ _ _ _ sc.nd rfl (Or.inl rfl) oo (by rfl) (by first | exact .inl rfl | exact .inr rfl | assumption)) (@ae _ _ _ _ _ (@bj _ _ _ _ _ _ _ _ yr rfl (@fC _ _ _ _ (@aG _ _ _ _ _ _ _ _ _ _ _ F_str hr (by decide) rfl (@aa _ _ _ _ _ (pv 1) ag (by rfl)) (by decide) (by rfl) (by rfl))) (@av _ _ (7) _ sc.nd rfl (Or.inl rfl) (by first | exact .inl rfl | exact .inr rfl | assumption)) (@ae _ _ _ _ _ (@ar _ _ (8) _ _ _ _ sc.nd rfl (Or.inl rfl) (@aG _ _ _ _ _ _ _ _ _ _ _ F_behind hr (by decide) rfl (@aa _ _ _ _ _ (pv 1) (@aa _ _ _ _ _ (pv 7) ag (by rfl)) (by rfl)) (by decide) (by rfl) (by rfl)) (by rfl) (by first | exact .inl rfl | exact .inr rfl | assumption)) (@ae _ _ _ _ _ (@ar _ _ (9) _ _ _ _ sc.nd rfl (Or.inl rfl) (@cw _ _ _ _ _ (@aa _ _ _ _ _ (@aG _ _ _ _ _ _ _ _ _ _ _ F_back hr (by decide) rfl (@aa _ _ _ _ _ (@aG _ _ _ _ _ _ _ _ _ _ _ F_lof hr (by decide) rfl (@aa _ _ _ _ _ (pv 1) (@aa _ _ _ _ _ (pv 7) ag (by rfl)) (by rfl)) (by decide) (by rfl) (by rfl)) ag (by rfl)) (by decide) (by rfl) (by rfl)) (@aa _ _ _ _ _ (pv 7) ag (by rfl)) (by rfl))) (by rfl) (by first | exact .inl rfl | exact .inr rfl | assumption)) (@ao _ _ _ (@cT _ _ _ _ _ _ _ _ _ hu (pv 6) (pv 7) (@cw _ _ _ _ _ (@aa _ _ _ _ _ (jL (P := P) (w := w) rfl rfl (lt9 hr.units) (pv 3) (pv 9) (fun _ _ => rfl)) (@aa _ _ _ _ _ (jL (P := P) (w := w) rfl rfl (lt9 hr.units) (pv 3) (@cw _ _ _ _ _ (@aa _ _ _ _ _ (@aG _ _ _ _ _ _ _ _ _ _ _ F_lof hr (by decide) rfl (@aa _ _ _ _ _ (pv 1) (@aa _ _ _ _ _ (pv 8) ag (by rfl)) (by rfl)) (by decide) (by rfl) (by rfl)) (@aa _ _ _ _ _ (pv 8) ag (by rfl)) (by rfl))) (fun _ _ => rfl)) ag (by rfl)) (by rfl))) rfl)))) (by intro _ ;rfl)) (@ao _ _ _ (@aH _ _ _ _ (pv 6))))))), ?_⟩
    refine ⟨fun nd hnd => ?_⟩
    have s1 : au H (upd H nd (Nd P w nd [])) := au.new hnd
    have f1 : (upd H nd (Nd P w nd [])) nd=some (Nd P w nd []) := ab
    generalize upd H nd (Nd P w nd [])=H1 at s1 f1 ⊢
    refine ⟨_, rfl, _, rfl, _, rfl, u, a, r, n, W, rows, rfl, U, hW.same s1, dw.same s1, fun l zs H2 hl s2 g2 hz ez => ⟨l, rfl, ⟨_, SqL.of g2⟩, ?_⟩⟩
    have nl : nd≠l := ah f1 hl
    have ndp : (zs.map ptZ).Nodup := by rw [ez];exact fA U dw
    have zl : zs.length≤720 := by
      have := m4 rows (fun x => mY hW dw x) u
      rw [← ez, fu] at this
      have := U.len
      have := U.hi
      omega
    have s02 := s1.trans s2
    refine rg (xs := (zs.map (·.1)).map V.ref) (fun i σ H' => ∃ (v4 v5 : Option V), σ = [some (tx u), some (.ref a), some (.ref r), some (.ref nd), v4, v5, none, none, none, none] ∧ H' nd=some (Nd P w nd (esZ 0 (zs.take i))) ∧ H' l=some (.lst ((zs.map (·.1)).map V.ref)) ∧ PtA H' zs ∧ Wy4 n W H' a ∧ au H H') ⟨none, none, rfl, s2 _ _ f1, g2, hz, hW.same s02, s02⟩ (fun i σ H' _ ⟨_, _, _, _, q, _⟩ => SqL.of q) ?_ ?_
    · rintro i x σ H3 t hx ⟨v4, v5, rfl, f3, g3, hz3, hW3, s3⟩ ht
      rw [xY, xY] at hx
      cases hzi : zs[i]? with
      | none => rw [hzi] at hx;cases hx
      | some z =>
        rw [hzi] at hx
        obtain rfl := x5 hx
        have hi : i < zs.length := (xV.mp hzi).1
        have hm := x_ hzi
        have s4 : au H3 (upd H3 t (.tup [.int (i : Int), .ref z.1])) := au.new ht
        have g4 : (upd H3 t (.tup [.int (i : Int), .ref z.1])) t=some (.tup [.int (i : Int), .ref z.1]) := ab
        refine ⟨t, _, rfl, SqT.of ab, rfl, _, _, rfl, _, _, rfl, rfl, ?_⟩
        generalize upd H3 t (.tup [.int (i : Int), .ref z.1])=H4 at s4 g4 ⊢
        have f4 := s4 _ _ f3
        have hz4 : PtA H4 zs := hz3.to fun b xs e => s4 _ _ e
        have tl : (zs.take i).length=i := by rw [yg];omega
        have np : ptZ z∉(zs.take i).map ptZ := by
          rw [A_]
          exact jS ndp (by rw [xY, hzi];rfl)
        have ep : oT (esZ 0 (zs.take i)) (iF (ptZ z)) z.1 (i : Int)=esZ 0 (zs.take (i+1)) := by
          have := uR np
          rw [tl] at this
          rw [this, bc hzi]
        refine ⟨_, rfl, _, rfl, _, rfl, nd, z.1, _, _, (i : Int), rfl, rfl, rfl, f4, sk (fun y hy => hz4 y (ze hy)), qz (hz4 z hm), (by rw [qw, tl];omega), ?_⟩
        rw [ep]
        have keepT : ∀ b xs, H4 b=some (.tup xs) → (upd H4 nd (Nd P w nd (esZ 0 (zs.take (i+1))))) b=some (.tup xs) := fun b xs e => by
          rw [ak (cM e f4 (by intro z;cases z))];exact e
        refine ⟨_, _, rfl, ab, ?_, hz4.to keepT, ⟨keepT _ _ (s4 _ _ hW3.at_), hW3.le, hW3.lo, hW3.ws⟩, fun b o e => ?_⟩
        · rw [ak nl.symm];exact s4 _ _ g3
        · rw [ak (ah e hnd)];exact s4 _ _ (s3 _ _ e)
    · rintro σ H3 ⟨v4, v5, rfl, f3, g3, hz3, hW3, s3⟩
      rw [fu, fu, yL] at f3
      refine fun fd hfd => ?_
      have s4 : au H3 (upd H3 fd (.dT [])) := au.new hfd
      have d4 : (upd H3 fd (.dT [])) fd=some (.dT []) := ab
      have nfd : nd≠fd := ah f3 hfd
      have hfH : H fd=none := none_of s3 hfd
      generalize upd H3 fd (.dT [])=H4 at s4 d4 ⊢
      refine ⟨_, rfl, a, n, W, rfl, hW3.same s4, fun l2 ss H5 hl2 s5 g5 hst est => ⟨l2, rfl, ⟨_, SqL.of g5⟩, ?_⟩⟩
      have s35 := s4.trans s5
      have nl2 : fd≠l2 := ah d4 hl2
      have nda : (bA W).Nodup := fY (dS W)
      have sl : ss.length≤60 := by
        have := cu (fun w hw => (hW.ws w hw).2.1) W.length
        have e : (bA W).length=(kF W W.length).length := rfl
        have hle := hW.le
        rw [← e, ← est, fu] at this
        omega
      refine jt (xs := (ss.map (·.1)).map V.ref) (fun j σ H' => ∃ (v7 v8 v9 : Option V) (kvs : List (List Key × V)), σ = [some (tx u), some (.ref a), some (.ref r), some (.ref nd), v4, v5, some (.ref fd), v7, v8, v9] ∧ H' nd=some (Nd P w nd (esZ 0 zs)) ∧ PtA H' zs ∧ H' fd=some (.dT kvs) ∧ H' l2=some (.lst ((ss.map (·.1)).map V.ref)) ∧ StA H' ss ∧ Wy4 n W H' a ∧ CdA H' (az rows u) W ((bA W).take j) kvs ∧ au H H') ⟨none, none, none, [], rfl, s35 _ _ f3, (hz3.to fun b xs e => s35 _ _ e), s5 _ _ d4, g5, hst, hW3.same s35, ⟨rfl, fun p hp => by cases hp⟩, s3.trans s35⟩ (fun j σ H' _ ⟨_, _, _, _, _, _, _, _, q, _⟩ => SqL.of q) ?_ ?_
      · rintro j x σ H6 hx ⟨v7, v8, v9, kvs, rfl, f6, hz6, d6, g6, st6, hW6, cd6, s6⟩
        rw [xY, xY] at hx
        cases hzj : ss[j]? with
        | none => rw [hzj] at hx;cases hx
        | some z =>
          rw [hzj] at hx
          obtain rfl := x5 hx
          have hm := x_ hzj
          have hj : j < ss.length := (xV.mp hzj).1
          have aj : (bA W)[j]? = some z.2 := by rw [← est, xY, hzj];rfl
          have ok : okS W z.2=true := bI.mp (x_ aj)
          have hz0 := st6 z hm
          obtain ⟨z0, p1, p2⟩ := z
          have hz0 : H6 z0=some (.tup [.int p1, .int p2]) := hz0
          have ok : okS W (p1, p2)=true := ok
          obtain ⟨in1, in2⟩ := px U dw iw ok
          have okn := sj ok
          refine ⟨_, rfl, _, rfl, a, z0, n, W, p1, p2, rfl, hW6, hz0, ok, fun t ht => ?_⟩
          have s7 : au H6 (upd H6 t (.tup [.int (nxZ W (p1, p2)).1, .int (nxZ W (p1, p2)).2])) := au.new ht
          have t7 : (upd H6 t (.tup [.int (nxZ W (p1, p2)).1, .int (nxZ W (p1, p2)).2])) t=some (.tup [.int (nxZ W (p1, p2)).1, .int (nxZ W (p1, p2)).2]) := ab
          generalize upd H6 t (.tup [.int (nxZ W (p1, p2)).1, .int (nxZ W (p1, p2)).2])=H7 at s7 t7 ⊢
          refine ⟨_, rfl, _, rfl, a, z0, n, W, p1, p2, rfl, hW6.same s7, s7 _ _ hz0, ok, [ltZ W (p1, p2)], rfl, (by show 1≤_;decide), fun H8 s8 => ⟨_, rfl, (a9 (n := 2) (by decide)), fun b ht1 => ?_⟩⟩
          have s9 : au H8 (upd H8 b (.tup [tx [inv (ltZ W (p1, p2))], .ref z0])) := au.new ht1
          have t9 : (upd H8 b (.tup [tx [inv (ltZ W (p1, p2))], .ref z0])) b=some (.tup [tx [inv (ltZ W (p1, p2))], .ref z0]) := ab
          change iM (kO 9) _ _ (.ref b) (upd H8 b (.tup [tx [inv (ltZ W (p1, p2))], .ref z0]))
          generalize upd H8 b (.tup [tx [inv (ltZ W (p1, p2))], .ref z0])=H9 at s9 t9 ⊢
          have s69 := s7.trans (s8.trans s9)
          have hz9 := s69 _ _ hz0
          have hn9 := (s8.trans s9) _ _ t7
          refine ⟨_, rfl, _, rfl, nd, b, _, iF (inv (ltZ W (p1, p2)), (p1, p2)), _, rfl, rfl, s69 _ _ f6, sk (hz6.to fun c xs e => s69 _ _ e), ⟨⟨z0, t9, hz9⟩, je _⟩, m3 0 zs (by rw [ez];exact in1), ?_⟩
          refine ⟨_, rfl, _, rfl, _, rfl, a, t, n, W, (nxZ W (p1, p2)).1, (nxZ W (p1, p2)).2, rfl, hW6.same s69, hn9, okn, _, rfl, (a9 (n := 2) (by decide)), fun b2 ht2 => ?_⟩
          have s10 : au H9 (upd H9 b2 (.tup [tx [ltZ W (nxZ W (p1, p2))], .ref t])) := au.new ht2
          have t10 : (upd H9 b2 (.tup [tx [ltZ W (nxZ W (p1, p2))], .ref t])) b2=some (.tup [tx [ltZ W (nxZ W (p1, p2))], .ref t]) := ab
          change rE P w _ (.ref b2) (upd H9 b2 (.tup [tx [ltZ W (nxZ W (p1, p2))], .ref t])) _
          generalize upd H9 b2 (.tup [tx [ltZ W (nxZ W (p1, p2))], .ref t])=H10 at s10 t10 ⊢
          have s610 := s69.trans s10
          refine ⟨nd, b2, _, iF (ltZ W (nxZ W (p1, p2)), nxZ W (p1, p2)), _, rfl, rfl, s610 _ _ f6, sk (hz6.to fun c xs e => s610 _ _ e), ⟨⟨t, t10, s10 _ _ hn9⟩, je _⟩, m3 0 zs (by rw [ez];exact in2), (a9 (n := 2) (by decide)), fun b3 ht3 => ?_⟩
          rw [ez, Ab, Ab]
          have s11 : au H10 (upd H10 b3 (.tup [.int ((cdZ (az rows u) W (p1, p2)).1 : Int), .int ((cdZ (az rows u) W (p1, p2)).2 : Int)])) := au.new ht3
          have t11 : (upd H10 b3 (.tup [.int ((cdZ (az rows u) W (p1, p2)).1 : Int), .int ((cdZ (az rows u) W (p1, p2)).2 : Int)])) b3=some (.tup [.int ((cdZ (az rows u) W (p1, p2)).1 : Int), .int ((cdZ (az rows u) W (p1, p2)).2 : Int)]) := ab
          have s611 := s610.trans s11
          refine ⟨_, rfl, _, rfl, fd, _, rfl, iR.t (k := keyT (p1, p2)) (s611 _ _ d6) (s611 _ _ hz0) (by
            have := yB List.length cd6.ks
            rw [fu, fu, yg] at this
            omega), ?_⟩
          have d11 := s611 _ _ d6
          have keepT : ∀ (kv : List (List Key × V)) c xs, (upd H10 b3 (.tup [.int ((cdZ (az rows u) W (p1, p2)).1 : Int), .int ((cdZ (az rows u) W (p1, p2)).2 : Int)])) c=some (.tup xs) → (upd (upd H10 b3 (.tup [.int ((cdZ (az rows u) W (p1, p2)).1 : Int), .int ((cdZ (az rows u) W (p1, p2)).2 : Int)])) fd (.dT kv)) c=some (.tup xs) := fun kv c xs e => by
            rw [ak (cM e d11 (by intro z;cases z))];exact e
          have keep6 : ∀ (kv : List (List Key × V)) c xs, H6 c=some (.tup xs) → (upd (upd H10 b3 (.tup [.int ((cdZ (az rows u) W (p1, p2)).1 : Int), .int ((cdZ (az rows u) W (p1, p2)).2 : Int)])) fd (.dT kv)) c=some (.tup xs) := fun kv c xs e => keepT kv _ _ (s611 _ _ e)
          refine ⟨_, _, _, _, rfl, ?_, hz6.to (keep6 _), ab, ?_, fun y hy => keep6 _ _ _ (st6 y hy), ⟨keep6 _ _ _ hW6.at_, hW6.le, hW6.lo, hW6.ws⟩, ?_, fun c o e => ?_⟩
          · rw [ak nfd];exact s611 _ _ f6
          · rw [ak nl2.symm];exact s611 _ _ g6
          · rw [bc aj]
            exact cd6.put (jS nda aj) (keep6 _) (keepT _ _ _ t11)
          · rw [ak (ah e hfH)];exact s611 _ _ (s6 _ _ e)
      · rintro σ H6 ⟨v7, v8, v9, kvs, rfl, f6, hz6, d6, g6, st6, hW6, cd6, s6⟩
        have al : (bA W).length=ss.length := by rw [← est, fu]
        rw [fu, fu, ← al, yL] at cd6
        exact ⟨_, rfl, k fd kvs _ hfH s6 d6 cd6⟩
end
end Kx
namespace Kx
open PySem PySem.Spec PyProof.Rows L2 Wd
theorem qA {n : Nat}{W : List (List L)}{H : Hp}{a : Addr}(hW : Wy4 n W H a) : (bA W).length≤60 := by
  have := cu (fun w hw => (hW.ws w hw).2.1) W.length
  have e : (bA W).length=(kF W W.length).length := rfl
  have hle := hW.le
  omega
end Kx
namespace Kx
open PySem PySem.Spec PyProof.Rows L2 Wd
theorem sq {t u : TS}{D : fc}{σ : L2.St}{H : Hp}(R : L2.St → Hp → Prop)(h1 : ∀ D' : fc, (∀ σ2 H2, R σ2 H2 → D'.nx σ2 H2) → t D' σ H)(h2 : ∀ σ2 H2, R σ2 H2 → u D σ2 H2) : wN t u D σ H := h1 _ h2
theorem eW {nx : L2.St → Hp → Prop}{rt : VK}{bk ct : L2.St → Hp → Prop}{i : Nat}{σ : L2.St}{x : V}{H : Hp}(h : nx (σ.set i (some x)) H) : iM (kO i) ⟨nx, rt, bk, ct⟩ σ x H := h
end Kx
namespace Kx
open PySem PySem.Spec PyProof.Rows L2 Wd
section
variable {P : Program} {w : World} {K : PySem.W.Frag} {mg : Str → Option Value} {base : Heap} {aB : Addr}
structure Cn (ms : List Nat) (n : Nat) (H : Hp) (a : Addr) : Prop where
  at_ : H a=some (.tup (ms.map fun m : Nat => V.int (m : Int)))
  len : ms.length=n
  le : ∀ m∈ms, m≤100
theorem Cn.same {ms : List Nat}{n : Nat}{H H' : Hp}{a : Addr}(h : Cn ms n H a)(s : au H H') : Cn ms n H' a := ⟨s _ _ h.at_, h.len, h.le⟩
theorem eX {ms : List Nat}{n : Nat}{H : Hp}{a : Addr}(h : Cn ms n H a){x : L}(hx : x.val % 6 < n) : ms[x.val % 6]? = some (bb ms x) ∧ bb ms x≤100 := by
  have hl : x.val % 6 < ms.length := by rw [h.len];exact hx
  have e : bb ms x=ms[x.val % 6] := by unfold bb;rw [xU, xS hl];rfl
  rw [e]
  exact ⟨xS hl, h.le _ (yP hl)⟩
theorem sr (n : Nat)(x : L) : rep n [x]=List.replicate n x := by
  induction n with
  | zero => rfl
  | succ n ih =>
    show rep n [x]++[x]=_
    rw [ih, ← List.replicate_succ']
theorem iy (ms : List Nat)(u : List L) : (u.map fun x => List.replicate (bb ms x) x).flatten=aA ms u := by unfold aA; rw [List.flatMap_def]
theorem eY {ms : List Nat}{n : Nat}{H : Hp}{a : Addr}(h : Cn ms n H a) : ∀ {u : List L}, (∀ x∈u, x.val % 6 < n) → (aA ms u).length≤100*u.length
  | [], _ => yQ _
  | x::r, hx => by
    have ih := eY h (u := r) fun y hy => hx y (x3 _ hy)
    rw [bR, xX, yp, yF]
    have := (eX h (hx x yb)).2
    omega
inductive jT (vs : List V)(H : Hp)(Q : VK)(u3_ : XK) : Prop
  | mk : ∀ (u : List L) (n : Nat) (a : Addr) (ms : List Nat), (vs=[tx u, .ref a]) → (SK u n) → (Cn ms n H a) → (∀ (H' : Hp), au H H' → Q (tx (aA ms u)) H') → jT vs H Q u3_
abbrev m7 : Stmt := top 19
theorem su : aC ["surface", "many"] ["surface", "many"] (aq m7) := ⟨rfl, rfl, rfl, by decide +kernel, rfl, by decide +kernel, by decide +kernel⟩
theorem uS (D : Df K mg "ends_of" m7)(T : Bt K w mg aB)(F_num : Fnc P w K mg base "number_of" ["letter"] 1 lS) : Fnc P w K mg base "ends_of" ["surface", "many"] 2 jT := by
  have sc := su
  refine D.ok sc (fun _ _ _ _ _ _ us hl => by obtain ⟨_, _, rfl⟩ := kE hl;rfl) (fun vs H Q E h => ?_) (fun f cdv A outer s H vs Q E hr h => ?_)
  · obtain ⟨u, n, a, ms, rfl, _⟩ := h
    rfl
  · obtain ⟨u, n, a, ms, rfl, U, hC, k⟩ := h
    have l16 := aO
    have hul := U.len
    have h6 := U.hi
    have um : ∀ x∈u, x.val % 6 < n := fun x hx => (U.mem x).mp hx
    refine ⟨_, (@ao _ _ _ (@aH _ _ _ _ (@bD _ _ _ _ _ _ _ _ _ _ _ _ yh zp zq de bC (@aa _ _ _ _ _ (@bz _ _ _ _ _ _ _ (["end", "many"]) (["end"]) ([1]) _ _ _ _ (@bP _ _ _ _ _ _ rfl (by kernel_rfl)) rfl (@eE _ _ _ _ (pv 0)) (fun _ _ _ _ => @av _ _ (0) _ (show (["end", "many"] : List Str).Nodup from by decide +kernel) rfl (Or.inl rfl) (by first | exact .inl rfl | exact .inr rfl | assumption)) (fun _ _ _ _ => aR) (fun _ _ _ _ => by (exact @aF _ _ _ _ _ _ _ _ dg (by (exact (pv 0))) (by (exact (@aI _ _ _ _ _ _ _ (@rk _ (K) rfl) (pv 1) (@aG _ _ _ _ _ _ _ _ _ _ _ F_num hr (by decide) rfl (@aa _ _ _ _ _ (pv 0) ag (by rfl)) (by decide) (by rfl) (by rfl)) (fun _ _ => rfl)))))) (by intro _ ;rfl)) ag (by rfl)) (by rfl) (by rfl) (by rfl) (by rfl) (by rfl)))), ?_⟩
    refine ⟨rfl, _, rfl, _, rfl, ?_⟩
    refine bH (own := ["end"]) (cap := [1]) (J := Its (toS u)) u.length (fun i ys σ H' => ∃ v : Option V, σ = [v, some (.ref a)] ∧ ys=(u.take i).map (fun x => tx (List.replicate (bb ms x) x)) ∧ H'=H) ⟨none, rfl, rfl, rfl⟩ (fun i ys σ H' hi ⟨_, _, e, _⟩ => by rw [e, fu, yg];omega) (by omega) (fun i ys σ H' hi _ => ?_) (fun ys σ H' _ => ?_) ?_ ?_
    · show i < (toS u).cps.size;rw [a_];exact hi
    · show _=(toS u).cps.size;rw [a_]
    · rintro i ys σ H1 x H2 N hi ⟨v, rfl, rfl, rfl⟩ ⟨rfl, c, hc, rfl⟩ hN
      obtain ⟨y, hy, e⟩ := cC hc
      rw [e]
      obtain ⟨g1, g2⟩ := eX hC (um y (x_ hy))
      refine ⟨_, rfl, _, rfl, _, rfl, y, rfl, a, _, _, _, rfl, rfl, SqT.of hC.at_, bW (v := .int (bb ms y : Int)) (by rw [xY, g1];rfl), _, _, rfl, rfl, eK _ (by omega) (by omega) (by show 1≤10000;decide), ?_⟩
      rw [lM, yf, sr]
      exact hN _ _ _ ⟨_, rfl, by rw [bc hy, xZ];rfl, rfl⟩
    · rintro ys σ H1 l ⟨v, rfl, rfl, rfl⟩ hl
      rw [yL]
      have ew : (u.map fun x => tx (List.replicate (bb ms x) x))=((u.map fun x => List.replicate (bb ms x) x).map toS).map V.str := by rw [yR, yR];rfl
      refine ⟨"", l, (u.map fun x => List.replicate (bb ms x) x).map toS, rfl, rfl, SqL.of (by rw [ab, ew]), ?_, ?_⟩
      · have e : (((u.map fun x => List.replicate (bb ms x) x).map toS).map (·.length)).sum=(aA ms u).length := by
          rw [← iy, List.length_flatten, yR]
          congr 1
          exact zC fun w _ => af w
        have := eY hC um
        rw [e]
        show (aA ms u).length+_*0≤16777216
        omega
      · rw [mf, iy]
        exact k _ (au.new hl)
inductive jf (vs : List V)(H : Hp)(Q : VK)(u3_ : XK) : Prop
  | mk : ∀ (u : List L) (n : Nat) (a : Addr) (ms : List Nat), (vs=[tx u, .ref a]) → (SK u n) → (Cn ms n H a) → (∀ (d : Addr) (kvs : List (Key × V)) (H' : Hp), H d=none → au H H' → H' d=some (.dK kvs) → (∀ p, p < (aA ms u).length → cy kvs (.inl (p : Int))=some (.int (sdZ ms u p : Int))) → Q (.ref d) H') → jf vs H Q u3_
def uT (ms : List Nat)(u : List L)(p : Nat) : Nat := if (enZ ms u p).val < 6 then p - bgZ ms u (enZ ms u p) else bgZ ms u (enZ ms u p)+bb ms (enZ ms u p) - 1 - p
theorem sv : ∀ y x : L, y.val % 6=x.val % 6 → y=x ∨ y=inv x := by decide
theorem m8 : ∀ {x : L}, x.val < 6 → ¬ (inv x).val < 6 := by decide
abbrev jg : Stmt := top 20
theorem pB : aC ["surface", "many", "ends", "sides", "letter", "place", "near", "far"] ["surface", "many"] (aq jg) := ⟨rfl, rfl, rfl, by decide +kernel, rfl, by decide +kernel, by decide +kernel⟩
theorem sx (D : Df K mg "other_sides" jg)(T : Bt K w mg aB)(F_ends : Fnc P w K mg base "ends_of" ["surface", "many"] 2 jT)(F_let : Fnc P w K mg base "letters_of" ["surface"] 1 mN)(F_num : Fnc P w K mg base "number_of" ["letter"] 1 lS)(F_back : Fnc P w K mg base "back" ["word"] 1 oE) : Fnc P w K mg base "other_sides" ["surface", "many"] 3 jf := by
  have sc := pB
  refine D.ok sc (fun _ _ _ _ _ _ us hl => by obtain ⟨_, _, rfl⟩ := kE hl;rfl) (fun vs H Q E h => ?_) (fun f cdv A outer s H vs Q E hr h => ?_)
  · obtain ⟨u, n, a, ms, rfl, _⟩ := h
    rfl
  · obtain ⟨u, n, a, ms, rfl, U, hC, k⟩ := h
    have l16 := aO
    have hu := iU hr
    have hul := U.len
    have h1 := U.lo
    have h6 := U.hi
    have um : ∀ x∈u, x.val % 6 < n := fun x hx => (U.mem x).mp hx
    have el := eY hC um
    refine ⟨_, (@ae _ _ _ _ _ (@ar _ _ (2) _ _ _ _ sc.nd rfl (Or.inl rfl) (@aG _ _ _ _ _ _ _ _ _ _ _ F_ends hr (by decide) rfl (@aa _ _ _ _ _ (pv 0) (@aa _ _ _ _ _ (pv 1) ag (by rfl)) (by rfl)) (by decide) (by rfl) (by rfl)) (by rfl) (by first | exact .inl rfl | exact .inr rfl | assumption)) (@ae _ _ _ _ _ (@ar _ _ (3) _ _ _ _ sc.nd rfl (Or.inl rfl) dP (by rfl) (by first | exact .inl rfl | exact .inr rfl | assumption)) (@ae _ _ _ _ _ (@bj _ _ _ _ _ _ _ _ yr rfl (@eE _ _ _ _ (@aG _ _ _ _ _ _ _ _ _ _ _ F_let hr (by decide) rfl (@aa _ _ _ _ _ (pv 0) ag (by rfl)) (by decide) (by rfl) (by rfl))) (@av _ _ (4) _ sc.nd rfl (Or.inl rfl) (by first | exact .inl rfl | exact .inr rfl | assumption)) (@ao _ _ _ (@bj _ _ _ _ _ _ _ _ yr rfl (@aJ _ _ _ _ _ _ rfl T.range (@aa _ _ _ _ _ (@aI _ _ _ _ _ _ _ aY (pv 1) (@aG _ _ _ _ _ _ _ _ _ _ _ F_num hr (by decide) rfl (@aa _ _ _ _ _ (pv 4) ag (by rfl)) (by decide) (by rfl) (by rfl)) (fun _ _ => rfl)) ag (by rfl)) (by rfl)) (@av _ _ (5) _ sc.nd rfl (Or.inl rfl) (by first | exact .inl rfl | exact .inr rfl | assumption)) (@ae _ _ _ _ _ (@ar _ _ (6) _ _ _ _ sc.nd rfl (Or.inl rfl) (@aF _ _ _ _ _ _ _ _ bK (@bD _ _ _ _ _ _ _ _ _ _ _ _ yh PySem.F.slot_str_find PySem.F.type_str_find oO (pv 2) (@aa _ _ _ _ _ (pv 4) ag (by rfl)) (by rfl) (by rfl) (by rfl) (by rfl) (by rfl)) (pv 5)) (by rfl) (by first | exact .inl rfl | exact .inr rfl | assumption)) (@ae _ _ _ _ _ (@ar _ _ (7) _ _ _ _ sc.nd rfl (Or.inl rfl) (@aF _ _ _ _ _ _ _ _ kU (@bD _ _ _ _ _ _ _ _ _ _ _ _ yh PySem.F.slot_str_rfind PySem.F.type_str_rfind o5 (pv 2) (@aa _ _ _ _ _ (@aG _ _ _ _ _ _ _ _ _ _ _ F_back hr (by decide) rfl (@aa _ _ _ _ _ (pv 4) ag (by rfl)) (by decide) (by rfl) (by rfl)) ag (by rfl)) (by rfl) (by rfl) (by rfl) (by rfl) (by rfl)) (pv 5)) (by rfl) (by first | exact .inl rfl | exact .inr rfl | assumption)) (@ae _ _ _ _ _ (@cT _ _ _ _ _ _ _ _ _ hu (pv 3) (pv 6) (pv 7) rfl) (@ao _ _ _ (@cT _ _ _ _ _ _ _ _ _ hu (pv 3) (pv 7) (pv 6) rfl))))) (by intro _ ;rfl))) (by intro _ ;rfl)) (@ao _ _ _ (@aH _ _ _ _ (pv 3)))))), ?_⟩
    refine ⟨_, rfl, _, rfl, u, n, a, ms, rfl, U, hC, fun H1 s1 => ?_⟩
    refine fun d hd => ?_
    have s2 : au H1 (upd H1 d (.dK [])) := au.new hd
    have d2 : (upd H1 d (.dK [])) d=some (.dK []) := ab
    have hdH : H d=none := none_of s1 hd
    generalize upd H1 d (.dK [])=H2 at s2 d2 ⊢
    have hls : (sml (n : Int)).length=n := rP h6
    refine ⟨_, rfl, toS u, n, rfl, by rw [af, hul];omega, h1, h6, _, rfl, eF (z := toS (sml (n : Int))) (fun i σ H' => ∃ (v4 v5 v6 v7 : Option V) (kvs : List (Key × V)), σ = [some (tx u), some (.ref a), some (tx (aA ms u)), some (.ref d), v4, v5, v6, v7] ∧ H' d=some (.dK kvs) ∧ kvs.length≤200*i ∧ (∀ p, p < (aA ms u).length → (enZ ms u p).val % 6 < i → cy kvs (.inl (p : Int))=some (.int (sdZ ms u p : Int))) ∧ au H H') ⟨none, none, none, none, [], rfl, d2, xT _, (fun p _ h => absurd h (Bl _)), s1.trans s2⟩ ?_ ?_⟩
    · rintro i cc σ H3 hc ⟨v4, v5, v6, v7, kvs, rfl, d3, kl, kv, s3⟩
      obtain ⟨x, hx, ex⟩ := cC hc
      rw [ex]
      have hi : i < n := by
        have := (xV.mp hx).1
        omega
      rw [rO h6 hi] at hx
      obtain rfl := x5 hx
      have lv : (lt6 i).val=i := yB Fin.val (rQ ⟨i, by omega⟩)
      have lm : (lt6 i).val % 6=i := by rw [lv];omega
      have xu : lt6 i∈u := (U.mem _).mpr (by rw [lm];exact hi)
      generalize lt6 i=x at lv lm xu ⊢
      have hC3 := hC.same s3
      obtain ⟨g1, g2⟩ := eX hC3 (show x.val % 6 < n by rw [lm];exact hi)
      refine ⟨_, rfl, _, rfl, x, rfl, a, _, _, _, rfl, rfl, SqT.of hC3.at_, bW (v := .int (bb ms x : Int)) (by rw [xY, g1];rfl), _, rfl, by omega, by omega, ?_⟩
      rw [yf]
      refine bo (lo := 0) (n := bb ms x) (fun j σ H' => ∃ (v5 v6 v7 : Option V) (kvs : List (Key × V)), σ = [some (tx u), some (.ref a), some (tx (aA ms u)), some (.ref d), some (tx [x]), v5, v6, v7] ∧ H' d=some (.dK kvs) ∧ kvs.length≤200*i+2*j ∧ (∀ p, p < (aA ms u).length → ((enZ ms u p).val % 6 < i ∨ ((enZ ms u p).val % 6=i ∧ uT ms u p < j)) → cy kvs (.inl (p : Int))=some (.int (sdZ ms u p : Int))) ∧ au H H') ⟨_, _, _, kvs, rfl, d3, by omega, (fun p hp h => kv p hp (by omega)), s3⟩ ?_ ?_
      · rintro j σ H4 hj ⟨v5, v6, v7, kvs, rfl, d4, kl, kv, s4⟩
        rw [zS]
        have c0 : 0 < bb ms x := by omega
        have ci : bb ms (inv x)=bb ms x := i7 ms x
        have xi := iq U xu
        have fe := pb (ms := ms) U xu c0
        have fr := mG (ms := ms) U xi (by rw [ci];exact c0)
        rw [ci] at fr
        have sn : sdZ ms u (bgZ ms u x+j)=bgZ ms u (inv x)+(bb ms x - 1 - j) := kA U xu hj
        have sf : sdZ ms u (bgZ ms u (inv x)+(bb ms x - 1 - j))=bgZ ms u x+j := by
          rw [kA U xi (by rw [ci];omega), uB, ci]
          omega
        refine ⟨_, rfl, rfl, _, rfl, _, _, rfl, rfl, _, rfl, _, _, rfl, rfl, ?_⟩
        rw [fe]
        refine ⟨_, rfl, rfl, _, rfl, [x], rfl, (by show 1≤5000;decide), fun H5 s5 => ?_⟩
        have fr : Txt.rfind (toS (aA ms u)) (toS (bk [x]))=((bgZ ms u (inv x)+(bb ms x - 1) : Nat) : Int) := fr
        refine ⟨_, _, rfl, rfl, _, rfl, _, _, rfl, rfl, ?_⟩
        rw [fr, show ((bgZ ms u (inv x)+(bb ms x - 1) : Nat) : Int) - (j : Int)=((bgZ ms u (inv x)+(bb ms x - 1 - j) : Nat) : Int) by omega, ← B9]
        have d5 := s5 _ _ d4
        have pN : bgZ ms u x+j < (aA ms u).length := (xV.mp (dM xu hj)).1
        generalize hne : bgZ ms u x+j=ne at sn sf pN ⊢
        generalize hfa : bgZ ms u (inv x)+(bb ms x - 1 - j)=fa at sn sf ⊢
        refine ⟨_, rfl, _, rfl, _, rfl, d, _, rfl, iR.k (k := .inl (ne : Int)) d5 (by omega), ?_⟩
        have d6 : (upd H5 d (.dK (bS kvs (.inl (ne : Int)) (.int (fa : Int))))) d=some (.dK (bS kvs (.inl (ne : Int)) (.int (fa : Int)))) := ab
        have pl1 := aZ kvs (.inl (ne : Int)) (.int (fa : Int))
        refine ⟨_, rfl, _, rfl, _, rfl, d, _, rfl, iR.k (k := .inl (fa : Int)) d6 (by omega), ?_⟩
        have pl2 := aZ (bS kvs (.inl (ne : Int)) (.int (fa : Int))) (.inl (fa : Int)) (.int (ne : Int))
        refine ⟨_, _, _, _, rfl, ab, by omega, fun p hp h => ?_, fun b o e => ?_⟩
        · rw [cm, cm]
          by_cases c1 : p=fa
          · subst c1
            rw [if_pos rfl, sf]
          · rw [if_neg (fun e => c1 (by have := Bd e;omega))]
            by_cases c2 : p=ne
            · subst c2
              rw [if_pos rfl, sn]
            · rw [if_neg (fun e => c2 (by have := Bd e;omega))]
              refine kv p hp ?_
              rcases h with h | ⟨h, ho⟩
              · exact .inl h
              · refine .inr ⟨h, ?_⟩
                rcases Nat.lt_or_ge (uT ms u p) j with q | q
                · exact q
                · exfalso
                  have oj : uT ms u p=j := by omega
                  obtain ⟨y, kk, hy, hk, rfl, ey⟩ := mB U hp
                  rw [ey] at h
                  unfold uT at oj
                  rw [ey] at oj
                  rcases sv y x (by rw [h, lm]) with rfl | rfl
                  · rw [if_pos (by rw [lv];omega)] at oj
                    omega
                  · rw [ci] at hk oj
                    rw [if_neg (m8 (by rw [lv];omega))] at oj
                    omega
        · have nb := ah e hdH
          rw [ak nb, ak nb]
          exact s5 _ _ (s4 _ _ e)
      · rintro σ H4 ⟨v5, v6, v7, kvs, rfl, d4, kl, kv, s4⟩
        refine ⟨_, _, _, _, kvs, rfl, d4, by omega, fun p hp h => kv p hp ?_, s4⟩
        by_cases c : (enZ ms u p).val % 6 < i
        · exact .inl c
        · refine .inr ⟨by omega, ?_⟩
          obtain ⟨y, kk, hy, hk, rfl, ey⟩ := mB U hp
          unfold uT
          rw [ey]
          have : bb ms y=bb ms x := by
            unfold bb
            rw [show y.val % 6=x.val % 6 by rw [lm, ← ey];omega]
          split <;> omega
    · rintro σ H3 ⟨v4, v5, v6, v7, kvs, rfl, d3, kl, kv, s3⟩
      rw [a_, hls] at kv
      refine ⟨_, rfl, k d kvs _ hdH s3 d3 fun p hp => kv p hp ?_⟩
      obtain ⟨y, kk, hy, hk, rfl, ey⟩ := mB U hp
      rw [ey]
      exact um y hy
end
end Kx
namespace Kx
open PySem PySem.Spec PyProof.Rows L2 Wd
section
variable {P : Program} {w : World} {K : PySem.W.Frag} {mg : Str → Option Value} {base : Heap} {aB : Addr}
theorem qB {ms : List Nat}{u : List L}(nd : u.Nodup){i : Nat}{x : L}(h : u[i]? = some x) : bgZ ms u x=(aA ms (u.take i)).length := by
  obtain ⟨hl, e⟩ := xV.mp h
  have := nd.idxOf_getElem i hl
  rw [e] at this
  unfold bgZ
  rw [this]
theorem iz {ms : List Nat}{u : List L}{i : Nat}{x : L}(h : u[i]? = some x) : (aA ms (u.take (i+1))).length=(aA ms (u.take i)).length+bb ms x := by
  rw [bc h, o7, xX, bR, xX, yp]
  rfl
theorem pD {x y : L}(h : toS [x]=toS [y]) : x=y := by
  have := eI h
  cases this
  rfl
theorem m9 (x : L) : ∃ rest, Builtin.Str.occurrences ("abcdef" : Str) (toS [(⟨x.val % 6, by omega⟩ : L)]) 0 ("abcdef" : Str).length 1=x.val % 6::rest := qv (x := ⟨x.val % 6, by omega⟩) (by show x.val % 6 < 6; omega)
inductive gu (vs : List V)(H : Hp)(Q : VK)(u3_ : XK) : Prop
  | mk : ∀ (u : List L) (n : Nat) (a : Addr) (ms : List Nat), (vs=[tx u, .ref a]) → (SK u n) → (Cn ms n H a) → (∀ (d : Addr) (kvs : List (Key × V)) (H' : Hp), H d=none → au H H' → H' d=some (.dK kvs) → (∀ x∈u, cy kvs (.inr (toS [x]))=some (.int (bgZ ms u x : Int))) → Q (.ref d) H') → gu vs H Q u3_
abbrev gv : Stmt := top 33
theorem m_ : aC ["_law_surface", "_law_many", "_law_firsts", "_law_at", "_law_end"] ["_law_surface", "_law_many"] (aq gv) := ⟨rfl, rfl, rfl, by decide +kernel, rfl, by decide +kernel, by decide +kernel⟩
theorem pE (D : Df K mg "_law_begins" gv)(T : Bt K w mg aB) : Fnc P w K mg base "_law_begins" ["_law_surface", "_law_many"] 1 gu := by
  have sc := m_
  refine D.ok sc (fun _ _ _ _ _ _ us hl => by obtain ⟨_, _, rfl⟩ := kE hl;rfl) (fun vs H Q E h => ?_) (fun f cdv A outer s H vs Q E hr h => ?_)
  · obtain ⟨u, n, a, ms, rfl, _⟩ := h
    rfl
  · obtain ⟨u, n, a, ms, rfl, U, hC, k⟩ := h
    have l16 := aO
    have hu := iU hr
    have hul := U.len
    have h6 := U.hi
    refine ⟨_, (@ae _ _ _ _ _ (@ar _ _ (2) _ _ _ _ sc.nd rfl (Or.inl rfl) dP (by rfl) (by first | exact .inl rfl | exact .inr rfl | assumption)) (@ae _ _ _ _ _ (@ar _ _ (3) _ _ _ _ sc.nd rfl (Or.inl rfl) ai (by rfl) (by first | exact .inl rfl | exact .inr rfl | assumption)) (@ae _ _ _ _ _ (@bj _ _ _ _ _ _ _ _ yr rfl (@eE _ _ _ _ (pv 0)) (@av _ _ (4) _ sc.nd rfl (Or.inl rfl) (by first | exact .inl rfl | exact .inr rfl | assumption)) (@ae _ _ _ _ _ (@cT _ _ _ _ _ _ _ _ _ hu (pv 2) (pv 4) (pv 3) rfl) (@ao _ _ _ (@ar _ _ (3) _ _ _ _ sc.nd rfl (Or.inl rfl) (@aF _ _ _ _ _ _ _ _ bK (pv 3) (@aI _ _ _ _ _ _ _ aY (pv 1) (@bD _ _ _ _ _ _ _ _ _ _ _ _ yh z3 z4 dQ bC (@aa _ _ _ _ _ (@eg _ _ _ _ _ _ _ _ _ yh zF zG c4 (pv 4) (by rfl) (by rfl)) ag (by rfl)) (by rfl) (by rfl) (by rfl) (by rfl) (by rfl)) (fun _ _ => rfl))) (by rfl) (by first | exact .inl rfl | exact .inr rfl | assumption)))) (by intro _ ;rfl)) (@ao _ _ _ (@aH _ _ _ _ (pv 2)))))), ?_⟩
    refine fun d hd => ?_
    have s1 : au H (upd H d (.dK [])) := au.new hd
    have d1 : (upd H d (.dK [])) d=some (.dK []) := ab
    generalize upd H d (.dK [])=H1 at s1 d1 ⊢
    refine eW ?_
    refine ⟨_, rfl, _, rfl, eF (z := toS u) (fun i σ H' => ∃ (v4 : Option V) (kvs : List (Key × V)), σ = [some (tx u), some (.ref a), some (.ref d), some (.int ((aA ms (u.take i)).length : Int)), v4] ∧ H' d=some (.dK kvs) ∧ kvs.length≤i ∧ (∀ x∈u.take i, cy kvs (.inr (toS [x]))=some (.int (bgZ ms u x : Int))) ∧ au H H') ⟨none, [], rfl, d1, xT _, (fun x hx => by cases hx), s1⟩ ?_ ?_⟩
    · rintro i cc σ H2 hc ⟨v4, kvs, rfl, d2, kl, kv, s2⟩
      obtain ⟨x, hx, ex⟩ := cC hc
      rw [ex]
      have hi : i < u.length := (xV.mp hx).1
      have xn : x.val % 6 < n := (U.mem x).mp (x_ hx)
      have eb := qB (ms := ms) (mz U) hx
      have em := iz (ms := ms) hx
      refine ⟨_, rfl, _, rfl, _, rfl, d, _, rfl, iR.k (k := .inr (toS [x])) d2 (by omega), ?_⟩
      have pl := aZ kvs (.inr (toS [x])) (.int ((aA ms (u.take i)).length : Int))
      have d3 : (upd H2 d (.dK (bS kvs (.inr (toS [x])) (.int ((aA ms (u.take i)).length : Int))))) d=some (.dK (bS kvs (.inr (toS [x])) (.int ((aA ms (u.take i)).length : Int)))) := ab
      have s3 : au H (upd H2 d (.dK (bS kvs (.inr (toS [x])) (.int ((aA ms (u.take i)).length : Int))))) := fun b o e => by rw [ak (ah e hd)];exact s2 _ _ e
      generalize upd H2 d (.dK (bS kvs (.inr (toS [x])) (.int ((aA ms (u.take i)).length : Int))))=H3 at d3 s3 ⊢
      have hC3 := hC.same s3
      obtain ⟨g1, g2⟩ := eX hC3 xn
      obtain ⟨rest, ho⟩ := m9 x
      refine ⟨_, rfl, _, rfl, rfl, _, rfl, rfl, _, rfl, rfl, (by show 1≤5592405;decide), ?_⟩
      rw [mQ]
      refine ⟨_, _, _, rest, rfl, rfl, ho, a, _, _, _, rfl, rfl, SqT.of hC3.at_, bW (v := .int (bb ms x : Int)) (by rw [xY, g1];rfl), _, _, rfl, rfl, ?_⟩
      refine ⟨some (tx [x]), _, ?_, d3, by omega, fun y hy => ?_, s3⟩
      · rw [em, B9]
        rfl
      · rw [cm]
        by_cases c : y=x
        · subst c
          rw [if_pos rfl, eb]
        · rw [if_neg (fun e => c (pD (Sum.inr.inj e)))]
          rw [bc hx] at hy
          rcases yn.mp hy with hy | hy
          · exact kv y hy
          · exact absurd (x4.mp hy) c
    · rintro σ H2 ⟨v4, kvs, rfl, d2, kl, kv, s2⟩
      rw [a_, yL] at kv
      exact ⟨_, rfl, k d kvs _ hd s2 d2 kv⟩
def OuA (ms : List Nat)(u : List L)(H : Hp)(kvs : List (Key × V))(m : Nat) : Prop := ∀ p, p < m → ∃ b, cy kvs (.inl (p : Int))=some (.ref b) ∧ H b=some (.tup [tx [enZ ms u p], .int (sdZ ms u p : Int)])
theorem OuA.to {ms : List Nat}{u : List L}{H H' : Hp}{kvs : List (Key × V)}{m : Nat}(h : OuA ms u H kvs m)(k : ∀ a xs, H a=some (.tup xs) → H' a=some (.tup xs)) : OuA ms u H' kvs m := fun p hp => let ⟨b, h1, h2⟩ := h p hp; ⟨b, h1, k _ _ h2⟩
inductive nc (vs : List V)(H : Hp)(Q : VK)(u3_ : XK) : Prop
  | mk : ∀ (u : List L) (n : Nat) (a : Addr) (ms : List Nat), (vs=[tx u, .ref a]) → (SK u n) → (Cn ms n H a) → (∀ (d : Addr) (kvs : List (Key × V)) (H' : Hp), H d=none → au H H' → H' d=some (.dK kvs) → OuA ms u H' kvs (aA ms u).length → Q (.ref d) H') → nc vs H Q u3_
abbrev ng : Stmt := top 34
theorem sy : aC ["_law_surface", "_law_many", "_law_firsts", "_law_found", "_law_end", "_law_here", "_law_k"] ["_law_surface", "_law_many"] (aq ng) := ⟨rfl, rfl, rfl, by decide +kernel, rfl, by decide +kernel, by decide +kernel⟩
theorem uU (D : Df K mg "_law_ways_out" ng)(T : Bt K w mg aB)(F_begins : Fnc P w K mg base "_law_begins" ["_law_surface", "_law_many"] 1 gu)(F_lback : Fnc P w K mg base "_law_back" ["_law_word"] 1 oE) : Fnc P w K mg base "_law_ways_out" ["_law_surface", "_law_many"] 2 nc := by
  have sc := sy
  refine D.ok sc (fun _ _ _ _ _ _ us hl => by obtain ⟨_, _, rfl⟩ := kE hl;rfl) (fun vs H Q E h => ?_) (fun f cdv A outer s H vs Q E hr h => ?_)
  · obtain ⟨u, n, a, ms, rfl, _⟩ := h
    rfl
  · obtain ⟨u, n, a, ms, rfl, U, hC, k⟩ := h
    have l16 := aO
    have hu := iU hr
    have hul := U.len
    have h6 := U.hi
    refine ⟨_, (@ae _ _ _ _ _ (@ar _ _ (2) _ _ _ _ sc.nd rfl (Or.inl rfl) (@aG _ _ _ _ _ _ _ _ _ _ _ F_begins hr (by decide) rfl (@aa _ _ _ _ _ (pv 0) (@aa _ _ _ _ _ (pv 1) ag (by rfl)) (by rfl)) (by decide) (by rfl) (by rfl)) (by rfl) (by first | exact .inl rfl | exact .inr rfl | assumption)) (@ae _ _ _ _ _ (@ar _ _ (3) _ _ _ _ sc.nd rfl (Or.inl rfl) dP (by rfl) (by first | exact .inl rfl | exact .inr rfl | assumption)) (@ae _ _ _ _ _ (@bj _ _ _ _ _ _ _ _ yr rfl (@eE _ _ _ _ (pv 0)) (@av _ _ (4) _ sc.nd rfl (Or.inl rfl) (by first | exact .inl rfl | exact .inr rfl | assumption)) (@ae _ _ _ _ _ (@ar _ _ (5) _ _ _ _ sc.nd rfl (Or.inl rfl) (@aI _ _ _ _ _ _ _ aY (pv 1) (@bD _ _ _ _ _ _ _ _ _ _ _ _ yh z3 z4 dQ bC (@aa _ _ _ _ _ (@eg _ _ _ _ _ _ _ _ _ yh zF zG c4 (pv 4) (by rfl) (by rfl)) ag (by rfl)) (by rfl) (by rfl) (by rfl) (by rfl) (by rfl)) (fun _ _ => rfl)) (by rfl) (by first | exact .inl rfl | exact .inr rfl | assumption)) (@ao _ _ _ (@bj _ _ _ _ _ _ _ _ yr rfl (@aJ _ _ _ _ _ _ rfl T.range (@aa _ _ _ _ _ (pv 5) ag (by rfl)) (by rfl)) (@av _ _ (6) _ sc.nd rfl (Or.inl rfl) (by first | exact .inl rfl | exact .inr rfl | assumption)) (@ao _ _ _ (@cT _ _ _ _ _ _ _ _ _ hu (pv 3) (@aF _ _ _ _ _ _ _ _ bK (@eB _ _ _ _ _ _ hu (pv 2) (pv 4) (fun _ _ => rfl)) (pv 6)) (@cw _ _ _ _ _ (@aa _ _ _ _ _ (pv 4) (@aa _ _ _ _ _ (@aF _ _ _ _ _ _ _ _ kU (@aF _ _ _ _ _ _ _ _ kU (@aF _ _ _ _ _ _ _ _ bK (@eB _ _ _ _ _ _ hu (pv 2) (@aG _ _ _ _ _ _ _ _ _ _ _ F_lback hr (by decide) rfl (@aa _ _ _ _ _ (pv 4) ag (by rfl)) (by decide) (by rfl) (by rfl)) (fun _ _ => rfl)) (pv 5)) ai) (pv 6)) ag (by rfl)) (by rfl))) rfl)) (by intro _ ;rfl)))) (by intro _ ;rfl)) (@ao _ _ _ (@aH _ _ _ _ (pv 3)))))), ?_⟩
    refine ⟨_, rfl, _, rfl, u, n, a, ms, rfl, U, hC, fun fd kf H1 hfd s1 f1 kfv => ?_⟩
    refine fun d hd => ?_
    have s2 : au H1 (upd H1 d (.dK [])) := au.new hd
    have d2 : (upd H1 d (.dK [])) d=some (.dK []) := ab
    have nfd : fd≠d := ah f1 hd
    have hdH : H d=none := none_of s1 hd
    generalize upd H1 d (.dK [])=H2 at s2 d2 ⊢
    refine ⟨_, rfl, _, rfl, eF (z := toS u) (fun i σ H' => ∃ (v4 v5 v6 : Option V) (kvs : List (Key × V)), σ = [some (tx u), some (.ref a), some (.ref fd), some (.ref d), v4, v5, v6] ∧ H' fd=some (.dK kf) ∧ H' d=some (.dK kvs) ∧ kvs.length≤200*i ∧ OuA ms u H' kvs (aA ms (u.take i)).length ∧ au H H') ⟨none, none, none, [], rfl, s2 _ _ f1, d2, xT _, (fun p hp => absurd hp (Bl _)), s1.trans s2⟩ ?_ ?_⟩
    · rintro i cc σ H3 hc ⟨v4, v5, v6, kvs, rfl, f3, d3, kl, kv, s3⟩
      obtain ⟨x, hx, ex⟩ := cC hc
      rw [ex]
      have hi : i < u.length := (xV.mp hx).1
      have xu := x_ hx
      have xi := iq U xu
      have xn : x.val % 6 < n := (U.mem x).mp xu
      have eb := qB (ms := ms) (mz U) hx
      have em := iz (ms := ms) hx
      have hC3 := hC.same s3
      obtain ⟨g1, g2⟩ := eX hC3 xn
      obtain ⟨rest, ho⟩ := m9 x
      refine ⟨_, rfl, rfl, _, rfl, rfl, _, rfl, rfl, (by show 1≤5592405;decide), ?_⟩
      rw [mQ]
      refine ⟨_, _, _, rest, rfl, rfl, ho, a, _, _, _, rfl, rfl, SqT.of hC3.at_, bW (v := .int (bb ms x : Int)) (by rw [xY, g1];rfl), ?_⟩
      refine ⟨_, rfl, _, rfl, by omega, by omega, ?_⟩
      rw [yf]
      refine bo (lo := 0) (n := bb ms x) (fun j σ H' => ∃ (v6 : Option V) (kvs : List (Key × V)), σ = [some (tx u), some (.ref a), some (.ref fd), some (.ref d), some (tx [x]), some (.int (bb ms x : Int)), v6] ∧ H' fd=some (.dK kf) ∧ H' d=some (.dK kvs) ∧ kvs.length≤200*i+j ∧ OuA ms u H' kvs ((aA ms (u.take i)).length+j) ∧ au H H') ⟨_, kvs, rfl, f3, d3, by omega, kv, s3⟩ ?_ ?_
      · rintro j σ H4 hj ⟨v6, kvs, rfl, f4, d4, kl, kv, s4⟩
        rw [zS]
        refine ⟨_, rfl, _, rfl, _, rfl, [x], rfl, (by show 1≤5000;decide), fun H5 s5 => ?_⟩
        have f5 := s5 _ _ f4
        refine ⟨fd, .int (bgZ ms u (inv x) : Int), rfl, (by rw [← kfv (inv x) xi];exact gF.k (k := .inr (toS [inv x])) f5), _, rfl, _, _, rfl, rfl, _, _, rfl, rfl, _, rfl, _, _, rfl, rfl, (a9 (n := 2) (by decide)), fun t ht => ?_⟩
        have ev : (bgZ ms u (inv x) : Int)+(bb ms x : Int) - 1 - (j : Int)=((bgZ ms u (inv x)+(bb ms x - 1 - j) : Nat) : Int) := by omega
        rw [ev]
        have sn := kA (ms := ms) U xu hj
        have en := o8 (dM (ms := ms) xu hj)
        have s6 : au H5 (upd H5 t (.tup [tx [x], .int ((bgZ ms u (inv x)+(bb ms x - 1 - j) : Nat) : Int)])) := au.new ht
        have g6 : (upd H5 t (.tup [tx [x], .int ((bgZ ms u (inv x)+(bb ms x - 1 - j) : Nat) : Int)])) t=some (.tup [tx [x], .int ((bgZ ms u (inv x)+(bb ms x - 1 - j) : Nat) : Int)]) := ab
        generalize upd H5 t (.tup [tx [x], .int ((bgZ ms u (inv x)+(bb ms x - 1 - j) : Nat) : Int)])=H6 at s6 g6 ⊢
        have s46 := s5.trans s6
        refine ⟨_, rfl, _, rfl, _, rfl, fd, .int (bgZ ms u x : Int), rfl, (by rw [← kfv x xu];exact gF.k (k := .inr (toS [x])) (s46 _ _ f4)), _, rfl, _, _, rfl, rfl, ?_⟩
        rw [← B9]
        have d6 := s46 _ _ d4
        refine ⟨d, _, rfl, iR.k (k := .inl ((bgZ ms u x+j : Nat) : Int)) d6 (by omega), ?_⟩
        have pl := aZ kvs (.inl ((bgZ ms u x+j : Nat) : Int)) (.ref t)
        have keepT : ∀ (kv : List (Key × V)) b xs, H6 b=some (.tup xs) → (upd H6 d (.dK kv)) b=some (.tup xs) := fun kv b xs e => by rw [ak (cM e d6 (by intro z;cases z))];exact e
        refine ⟨_, _, rfl, by rw [ak nfd];exact s46 _ _ f4, ab, by omega, fun p hp => ?_, fun b o e => by rw [ak (ah e hdH)];exact s46 _ _ (s4 _ _ e)⟩
        rw [cm]
        by_cases c : p=bgZ ms u x+j
        · subst c
          rw [if_pos rfl, sn, en]
          exact ⟨t, rfl, keepT _ _ _ g6⟩
        · rw [if_neg (fun e => c (by have := Bd e;omega))]
          obtain ⟨b, q1, q2⟩ := kv p (by omega)
          exact ⟨b, q1, keepT _ _ _ (s46 _ _ q2)⟩
      · rintro σ H4 ⟨v6, kvs, rfl, f4, d4, kl, kv, s4⟩
        exact ⟨_, _, _, kvs, rfl, f4, d4, by omega, (by rw [em];exact kv), s4⟩
    · rintro σ H3 ⟨v4, v5, v6, kvs, rfl, f3, d3, kl, kv, s3⟩
      rw [a_, yL] at kv
      exact ⟨_, rfl, k d kvs _ hdH s3 d3 kv⟩
end
end Kx
namespace Kx
open PySem PySem.Spec PyProof.Rows L2 Wd
section
variable {P : Program} {w : World} {K : PySem.W.Frag} {mg : Str → Option Value} {base : Heap} {aB : Addr}
def nxJ (ms : List Nat)(u : List L)(J : List Int)(p : Nat) : Nat := (J.getD (sdZ ms u p) 0).toNat
def wsZ (ms : List Nat)(u : List L)(J : List Int) : List (List L) := dW (enZ ms u) (sdZ ms u) (nxJ ms u J) (aA ms u).length (List.range (aA ms u).length) [] []
structure Jn (N : Nat) (J : List Int) (H : Hp) (j : Addr) : Prop where
  at_ : H j=some (.tup (J.map V.int))
  len : J.length=N
  lt : ∀ x∈J, 0≤x ∧ x < N
theorem Jn.same {N : Nat}{J : List Int}{H H' : Hp}{j : Addr}(h : Jn N J H j)(s : au H H') : Jn N J H' j := ⟨s _ _ h.at_, h.len, h.lt⟩
theorem nh {ms : List Nat}{u : List L}{n : Nat}(U : SK u n){J : List Int}{H : Hp}{j : Addr}(h : Jn (aA ms u).length J H j){p : Nat}(hp : p < (aA ms u).length) : J[sdZ ms u p]? = some (nxJ ms u J p : Int) ∧ nxJ ms u J p < (aA ms u).length := by
  have hs := (o9 U hp).1
  have hl : sdZ ms u p < J.length := by rw [h.len];exact hs
  have e : J.getD (sdZ ms u p) 0=J[sdZ ms u p] := by rw [xU, xS hl];rfl
  have b := h.lt _ (yP hl)
  unfold nxJ
  rw [e, xS hl, Bn b.1]
  exact ⟨rfl, by omega⟩
theorem qC {ms : List Nat}{u : List L}{n : Nat}(U : SK u n){J : List Int}{H : Hp}{j : Addr}(h : Jn (aA ms u).length J H j) : Sds (aA ms u).length (sdZ ms u) (nxJ ms u J) :=
  ⟨fun p hp => (o9 U hp).1, fun p hp => (o9 U hp).2.2.1, fun p hp => (o9 U hp).2.2.2, fun p hp => (nh U h hp).2⟩
inductive eZ (vs : List V)(H : Hp)(Q : VK)(u3_ : XK) : Prop
  | mk : ∀ (u : List L) (n : Nat) (pc a j : Addr) (ms : List Nat) (J : List Int), (vs=[tx u, .ref pc]) → (SK u n) → (H pc=some (.tup [.ref a, .ref j])) → (Cn ms n H a) → (Jn (aA ms u).length J H j) → (∀ (l : Addr) (H' : Hp), H l=none → au H H' → H' l=some (.lst ((wsZ ms u J).map tx)) → Q (.ref l) H') → eZ vs H Q u3_
theorem ni {E : Nat → L}{sd nx : Nat → Nat}(m : Nat){S : List Nat}{p : Nat}{w : List L}(h : p∈S) : cj E sd nx m S p w=(S, w) := by
  cases m with
  | zero => rfl
  | succ m => unfold cj;rw [if_pos h]
theorem jU {N i : Nat}(h : i < N) : (List.range N).drop i=i::(List.range N).drop (i+1) := by
  rw [zL (by rw [yo];exact h), Az]
abbrev jh : Stmt := top 18
theorem pF : aC ["surface", "picture", "ends", "sides", "seen", "told", "first", "word", "point"] ["surface", "picture"] (aq jh) := ⟨rfl, rfl, rfl, by decide +kernel, rfl, by decide +kernel, by decide +kernel⟩
theorem sA (D : Df K mg "words_of" jh)(T : Bt K w mg aB)(F_ends : Fnc P w K mg base "ends_of" ["surface", "many"] 2 jT)(F_sides : Fnc P w K mg base "other_sides" ["surface", "many"] 3 jf) : Fnc P w K mg base "words_of" ["surface", "picture"] 4 eZ := by
  have sc := pF
  refine D.ok sc (fun _ _ _ _ _ _ us hl => by obtain ⟨_, _, rfl⟩ := kE hl;rfl) (fun vs H Q E h => ?_) (fun f cdv A outer s H vs Q E hr h => ?_)
  · obtain ⟨u, n, pc, a, j, ms, J, rfl, _⟩ := h
    rfl
  · obtain ⟨u, n, pc, a, j, ms, J, rfl, U, hpc, hC, hJ, k⟩ := h
    have l16 := aO
    have hu := iU hr
    have hul := U.len
    have h6 := U.hi
    have um : ∀ x∈u, x.val % 6 < n := fun x hx => (U.mem x).mp hx
    have el := eY hC um
    have DD := qC U hJ
    refine ⟨_, (@ae _ _ _ _ _ (@ar _ _ (2) _ _ _ _ sc.nd rfl (Or.inl rfl) (@aG _ _ _ _ _ _ _ _ _ _ _ F_ends hr (by decide) rfl (@aa _ _ _ _ _ (pv 0) (@aa _ _ _ _ _ (@aI _ _ _ _ _ _ _ aY (pv 1) ai (fun _ _ => rfl)) ag (by rfl)) (by rfl)) (by decide) (by rfl) (by rfl)) (by rfl) (by first | exact .inl rfl | exact .inr rfl | assumption)) (@ae _ _ _ _ _ (@ar _ _ (3) _ _ _ _ sc.nd rfl (Or.inl rfl) (@aG _ _ _ _ _ _ _ _ _ _ _ F_sides hr (by decide) rfl (@aa _ _ _ _ _ (pv 0) (@aa _ _ _ _ _ (@aI _ _ _ _ _ _ _ aY (pv 1) ai (fun _ _ => rfl)) ag (by rfl)) (by rfl)) (by decide) (by rfl) (by rfl)) (by rfl) (by first | exact .inl rfl | exact .inr rfl | assumption)) (@ae _ _ _ _ _ (@ar _ _ (4) _ _ _ _ sc.nd rfl (Or.inl rfl) dP (by rfl) (by first | exact .inl rfl | exact .inr rfl | assumption)) (@ae _ _ _ _ _ (@ar _ _ (5) _ _ _ _ sc.nd rfl (Or.inl rfl) (@bM _ _ _ _ ag) (by rfl) (by first | exact .inl rfl | exact .inr rfl | assumption)) (@ae _ _ _ _ _ (@bj _ _ _ _ _ _ _ _ yr rfl (@aJ _ _ _ _ _ _ rfl T.range (@aa _ _ _ _ _ (@ay _ _ _ _ _ _ _ _ _ aD (by rfl) T.len yu (@aa _ _ _ _ _ (pv 2) ag (by rfl)) (by decide) (by decide) (by rfl) (by rfl)) ag (by rfl)) (by rfl)) (@av _ _ (6) _ sc.nd rfl (Or.inl rfl) (by first | exact .inl rfl | exact .inr rfl | assumption)) (@ae _ _ _ _ _ (@e9 _ _ _ _ _ _ _ _ (@ud _ _ _ _ _ _ hu (pv 6) (pv 4) rfl) (@ao _ _ _ iK) ck) (@ae _ _ _ _ _ (@ar _ _ (7) _ _ _ _ sc.nd rfl (Or.inl rfl) bC (by rfl) (by first | exact .inl rfl | exact .inr rfl | assumption)) (@ae _ _ _ _ _ (@ar _ _ (8) _ _ _ _ sc.nd rfl (Or.inl rfl) (pv 6) (by rfl) (by first | exact .inl rfl | exact .inr rfl | assumption)) (@ae _ _ _ _ _ (@cW _ _ _ _ _ _ yr (@q_ _ _ _ _ _ _ hu (pv 8) (pv 4) rfl) (@ae _ _ _ _ _ (@ar _ _ (7) _ _ _ _ sc.nd rfl (Or.inl rfl) (@aF _ _ _ _ _ _ _ _ bw (pv 7) (@aI _ _ _ _ _ _ _ ee (pv 2) (pv 8) (fun _ _ => rfl))) (by rfl) (by first | exact .inl rfl | exact .inr rfl | assumption)) (@ae _ _ _ _ _ (@cT _ _ _ _ _ _ _ _ _ hu (pv 4) (pv 8) kL rfl) (@ae _ _ _ _ _ (@cT _ _ _ _ _ _ _ _ _ hu (pv 4) (@eB _ _ _ _ _ _ hu (pv 3) (pv 8) (fun _ _ => rfl)) kL rfl) (@ao _ _ _ (@ar _ _ (8) _ _ _ _ sc.nd rfl (Or.inl rfl) (@aI _ _ _ _ _ _ _ aY (@aI _ _ _ _ _ _ _ aY (pv 1) ai (fun _ _ => rfl)) (@eB _ _ _ _ _ _ hu (pv 3) (pv 8) (fun _ _ => rfl)) (fun _ _ => rfl)) (by rfl) (by first | exact .inl rfl | exact .inr rfl | assumption))))))) (@ao _ _ _ (@bu _ _ _ _ (@bD _ _ _ _ _ _ _ _ _ _ _ _ yt yV zv cA (pv 5) (@aa _ _ _ _ _ (pv 7) ag (by rfl)) (by rfl) (by rfl) (by rfl) (by rfl) (by rfl)) (by rfl))))))) (by intro _ ;rfl)) (@ao _ _ _ (@aH _ _ _ _ (pv 5)))))))), ?_⟩
    refine ⟨_, rfl, _, rfl, pc, _, _, _, rfl, rfl, SqT.of hpc, rfl, u, n, a, ms, rfl, U, hC, fun H1 s1 => ?_⟩
    refine ⟨_, rfl, _, rfl, pc, _, _, _, rfl, rfl, SqT.of (s1 _ _ hpc), rfl, u, n, a, ms, rfl, U, hC.same s1, fun sd kd H2 hsd s2 d2 kdv => ?_⟩
    refine fun sn hsn => ?_
    have s3 : au H2 (upd H2 sn (.dK [])) := au.new hsn
    have n3 : (upd H2 sn (.dK [])) sn=some (.dK []) := ab
    have nsd : sd≠sn := ah d2 hsn
    have hsnH : H sn=none := none_of (s1.trans s2) hsn
    generalize upd H2 sn (.dK [])=H3 at s3 n3 ⊢
    refine ⟨(by show 0≤sizeLine;decide), fun l hl => ?_⟩
    have s4 : au H3 (upd H3 l (.lst [])) := au.new hl
    have f4 : (upd H3 l (.lst [])) l=some (.lst (([] : List (List L)).map tx)) := ab
    have nls : sn≠l := ah n3 hl
    have nld : sd≠l := ah (s3 _ _ d2) hl
    have hlH : H l=none := none_of (s1.trans (s2.trans s3)) hl
    generalize upd H3 l (.lst [])=H4 at s4 f4 ⊢
    have s04 := s1.trans (s2.trans (s3.trans s4))
    generalize hN : (aA ms u).length=N at el DD hJ kdv
    have lenE : (toS (aA ms u)).length=N := by rw [af, hN]
    refine ⟨_, rfl, _, rfl, (by rw [lenE];omega), _, rfl, by rw [lenE];omega, by rw [lenE];omega, ?_⟩
    rw [lenE, yf]
    have hJs : ∀ p, p < N → J[sdZ ms u p]? = some (nxJ ms u J p : Int) := fun p hp => (nh (ms := ms) U (by rw [hN];exact hJ) (by rw [hN];exact hp)).1
    have R0 : wsZ ms u J=dW (enZ ms u) (sdZ ms u) (nxJ ms u J) N (List.range N) [] [] := by unfold wsZ;rw [hN]
    refine bo (lo := 0) (n := N) (fun i σ H' => ∃ (v6 v7 v8 : Option V) (S : List Nat) (t : List (List L)) (ks : List (Key × V)), σ = [some (tx u), some (.ref pc), some (tx (aA ms u)), some (.ref sd), some (.ref sn), some (.ref l), v6, v7, v8] ∧ H' sd=some (.dK kd) ∧ H' sn=some (.dK ks) ∧ (∀ p, p < N → (cy ks (.inl (p : Int))).isSome=decide (p∈S)) ∧ ks.length+2*(uns N S).length≤2*N ∧ Cl N (sdZ ms u) S ∧ H' l=some (.lst (t.map tx)) ∧ t.length≤i ∧ dW (enZ ms u) (sdZ ms u) (nxJ ms u J) N ((List.range N).drop i) S t=wsZ ms u J ∧ au H H') ⟨none, none, none, [], [], [], rfl, (s3.trans s4) _ _ d2, s4 _ _ n3, (fun p _ => rfl), ?_, ⟨(fun p hp => by cases hp), (fun p hp => by cases hp)⟩, f4, xT _, by rw [R0];rfl, s04⟩ ?_ ?_
    · show 0+2*(uns N []).length≤2*N
      have : (uns N []).length≤N := by unfold uns;exact yI (zr _ _) (by rw [yo];exact xT _)
      omega
    · rintro i σ H5 hi ⟨v6, v7, v8, S, t, ks, rfl, d5, n5, kS, kl, cl, f5, tl, ot, s5⟩
      rw [zS]
      rw [jU hi] at ot
      refine ⟨_, rfl, _, rfl, sn, _, rfl, gF.k (k := .inl (i : Int)) n5, _, rfl, ?_⟩
      rw [kS i hi]
      by_cases c : i∈S
      · rw [yJ c]
        refine xJ ⟨_, _, _, S, t, ks, rfl, d5, n5, kS, kl, cl, f5, by omega, ?_, s5⟩
        rw [← ot]
        show _=(if i∈S then _ else _)
        rw [if_pos c]
      · rw [yy c]
        refine xb ?_
        have ot' : dW (enZ ms u) (sdZ ms u) (nxJ ms u J) N ((List.range N).drop (i+1)) (cj (enZ ms u) (sdZ ms u) (nxJ ms u J) N S i []).1 (t++[(cj (enZ ms u) (sdZ ms u) (nxJ ms u J) N S i []).2])=wsZ ms u J := by
          rw [← ot]
          show _=(if i∈S then _ else _)
          rw [if_neg c]
        refine eW ?_
        refine ⟨_, rfl, ?_⟩
        refine dR (fun m σ H' => ∃ (w' : List L) (p : Nat) (S' : List Nat) (ks : List (Key × V)), σ = [some (tx u), some (.ref pc), some (tx (aA ms u)), some (.ref sd), some (.ref sn), some (.ref l), some (.int (i : Int)), some (tx w'), some (.int (p : Int))] ∧ p < N ∧ H' sd=some (.dK kd) ∧ H' sn=some (.dK ks) ∧ (∀ p, p < N → (cy ks (.inl (p : Int))).isSome=decide (p∈S')) ∧ ks.length+2*(uns N S').length≤2*N ∧ Cl N (sdZ ms u) S' ∧ H' l=some (.lst (t.map tx)) ∧ (uns N S').length≤m ∧ w'.length+m≤N ∧ cj (enZ ms u) (sdZ ms u) (nxJ ms u J) m S' p w'=cj (enZ ms u) (sdZ ms u) (nxJ ms u J) N S i [] ∧ au H H')
          (fun σ H' => ∃ (w' : List L) (p : Nat) (S' : List Nat) (ks : List (Key × V)), σ = [some (tx u), some (.ref pc), some (tx (aA ms u)), some (.ref sd), some (.ref sn), some (.ref l), some (.int (i : Int)), some (tx w'), some (.int (p : Int))] ∧ H' sd=some (.dK kd) ∧ H' sn=some (.dK ks) ∧ (∀ p, p < N → (cy ks (.inl (p : Int))).isSome=decide (p∈S')) ∧ ks.length+2*(uns N S').length≤2*N ∧ Cl N (sdZ ms u) S' ∧ H' l=some (.lst (t.map tx)) ∧ cj (enZ ms u) (sdZ ms u) (nxJ ms u J) N S i []=(S', w') ∧ au H H')
          ⟨N, [], i, S, ks, rfl, hi, d5, n5, kS, kl, cl, f5, ?_, by simp, rfl, s5⟩ ?_ ?_
        · unfold uns;exact yI (zr _ _) (by rw [yo];exact xT _)
        · rintro nx hnx m σ H6 ⟨w', p, S', ks, rfl, hp, d6, n6, kS, kl, cl, f6, um', wl, rn, s6⟩
          refine ⟨_, rfl, _, rfl, sn, _, rfl, gF.k (k := .inl (p : Int)) n6, _, rfl, ?_⟩
          rw [kS p hp]
          by_cases c : p∈S'
          · rw [yJ c]
            refine nO (hnx _ _ ⟨w', p, S', ks, rfl, d6, n6, kS, kl, cl, f6, ?_, s6⟩)
            rw [← rn, ni m c]
          · rw [yy c]
            have ul := qu (q := sdZ ms u p) hp c
            obtain ⟨m, rfl⟩ : ∃ k, m=k+1 := ⟨m - 1, by omega⟩
            refine sQ ⟨fun σ' H' => ∃ m', m' < m+1 ∧ _, fun _ _ h => h, ?_⟩
            refine ⟨_, rfl, _, rfl, _, rfl, _, _, _, rfl, rfl, (by rw [lenE];omega), mP (by omega) (by rw [hN];omega), _, _, rfl, rfl, (by rw [af];show _+1≤_;omega), ?_⟩
            rw [yf, show (⟨#[cp ((aA ms u).getD p 0)]⟩ : Str)=toS [enZ ms u p] from rfl, eL]
            refine ⟨_, rfl, _, rfl, sn, _, rfl, iR.k (k := .inl (p : Int)) n6 (by omega), ?_⟩
            have pl1 := aZ ks (.inl (p : Int)) (.bl true)
            have n7 : (upd H6 sn (.dK (bS ks (.inl (p : Int)) (.bl true)))) sn=some (.dK (bS ks (.inl (p : Int)) (.bl true))) := ab
            have d7 : (upd H6 sn (.dK (bS ks (.inl (p : Int)) (.bl true)))) sd=some (.dK kd) := by rw [ak nsd];exact d6
            have f7 : (upd H6 sn (.dK (bS ks (.inl (p : Int)) (.bl true)))) l=some (.lst (t.map tx)) := by rw [ak nls.symm];exact f6
            have s7 : au H (upd H6 sn (.dK (bS ks (.inl (p : Int)) (.bl true)))) := fun b o e => by rw [ak (ah e hsnH)];exact s6 _ _ e
            generalize upd H6 sn (.dK (bS ks (.inl (p : Int)) (.bl true)))=H7 at n7 d7 f7 s7 ⊢
            have g7 : gF H7 sd (.int (p : Int)) (some (.int (sdZ ms u p : Int))) := by rw [← kdv p hp];exact gF.k (k := .inl (p : Int)) d7
            refine ⟨_, rfl, _, rfl, _, rfl, sd, _, rfl, g7, sn, _, rfl, iR.k (k := .inl (sdZ ms u p : Int)) n7 (by omega), ?_⟩
            have pl2 := aZ (bS ks (.inl (p : Int)) (.bl true)) (.inl (sdZ ms u p : Int)) (.bl true)
            have n8 : (upd H7 sn (.dK (bS (bS ks (.inl (p : Int)) (.bl true)) (.inl (sdZ ms u p : Int)) (.bl true)))) sn=some (.dK (bS (bS ks (.inl (p : Int)) (.bl true)) (.inl (sdZ ms u p : Int)) (.bl true))) := ab
            have d8 : (upd H7 sn (.dK (bS (bS ks (.inl (p : Int)) (.bl true)) (.inl (sdZ ms u p : Int)) (.bl true)))) sd=some (.dK kd) := by rw [ak nsd];exact d7
            have f8 : (upd H7 sn (.dK (bS (bS ks (.inl (p : Int)) (.bl true)) (.inl (sdZ ms u p : Int)) (.bl true)))) l=some (.lst (t.map tx)) := by rw [ak nls.symm];exact f7
            have s8 : au H (upd H7 sn (.dK (bS (bS ks (.inl (p : Int)) (.bl true)) (.inl (sdZ ms u p : Int)) (.bl true)))) := fun b o e => by rw [ak (ah e hsnH)];exact s7 _ _ e
            generalize upd H7 sn (.dK (bS (bS ks (.inl (p : Int)) (.bl true)) (.inl (sdZ ms u p : Int)) (.bl true)))=H8 at n8 d8 f8 s8 ⊢
            have g8 : gF H8 sd (.int (p : Int)) (some (.int (sdZ ms u p : Int))) := by rw [← kdv p hp];exact gF.k (k := .inl (p : Int)) d8
            refine ⟨_, rfl, pc, _, _, _, rfl, rfl, SqT.of (s8 _ _ hpc), rfl, _, rfl, _, rfl, sd, _, rfl, g8, j, _, _, _, rfl, rfl, SqT.of (s8 _ _ hJ.at_), bW (v := .int (nxJ ms u J p : Int)) (by rw [xY, hJs p hp];rfl), ?_⟩
            have ev : ∀ q, q < N → (cy (bS (bS ks (.inl (p : Int)) (.bl true)) (.inl (sdZ ms u p : Int)) (.bl true)) (.inl (q : Int))).isSome=decide (q∈S'++[p, sdZ ms u p]) := fun q hq => by
              rw [cm, cm]
              by_cases c1 : q=sdZ ms u p
              · rw [if_pos (by rw [c1]), yJ (by rw [c1];simp)]
                rfl
              · rw [if_neg (fun e => c1 (by have := Bd e;omega))]
                by_cases c2 : q=p
                · rw [if_pos (by rw [c2]), yJ (by rw [c2];simp)]
                  rfl
                · rw [if_neg (fun e => c2 (by have := Bd e;omega)), kS q hq]
                  congr 1
                  simp [c1, c2]
            refine ⟨m, by omega, w'++[enZ ms u p], nxJ ms u J p, S'++[p, sdZ ms u p], _, rfl, DD.nx p hp, d8, n8, ev, by omega, cl.step DD hp, f8, by omega, by rw [xX];show _+1+_≤_;omega, ?_, s8⟩
            rw [← rn]
            show _=(if p∈S' then _ else _)
            rw [if_neg c]
        · rintro σ H6 ⟨w', p, S', ks, rfl, d6, n6, kS, kl, cl, f6, rn, s6⟩
          refine ⟨_, rfl, .inl ⟨rfl, _, SqL.of f6⟩, _, rfl, l, _, _, rfl, rfl, f6, by rw [fu];omega, ?_⟩
          rw [rn] at ot'
          refine ⟨_, _, _, S', t++[w'], ks, rfl, by rw [ak nld];exact d6, by rw [ak nls];exact n6, kS, kl, cl, by rw [ab, xZ];rfl, by rw [xX];show _+1≤_;omega, ot', fun b o e => by rw [ak (ah e hlH)];exact s6 _ _ e⟩
    · rintro σ H5 ⟨v6, v7, v8, S, t, ks, rfl, d5, n5, kS, kl, cl, f5, tl, ot, s5⟩
      rw [List.drop_of_length_le (by rw [yo];exact xT _)] at ot
      have ot : t=wsZ ms u J := ot
      rw [ot] at f5
      exact ⟨_, rfl, k l _ hlH s5 f5⟩
end
end Kx
namespace Kx
open PySem PySem.Spec PyProof.Rows L2 Wd
section
variable {P : Program} {w : World} {K : PySem.W.Frag} {mg : Str → Option Value} {base : Heap} {aB : Addr}
theorem uV {E : Nat → L}{sd nx : Nat → Nat}{N i : Nat}{S : List Nat}{t : List (List L)}(hi : i < N)(hb : ∀ q, q < i → q∈S)(hn : i∉S) : dW E sd nx N (List.range N) S t=dW E sd nx N (List.range N) (cj E sd nx N S i []).1 (t++[(cj E sd nx N S i []).2]) := by
  have sp : List.range N=(List.range N).take i++i::(List.range N).drop (i+1) := by rw [← jU hi, za]
  have tk : ∀ q∈(List.range N).take i, q < i := fun q hq => by
    rw [List.take_range, yG] at hq
    omega
  conv => lhs;rw [sp]
  rw [dX (fun q hq => hb q (tk q hq))]
  conv => rhs;rw [sp]
  rw [dX (fun q hq => gb N (hb q (tk q hq)))]
  show (if i∈S then _ else _)=(if i∈(cj E sd nx N S i []).1 then _ else _)
  rw [if_neg hn, if_pos (ir (by omega))]
theorem sC {E : Nat → L}{sd nx : Nat → Nat}{N : Nat}{S : List Nat}{t : List (List L)}(h : uns N S=[]) : dW E sd nx N (List.range N) S t=t := by
  have := dX (E := E) (sd := sd) (nx := nx) (N := N) (is := List.range N) (S := S) (t := t) (fun i hi => by
    rcases Classical.em (i∈S) with q | q
    · exact q
    · have : i∈uns N S := cq.mpr ⟨yG.mp hi, q⟩
      rw [h] at this
      cases this) []
  rw [zA] at this
  exact this
theorem pG {N i : Nat}{S r : List Nat}(h : uns N S=i::r) : i < N ∧ i∉S ∧ ∀ q, q < i → q∈S := by
  have hm : i∈uns N S := by rw [h];exact yb
  obtain ⟨h1, h2⟩ := cq.mp hm
  refine ⟨h1, h2, fun q hq => ?_⟩
  rcases Classical.em (q∈S) with c | c
  · exact c
  · have hq2 : q∈uns N S := cq.mpr ⟨by omega, c⟩
    have so : (uns N S).Pairwise (· < ·) := List.Pairwise.sublist Bm AC
    rw [h] at so hq2
    rcases ye.mp hq2 with e | e
    · omega
    · have := (List.pairwise_cons.mp so).1 q e
      omega
theorem pH {N i : Nat}{S S' : List Nat}(hs : ∀ q∈S, q∈S')(hi : i < N)(hn : i∉S)(hm : i∈S') : (uns N S').length < (uns N S).length := by
  have e : uns N S'=(uns N S).filter fun j => decide (j∉S') := by
    unfold uns
    rw [Bu]
    refine BI fun j _ => ?_
    rw [zb]
    simp only [yi, yw]
    exact ⟨fun h => ⟨h, fun q => h (hs j q)⟩, fun h => h.1⟩
  rw [e, Ac]
  exact ⟨i, cq.mpr ⟨hi, hn⟩, by simpa using hm⟩
def nts (l : List Nat) : List Int := l.map fun p : Nat => (p : Int)
theorem qD (p : Nat) : ∀ l : List Nat, inV (.int (p : Int)) ((nts l).map V.int)=decide (p∈l)
  | [] => rfl
  | x::r => by
    show (eqV (.int (x : Int)) (.int (p : Int)) || inV (.int (p : Int)) ((nts r).map V.int))=_
    rw [qD p r, zb]
    simp only [Bool.or_eq_true, yw, ye]
    have : eqV (.int (x : Int)) (.int (p : Int))=true ↔ p=x := by
      simp [eqV]
      omega
    rw [this]
theorem e6 (p : Nat) : ∀ l : List Nat, (nts l).erase (p : Int)=nts (l.erase p)
  | [] => rfl
  | x::r => by
    show ((x : Int)::nts r).erase (p : Int)=nts ((x::r).erase p)
    rw [B8, B8]
    by_cases c : x=p
    · subst c
      simp
    · rw [if_neg (by simp;omega), if_neg (by simpa using c), e6 p r]
      rfl
theorem nj {p : Nat}{l : List Nat} : (p : Int)∈nts l ↔ p∈l := by
  unfold nts
  rw [yq]
  exact ⟨fun ⟨q, hq, e⟩ => by rwa [show p=q by omega], fun h => ⟨p, h, rfl⟩⟩
theorem pI (l : List Nat) : ((nts l).map V.int).all fG=true := by
  rw [Ai]
  intro x hx
  obtain ⟨i, _, rfl⟩ := yq.mp hx
  rfl
abbrev gx : Stmt := top 35
theorem nq : aC ["_law_surface", "_law_picture", "_law_many", "_law_joins", "_law_out", "_law_left", "_law_found", "_law_point", "_law_word", "_law_end", "_law_there"] ["_law_surface", "_law_picture"] (aq gx) := ⟨rfl, rfl, rfl, by decide +kernel, rfl, by decide +kernel, by decide +kernel⟩
theorem pJ (D : Df K mg "_law_found_words" gx)(T : Bt K w mg aB)(F_wout : Fnc P w K mg base "_law_ways_out" ["_law_surface", "_law_many"] 2 nc) : Fnc P w K mg base "_law_found_words" ["_law_surface", "_law_picture"] 3 eZ := by
  have sc := nq
  refine D.ok sc (fun _ _ _ _ _ _ us hl => by obtain ⟨_, _, rfl⟩ := kE hl;rfl) (fun vs H Q E h => ?_) (fun f cdv A outer s H vs Q E hr h => ?_)
  · obtain ⟨u, n, pc, a, j, ms, J, rfl, _⟩ := h
    rfl
  · obtain ⟨u, n, pc, a, j, ms, J, rfl, U, hpc, hC, hJ, k⟩ := h
    have l16 := aO
    have hu := iU hr
    have hul := U.len
    have h6 := U.hi
    have um : ∀ x∈u, x.val % 6 < n := fun x hx => (U.mem x).mp hx
    have el := eY hC um
    have DD := qC U hJ
    refine ⟨_, (@ae _ _ _ _ _ (@cO _ _ _ _ _ _ (pv 1) (@gG _ _ _ _ _ _ rfl (@bB _ _ _ _ _ (@av _ _ (2) _ sc.nd rfl (Or.inl rfl) (by first | exact .inl rfl | exact .inr rfl | assumption)) (@bB _ _ _ _ _ (@av _ _ (3) _ sc.nd rfl (Or.inl rfl) (by first | exact .inl rfl | exact .inr rfl | assumption)) dZ (by rfl)) (by rfl)) (by rfl) (by rfl)) (by rfl) (by rfl) (by rfl)) (@ae _ _ _ _ _ (@ar _ _ (4) _ _ _ _ sc.nd rfl (Or.inl rfl) (@aG _ _ _ _ _ _ _ _ _ _ _ F_wout hr (by decide) rfl (@aa _ _ _ _ _ (pv 0) (@aa _ _ _ _ _ (pv 2) ag (by rfl)) (by rfl)) (by decide) (by rfl) (by rfl)) (by rfl) (by first | exact .inl rfl | exact .inr rfl | assumption)) (@ae _ _ _ _ _ (@ar _ _ (5) _ _ _ _ sc.nd rfl (Or.inl rfl) (@aU _ _ _ _ _ _ _ _ _ (@c8 _ rfl) (by rfl) T.list lO (@aa _ _ _ _ _ (@aU _ _ _ _ _ _ _ _ _ ig (by rfl) T.range boot_range (@aa _ _ _ _ _ (@ay _ _ _ _ _ _ _ _ _ aE (by rfl) T.len yu (@aa _ _ _ _ _ (pv 3) ag (by rfl)) (by decide) (by decide) (by rfl) (by rfl)) ag (by rfl)) (by decide) (by decide) (by rfl) (by rfl)) ag (by rfl)) (by decide) (by decide) (by rfl) (by rfl)) (by rfl) (by first | exact .inl rfl | exact .inr rfl | assumption)) (@ae _ _ _ _ _ (@ar _ _ (6) _ _ _ _ sc.nd rfl (Or.inl rfl) (@bM _ _ _ _ ag) (by rfl) (by first | exact .inl rfl | exact .inr rfl | assumption)) (@ae _ _ _ _ _ (@cW _ _ _ _ _ _ yr (@aW _ _ _ _ _ _ _ _ (@g9 _ (by exact hr.units)) (pv 5) (@bM _ _ _ _ ag) (bL _)) (@ae _ _ _ _ _ (@ar _ _ (7) _ _ _ _ sc.nd rfl (Or.inl rfl) (@aI _ _ _ _ _ _ _ aN (pv 5) ai (fun _ _ => rfl)) (by rfl) (by first | exact .inl rfl | exact .inr rfl | assumption)) (@ae _ _ _ _ _ (@ar _ _ (8) _ _ _ _ sc.nd rfl (Or.inl rfl) bC (by rfl) (by first | exact .inl rfl | exact .inr rfl | assumption)) (@ae _ _ _ _ _ (@cW _ _ _ _ _ _ yr (@aW _ _ _ _ _ _ _ _ lh (pv 7) (pv 5) rfl) (@ae _ _ _ _ _ (@cO _ _ _ _ _ _ (@eB _ _ _ _ _ _ hu (pv 4) (pv 7) (fun _ _ => rfl)) (@gG _ _ _ _ _ _ rfl (@bB _ _ _ _ _ (@av _ _ (9) _ sc.nd rfl (Or.inl rfl) (by first | exact .inl rfl | exact .inr rfl | assumption)) (@bB _ _ _ _ _ (@av _ _ (10) _ sc.nd rfl (Or.inl rfl) (by first | exact .inl rfl | exact .inr rfl | assumption)) dZ (by rfl)) (by rfl)) (by rfl) (by rfl)) (by rfl) (by rfl) (by rfl)) (@ae _ _ _ _ _ (@ar _ _ (8) _ _ _ _ sc.nd rfl (Or.inl rfl) (@aF _ _ _ _ _ _ _ _ bw (pv 8) (pv 9)) (by rfl) (by first | exact .inl rfl | exact .inr rfl | assumption)) (@ae _ _ _ _ _ (@bu _ _ _ _ (@bD _ _ _ _ _ _ _ _ _ _ _ _ yt BL BM fz (pv 5) (@aa _ _ _ _ _ (pv 7) ag (by rfl)) (by rfl) (by rfl) (by rfl) (by rfl) (by rfl)) (by rfl)) (@ae _ _ _ _ _ (@bu _ _ _ _ (@bD _ _ _ _ _ _ _ _ _ _ _ _ yt BL BM fz (pv 5) (@aa _ _ _ _ _ (pv 10) ag (by rfl)) (by rfl) (by rfl) (by rfl) (by rfl) (by rfl)) (by rfl)) (@ao _ _ _ (@ar _ _ (7) _ _ _ _ sc.nd rfl (Or.inl rfl) (@aI _ _ _ _ _ _ _ aY (pv 3) (pv 10) (fun _ _ => rfl)) (by rfl) (by first | exact .inl rfl | exact .inr rfl | assumption)))))))) (@ao _ _ _ (@bu _ _ _ _ (@bD _ _ _ _ _ _ _ _ _ _ _ _ yt yV zv cA (pv 6) (@aa _ _ _ _ _ (pv 8) ag (by rfl)) (by rfl) (by rfl) (by rfl) (by rfl) (by rfl)) (by rfl))))))) (@ao _ _ _ (@aH _ _ _ _ (pv 6)))))))), ?_⟩
    refine ⟨_, rfl, pc, _, rfl, SqT.of hpc, rfl, _, _, rfl, _, _, rfl, rfl, ?_⟩
    refine ⟨_, rfl, _, rfl, u, n, a, ms, rfl, U, hC, fun od ko H1 hod s1 o1 oa => ?_⟩
    generalize hN : (aA ms u).length=N at el DD hJ oa
    have jlen : (J.map V.int).length=N := by rw [fu, hJ.len]
    have hJs : ∀ p, p < N → J[sdZ ms u p]? = some (nxJ ms u J p : Int) := fun p hp => (nh (ms := ms) U (by rw [hN];exact hJ) (by rw [hN];exact hp)).1
    have R0 : wsZ ms u J=dW (enZ ms u) (sdZ ms u) (nxJ ms u J) N (List.range N) [] [] := by unfold wsZ;rw [hN]
    refine ⟨_, rfl, j, _, rfl, .inr (SqT.of (s1 _ _ hJ.at_)), _, rfl, fun p hp => ⟨p, N, rfl, (by rw [ab, jlen]), by omega, fun l hl => ?_⟩⟩
    rw [jlen] at hl ⊢
    have sl := (au.new (o := .rng 0 (N : Int)) hp).then (o := .lst ((List.range N).map fun i : Nat => V.int (i : Int))) hl
    have fl : (upd (upd H1 p (.rng 0 (N : Int))) l (.lst ((List.range N).map fun i : Nat => V.int (i : Int)))) l=some (.lst ((nts (uns N [])).map V.int)) := by
      have e : uns N []=List.range N := by unfold uns;exact List.filter_eq_self.mpr (fun x _ => by simp)
      rw [ab, e]
      unfold nts
      rw [yR]
      rfl
    have hlH : H l=none := none_of (s1.then hp) hl
    have nol : od≠l := ah (au.new hp _ _ o1) hl
    generalize upd (upd H1 p (.rng 0 (N : Int))) l (.lst ((List.range N).map fun i : Nat => V.int (i : Int)))=H2 at sl fl ⊢
    refine ⟨(by show 0≤sizeLine;decide), fun fo hfo => ?_⟩
    have s3 : au H2 (upd H2 fo (.lst [])) := au.new hfo
    have f3 : (upd H2 fo (.lst [])) fo=some (.lst (([] : List (List L)).map tx)) := ab
    have nlf : l≠fo := ah fl hfo
    have nof : od≠fo := ah (sl _ _ o1) hfo
    have hfoH : H fo=none := none_of (s1.trans sl) hfo
    generalize upd H2 fo (.lst [])=H3 at s3 f3 ⊢
    have s13 := sl.trans s3
    have u0 : (uns N []).length≤N := by unfold uns;exact yI (zr _ _) (by rw [yo];exact xT _)
    refine dR (fun m σ H' => ∃ (v7 v8 v9 v10 : Option V) (S : List Nat) (t : List (List L)), σ = [some (tx u), some (.ref pc), some (.ref a), some (.ref j), some (.ref od), some (.ref l), some (.ref fo), v7, v8, v9, v10] ∧ H' od=some (.dK ko) ∧ OuA ms u H' ko N ∧ H' l=some (.lst ((nts (uns N S)).map V.int)) ∧ Cl N (sdZ ms u) S ∧ H' fo=some (.lst (t.map tx)) ∧ t.length+(uns N S).length≤N ∧ dW (enZ ms u) (sdZ ms u) (nxJ ms u J) N (List.range N) S t=wsZ ms u J ∧ au H H' ∧ m=(uns N S).length)
      (fun σ H' => ∃ (v7 v8 v9 v10 : Option V), σ = [some (tx u), some (.ref pc), some (.ref a), some (.ref j), some (.ref od), some (.ref l), some (.ref fo), v7, v8, v9, v10] ∧ H' fo=some (.lst ((wsZ ms u J).map tx)) ∧ au H H')
      ⟨_, none, none, none, none, [], [], rfl, s13 _ _ o1, oa.to (fun b xs e => s13 _ _ e), s3 _ _ fl, ⟨(fun p hp => by cases hp), (fun p hp => by cases hp)⟩, f3, by show 0+_≤_;omega, R0.symm, s1.trans s13, rfl⟩ ?_ ?_
    · rintro nx hnx m σ H4 ⟨v7, v8, v9, v10, S, t, rfl, o4, oa4, l4, cl, f4, tl, ot, s4, rfl⟩
      refine ⟨_, rfl, (by show 0≤sizeLine;decide), fun q hq => ⟨l, q, _, rfl, rfl, au.new hq _ _ l4, ab, _, rfl, ?_⟩⟩
      have s5 : au H4 (upd H4 q (.lst [])) := au.new hq
      generalize upd H4 q (.lst [])=H5 at s5 ⊢
      cases hu2 : uns N S with
      | nil =>
        have e : t=wsZ ms u J := by rw [← ot, sC hu2]
        rw [e] at f4
        exact nO (hnx _ _ ⟨_, _, _, _, rfl, s5 _ _ f4, s4.trans s5⟩)
      | cons i r =>
        obtain ⟨iN, iS, ib⟩ := pG hu2
        refine sQ ⟨fun σ' H' => ∃ m', m' < (i::r).length ∧ _, fun _ _ h => h, ?_⟩
        have l5 := s5 _ _ l4
        refine ⟨_, rfl, l, _, _, .int (i : Int), rfl, rfl, SqL.of l5, (by rw [hu2];exact bW (j := 0) rfl), ?_⟩
        refine eW ?_
        refine eW ?_
        refine dR (fun m σ H' => ∃ (w' : List L) (p : Nat) (S' : List Nat) (v9 v10 : Option V), σ = [some (tx u), some (.ref pc), some (.ref a), some (.ref j), some (.ref od), some (.ref l), some (.ref fo), some (.int (p : Int)), some (tx w'), v9, v10] ∧ p < N ∧ H' od=some (.dK ko) ∧ OuA ms u H' ko N ∧ H' l=some (.lst ((nts (uns N S')).map V.int)) ∧ Cl N (sdZ ms u) S' ∧ H' fo=some (.lst (t.map tx)) ∧ (uns N S').length≤m ∧ w'.length+m≤N ∧ cj (enZ ms u) (sdZ ms u) (nxJ ms u J) m S' p w'=cj (enZ ms u) (sdZ ms u) (nxJ ms u J) N S i [] ∧ au H H')
          (fun σ H' => ∃ (w' : List L) (p : Nat) (S' : List Nat) (v9 v10 : Option V), σ = [some (tx u), some (.ref pc), some (.ref a), some (.ref j), some (.ref od), some (.ref l), some (.ref fo), some (.int (p : Int)), some (tx w'), v9, v10] ∧ H' od=some (.dK ko) ∧ OuA ms u H' ko N ∧ H' l=some (.lst ((nts (uns N S')).map V.int)) ∧ Cl N (sdZ ms u) S' ∧ H' fo=some (.lst (t.map tx)) ∧ cj (enZ ms u) (sdZ ms u) (nxJ ms u J) N S i []=(S', w') ∧ au H H')
          ⟨N, [], i, S, _, _, rfl, iN, s5 _ _ o4, oa4.to (fun b xs e => s5 _ _ e), l5, cl, s5 _ _ f4, by omega, by simp, rfl, s4.trans s5⟩ ?_ ?_
        · rintro nx hnx m σ H6 ⟨w', p, S', v9, v10, rfl, hp, o6, oa6, l6, cl, f6, um', wl, rn, s6⟩
          refine ⟨_, rfl, _, rfl, l, _, rfl, .inl (SqL.of l6), rfl, pI _, _, rfl, ?_⟩
          show if inV (.int (p : Int)) ((nts (uns N S')).map V.int)=true then _ else _
          rw [qD]
          by_cases c : p∈S'
          · rw [yy (fun q => (cq.mp q).2 c)]
            refine nO (hnx _ _ ⟨w', p, S', _, _, rfl, o6, oa6, l6, cl, f6, ?_, s6⟩)
            rw [← rn, ni m c]
          · rw [yJ (cq.mpr ⟨hp, c⟩)]
            have ul := qu (q := sdZ ms u p) hp c
            obtain ⟨m, rfl⟩ : ∃ k, m=k+1 := ⟨m - 1, by omega⟩
            refine sQ ⟨fun σ' H' => ∃ m', m' < m+1 ∧ _, fun _ _ h => h, ?_⟩
            obtain ⟨b, hvb, hb⟩ := oa6 p hp
            refine ⟨_, rfl, _, rfl, od, .ref b, rfl, (by rw [← hvb];exact gF.k (k := .inl (p : Int)) o6), b, _, rfl, SqT.of hb, rfl, _, _, rfl, _, _, rfl, rfl, ?_⟩
            refine ⟨_, rfl, _, rfl, _, _, rfl, rfl, (by rw [af, af];show _+1≤_;omega), ?_⟩
            rw [eL]
            refine ⟨_, rfl, .inl ⟨rfl, _, SqL.of l6⟩, _, rfl, l, _, _, rfl, rfl, l6, nj.mpr (cq.mpr ⟨hp, c⟩), ?_⟩
            rw [e6]
            have l7 : (upd H6 l (.lst ((nts ((uns N S').erase p)).map V.int))) l=some (.lst ((nts ((uns N S').erase p)).map V.int)) := ab
            have k7 : ∀ b o, b≠l → H6 b=some o → (upd H6 l (.lst ((nts ((uns N S').erase p)).map V.int))) b=some o := fun b o nb e => by rw [ak nb];exact e
            generalize upd H6 l (.lst ((nts ((uns N S').erase p)).map V.int))=H7 at l7 k7 ⊢
            have sdm : sdZ ms u p∈(uns N S').erase p := by
              rw [(mE N S').mem_erase_iff]
              exact ⟨DD.ne p hp, cq.mpr ⟨DD.lt p hp, cl.out DD hp c⟩⟩
            refine ⟨_, rfl, .inl ⟨rfl, _, SqL.of l7⟩, _, rfl, l, _, _, rfl, rfl, l7, nj.mpr sdm, ?_⟩
            rw [e6, ← rH]
            have k8 : ∀ b o, b≠l → H6 b=some o → (upd H7 l (.lst ((nts (uns N (S'++[p, sdZ ms u p]))).map V.int))) b=some o := fun b o nb e => by rw [ak nb];exact k7 _ _ nb e
            have l8 : (upd H7 l (.lst ((nts (uns N (S'++[p, sdZ ms u p]))).map V.int))) l=some (.lst ((nts (uns N (S'++[p, sdZ ms u p]))).map V.int)) := ab
            generalize upd H7 l (.lst ((nts (uns N (S'++[p, sdZ ms u p]))).map V.int))=H8 at l8 k8 ⊢
            have s8 : au H H8 := fun b o e => k8 _ _ (ah e hlH) (s6 _ _ e)
            refine ⟨_, rfl, _, rfl, j, _, _, _, rfl, rfl, SqT.of (s8 _ _ hJ.at_), bW (v := .int (nxJ ms u J p : Int)) (by rw [xY, hJs p hp];rfl), ?_⟩
            refine ⟨m, by omega, w'++[enZ ms u p], nxJ ms u J p, S'++[p, sdZ ms u p], _, _, rfl, DD.nx p hp, k8 _ _ nol o6, oa6.to (fun b xs e => k8 _ _ (cM e l6 (by intro z;cases z)) e), l8, cl.step DD hp, k8 _ _ nlf.symm f6, by omega, by rw [xX];show _+1+_≤_;omega, ?_, s8⟩
            rw [← rn]
            show _=(if p∈S' then _ else _)
            rw [if_neg c]
        · rintro σ H6 ⟨w', p, S', v9, v10, rfl, o6, oa6, l6, cl, f6, rn, s6⟩
          have sub : ∀ q∈S, q∈S' := fun q hq => by
            have := gb (E := enZ ms u) (sd := sdZ ms u) (nx := nxJ ms u J) N (S := S) (p := i) (w := []) hq
            rwa [rn] at this
          have im : i∈S' := by
            have := ir (E := enZ ms u) (sd := sdZ ms u) (nx := nxJ ms u J) (f := N) (S := S) (p := i) (w := []) (by omega)
            rwa [rn] at this
          have ls := pH sub iN iS im
          rw [uV iN ib iS, rn] at ot
          refine ⟨_, rfl, .inl ⟨rfl, _, SqL.of f6⟩, _, rfl, fo, _, _, rfl, rfl, f6, by rw [fu];omega, ?_⟩
          refine ⟨(uns N S').length, by rw [← hu2];exact ls, _, _, _, _, S', t++[w'], rfl, by rw [ak nof];exact o6, oa6.to (fun b xs e => by rw [ak (cM e f6 (by intro z;cases z))];exact e), by rw [ak nlf];exact l6, cl, by rw [ab, xZ];rfl, by rw [xX];show _+1+_≤_;omega, ot, fun b o e => by rw [ak (ah e hfoH)];exact s6 _ _ e, rfl⟩
    · rintro σ H4 ⟨v7, v8, v9, v10, rfl, f4, s4⟩
      exact ⟨_, rfl, k fo _ hfoH s4 f4⟩
end
end Kx
namespace Kx
open PySem PySem.Spec PyProof.Rows L2 Wd
section
variable {P : Program} {w : World} {K : PySem.W.Frag} {mg : Str → Option Value} {base : Heap} {aB : Addr}
theorem uW (w : List L) : ∃ v, e_ (toS v) ((ft w++ft (bk w)).map toS) := by
  have ne : (ft w++ft (bk w)).map toS≠[] := by
    have : w∈ft w := iW.mp (Rt.refl w)
    intro e
    rw [List.map_eq_nil_iff, B1] at e
    rw [e.1] at this
    cases this
  obtain ⟨m, hm⟩ := oJ _ ne
  obtain ⟨v, _, rfl⟩ := yq.mp hm.1
  exact ⟨v, hm⟩
def sm (w : List L) : List L := Classical.choose (uW w)
theorem pK (w : List L) : e_ (toS (sm w)) ((ft w++ft (bk w)).map toS) := Classical.choose_spec (uW w)
theorem rt_bk {a b : List L}(h : Rt a b) : Rt (bk a) (bk b) := by
  obtain ⟨x, y, rfl, rfl⟩ := h
  exact ⟨bk y, bk x, c5 _ _, c5 _ _⟩
theorem jV {w p : List L} : p∈ft w++ft (bk w) ↔ Rt w p ∨ Rt (bk w) p := by rw [yn, iW, iW]
theorem sD {w v : List L}(h : ∀ p, (Rt w p ∨ Rt (bk w) p) ↔ (Rt v p ∨ Rt (bk v) p)) : sm w=sm v := by
  have a := pK w
  have b := pK v
  have g : ∀ z, z∈(ft w++ft (bk w)).map toS ↔ z∈(ft v++ft (bk v)).map toS := fun z => by
    rw [yq, yq]
    exact ⟨fun ⟨p, hp, e⟩ => ⟨p, jV.mpr ((h p).mp (jV.mp hp)), e⟩, fun ⟨p, hp, e⟩ => ⟨p, jV.mpr ((h p).mpr (jV.mp hp)), e⟩⟩
  exact eI (e_.one a ⟨(g _).mpr b.1, fun y hy => b.2 y ((g y).mp hy)⟩)
theorem uX {w v : List L}(h : Rt w v ∨ Rt (bk w) v) : sm v=sm w := by
  refine sD fun p => ?_
  rcases h with h | h
  · have h2 := rt_bk h
    exact ⟨fun q => q.elim (fun q => .inl (h.trans q)) fun q => .inr (h2.trans q), fun q => q.elim (fun q => .inl (h.symm.trans q)) fun q => .inr (h2.symm.trans q)⟩
  · have h2 := rt_bk h
    rw [vV] at h2
    exact ⟨fun q => q.elim (fun q => .inr (h.trans q)) fun q => .inl (h2.trans q), fun q => q.elim (fun q => .inr (h2.symm.trans q)) fun q => .inl (h.symm.trans q)⟩
inductive nr (vs : List V)(H : Hp)(Q : VK)(u3_ : XK) : Prop
  | mk : ∀ (w : List L), (vs=[tx w]) → (1≤w.length) → (w.length≤1300) → (∀ (H' : Hp), au H H' → Q (tx (sm w)) H') → nr vs H Q u3_
abbrev nu : Stmt := top 36
theorem sE : aC ["_law_word", "_law_other", "_law_some"] ["_law_word"] (aq nu) := ⟨rfl, rfl, rfl, by decide +kernel, rfl, by decide +kernel, by decide +kernel⟩
theorem uY (D : Df K mg "_law_same" nu)(T : Bt K w mg aB)(F_lback : Fnc P w K mg base "_law_back" ["_law_word"] 1 oE) : Fnc P w K mg base "_law_same" ["_law_word"] 2 nr := by
  have sc := sE
  refine D.ok sc (fun _ _ _ _ _ _ us hl => by obtain ⟨_, rfl⟩ := nP hl;rfl) (fun vs H Q E h => ?_) (fun f cdv A outer s H vs Q E hr h => ?_)
  · obtain ⟨w', rfl, _⟩ := h
    rfl
  · obtain ⟨w', rfl, w1, w2, k⟩ := h
    have l16 := aO
    have bl := bE w'
    have one : ∀ (v : List L) (i : Nat), v.length=w'.length → i < w'.length → Txt.slice (toS v) (some (i : Int)) none=toS (v.drop i) ∧ Txt.slice (toS v) none (some (i : Int))=toS (v.take i) := fun v i hv hi => by
      have c1 := fQ v (show (0 : Int)≤(i : Int) by omega)
      have c2 := c6 v (show (0 : Int)≤(i : Int) by omega)
      rw [yf] at c1 c2
      exact ⟨by rw [aV, c1], by rw [aV, c2]⟩
    refine ⟨_, (@ae _ _ _ _ _ (@ar _ _ (1) _ _ _ _ sc.nd rfl (Or.inr rfl) (@aG _ _ _ _ _ _ _ _ _ _ _ F_lback hr (by decide) rfl (@aa _ _ _ _ _ (pv 0) ag (by rfl)) (by decide) (by rfl) (by rfl)) (by rfl) (by first | exact .inl rfl | exact .inr rfl | assumption)) (@ae _ _ _ _ _ (@lT _ (2) _ _ _ _ _ _ _ _ _ (["_law_k", "_law_word"]) (["_law_k"]) ([0]) _ _ _ _ sc.nd rfl (Or.inl rfl) (@bP _ _ _ _ _ _ rfl (by kernel_rfl)) rfl (@aJ _ _ _ _ _ _ rfl T.range (@aa _ _ _ _ _ (@ay _ _ _ _ _ _ _ _ _ aD (by rfl) T.len yu (@aa _ _ _ _ _ (pv 0) ag (by rfl)) (by decide) (by decide) (by rfl) (by rfl)) ag (by rfl)) (by rfl)) (fun _ _ _ _ => @av _ _ (0) _ (show (["_law_k", "_law_word"] : List Str).Nodup from by decide +kernel) rfl (Or.inl rfl) (by first | exact .inl rfl | exact .inr rfl | assumption)) (fun _ _ _ _ => aR) (fun _ _ _ _ => by (exact @aF _ _ _ _ _ _ _ _ bw (by (exact (@aM _ _ _ _ _ _ _ _ _ _ bU (pv 1) (@aX _ _ _ (pv 0)) bh))) (by (exact (@aM _ _ _ _ _ _ _ _ _ _ bU (pv 1) bh (@aX _ _ _ (pv 0))))))) (by intro _ ;rfl) (by rfl) (by first | exact .inl rfl | exact .inr rfl | assumption)) (@ao _ _ _ (@aH _ _ _ _ (@ay _ _ _ _ _ _ _ _ _ (@fS _ rfl) (by rfl) T.min vY (@aa _ _ _ _ _ (@aF _ _ _ _ _ _ _ _ tP (pv 2) (@bz _ _ _ _ _ _ _ (["_law_k", "_law_other"]) (["_law_k"]) ([1]) _ _ _ _ (@bP _ _ _ _ _ _ rfl (by kernel_rfl)) rfl (@aJ _ _ _ _ _ _ rfl T.range (@aa _ _ _ _ _ (@ay _ _ _ _ _ _ _ _ _ aD (by rfl) T.len yu (@aa _ _ _ _ _ (pv 0) ag (by rfl)) (by decide) (by decide) (by rfl) (by rfl)) ag (by rfl)) (by rfl)) (fun _ _ _ _ => @av _ _ (0) _ (show (["_law_k", "_law_other"] : List Str).Nodup from by decide +kernel) rfl (Or.inl rfl) (by first | exact .inl rfl | exact .inr rfl | assumption)) (fun _ _ _ _ => aR) (fun _ _ _ _ => by (exact @aF _ _ _ _ _ _ _ _ bw (by (exact (@aM _ _ _ _ _ _ _ _ _ _ bU (pv 1) (@aX _ _ _ (pv 0)) bh))) (by (exact (@aM _ _ _ _ _ _ _ _ _ _ bU (pv 1) bh (@aX _ _ _ (pv 0))))))) (by intro _ ;rfl))) ag (by rfl)) (by decide) (by decide) (by rfl) (by rfl)))))), ?_⟩
    refine ⟨_, rfl, w', rfl, by omega, fun H1 s1 => ?_⟩
    refine ⟨_, rfl, _, rfl, (by rw [af];omega), _, rfl, by rw [af];omega, by rw [af];omega, ?_⟩
    rw [af, yf]
    refine bH (own := ["_law_k"]) (cap := [0]) (J := Itr 0 w'.length) w'.length (fun i ys σ H' => ∃ v : Option V, σ = [v, some (tx w')] ∧ ys=(List.range i).map (fun k => tx (rot w' k)) ∧ H'=H1) ⟨none, rfl, rfl, rfl⟩ (fun i ys σ H' hi ⟨_, _, e, _⟩ => by rw [e, fu, yo];exact xT _) (by omega) (fun i ys σ H' hi _ => hi) (fun ys σ H' _ => xT _) ?_ ?_
    · rintro i ys σ H2 x H3 N hi ⟨v, rfl, rfl, rfl⟩ ⟨rfl, rfl⟩ hN
      rw [zS]
      obtain ⟨c1, c2⟩ := one w' i rfl hi
      refine ⟨_, rfl, _, rfl, _, rfl, _, rfl, (by rw [af];omega), ?_⟩
      rw [c1]
      refine ⟨_, rfl, _, rfl, _, rfl, _, rfl, (by rw [af];omega), ?_⟩
      rw [c2]
      refine ⟨_, _, rfl, rfl, (by rw [af, af, yK, yg];omega), ?_⟩
      rw [eL]
      exact hN _ _ _ ⟨_, rfl, by rw [zD, xZ];rfl, rfl⟩
    rintro ys σ H2 l ⟨v, rfl, rfl, rfl⟩ hl
    have s3 : au H2 (upd H2 l (.lst ((List.range w'.length).map fun k => tx (rot w' k)))) := au.new hl
    have f3 : (upd H2 l (.lst ((List.range w'.length).map fun k => tx (rot w' k)))) l=some (.lst ((List.range w'.length).map fun k => tx (rot w' k))) := ab
    generalize upd H2 l (.lst ((List.range w'.length).map fun k => tx (rot w' k)))=H3 at s3 f3 ⊢
    refine ⟨_, rfl, _, rfl, _, rfl, (by rw [af];omega), _, rfl, by rw [af];omega, by rw [af];omega, ?_⟩
    rw [af, yf]
    refine bH (own := ["_law_k"]) (cap := [1]) (J := Itr 0 w'.length) w'.length (fun i ys σ H' => ∃ v : Option V, σ = [v, some (tx (bk w'))] ∧ ys=(List.range i).map (fun k => tx (rot (bk w') k)) ∧ H'=H3) ⟨none, rfl, rfl, rfl⟩ (fun i ys σ H' hi ⟨_, _, e, _⟩ => by rw [e, fu, yo];exact xT _) (by omega) (fun i ys σ H' hi _ => hi) (fun ys σ H' _ => xT _) ?_ ?_
    · rintro i ys σ H4 x H5 N hi ⟨v, rfl, rfl, rfl⟩ ⟨rfl, rfl⟩ hN
      rw [zS]
      obtain ⟨c1, c2⟩ := one (bk w') i bl hi
      refine ⟨_, rfl, _, rfl, _, rfl, _, rfl, (by rw [af];omega), ?_⟩
      rw [c1]
      refine ⟨_, rfl, _, rfl, _, rfl, _, rfl, (by rw [af];omega), ?_⟩
      rw [c2]
      refine ⟨_, _, rfl, rfl, (by rw [af, af, yK, yg];omega), ?_⟩
      rw [eL]
      exact hN _ _ _ ⟨_, rfl, by rw [zD, xZ];rfl, rfl⟩
    rintro ys σ H4 q ⟨v, rfl, rfl, rfl⟩ hq
    have s5 : au H4 (upd H4 q (.lst ((List.range w'.length).map fun k => tx (rot (bk w') k)))) := au.new hq
    have f5 : (upd H4 q (.lst ((List.range w'.length).map fun k => tx (rot (bk w') k)))) q=some (.lst ((List.range w'.length).map fun k => tx (rot (bk w') k))) := ab
    generalize upd H4 q (.lst ((List.range w'.length).map fun k => tx (rot (bk w') k)))=H5 at s5 f5 ⊢
    refine ⟨l, q, _, _, rfl, rfl, s5 _ _ f3, f5, (by rw [fu, fu, yo];omega), fun z hz => ?_⟩
    have er : ((List.range w'.length).map fun k => tx (rot w' k))++((List.range w'.length).map fun k => tx (rot (bk w') k))=((ft w'++ft (bk w')).map toS).map V.str := by
      unfold ft
      rw [bl, show max 1 w'.length=w'.length by omega, xZ, xZ, yR, yR, yR, yR]
      rfl
    refine ⟨z, (ft w'++ft (bk w')).map toS, rfl, SqL.of (by rw [ab, er]), ?_, fun m hm => ?_⟩
    · intro e
      have := (pK w').1
      rw [e] at this
      cases this
    · rw [e_.one hm (pK w')]
      exact k _ ((s1.trans (s3.trans s5)).then hz)
end
end Kx
namespace Kx
open PySem PySem.Spec PyProof.Rows L2 Wd
def ji (l : List Int)(c : Nat × Nat) : List Int := (l.set c.1 (c.2 : Int)).set c.2 (c.1 : Int)
def dA (cs : List (Nat × Nat)) : List Nat := cs.flatMap fun c => [c.1, c.2]
theorem jW (l : List Int)(c : Nat × Nat) : (ji l c).length=l.length := by unfold ji; rw [zm, zm]
theorem gy : ∀ (cs : List (Nat × Nat)) (l : List Int), (cs.foldl ji l).length=l.length
  | [], _ => rfl
  | c::r, l => by rw [zB, gy r, jW]
theorem gz : ∀ (cs : List (Nat × Nat)) (l : List Int) (i : Nat), i∉dA cs → (cs.foldl ji l)[i]? = l[i]?
  | [], _, _, _ => rfl
  | c::r, l, i, h => by
    have h : i∉c.1::c.2::dA r := h
    simp only [ye, not_or] at h
    rw [zB, gz r _ i h.2.2]
    unfold ji
    rw [zN (Ne.symm h.2.1), zN (Ne.symm h.1)]
theorem jj : ∀ (cs : List (Nat × Nat)) (l : List Int), (dA cs).Nodup → (∀ e∈dA cs, e < l.length) → ∀ c∈cs, (cs.foldl ji l)[c.1]? = some (c.2 : Int) ∧ (cs.foldl ji l)[c.2]? = some (c.1 : Int)
  | [], _, _, _, _, h => by cases h
  | d::r, l, nd, lt, c, h => by
    have nd : (d.1::d.2::dA r).Nodup := nd
    have lt : ∀ e∈d.1::d.2::dA r, e < l.length := lt
    obtain ⟨n1, nd2⟩ := y9.mp nd
    obtain ⟨n2, nd3⟩ := y9.mp nd2
    rw [zB]
    rcases ye.mp h with rfl | h
    · have ne : c.1≠c.2 := fun e => n1 (by rw [e];exact yb)
      rw [gz r _ _ (fun m => n1 (x3 _ m)), gz r _ _ n2]
      have l1 := lt c.1 yb
      have l2 := lt c.2 (x3 _ yb)
      unfold ji
      constructor
      · rw [zN (Ne.symm ne), z1 l1]
      · rw [z1 (by rw [zm];exact l2)]
    · exact jj r _ nd3 (fun e he => by rw [jW];exact lt e (x3 _ (x3 _ he))) c h
def pvZ (W : List (List L))(p : Int × Int) : Int × Int := (p.1, (p.2 - 1) % ((W.getD p.1.toNat []).length : Int))
theorem uZ {W : List (List L)}{p : Int × Int}(ok : okS W p=true) : okS W (pvZ W p)=true ∧ nxZ W (pvZ W p)=p := by
  unfold okS at ok
  simp only [yi, yw] at ok
  obtain ⟨⟨h1, h2⟩, h3, h4⟩ := ok
  have hp : 0 < ((W.getD p.1.toNat []).length : Int) := by omega
  have g1 := zd (p.2 - 1) (show ((W.getD p.1.toNat []).length : Int)≠0 by omega)
  have g2 := yW (p.2 - 1) hp
  constructor
  · unfold okS pvZ
    simp only [yi, yw]
    exact ⟨⟨h1, h2⟩, g1, g2⟩
  · unfold nxZ pvZ
    refine Cg rfl ?_
    show ((p.2 - 1) % _+1) % _=p.2
    rw [Int.emod_add_emod, Int.sub_add_cancel, Int.emod_eq_of_lt h3 h4]
theorem nx_inj {W : List (List L)}{p q : Int × Int}(hp : okS W p=true)(hq : okS W q=true)(h : nxZ W p=nxZ W q) : p=q := by
  have e : ∀ {p : Int × Int}, okS W p=true → pvZ W (nxZ W p)=p := fun {p} ok => by
    unfold okS at ok
    simp only [yi, yw] at ok
    obtain ⟨⟨h1, h2⟩, h3, h4⟩ := ok
    unfold nxZ pvZ
    refine Cg rfl ?_
    show ((p.2+1) % _ - 1) % _=p.2
    rw [Int.emod_sub_emod, Int.add_sub_cancel, Int.emod_eq_of_lt h3 h4]
  rw [← e hp, h, e hq]
def ptE (W : List (List L))(p : Int × Int) : List (L × (Int × Int)) := [(inv (ltZ W p), p), (ltZ W (nxZ W p), nxZ W p)]
theorem qE : ∀ x : L, inv x≠x := by decide
theorem two_of : ∀ x y : L, x.val % 6=y.val % 6 → x=y ∨ x=inv y := by decide
theorem ny {W : List (List L)} : ((bA W).flatMap (ptE W)).Nodup := by
  have no : ∀ a b : Int × Int, (inv (ltZ W a), a)≠(ltZ W b, b) := fun a b e => by
    have e2 : a=b := yB Prod.snd e
    subst e2
    exact qE _ (yB Prod.fst e)
  unfold List.Nodup
  rw [AS]
  refine ⟨fun p _ => List.pairwise_cons.mpr ⟨fun y hy => by rw [x4.mp hy];exact no _ _, List.pairwise_singleton _ _⟩, ?_⟩
  refine Ao ?_ (fY (dS W))
  intro p q hp hq ne x hx y hy
  have hx : x=(inv (ltZ W p), p) ∨ x=(ltZ W (nxZ W p), nxZ W p) := by simpa [ptE] using hx
  have hy : y=(inv (ltZ W q), q) ∨ y=(ltZ W (nxZ W q), nxZ W q) := by simpa [ptE] using hy
  rcases hx with rfl | rfl <;> rcases hy with rfl | rfl
  · exact fun e => ne (yB Prod.snd e)
  · exact no _ _
  · exact (no _ _).symm
  · exact fun e => ne (nx_inj (bI.mp hp) (bI.mp hq) (yB Prod.snd e))
theorem gA {n : Nat}{W : List (List L)}{H : Hp}{r : Addr}{rows : List (List (Int × Int))}{u : List L}(U : SK u n)(dw : Dw n W H r rows)(hW : ∀ w∈W, InM n w) : (az rows u).Perm ((bA W).flatMap (ptE W)) := by
  refine (Bp (fA U dw) ny).mpr fun z => ?_
  constructor
  · intro h
    unfold az at h
    obtain ⟨x, hx, hz⟩ := y6.mp h
    obtain ⟨p, hp, rfl⟩ := yq.mp hz
    have g : p∈rows.getD (x.val % 6) [] := by
      unfold rowZ at hp
      split at hp
      · exact hp
      · exact Aj.mp hp
    rw [xU] at g
    cases e : rows[x.val % 6]? with
    | none => rw [e] at g;cases g
    | some row =>
      rw [e] at g
      have g : p∈rA W (x.val % 6) := (dw.pm _ _ e).mem_iff.mp g
      obtain ⟨g1, g2⟩ := z6.mp g
      have g2 : ltS W p=x.val % 6 := by simpa using g2
      have g2 : x.val % 6=(ltZ W p).val % 6 := g2.symm
      rw [y6]
      rcases two_of _ _ g2 with rfl | rfl
      · obtain ⟨o1, o2⟩ := uZ (bI.mp g1)
        exact ⟨pvZ W p, bI.mpr o1, x3 _ (x4.mpr (by rw [o2]))⟩
      · exact ⟨p, g1, yb⟩
  · intro h
    obtain ⟨p, hp, hz⟩ := y6.mp h
    obtain ⟨i1, i2⟩ := px U dw hW (bI.mp hp)
    have hz : z=(inv (ltZ W p), p) ∨ z=(ltZ W (nxZ W p), nxZ W p) := by simpa [ptE] using hz
    rcases hz with rfl | rfl
    · exact i1
    · exact i2
theorem nz (W : List (List L)) : ∀ ps : List (Int × Int), (ps.flatMap (ptE W)).length=2*ps.length
  | [] => rfl
  | p::r => by rw [zi, xX, nz W r, yF];show 2+_=_;omega
theorem e7 {n : Nat}{W : List (List L)}{H : Hp}{r : Addr}{rows : List (List (Int × Int))}{u : List L}(U : SK u n)(dw : Dw n W H r rows)(hW : ∀ w∈W, InM n w) : (az rows u).length=2*(bA W).length := by
  rw [(gA U dw hW).length_eq, nz]
def c9 (pts : List (L × (Int × Int)))(W : List (List L)) : List Int := ((bA W).map (cdZ pts W)).foldl ji (List.replicate (2*(bA W).length) 0)
theorem e8 (pts : List (L × (Int × Int)))(W : List (List L)) : ∀ ps : List (Int × Int), dA (ps.map (cdZ pts W))=(ps.flatMap (ptE W)).map fun z => pts.idxOf z
  | [] => rfl
  | p::r => by
    show (cdZ pts W p).1::(cdZ pts W p).2::dA (r.map (cdZ pts W))=_
    rw [e8 pts W r, zi, xZ]
    rfl
theorem idx_inj {α : Type}[BEq α][LawfulBEq α]{l : List α}{a b : α}(ha : a∈l)(hb : b∈l)(h : l.idxOf a=l.idxOf b) : a=b := by
  have h1 := yz ha
  have h2 := yz hb
  have e1 := zu h1
  have e2 := zu h2
  rw [← e1, ← e2]
  congr 1
theorem sF {n : Nat}{W : List (List L)}{H : Hp}{r : Addr}{rows : List (List (Int × Int))}{u : List L}(U : SK u n)(dw : Dw n W H r rows)(hW : ∀ w∈W, InM n w) :
    ∀ i, i < 2*(bA W).length → ∃ j : Nat, j < 2*(bA W).length ∧ j≠i ∧ (c9 (az rows u) W)[i]? = some (j : Int) ∧ (c9 (az rows u) W)[j]? = some (i : Int) := by
  have hl := e7 U dw hW
  have pm := gA U dw hW
  have nd := fA U dw
  have en : (dA ((bA W).map (cdZ (az rows u) W))).Nodup := by
    rw [e8]
    unfold List.Nodup
    rw [Ah]
    exact Ao (fun {a b} ha hb ne e => ne (idx_inj (pm.mem_iff.mpr ha) (pm.mem_iff.mpr hb) e)) ny
  have lt : ∀ e∈dA ((bA W).map (cdZ (az rows u) W)), e < 2*(bA W).length := fun e he => by
    rw [e8] at he
    obtain ⟨z, hz, rfl⟩ := yq.mp he
    rw [← hl]
    exact yz (pm.mem_iff.mpr hz)
  have fi := jj _ (List.replicate (2*(bA W).length) 0) en (by rw [yp];exact lt)
  intro i hi
  have hi2 : i < (az rows u).length := by omega
  have hm := pm.mem_iff.mp (yP hi2)
  have ix := nd.idxOf_getElem i hi2
  obtain ⟨p, hp, hz⟩ := y6.mp hm
  have hz : (az rows u)[i]=(inv (ltZ W p), p) ∨ (az rows u)[i]=(ltZ W (nxZ W p), nxZ W p) := by simpa [ptE] using hz
  have hc : cdZ (az rows u) W p∈(bA W).map (cdZ (az rows u) W) := yq.mpr ⟨p, hp, rfl⟩
  obtain ⟨f1, f2⟩ := fi _ hc
  have me : ∀ e, e∈[(cdZ (az rows u) W p).1, (cdZ (az rows u) W p).2] → e∈dA ((bA W).map (cdZ (az rows u) W)) := fun e he => y6.mpr ⟨_, hc, he⟩
  have l1 := lt _ (me _ yb)
  have l2 := lt _ (me _ (x3 _ yb))
  obtain ⟨i1, i2⟩ := px U dw hW (bI.mp hp)
  have ne : (cdZ (az rows u) W p).1≠(cdZ (az rows u) W p).2 := fun e => by
    have e := idx_inj i1 i2 e
    have e2 : p=nxZ W p := yB Prod.snd e
    have e3 : inv (ltZ W p)=ltZ W (nxZ W p) := yB Prod.fst e
    rw [← e2] at e3
    exact qE _ e3
  rcases hz with hz | hz
  · rw [hz] at ix
    have ix : (cdZ (az rows u) W p).1=i := ix
    rw [ix] at f1 f2 ne
    exact ⟨_, l2, ne.symm, f1, f2⟩
  · rw [hz] at ix
    have ix : (cdZ (az rows u) W p).2=i := ix
    rw [ix] at f1 f2 ne
    exact ⟨_, l1, ne, f2, f1⟩
theorem jX (pts : List (L × (Int × Int)))(W : List (List L)) : (c9 pts W).length=2*(bA W).length := by unfold c9; rw [gy, yp]
def iG (rows : List (List (Int × Int))) : List Int := rows.map fun r => (r.length : Int)
theorem pL {f : L → Nat} : ∀ {u v : List L}, u.Perm v → (u.map f).sum=(v.map f).sum := fun p => (p.map f).sum_nat
theorem nA (f : Nat → Nat) : ∀ k, k≤6 → ((fam k).map fun x => f (x.val % 6)).sum=2*((List.range k).map f).sum
  | 0, _ => rfl
  | k+1, h => by
    rw [jD (by omega), xZ, List.sum_append, nA f k (by omega), zD, xZ, List.sum_append]
    show _+(f (k % 6)+(f ((k+6) % 6)+0))=2*(_+(f k+0))
    rw [zj, yA (show k < 6 by omega)]
    omega
theorem iA {E : Nat → L}{sd nx : Nat → Nat}{S : List Nat}{P : Nat → Nat}{len : Nat}(h1 : 1≤len)(hc : P len=P 0)(hn : ∀ k, k < len → nx (P k)=P (k+1))(ho : ∀ k, k < len → P k∉S)(hd : ∀ k m, m < k → k < len → P k≠P m ∧ P k≠sd (P m)) :
    ∀ (r k f : Nat), k+r=len → r≤f → cj E sd nx f (S++(List.range k).flatMap fun m => [P m, sd (P m)]) (P k) ((List.range k).map fun m => E (P m))=(S++(List.range len).flatMap fun m => [P m, sd (P m)], (List.range len).map fun m => E (P m))
  | 0, k, f, hk, _ => by
    have hk : k=len := by omega
    subst hk
    refine ni f ?_
    rw [hc]
    exact x6 _ (y6.mpr ⟨0, yG.mpr (by omega), yb⟩)
  | r+1, k, f, hk, hf => by
    obtain ⟨f, rfl⟩ : ∃ g, f=g+1 := ⟨f - 1, by omega⟩
    have hkl : k < len := by omega
    have no : P k∉S++(List.range k).flatMap fun m => [P m, sd (P m)] := fun q => by
      rcases yn.mp q with q | q
      · exact ho k hkl q
      · obtain ⟨m, hm, q⟩ := y6.mp q
        obtain ⟨d1, d2⟩ := hd k m (yG.mp hm) hkl
        simp only [ye, yD, zV] at q
        exact q.elim d1 d2
    show (if P k∈_ then _ else _)=_
    rw [if_neg no, hn k hkl]
    have ih := iA (E := E) h1 hc hn ho hd r (k+1) f (by omega) (by omega)
    rw [zD, zU, xZ] at ih
    simp only [zi, BW, zA, yk, Br] at ih
    rw [← AF] at ih
    exact ih
theorem qF {a b n : Nat}(h : a % n=b % n)(h1 : a < b)(h2 : b - a < n) : False := by
  have := Nat.sub_mod_eq_zero_of_mod_eq h.symm
  rw [yA h2] at this
  omega
section
variable {n : Nat} {W : List (List L)} {H : Hp} {r : Addr} {rows : List (List (Int × Int))} {u : List L}
def msZ (rows : List (List (Int × Int))) : List Nat := rows.map List.length
theorem dC (rows : List (List (Int × Int)))(x : L) : (rowZ rows x).length=bb (msZ rows) x := by
  unfold bb msZ rowZ
  rw [xU, xU, xY]
  cases rows[x.val % 6]? with
  | none => split <;> rfl
  | some row => split <;> simp
theorem gC (rows : List (List (Int × Int))) : ∀ u : List L, aA (msZ rows) u=(az rows u).map Prod.fst
  | [] => rfl
  | x::r => by
    rw [bR, gC rows r]
    unfold az
    rw [zi, xZ, yR, ← dC]
    congr 1
    generalize rowZ rows x=l
    induction l with
    | nil => rfl
    | cons a l ih => rw [yF, yY, ih];rfl
theorem nB (rows : List (List (Int × Int))) : ∀ {u : List L} {x : L}, x∈u → ∀ {k : Nat} {p : Int × Int}, (rowZ rows x)[k]? = some p → (az rows u)[bgZ (msZ rows) u x+k]? = some (x, p)
  | y::r, x, h, k, p, hk => by
    have hkl : k < (rowZ rows x).length := (xV.mp hk).1
    show ((rowZ rows y).map (fun p => (y, p))++az rows r)[_]? = _
    by_cases c : y=x
    · subst c
      rw [i5, Ab, yN (by rw [fu];exact hkl), xY, hk]
      rfl
    · have h : x∈r := by
        rcases ye.mp h with h | h
        · exact absurd h.symm c
        · exact h
      rw [i6 c, y8 (by rw [fu, dC];omega), fu, dC, show bb (msZ rows) y+bgZ (msZ rows) r x+k - bb (msZ rows) y=bgZ (msZ rows) r x+k by omega]
      exact nB rows h hk
theorem sG (rows : List (List (Int × Int)))(x : L) : rowZ rows (inv x)=(rowZ rows x).reverse := by
  unfold rowZ
  rw [cV]
  by_cases c : x.val < 6
  · rw [if_pos c, if_neg (m8 c)]
  · have : (inv x).val < 6 := by
      have q : ∀ x : L, ¬ x.val < 6 → (inv x).val < 6 := by decide
      exact q x c
    rw [if_neg c, if_pos this, List.reverse_reverse]
theorem sH (U : SK u n) : (aA (msZ rows) u).length=(az rows u).length := by rw [gC, fu]
theorem u3 (U : SK u n){i : Nat}{x : L}{q : Int × Int}(h : (az rows u)[i]? = some (x, q)) : (az rows u)[sdZ (msZ rows) u i]? = some (inv x, q) := by
  have hi : i < (aA (msZ rows) u).length := by rw [sH U];exact (xV.mp h).1
  obtain ⟨y, k, hy, hk, rfl, ey⟩ := mB U hi
  have hk2 : k < (rowZ rows y).length := by rw [dC];exact hk
  have g := nB rows hy (xS hk2)
  rw [h] at g
  have g := x5 g
  have e1 : x=y := yB Prod.fst g
  have e2 : q=(rowZ rows y)[k] := yB Prod.snd g
  subst e1
  rw [kA U hy hk]
  refine nB rows (iq U hy) ?_
  rw [sG, zo (by rw [dC];omega), dC, show bb (msZ rows) x - 1 - (bb (msZ rows) x - 1 - k)=k by omega, e2]
  exact xS hk2
theorem u4 (U : SK u n){i : Nat}{x : L}{q : Int × Int}(h : (az rows u)[i]? = some (x, q)) : enZ (msZ rows) u i=x := o8 (by rw [gC, xY, h]; rfl)
theorem iB {z : L × (Int × Int)}(h : z∈az rows u) : (az rows u)[(az rows u).idxOf z]? = some z := by
  have hl := yz h
  rw [xS hl, zu hl]
theorem nC (nd : (az rows u).Nodup){i : Nat}{z : L × (Int × Int)}(h : (az rows u)[i]? = some z) : i=(az rows u).idxOf z := by
  obtain ⟨hl, e⟩ := xV.mp h
  rw [← e, nd.idxOf_getElem i hl]
theorem sI (U : SK u n)(dw : Dw n W H r rows){x : L}{q : Int × Int}(h : (x, q)∈az rows u) : sdZ (msZ rows) u ((az rows u).idxOf (x, q))=(az rows u).idxOf (inv x, q) := nC (fA U dw) (u3 U (iB h))
theorem nD (U : SK u n)(dw : Dw n W H r rows)(hW : ∀ w∈W, InM n w){p : Int × Int}(hp : okS W p=true) : (c9 (az rows u) W)[(az rows u).idxOf (inv (ltZ W p), p)]? = some ((az rows u).idxOf (ltZ W (nxZ W p), nxZ W p) : Int) ∧ (c9 (az rows u) W)[(az rows u).idxOf (ltZ W (nxZ W p), nxZ W p)]? = some ((az rows u).idxOf (inv (ltZ W p), p) : Int) := by
  have hl := e7 U dw hW
  have pm := gA U dw hW
  have en : (dA ((bA W).map (cdZ (az rows u) W))).Nodup := by
    rw [e8]
    unfold List.Nodup
    rw [Ah]
    exact Ao (fun {a b} ha hb ne e => ne (idx_inj (pm.mem_iff.mpr ha) (pm.mem_iff.mpr hb) e)) ny
  have lt : ∀ e∈dA ((bA W).map (cdZ (az rows u) W)), e < 2*(bA W).length := fun e he => by
    rw [e8] at he
    obtain ⟨z, hz, rfl⟩ := yq.mp he
    rw [← hl]
    exact yz (pm.mem_iff.mpr hz)
  exact jj _ (List.replicate (2*(bA W).length) 0) en (by rw [yp];exact lt) (cdZ (az rows u) W p) (yq.mpr ⟨p, bI.mpr hp, rfl⟩)
theorem jY (U : SK u n)(dw : Dw n W H r rows)(hW : ∀ w∈W, InM n w){p : Int × Int}(hp : okS W p=true) : (ltZ W p, p)∈az rows u ∧ (inv (ltZ W p), p)∈az rows u := by
  have l1 := jQ hW hp
  exact ⟨gm U dw l1 hp rfl, gm U dw (by rw [cV];exact l1) hp (by rw [cV];rfl)⟩
theorem wG (U : SK u n)(dw : Dw n W H r rows)(hW : ∀ w∈W, InM n w){p : Int × Int}(hp : okS W p=true) : nxJ (msZ rows) u (c9 (az rows u) W) ((az rows u).idxOf (ltZ W p, p))=(az rows u).idxOf (ltZ W (nxZ W p), nxZ W p) := by
  unfold nxJ
  rw [sI U dw (jY U dw hW hp).1, xU, (nD U dw hW hp).1]
  rfl
theorem wH (U : SK u n)(dw : Dw n W H r rows)(hW : ∀ w∈W, InM n w){p : Int × Int}(hp : okS W p=true) : nxJ (msZ rows) u (c9 (az rows u) W) ((az rows u).idxOf (inv (ltZ W p), p))=(az rows u).idxOf (inv (ltZ W (pvZ W p)), pvZ W p) := by
  obtain ⟨o1, o2⟩ := uZ hp
  have := (nD U dw hW o1).2
  rw [o2] at this
  unfold nxJ
  rw [sI U dw (jY U dw hW hp).2, uB, xU, this]
  rfl
theorem nE (dw : Dw n W H r rows){x : L}{q : Int × Int}(h : (x, q)∈az rows u) : okS W q=true ∧ (x=ltZ W q ∨ x=inv (ltZ W q)) := by
  unfold az at h
  obtain ⟨y, hy, hz⟩ := y6.mp h
  obtain ⟨p, hp, e⟩ := yq.mp hz
  have e1 : y=x := yB Prod.fst e
  have e2 : p=q := yB Prod.snd e
  subst e1 e2
  have g : p∈rows.getD (y.val % 6) [] := by
    unfold rowZ at hp
    split at hp
    · exact hp
    · exact Aj.mp hp
  rw [xU] at g
  cases e : rows[y.val % 6]? with
  | none => rw [e] at g;cases g
  | some row =>
    rw [e] at g
    have g : p∈rA W (y.val % 6) := (dw.pm _ _ e).mem_iff.mp g
    obtain ⟨g1, g2⟩ := z6.mp g
    have g2 : ltS W p=y.val % 6 := by simpa using g2
    exact ⟨bI.mp g1, two_of _ _ g2.symm⟩
end
end Kx
namespace Kx
open PySem PySem.Spec PyProof.Rows L2 Wd
theorem pM (W : List (List L)) : (bA W).length=W.flatten.length := by
  have h : ∀ k, k≤W.length → (kF W k).length=((W.take k).flatten).length := fun k => by
    induction k with
    | zero => exact fun _ => rfl
    | succ k ih =>
      intro hk
      have e : W[k]? = some W[k] := xS (by omega)
      rw [eT, xX, ih (by omega), bc e, List.flatten_append, xX, fu, yo, mO e]
      simp
  have := h W.length (xT _)
  rwa [yL] at this
section
variable {n : Nat} {W : List (List L)} {H : Hp} {r : Addr} {rows : List (List (Int × Int))} {u : List L}
def Wp (rows : List (List (Int × Int)))(u : List L)(i : Int)(p : Nat) : Prop := ∃ x q, (az rows u)[p]? = some (x, q) ∧ q.1=i
theorem cyc (U : SK u n)(dw : Dw n W H r rows)(hW : ∀ w∈W, InM n w){S : List Nat}{i : Int}{len : Nat}{s : Nat → Int × Int}{y : Int × Int → L}(hy : (∀ q, y q=ltZ W q) ∨ (∀ q, y q=inv (ltZ W q)))(h1 : 1≤len)(hlN : len≤(az rows u).length)
    (hs : ∀ k, okS W (s k)=true ∧ (s k).1=i) (hc : s len=s 0) (hd : ∀ m k, m < k → k < len → s k≠s m) (hn : ∀ k, k < len → nxJ (msZ rows) u (c9 (az rows u) W) ((az rows u).idxOf (y (s k), s k))=(az rows u).idxOf (y (s (k+1)), s (k+1)))
    (hcov : ∀ q, okS W q=true → q.1=i → ∃ m, m < len ∧ s m=q) (hS : ∀ p, Wp rows u i p → p∉S) :
    (cj (enZ (msZ rows) u) (sdZ (msZ rows) u) (nxJ (msZ rows) u (c9 (az rows u) W)) (az rows u).length S ((az rows u).idxOf (y (s 0), s 0)) []).2=(List.range len).map (fun m => y (s m)) ∧
    ∀ p, p < (az rows u).length → (p∈(cj (enZ (msZ rows) u) (sdZ (msZ rows) u) (nxJ (msZ rows) u (c9 (az rows u) W)) (az rows u).length S ((az rows u).idxOf (y (s 0), s 0)) []).1 ↔ p∈S ∨ Wp rows u i p) := by
  have ym : ∀ q, okS W q=true → (y q, q)∈az rows u ∧ (inv (y q), q)∈az rows u := fun q hq => by
    obtain ⟨a, b⟩ := jY U dw hW hq
    rcases hy with hy | hy
    · rw [hy q];exact ⟨a, b⟩
    · rw [hy q, uB];exact ⟨b, a⟩
  have nd := fA U dw
  have w1 : ∀ k, Wp rows u i ((az rows u).idxOf (y (s k), s k)) := fun k => ⟨_, _, iB (ym _ (hs k).1).1, (hs k).2⟩
  have sdk : ∀ k, sdZ (msZ rows) u ((az rows u).idxOf (y (s k), s k))=(az rows u).idxOf (inv (y (s k)), s k) := fun k => sI U dw (ym _ (hs k).1).1
  have run := iA (E := enZ (msZ rows) u) (sd := sdZ (msZ rows) u) (nx := nxJ (msZ rows) u (c9 (az rows u) W)) (S := S) (P := fun k => (az rows u).idxOf (y (s k), s k)) (len := len) h1 (by show (az rows u).idxOf _=(az rows u).idxOf _;rw [hc]) hn (fun k _ => hS _ (w1 k)) (fun k m hm hk => ⟨fun e => hd m k hm hk (yB Prod.snd (idx_inj (ym _ (hs k).1).1 (ym _ (hs m).1).1 e)), fun e => by
      have e : (az rows u).idxOf (y (s k), s k)=sdZ (msZ rows) u ((az rows u).idxOf (y (s m), s m)) := e
      rw [sdk m] at e
      exact hd m k hm hk (yB Prod.snd (idx_inj (ym _ (hs k).1).1 (ym _ (hs m).1).2 e))⟩) len 0 (az rows u).length (by omega) hlN
  have e0 : S++(List.range 0).flatMap (fun m => [(az rows u).idxOf (y (s m), s m), sdZ (msZ rows) u ((az rows u).idxOf (y (s m), s m))])=S := zA S
  rw [e0] at run
  have run : cj (enZ (msZ rows) u) (sdZ (msZ rows) u) (nxJ (msZ rows) u (c9 (az rows u) W)) (az rows u).length S ((az rows u).idxOf (y (s 0), s 0)) []=_ := run
  rw [run]
  refine ⟨?_, fun p hp => ?_⟩
  · show (List.range len).map (fun m => enZ (msZ rows) u ((az rows u).idxOf (y (s m), s m)))=_
    exact zC fun m _ => u4 U (iB (ym _ (hs m).1).1)
  · show p∈S++(List.range len).flatMap (fun m => [(az rows u).idxOf (y (s m), s m), sdZ (msZ rows) u ((az rows u).idxOf (y (s m), s m))]) ↔ _
    rw [yn, y6]
    constructor
    · rintro (h | ⟨m, hm, h⟩)
      · exact .inl h
      · simp only [ye, yD, zV] at h
        rcases h with rfl | rfl
        · exact .inr (w1 m)
        · rw [sdk m]
          exact .inr ⟨_, _, iB (ym _ (hs m).1).2, (hs m).2⟩
    · rintro (h | ⟨x, q, hq, qi⟩)
      · exact .inl h
      · obtain ⟨ok, hx⟩ := nE dw (x_ hq)
        obtain ⟨m, hm, rfl⟩ := hcov q ok qi
        refine .inr ⟨m, yG.mpr hm, ?_⟩
        have ep := nC nd hq
        rw [sdk m, ep]
        simp only [ye, yD, zV]
        rcases hy with hy | hy <;> rw [hy] <;> rcases hx with rfl | rfl
        · exact .inl rfl
        · exact .inr rfl
        · rw [uB];exact .inr rfl
        · exact .inl rfl
theorem qG {w : List L}{j : Nat}(hj : j < w.length) : (List.range w.length).map (fun m => w.getD ((j+m) % w.length) 0)=w.drop j++w.take j := by
  refine BX (by rw [fu, yo, xX, yK, yg];omega) fun m h1 h2 => ?_
  rw [fu, yo] at h1
  rw [zJ, Az]
  by_cases c : j+m < w.length
  · rw [yA c, List.getElem_append_left (by rw [yK];omega), List.getElem_drop, xU, xS c]
    rfl
  · have e : (j+m) % w.length=j+m - w.length := by rw [Nat.mod_eq_sub_mod (by omega), yA (by omega)]
    rw [e, List.getElem_append_right (by rw [yK];omega), List.getElem_take, xU, xS (by omega)]
    simp only [yK, BU]
    congr 1
    omega
theorem u5 {w : List L}{t : Nat}(h : t < w.length) : (bk w).getD t 0=inv (w.getD (w.length - 1 - t) 0) := by
  unfold bk
  rw [xU, xU, zo (by rw [fu];exact h), xY, fu, xS (show w.length - 1 - t < w.length by omega)]
  rfl
theorem u6 {w : List L}{j : Nat}(hj : j < w.length) : (List.range w.length).map (fun m => inv (w.getD ((j+w.length - m) % w.length) 0))=(bk w).drop (w.length - 1 - j)++(bk w).take (w.length - 1 - j) := by
  have bl := bE w
  have := qG (w := bk w) (j := w.length - 1 - j) (by rw [bl];omega)
  rw [← this, bl]
  refine zC fun m hm => ?_
  have hm := yG.mp hm
  by_cases c : m≤j
  · rw [show (j+w.length - m) % w.length=j - m by rw [show j+w.length - m=j - m+w.length by omega, zj, yA (by omega)], yA (show w.length - 1 - j+m < w.length by omega), u5 (by omega), show w.length - 1 - (w.length - 1 - j+m)=j - m by omega]
  · rw [yA (show j+w.length - m < w.length by omega), show (w.length - 1 - j+m) % w.length=m - 1 - j by rw [show w.length - 1 - j+m=m - 1 - j+w.length by omega, zj, yA (by omega)], u5 (by omega), show w.length - 1 - (m - 1 - j)=j+w.length - m by omega]
theorem sJ (U : SK u n)(dw : Dw n W H r rows)(hW : ∀ w∈W, InM n w){S : List Nat}{p : Nat}{x : L}{q : Int × Int}(hp : (az rows u)[p]? = some (x, q))(hS : ∀ p, Wp rows u q.1 p → p∉S) :
    sm (cj (enZ (msZ rows) u) (sdZ (msZ rows) u) (nxJ (msZ rows) u (c9 (az rows u) W)) (az rows u).length S p []).2=sm (W.getD q.1.toNat []) ∧
    ∀ p', p' < (az rows u).length → (p'∈(cj (enZ (msZ rows) u) (sdZ (msZ rows) u) (nxJ (msZ rows) u (c9 (az rows u) W)) (az rows u).length S p []).1 ↔ p'∈S ∨ Wp rows u q.1 p') := by
  obtain ⟨ok, hx⟩ := nE dw (x_ hp)
  have ep := nC (fA U dw) hp
  have ok' := ok
  unfold okS at ok'
  simp only [yi, yw] at ok'
  obtain ⟨⟨o1, o2⟩, o3, o4⟩ := ok'
  obtain ⟨i, j⟩ := q
  obtain ⟨j, rfl⟩ := yS o3
  have o1 : 0≤i := o1
  have o2 : i < W.length := o2
  have o4 : ((j : Nat) : Int) < ((W.getD i.toNat []).length : Int) := o4
  show sm _=sm (W.getD i.toNat []) ∧ _
  have wm : W.getD i.toNat []∈W := by
    rw [xU, xS (show i.toNat < W.length by omega)]
    exact yP _
  have lN : (W.getD i.toNat []).length≤(az rows u).length := by
    have h1 := (List.sublist_flatten_of_mem wm).length_le
    have h2 := pM W
    have h3 := e7 U dw hW
    omega
  have okm : ∀ m : Nat, m < (W.getD i.toNat []).length → okS W (i, (m : Int))=true := fun m hm => by
    unfold okS
    simp only [yi, yw]
    exact ⟨⟨o1, o2⟩, by omega, by show (m : Int) < ((W.getD i.toNat []).length : Int);omega⟩
  have lt : ∀ m : Nat, ltZ W (i, (m : Int))=(W.getD i.toNat []).getD m 0 := fun m => rfl
  have jl : j < (W.getD i.toNat []).length := by omega
  have cv : ∀ q, okS W q=true → q.1=i → ∃ t : Nat, t < (W.getD i.toNat []).length ∧ q=(i, (t : Int)) := fun q hq e => by
    unfold okS at hq
    simp only [yi, yw] at hq
    obtain ⟨q1, q2⟩ := q
    have e : q1=i := e
    subst e
    obtain ⟨t, rfl⟩ := yS hq.2.1
    have : (t : Int) < ((W.getD q1.toNat []).length : Int) := hq.2.2
    exact ⟨t, by omega, rfl⟩
  generalize hw : W.getD i.toNat []=w at jl lN okm lt cv
  have lp : 0 < w.length := by omega
  rcases hx with hx | hx
  · have c := cyc U dw hW (S := S) (i := i) (len := w.length) (s := fun k => (i, (((j+k) % w.length : Nat) : Int))) (y := fun q => ltZ W q) (.inl fun _ => rfl) (by omega) lN (fun k => ⟨okm _ (B_ _ lp), rfl⟩) (by show (i, _)=(i, _);rw [zj, B7]) (fun m k hm hk e => qF (n := w.length) (show (j+m) % w.length=(j+k) % w.length by have := yB Prod.snd e;have : (((j+k) % w.length : Nat) : Int)=(((j+m) % w.length : Nat) : Int) := this;omega) (by omega) (by omega)) (fun k hk => ?_) (fun q hq e => ?_) hS
    · have e0 : ((i, (((j+0) % w.length : Nat) : Int)) : Int × Int)=(i, (j : Int)) := by rw [B7, yA jl]
      simp only [e0] at c
      rw [← hx, ← ep] at c
      refine ⟨?_, c.2⟩
      rw [c.1]
      refine uX (.inl ?_)
      have : (List.range w.length).map (fun m => ltZ W (i, (((j+m) % w.length : Nat) : Int)))=w.drop j++w.take j := (zC fun m _ => lt _).trans (qG jl)
      rw [this]
      exact ⟨w.take j, w.drop j, (za j w).symm, rfl⟩
    · show nxJ _ _ _ ((az rows u).idxOf (ltZ W (i, _), (i, _)))=_
      rw [wG U dw hW (okm _ (B_ _ lp))]
      have e : nxZ W (i, (((j+k) % w.length : Nat) : Int))=(i, (((j+(k+1)) % w.length : Nat) : Int)) := by
        unfold nxZ
        refine Cg rfl ?_
        show ((((j+k) % w.length : Nat) : Int)+1) % ((W.getD i.toNat []).length : Int)=_
        rw [hw, show ((((j+k) % w.length : Nat) : Int)+1)=(((j+k) % w.length+1 : Nat) : Int) from rfl, ← BY, Nat.mod_add_mod, Nat.add_assoc]
      rw [e]
    · obtain ⟨t, ht, rfl⟩ := cv q hq e
      refine ⟨(t+w.length - j) % w.length, B_ _ lp, ?_⟩
      show (i, (((j+(t+w.length - j) % w.length) % w.length : Nat) : Int))=(i, (t : Int))
      rw [Nat.add_mod_mod, show j+(t+w.length - j)=t+w.length by omega, zj, yA ht]
  · have c := cyc U dw hW (S := S) (i := i) (len := w.length) (s := fun k => (i, (((j+w.length - k % (w.length+1)) % w.length : Nat) : Int))) (y := fun q => inv (ltZ W q)) (.inr fun _ => rfl) (by omega) lN (fun k => ⟨okm _ (B_ _ lp), rfl⟩) ?_ (fun m k hm hk e => ?_) (fun k hk => ?_) (fun q hq e => ?_) hS
    · have e0 : ((i, (((j+w.length - 0 % (w.length+1)) % w.length : Nat) : Int)) : Int × Int)=(i, (j : Int)) := by rw [Nat.zero_mod, Bs, zj, yA jl]
      simp only [e0] at c
      rw [← hx, ← ep] at c
      refine ⟨?_, c.2⟩
      rw [c.1]
      refine uX (.inr ?_)
      have : (List.range w.length).map (fun m => inv (ltZ W (i, (((j+w.length - m % (w.length+1)) % w.length : Nat) : Int))))=(bk w).drop (w.length - 1 - j)++(bk w).take (w.length - 1 - j) := by
        rw [← u6 jl]
        refine zC fun m hm => ?_
        rw [yA (show m < w.length+1 by have := yG.mp hm;omega)]
        exact yB inv (lt _)
      rw [this]
      exact ⟨(bk w).take (w.length - 1 - j), (bk w).drop (w.length - 1 - j), (za _ _).symm, rfl⟩
    · show (i, _)=(i, _)
      rw [yA (show w.length < w.length+1 by omega), Nat.zero_mod, Bs, zj, show j+w.length - w.length=j by omega]
    · have e : (((j+w.length - k % (w.length+1)) % w.length : Nat) : Int)=(((j+w.length - m % (w.length+1)) % w.length : Nat) : Int) := yB Prod.snd e
      rw [yA (show k < w.length+1 by omega), yA (show m < w.length+1 by omega)] at e
      exact qF (n := w.length) (show (j+w.length - k) % w.length=(j+w.length - m) % w.length by omega) (by omega) (by omega)
    · show nxJ _ _ _ ((az rows u).idxOf (inv (ltZ W (i, _)), (i, _)))=_
      rw [wH U dw hW (okm _ (B_ _ lp))]
      have e : pvZ W (i, (((j+w.length - k % (w.length+1)) % w.length : Nat) : Int))=(i, (((j+w.length - (k+1) % (w.length+1)) % w.length : Nat) : Int)) := by
        rw [yA (show k < w.length+1 by omega), yA (show k+1 < w.length+1 by omega)]
        unfold pvZ
        refine Cg rfl ?_
        show ((((j+w.length - k) % w.length : Nat) : Int) - 1) % ((W.getD i.toNat []).length : Int)=_
        rw [hw, BY, Int.emod_sub_emod, show ((j+w.length - k : Nat) : Int) - 1=((j+w.length - (k+1) : Nat) : Int) by omega, ← BY]
      rw [e]
    · obtain ⟨t, ht, rfl⟩ := cv q hq e
      by_cases c : t≤j
      · refine ⟨j - t, by omega, ?_⟩
        show (i, (((j+w.length - (j - t) % (w.length+1)) % w.length : Nat) : Int))=(i, (t : Int))
        rw [yA (show j - t < w.length+1 by omega), show j+w.length - (j - t)=t+w.length by omega, zj, yA ht]
      · refine ⟨j+w.length - t, by omega, ?_⟩
        show (i, (((j+w.length - (j+w.length - t) % (w.length+1)) % w.length : Nat) : Int))=(i, (t : Int))
        rw [yA (show j+w.length - t < w.length+1 by omega), show j+w.length - (j+w.length - t)=t by omega, yA ht]
end
end Kx
namespace Kx
open PySem PySem.Spec PyProof.Rows L2 Wd
theorem jZ {E : Nat → L}{sd nx : Nat → Nat} : ∀ (f : Nat) {S : List Nat} {p : Nat} {w : List L}, w.length≤(cj E sd nx f S p w).2.length
  | 0, _, _, _ => xT _
  | f+1, S, p, w => by
    unfold cj
    split
    · exact xT _
    · have := jZ (E := E) (sd := sd) (nx := nx) f (S := S++[p, sd p]) (p := nx p) (w := w++[E p])
      rw [xX] at this
      omega
theorem sL {E : Nat → L}{sd nx : Nat → Nat}{f : Nat}{S : List Nat}{p : Nat}(hf : 0 < f)(hn : p∉S) : 1≤(cj E sd nx f S p []).2.length := by
  obtain ⟨f, rfl⟩ : ∃ g, f=g+1 := ⟨f - 1, by omega⟩
  show 1≤(if p∈S then (S, []) else cj E sd nx f (S++[p, sd p]) (nx p) ([]++[E p])).2.length
  rw [if_neg hn]
  exact jZ (E := E) (sd := sd) (nx := nx) f (S := S++[p, sd p]) (p := nx p) (w := []++[E p])
theorem jk {E : Nat → L}{sd nx : Nat → Nat}{N : Nat} : ∀ (is : List Nat) (S : List Nat) (t : List (List L)), (∀ i∈is, i < N) → (∀ w∈t, 1≤w.length) → ∀ w∈dW E sd nx N is S t, 1≤w.length
  | [], _, t, _, h => h
  | i::r, S, t, hi, h => by
    show ∀ w∈(if i∈S then dW E sd nx N r S t else dW E sd nx N r (cj E sd nx N S i []).1 (t++[(cj E sd nx N S i []).2])), 1≤w.length
    have h0 := hi i yb
    by_cases c : i∈S
    · rw [if_pos c]
      exact jk r S t (fun j hj => hi j (x3 _ hj)) h
    · rw [if_neg c]
      refine jk r _ _ (fun j hj => hi j (x3 _ hj)) fun w hw => ?_
      rcases yn.mp hw with hw | hw
      · exact h w hw
      · rw [x4.mp hw]
        exact sL (by omega) c
section
variable {n : Nat} {W : List (List L)} {H : Hp} {r : Addr} {rows : List (List (Int × Int))} {u : List L}
theorem qH {i k : Int}{p : Nat}(h : Wp rows u i p)(g : Wp rows u k p) : i=k := by
  obtain ⟨x, q, h1, rfl⟩ := h
  obtain ⟨y, s, g1, rfl⟩ := g
  rw [h1] at g1
  have e : q=s := yB Prod.snd (x5 g1)
  rw [e]
theorem gD (U : SK u n)(dw : Dw n W H r rows)(hW : ∀ w∈W, InM n w) : ∀ (is : List Nat) (S : List Nat) (t : List (List L)) (D : List Nat), (∀ p∈is, p < (az rows u).length) → D.Nodup → (∀ i∈D, i < W.length) → (∀ p, p < (az rows u).length → (p∈S ↔ ∃ i∈D, Wp rows u ((i : Nat) : Int) p)) → t.map sm=D.map (fun i => sm (W.getD i [])) →
    ∃ D' : List Nat, D'.Nodup ∧ (∀ i∈D', i < W.length) ∧ (∀ i∈D, i∈D') ∧ (dW (enZ (msZ rows) u) (sdZ (msZ rows) u) (nxJ (msZ rows) u (c9 (az rows u) W)) (az rows u).length is S t).map sm=D'.map (fun i => sm (W.getD i [])) ∧ ∀ p∈is, ∃ i∈D', Wp rows u ((i : Nat) : Int) p
  | [], S, t, D, _, nd, lt, _, e => ⟨D, nd, lt, fun _ h => h, e, fun _ h => by cases h⟩
  | p::is, S, t, D, hb, nd, lt, hS, e => by
    have hp := hb p yb
    have hb2 : ∀ q∈is, q < (az rows u).length := fun q hq => hb q (x3 _ hq)
    show ∃ D' : List Nat, D'.Nodup ∧ _ ∧ _ ∧ (if p∈S then _ else _ : List (List L)).map sm=_ ∧ _
    by_cases c : p∈S
    · rw [if_pos c]
      obtain ⟨D', a1, a2, a3, a4, a5⟩ := gD U dw hW is S t D hb2 nd lt hS e
      refine ⟨D', a1, a2, a3, a4, fun q hq => ?_⟩
      rcases ye.mp hq with rfl | hq
      · obtain ⟨i, hi, w⟩ := (hS q hp).mp c
        exact ⟨i, a3 i hi, w⟩
      · exact a5 q hq
    · rw [if_neg c]
      obtain ⟨⟨x, q⟩, hz⟩ : ∃ z, (az rows u)[p]? = some z := ⟨_, xS hp⟩
      obtain ⟨ok, _⟩ := nE dw (x_ hz)
      unfold okS at ok
      simp only [yi, yw] at ok
      obtain ⟨i, ei⟩ := yS ok.1.1
      have il : i < W.length := by have := ok.1.2;omega
      have wp : Wp rows u ((i : Nat) : Int) p := ⟨x, q, hz, ei⟩
      have iD : i∉D := fun h => c ((hS p hp).mpr ⟨i, h, wp⟩)
      obtain ⟨b1, b2⟩ := sJ U dw hW (S := S) hz (fun p' w' hm => by
        have hl : p' < (az rows u).length := by obtain ⟨_, _, h, _⟩ := w';exact (xV.mp h).1
        obtain ⟨k, hk, wk⟩ := (hS p' hl).mp hm
        have := qH wk w'
        exact iD (by rw [show i=k by omega];exact hk))
      obtain ⟨D', a1, a2, a3, a4, a5⟩ := gD U dw hW is _ (t++[(cj (enZ (msZ rows) u) (sdZ (msZ rows) u) (nxJ (msZ rows) u (c9 (az rows u) W)) (az rows u).length S p []).2]) (D++[i]) hb2
        (BK.mpr ⟨nd, y9.mpr ⟨yD, zY⟩, fun a ha b hb e => iD (by rw [← x4.mp hb, ← e];exact ha)⟩)
        (fun k hk => by
          rcases yn.mp hk with hk | hk
          · exact lt k hk
          · rw [x4.mp hk];exact il)
        (fun p' hp' => by
          rw [b2 p' hp', hS p' hp', ei]
          constructor
          · rintro (⟨k, hk, w⟩ | w)
            · exact ⟨k, yE _ hk, w⟩
            · exact ⟨i, x6 _ yb, w⟩
          · rintro ⟨k, hk, w⟩
            rcases yn.mp hk with hk | hk
            · exact .inl ⟨k, hk, w⟩
            · rw [x4.mp hk] at w;exact .inr w)
        (by rw [xZ, xZ, e];show _++[sm _]=_++[sm _];rw [b1, ei];rfl)
      refine ⟨D', a1, a2, fun k hk => a3 k (yE _ hk), a4, fun q hq => ?_⟩
      rcases ye.mp hq with rfl | hq
      · exact ⟨i, a3 i (x6 _ yb), wp⟩
      · exact a5 q hq
theorem pO (U : SK u n)(dw : Dw n W H r rows)(hW : ∀ w∈W, InM n w)(hne : ∀ w∈W, w≠[]) : ((wsZ (msZ rows) u (c9 (az rows u) W)).map sm).Perm (W.map sm) := by
  obtain ⟨D, nd, lt, _, e, cov⟩ := gD U dw hW (List.range (az rows u).length) [] [] [] (fun p hp => yG.mp hp) zY (fun _ h => by cases h) (fun p _ => ⟨(fun h => by cases h), (fun ⟨_, h, _⟩ => by cases h)⟩) rfl
  have e1 : wsZ (msZ rows) u (c9 (az rows u) W)=dW (enZ (msZ rows) u) (sdZ (msZ rows) u) (nxJ (msZ rows) u (c9 (az rows u) W)) (az rows u).length (List.range (az rows u).length) [] [] := by unfold wsZ;rw [sH U]
  rw [e1, e]
  have pm : D.Perm (List.range W.length) := (Bp nd List.nodup_range).mpr fun i => by
    rw [yG]
    refine ⟨lt i, fun hi => ?_⟩
    have gi : W.getD i []=W[i] := by rw [xU, xS hi];rfl
    have ok : okS W ((i : Int), 0)=true := by
      unfold okS
      simp only [yi, yw]
      refine ⟨⟨by omega, by omega⟩, by omega, ?_⟩
      show (0 : Int) < ((W.getD (i : Int).toNat []).length : Int)
      rw [yf, gi]
      have := y_.mpr (hne _ (yP hi))
      omega
    have m := (jY U dw hW ok).1
    obtain ⟨k, hk, w⟩ := cov _ (yG.mpr (yz m))
    have := qH w ⟨_, _, iB m, rfl⟩
    have : (k : Int)=(i : Int) := this
    rwa [show i=k by omega]
  refine (pm.map _).trans (List.Perm.of_eq ?_)
  refine BX (by rw [fu, fu, yo]) fun i h1 h2 => ?_
  rw [zJ, zJ, Az]
  rw [fu, yo] at h1
  rw [xU, xS h1]
  rfl
end
end Kx
namespace Kx
open PySem PySem.Spec PyProof.Rows L2 Wd
section
variable {P : Program} {w : World} {K : PySem.W.Frag} {mg : Str → Option Value} {base : Heap} {aB : Addr}
inductive sM (vs : List V)(H : Hp)(Q : VK)(u3_ : XK) : Prop
  | mk : ∀ (u : List L) (a r : Addr) (n : Nat) (W : List (List L)) (rows : List (List (Int × Int))), (vs=[tx u, .ref a, .ref r]) → (SK u n) → (Wy4 n W H a) → (Dw n W H r rows) → (∀ (p c j : Addr) (H' : Hp), au H H' → H' p=some (.tup [.ref c, .ref j]) → H' c=some (.tup ((iG rows).map V.int)) → H' j=some (.tup ((c9 (az rows u) W).map V.int)) → Q (.ref p) H') → sM vs H Q u3_
theorem nF {d : Addr}{o : Obj}{kvs : List (List Key × V)}{g : TG}{tb : TS}{D : fc}{σ : L2.St}{H : Hp}(Pv : Nat → L2.St → Hp → Prop)(h0 : Pv 0 σ H)(hl : ∀ i σ H, i≤kvs.length → Pv i σ H → H d=some (.frz o (.dT kvs)))
    (hs : ∀ i k v σ H, kvs[i]? = some (k, v) → Pv i σ H → g v σ H fun σ2 H2 => tb { D with nx := Pv (i+1), ct := Pv (i+1), bk := D.nx } σ2 H2) (hd : ∀ σ H, Pv kvs.length σ H → D.nx σ H) :
    ∃ W : Nat → Nat → L2.St → Hp → Prop, (∃ m, W 0 m σ H) ∧ ∀ i m σ H, W i m σ H →
      ((sT d o kvs).stop i H ∧ D.nx σ H) ∨ ((sT d o kvs).go i H ∧ ∃ N : L2.St → Hp → Prop, (∀ σ' H', N σ' H' → ∃ m', m' < m ∧ W (i+1) m' σ' H') ∧ ∀ x H', (sT d o kvs).yld i H x H' → g x σ H' fun σ2 H2 => tb { D with nx := N, ct := N, bk := D.nx } σ2 H2) := by
  refine ⟨fun i m σ H => m=kvs.length - i ∧ i≤kvs.length ∧ Pv i σ H, ⟨kvs.length, by simp, yQ _, h0⟩, ?_⟩
  rintro i m σ H ⟨rfl, hi, p⟩
  have q := hl i σ H hi p
  by_cases hlt : i < kvs.length
  · refine .inr ⟨⟨hlt, q⟩, Pv (i+1), fun σ' H' p' => ⟨kvs.length - (i+1), by omega, rfl, hlt, p'⟩, ?_⟩
    rintro v H' ⟨rfl, key, hkv⟩
    exact hs i key v σ _ hkv p
  · obtain rfl : i=kvs.length := by omega
    exact .inl ⟨⟨rfl, q⟩, hd σ H p⟩
theorem CdA.at {H : Hp}{pts : List (L × (Int × Int))}{W : List (List L)}{ps : List (Int × Int)}{kvs : List (List Key × V)}(h : CdA H pts W ps kvs){m : Nat}{key : List Key}{val : V}(e : kvs[m]? = some (key, val)) : ∃ q, ps[m]? = some q ∧ key=keyT q := by
  have := yB (fun l => l[m]?) h.ks
  simp only [xY] at this
  rw [e] at this
  cases hq : ps[m]? with
  | none => rw [hq] at this;cases this
  | some q => rw [hq] at this;exact ⟨q, rfl, x5 this⟩
theorem CdA.len {H : Hp}{pts : List (L × (Int × Int))}{W : List (List L)}{ps : List (Int × Int)}{kvs : List (List Key × V)}(h : CdA H pts W ps kvs) : kvs.length=ps.length := by
  have := yB List.length h.ks
  rwa [fu, fu] at this
theorem nG : ∀ {kvs : List (List Key × V)} {i : Nat} {k : List Key} {v : V}, (kvs.map (·.1)).Nodup → kvs[i]? = some (k, v) → cy kvs k=some v
  | [], i, k, v, _, h => by simp at h
  | (k', v')::r, 0, k, v, _, h => by
    cases h
    unfold cy
    rw [AD (by simp)]
    rfl
  | (k', v')::r, i+1, k, v, nd, h => by
    have h : r[i]? = some (k, v) := h
    rw [yk] at nd
    obtain ⟨n1, nd⟩ := y9.mp nd
    have ne : k'≠k := fun e => n1 (by rw [show (k', v').1=k from e];exact yq.mpr ⟨(k, v), x_ h, rfl⟩)
    have ih := nG nd h
    unfold cy at ih ⊢
    rw [AE (by simpa using ne)]
    exact ih
theorem sN {W : List (List L)} : ((bA W).map keyT).Nodup := by
  unfold List.Nodup
  rw [Ah]
  exact zR (fun h e => h (gq e)) (fY (dS W))
theorem ixN_nat {n j : Nat}(h : j < n) : ixN n (j : Int)=some j := by
  unfold ixN
  rw [if_pos (by omega), if_pos (by omega)]
  simp
theorem put_map (l : List Int)(c : Nat × Nat) : ((l.map V.int).set c.1 (.int (c.2 : Int))).set c.2 (.int (c.1 : Int))=(ji l c).map V.int := by
  unfold ji
  rw [AY, AY]
theorem j2 (n : Nat) : (List.replicate n [V.int 0]).flatten=(List.replicate n (0 : Int)).map V.int := by
  induction n with
  | zero => rfl
  | succ n ih => rw [yY, Ae, ih, yY, yk];rfl
theorem wI {n : Nat}{W : List (List L)}{H : Hp}{r : Addr}{rows : List (List (Int × Int))}{u : List L}(U : SK u n)(dw : Dw n W H r rows)(hW : ∀ w∈W, InM n w){p : Int × Int}(hp : p∈bA W) : (cdZ (az rows u) W p).1 < 2*(bA W).length ∧ (cdZ (az rows u) W p).2 < 2*(bA W).length := by
  obtain ⟨i1, i2⟩ := px U dw hW (bI.mp hp)
  have hl := e7 U dw hW
  rw [← hl]
  exact ⟨yz i1, yz i2⟩
abbrev sO : Stmt := top 17
theorem u7 : aC ["surface", "ways", "drawing", "found", "joins", "chord"] ["surface", "ways", "drawing"] (aq sO) := ⟨rfl, rfl, rfl, by decide +kernel, rfl, by decide +kernel, by decide +kernel⟩
theorem wJ (D : Df K mg "picture_of" sO)(T : Bt K w mg aB)(F_chords : Fnc P w K mg base "chords" ["surface", "ways", "drawing"] 4 gr) : Fnc P w K mg base "picture_of" ["surface", "ways", "drawing"] 5 sM := by
  have sc := u7
  refine D.ok sc (fun _ _ _ _ _ _ us hl => by obtain ⟨_, _, _, rfl⟩ := sU hl;rfl) (fun vs H Q E h => ?_) (fun f cdv A outer s H vs Q E hr h => ?_)
  · obtain ⟨u, a, r, n, W, rows, rfl, _⟩ := h
    rfl
  · obtain ⟨u, a, r, n, W, rows, rfl, U, hW, dw, k⟩ := h
    have l16 := aO
    have al := qA hW
    have iw : ∀ w∈W, InM n w := fun w hw => (hW.ws w hw).2.2
    have h6 := U.hi
    refine ⟨_, (@ae _ _ _ _ _ (@ar _ _ (3) _ _ _ _ sc.nd rfl (Or.inl rfl) (@aG _ _ _ _ _ _ _ _ _ _ _ F_chords hr (by decide) rfl (@aa _ _ _ _ _ (pv 0) (@aa _ _ _ _ _ (pv 1) (@aa _ _ _ _ _ (pv 2) ag (by rfl)) (by rfl)) (by rfl)) (by decide) (by rfl) (by rfl)) (by rfl) (by first | exact .inl rfl | exact .inr rfl | assumption)) (@ae _ _ _ _ _ (@ar _ _ (4) _ _ _ _ sc.nd rfl (Or.inl rfl) (@aF _ _ _ _ _ _ _ _ p_ (@bM _ _ _ _ (@aa _ _ _ _ _ ai ag (by rfl))) (@aF _ _ _ _ _ _ _ _ d9 ai (@ay _ _ _ _ _ _ _ _ _ kz (by rfl) T.len yu (@aa _ _ _ _ _ (pv 3) ag (by rfl)) (by decide) (by decide) (by rfl) (by rfl)))) (by rfl) (by first | exact .inl rfl | exact .inr rfl | assumption)) (@ae _ _ _ _ _ (@bj _ _ _ _ _ _ _ _ yr rfl (@oZ _ _ _ _ _ _ (pv 3) (by rfl) (by rfl)) (@av _ _ (5) _ sc.nd rfl (Or.inl rfl) (by first | exact .inl rfl | exact .inr rfl | assumption)) (@ae _ _ _ _ _ (@cO _ _ _ _ _ _ (@aI _ _ _ _ _ _ _ aY (pv 5) ai (fun _ _ => rfl)) (@dD _ _ _ _ _ _ _ (pv 4) (@aI _ _ _ _ _ _ _ aY (pv 5) ai (fun _ _ => rfl)) bT (by intro _ ;rfl)) (by rfl) (by rfl) (by rfl)) (@ao _ _ _ (@cO _ _ _ _ _ _ (@aI _ _ _ _ _ _ _ aY (pv 5) ai (fun _ _ => rfl)) (@dD _ _ _ _ _ _ _ (pv 4) (@aI _ _ _ _ _ _ _ aY (pv 5) ai (fun _ _ => rfl)) bT (by intro _ ;rfl)) (by rfl) (by rfl) (by rfl)))) (by intro _ ;rfl)) (@ao _ _ _ (@aH _ _ _ _ (@cw _ _ _ _ _ (@aa _ _ _ _ _ (@aU _ _ _ _ _ _ _ _ _ aQ (by rfl) T.tuple cU (@aa _ _ _ _ _ (@bz _ _ _ _ _ _ _ (["order"]) (["order"]) ([]) _ _ _ _ (@bP _ _ _ _ _ _ rfl (by kernel_rfl)) rfl (@jr _ _ _ _ (pv 2)) (fun _ _ _ _ => @av _ _ (0) _ (show (["order"] : List Str).Nodup from by decide +kernel) rfl (Or.inl rfl) (by first | exact .inl rfl | exact .inr rfl | assumption)) (fun _ _ _ _ => aR) (fun _ _ _ _ => by (exact (@ay _ _ _ _ _ _ _ _ _ (@fX _ (K) rfl) (by rfl) T.len yu (@aa _ _ _ _ _ (pv 0) ag (by rfl)) (by decide) (by decide) (by rfl) (by rfl)))) (by intro _ ;rfl)) ag (by rfl)) (by decide) (by decide) (by rfl) (by rfl)) (@aa _ _ _ _ _ (@aU _ _ _ _ _ _ _ _ _ aQ (by rfl) T.tuple cU (@aa _ _ _ _ _ (pv 4) ag (by rfl)) (by decide) (by decide) (by rfl) (by rfl)) ag (by rfl)) (by rfl)))))))), ?_⟩
    refine ⟨_, rfl, _, rfl, _, rfl, u, a, r, n, W, rows, rfl, U, hW, dw, fun d kvs H1 hd s1 d1 cd1 => ?_⟩
    have kl := cd1.len
    have kn : (kvs.map (·.1)).Nodup := by rw [cd1.ks];exact sN
    refine ⟨(a9 (n := 1) (by decide)), fun z hz => ⟨_, rfl, d, kvs, rfl, au.new hz _ _ d1, _, _, rfl, rfl, .inl ⟨by decide, by decide⟩, z, 2*(kvs.length : Int), _, rfl, rfl, ab, by omega, by omega, by show 1*_≤_;omega, fun l hl => ?_⟩⟩
    have e0 : (List.replicate (2*(kvs.length : Int)).toNat [V.int 0]).flatten=(List.replicate (2*(bA W).length) (0 : Int)).map V.int := by
      rw [j2, show (2*(kvs.length : Int)).toNat=2*(bA W).length by omega]
    rw [e0]
    have s2 := (au.new (o := .lst [.int 0]) hz).then (o := .lst ((List.replicate (2*(bA W).length) (0 : Int)).map V.int)) hl
    have f2 : (upd (upd H1 z (.lst [.int 0])) l (.lst ((List.replicate (2*(bA W).length) (0 : Int)).map V.int))) l=some (.lst ((List.replicate (2*(bA W).length) (0 : Int)).map V.int)) := ab
    have hlH : H l=none := none_of (s1.then hz) hl
    have nld : l≠d := (ah (au.new hz _ _ d1) hl).symm
    generalize upd (upd H1 z (.lst [.int 0])) l (.lst ((List.replicate (2*(bA W).length) (0 : Int)).map V.int))=H2 at s2 f2 ⊢
    have s02 := s1.trans s2
    refine ⟨_, rfl, d, kvs, rfl, s2 _ _ d1, fun o v H3 hv e3 k3 => ?_⟩
    have nlv : l≠v := ah f2 hv
    have k3T : ∀ b xs, H2 b=some (.tup xs) → H3 b=some (.tup xs) := fun b xs e => by
      rw [k3 b (cM e (s2 _ _ d1) (by intro z;cases z)) (ah e hv)];exact e
    have s03 : au H H3 := fun b o' e => by
      rw [k3 b (ah e hd) (ah (s02 _ _ e) hv)];exact s02 _ _ e
    refine nF (o := o) (kvs := kvs) (fun i σ H' => ∃ (v5 : Option V), σ = [some (tx u), some (.ref a), some (.ref r), some (.ref d), some (.ref l), v5] ∧ H' d=some (.frz o (.dT kvs)) ∧ H' l=some (.lst (((((bA W).take i).map (cdZ (az rows u) W)).foldl ji (List.replicate (2*(bA W).length) 0)).map V.int)) ∧ CdA H' (az rows u) W (bA W) kvs ∧ au H H') ⟨none, rfl, e3, by rw [k3 l nld nlv];exact f2, (cd1.to fun b xs e => s2 _ _ e).to k3T, s03⟩ (fun i σ H' _ ⟨_, _, q, _⟩ => q) ?_ ?_
    · rintro i key val σ H4 hkv ⟨v5, rfl, e4, f4, cd4, s4⟩
      obtain ⟨p, ap, rfl⟩ := cd4.at hkv
      have hp := x_ ap
      obtain ⟨b, hvb, hb⟩ := cd4.vl p hp
      rw [nG kn hkv] at hvb
      obtain rfl := x5 hvb
      obtain ⟨c1, c2⟩ := wI U dw iw hp
      generalize hJ : (((bA W).take i).map (cdZ (az rows u) W)).foldl ji (List.replicate (2*(bA W).length) 0)=J at f4
      have jl : J.length=2*(bA W).length := by rw [← hJ, gy, yp]
      have eJ : (((bA W).take (i+1)).map (cdZ (az rows u) W)).foldl ji (List.replicate (2*(bA W).length) 0)=ji J (cdZ (az rows u) W p) := by
        rw [bc ap, xZ, List.foldl_append, hJ]
        rfl
      rw [eJ]
      generalize cdZ (az rows u) W p=c at hb c1 c2 ⊢
      refine ⟨_, rfl, b, _, _, _, rfl, rfl, SqT.of hb, rfl, _, rfl, _, rfl, b, _, _, _, rfl, rfl, SqT.of hb, rfl, l, _, (c.1 : Int), c.1, rfl, rfl, f4, ixN_nat (by rw [fu];omega), ?_⟩
      have f5 : (upd H4 l (.lst ((J.map V.int).set c.1 (.int (c.2 : Int))))) l=some (.lst ((J.map V.int).set c.1 (.int (c.2 : Int)))) := ab
      have k5 : ∀ x o', x≠l → H4 x=some o' → (upd H4 l (.lst ((J.map V.int).set c.1 (.int (c.2 : Int))))) x=some o' := fun x o' nx e => by rw [ak nx];exact e
      generalize upd H4 l (.lst ((J.map V.int).set c.1 (.int (c.2 : Int))))=H5 at f5 k5 ⊢
      have hb5 := k5 _ _ (cM hb f4 (by intro z;cases z)) hb
      refine ⟨_, rfl, b, _, _, _, rfl, rfl, SqT.of hb5, rfl, _, rfl, _, rfl, b, _, _, _, rfl, rfl, SqT.of hb5, rfl, l, _, (c.2 : Int), c.2, rfl, rfl, f5, ixN_nat (by rw [zm, fu];omega), ?_⟩
      rw [put_map]
      have k6 : ∀ (vv : List V) x o', x≠l → H4 x=some o' → (upd H5 l (.lst vv)) x=some o' := fun vv x o' nx e => by rw [ak nx];exact k5 _ _ nx e
      exact ⟨_, rfl, k6 _ _ _ nld.symm e4, ab, cd4.to fun x xs e => k6 _ _ _ (cM e f4 (by intro z;cases z)) e, fun x o' e => k6 _ _ _ (ah e hlH) (s4 _ _ e)⟩
    · rintro σ H4 ⟨v5, rfl, e4, f4, cd4, s4⟩
      rw [kl, yL] at f4
      have f4 : H4 l=some (.lst ((c9 (az rows u) W).map V.int)) := f4
      have dw4 := dw.same s4
      obtain ⟨bs, h1, h2, h3⟩ := dw4.ex
      have rl := dw.len
      refine ⟨_, rfl, r, rfl, ⟨_, SqT.of h1⟩, ?_⟩
      refine fU (xs := bs.map V.ref) (own := ["order"]) (cap := []) (fun i ys σ H' => ∃ v : Option V, σ = [v] ∧ ys=((iG rows).take i).map V.int ∧ H'=H4) ⟨none, rfl, rfl, rfl⟩ (fun i ys σ H' hi ⟨v, _, e, _⟩ => by rw [e, fu, yg];omega) (by rw [fu];omega) (fun i ys σ H' ⟨_, _, _, e⟩ => by rw [e];exact SqT.of h1) ?_ ?_
      · rintro i ys σ H5 y N hy ⟨v, rfl, rfl, rfl⟩ hN
        rw [xY] at hy
        cases hbi : bs[i]? with
        | none => rw [hbi] at hy;cases hy
        | some b =>
          rw [hbi] at hy
          obtain rfl := x5 hy
          obtain ⟨row, g1, g2, g3⟩ := h3 i b hbi
          have ec : (iG rows)[i]? = some (row.length : Int) := by
            unfold iG
            rw [xY, g3, As, fu]
          refine ⟨_, rfl, b, _, rfl, .inr (SqT.of g1), hN _ _ _ ⟨_, rfl, ?_, rfl⟩⟩
          rw [bc ec, xZ, fu, fu]
          rfl
      · rintro ys σ H5 q ⟨v, rfl, rfl, rfl⟩ hq
        have ef : ((iG rows).take (bs.map V.ref).length).map V.int=(iG rows).map V.int := by
          rw [yU]
          unfold iG
          rw [fu, fu]
          omega
        rw [ef]
        have s6 : au H5 (upd H5 q (.lst ((iG rows).map V.int))) := au.new hq
        have g6 : (upd H5 q (.lst ((iG rows).map V.int))) q=some (.lst ((iG rows).map V.int)) := ab
        generalize upd H5 q (.lst ((iG rows).map V.int))=H6 at s6 g6 ⊢
        refine ⟨q, _, rfl, .inl ⟨SqL.of g6, fun c hc => ?_⟩⟩
        have s7 : au H6 (upd H6 c (.tup ((iG rows).map V.int))) := au.new hc
        have g7 : (upd H6 c (.tup ((iG rows).map V.int))) c=some (.tup ((iG rows).map V.int)) := ab
        generalize upd H6 c (.tup ((iG rows).map V.int))=H7 at s7 g7 ⊢
        have s57 := s6.trans s7
        refine ⟨_, rfl, l, _, rfl, .inl ⟨SqL.of (s57 _ _ f4), fun j hj => ⟨(a9 (n := 2) (by decide)), fun p hp => ?_⟩⟩⟩
        have s8 := (au.new (o := .tup ((c9 (az rows u) W).map V.int)) hj).then (o := .tup [.ref c, .ref j]) hp
        exact k p c j _ (s4.trans (s57.trans s8)) ab (s8 _ _ g7) ((au.new hp) _ _ ab)
end
end Kx
namespace Kx
open PySem PySem.Spec PyProof.Rows L2 Wd
section
variable {P : Program} {w : World} {K : PySem.W.Frag} {mg : Str → Option Value} {base : Heap} {aB : Addr}
inductive wK (vs : List V)(H : Hp)(Q : VK)(u3_ : XK) : Prop
  | mk : ∀ (d c : Addr) (m : Nat), (vs=[.ref d, .int (2*(m : Int))]) → (Tp H d c) → (m≤61) → (∀ (j : Addr) (J : List Int) (H' : Hp), Tp H' d c → a8 d H H' → H' j=some (.tup (J.map V.int)) → J.length=2*m → (∀ x∈J, 0≤x ∧ x < 2*m) → Q (.ref j) H') → wK vs H Q u3_
theorem u9 {n : Nat}{y : Int}(h0 : 0≤y)(h1 : y < n) : seqIndex? y n=some y.toNat := by
  unfold seqIndex?
  simp only [if_neg (show ¬ y < 0 by omega)]
  rw [if_pos (by simp;omega)]
theorem qI : ∀ (l : List Int) (i : Nat), (l.map V.int).eraseIdx i=(l.eraseIdx i).map V.int
  | [], _ => rfl
  | x::r, 0 => rfl
  | x::r, i+1 => by
    rw [yk, zw, zw, yk, qI r i]
theorem nH {l : List Int}{i : Nat}{v x : Int}{P : Int → Prop}(h : ∀ x∈l, P x)(hv : P v)(hx : x∈l.set i v) : P x := by
  rcases By hx with hx | rfl
  · exact h x hx
  · exact hv
abbrev gE : Stmt := top 32
theorem nI : aC ["_law_tape_here", "_law_many", "_law_left", "_law_joins", "_law_one", "_law_other"] ["_law_tape_here", "_law_many"] (aq gE) := ⟨rfl, rfl, rfl, by decide +kernel, rfl, by decide +kernel, by decide +kernel⟩
theorem pP (D : Df K mg "_law_any_joins" gE)(T : Bt K w mg aB)(F_draw : Fnc P w K mg base "_law_draw" ["_law_tape_here", "_law_many"] 1 cH) : Fnc P w K mg base "_law_any_joins" ["_law_tape_here", "_law_many"] 2 wK := by
  have sc := nI
  refine D.ok sc (fun _ _ _ _ _ _ us hl => by obtain ⟨_, _, rfl⟩ := kE hl;rfl) (fun vs H Q E h => ?_) (fun f cdv A outer s H vs Q E hr h => ?_)
  · obtain ⟨d, c, m, rfl, _⟩ := h
    rfl
  · obtain ⟨d, c, m, rfl, F, hm, k⟩ := h
    have l16 := aO
    have e2 : (2*(m : Int)).toNat=2*m := by omega
    refine ⟨_, (@ae _ _ _ _ _ (@ar _ _ (2) _ _ _ _ sc.nd rfl (Or.inl rfl) (@aU _ _ _ _ _ _ _ _ _ (@c8 _ rfl) (by rfl) T.list lO (@aa _ _ _ _ _ (@aU _ _ _ _ _ _ _ _ _ ig (by rfl) T.range boot_range (@aa _ _ _ _ _ (pv 1) ag (by rfl)) (by decide) (by decide) (by rfl) (by rfl)) ag (by rfl)) (by decide) (by decide) (by rfl) (by rfl)) (by rfl) (by first | exact .inl rfl | exact .inr rfl | assumption)) (@ae _ _ _ _ _ (@ar _ _ (3) _ _ _ _ sc.nd rfl (Or.inl rfl) (@aF _ _ _ _ _ _ _ _ p_ (@bM _ _ _ _ (@aa _ _ _ _ _ ai ag (by rfl))) (pv 1)) (by rfl) (by first | exact .inl rfl | exact .inr rfl | assumption)) (@ae _ _ _ _ _ (@cW _ _ _ _ _ _ yr (@aW _ _ _ _ _ _ _ _ (@g9 _ (by exact hr.units)) (pv 2) (@bM _ _ _ _ ag) (bL _)) (@ae _ _ _ _ _ (@ar _ _ (4) _ _ _ _ sc.nd rfl (Or.inl rfl) (@bD _ _ _ _ _ _ _ _ _ _ _ _ yt AW AX jx (pv 2) (@aa _ _ _ _ _ ai ag (by rfl)) (by rfl) (by rfl) (by rfl) (by rfl) (by rfl)) (by rfl) (by first | exact .inl rfl | exact .inr rfl | assumption)) (@ae _ _ _ _ _ (@ar _ _ (5) _ _ _ _ sc.nd rfl (Or.inl rfl) (@bD _ _ _ _ _ _ _ _ _ _ _ _ yt AW AX jx (pv 2) (@aa _ _ _ _ _ (@aG _ _ _ _ _ _ _ _ _ _ _ F_draw hr (by decide) rfl (@aa _ _ _ _ _ (pv 0) (@aa _ _ _ _ _ (@ay _ _ _ _ _ _ _ _ _ aE (by rfl) T.len yu (@aa _ _ _ _ _ (pv 2) ag (by rfl)) (by decide) (by decide) (by rfl) (by rfl)) ag (by rfl)) (by rfl)) (by decide) (by rfl) (by rfl)) ag (by rfl)) (by rfl) (by rfl) (by rfl) (by rfl) (by rfl)) (by rfl) (by first | exact .inl rfl | exact .inr rfl | assumption)) (@ae _ _ _ _ _ (@cO _ _ _ _ _ _ (pv 5) (@dD _ _ _ _ _ _ _ (pv 3) (pv 4) bT (by intro _ ;rfl)) (by rfl) (by rfl) (by rfl)) (@ao _ _ _ (@cO _ _ _ _ _ _ (pv 4) (@dD _ _ _ _ _ _ _ (pv 3) (pv 5) bT (by intro _ ;rfl)) (by rfl) (by rfl) (by rfl))))))) (@ao _ _ _ (@aH _ _ _ _ (@aU _ _ _ _ _ _ _ _ _ aQ (by rfl) T.tuple cU (@aa _ _ _ _ _ (pv 3) ag (by rfl)) (by decide) (by decide) (by rfl) (by rfl))))))), ?_⟩
    refine ⟨_, rfl, _, rfl, fun p hp => ⟨p, 2*m, rfl, (by rw [ab];rfl), by omega, fun l hl => ?_⟩⟩
    have sl := (au.new (o := .rng 0 (2*(m : Int))) hp).then (o := .lst ((List.range (2*m)).map fun i : Nat => V.int (i : Int))) hl
    have fl : (upd (upd H p (.rng 0 (2*(m : Int)))) l (.lst ((List.range (2*m)).map fun i : Nat => V.int (i : Int)))) l=some (.lst (((List.range (2*m)).map fun i : Nat => (i : Int)).map V.int)) := by rw [ab, yR];rfl
    have hlH : H l=none := none_of (au.new hp) hl
    generalize upd (upd H p (.rng 0 (2*(m : Int)))) l (.lst ((List.range (2*m)).map fun i : Nat => V.int (i : Int)))=H1 at sl fl ⊢
    refine ⟨(a9 (n := 1) (by decide)), fun z hz => ⟨_, rfl, z, 2*(m : Int), _, rfl, rfl, ab, by omega, by omega, by show 1*_≤_;omega, fun l2 hl2 => ?_⟩⟩
    rw [j2, e2]
    have s2 := (au.new (o := .lst [.int 0]) hz).then (o := .lst ((List.replicate (2*m) (0 : Int)).map V.int)) hl2
    have f2 : (upd (upd H1 z (.lst [.int 0])) l2 (.lst ((List.replicate (2*m) (0 : Int)).map V.int))) l2=some (.lst ((List.replicate (2*m) (0 : Int)).map V.int)) := ab
    have hl2H : H l2=none := none_of (sl.then hz) hl2
    have nll : l≠l2 := ah (au.new hz _ _ fl) hl2
    generalize upd (upd H1 z (.lst [.int 0])) l2 (.lst ((List.replicate (2*m) (0 : Int)).map V.int))=H2 at s2 f2 ⊢
    have s02 := sl.trans s2
    have nld := F.ne hlH
    have nlc := F.nec hlH
    have nl2d := F.ne hl2H
    have nl2c := F.nec hl2H
    refine dR (fun n σ H' => ∃ (ls J : List Int) (b4 b5 : Option V) (g : Nat), σ = [some (.ref d), some (.int (2*(m : Int))), some (.ref l), some (.ref l2), b4, b5] ∧ H' l=some (.lst (ls.map V.int)) ∧ H' l2=some (.lst (J.map V.int)) ∧ ls.length=2*g ∧ g≤m ∧ (∀ x∈ls, 0≤x ∧ x < 2*m) ∧ J.length=2*m ∧ (∀ x∈J, 0≤x ∧ x < 2*m) ∧ Tp H' d c ∧ a8 d H H' ∧ n=ls.length)
      (fun σ H' => ∃ (J : List Int) (b4 b5 : Option V), σ = [some (.ref d), some (.int (2*(m : Int))), some (.ref l), some (.ref l2), b4, b5] ∧ H' l2=some (.lst (J.map V.int)) ∧ J.length=2*m ∧ (∀ x∈J, 0≤x ∧ x < 2*m) ∧ Tp H' d c ∧ a8 d H H')
      ⟨_, (List.range (2*m)).map fun i : Nat => (i : Int), List.replicate (2*m) 0, none, none, m, rfl, s2 _ _ fl, f2, by rw [fu, yo], xT _, fun x hx => ?_, by rw [yp], fun x hx => ?_, F.same s02, s02.b, rfl⟩ ?_ ?_
    · obtain ⟨i, hi, rfl⟩ := yq.mp hx
      have := yG.mp hi
      omega
    · have := List.length_pos_of_mem hx
      rw [yp] at this
      rw [List.eq_of_mem_replicate hx]
      omega
    · rintro nx hnx n σ H3 ⟨ls, J, b4, b5, g, rfl, f3, g3, ll, hg, bl, jl, bJ, F3, sb3, rfl⟩
      refine ⟨_, rfl, (by show 0≤sizeLine;decide), fun q hq => ⟨l, q, _, rfl, rfl, au.new hq _ _ f3, ab, _, rfl, ?_⟩⟩
      have s4 : au H3 (upd H3 q (.lst [])) := au.new hq
      generalize upd H3 q (.lst [])=H4 at s4 ⊢
      have f4 := s4 _ _ f3
      have g4 := s4 _ _ g3
      have F4 := F3.same s4
      have sb4 := sb3.trans s4.b
      cases ls with
      | nil => exact nO (hnx _ _ ⟨J, b4, b5, rfl, g4, jl, bJ, F4, sb4⟩)
      | cons x r =>
        have rl : r.length+1=2*g := ll
        refine sQ ⟨fun σ' H' => ∃ m', m' < (x::r).length ∧ _, fun _ _ h => h, ?_⟩
        have bx := bl x yb
        refine ⟨_, rfl, .inl ⟨rfl, _, SqL.of f4⟩, l, _, 0, 0, .int x, rfl, rfl, f4, by decide, by decide, u9 (by decide) (by rw [yk, yF];omega), rfl, ?_⟩
        have f5 : (upd H4 l (.lst (((x::r).map V.int).eraseIdx 0))) l=some (.lst (r.map V.int)) := ab
        have k5 : ∀ b o, b≠l → H4 b=some o → (upd H4 l (.lst (((x::r).map V.int).eraseIdx 0))) b=some o := fun b o nb e => by rw [ak nb];exact e
        have F5 : Tp (upd H4 l (.lst (((x::r).map V.int).eraseIdx 0))) d c := F4.but nld nlc a8.upd
        generalize upd H4 l (.lst (((x::r).map V.int).eraseIdx 0))=H5 at f5 k5 F5 ⊢
        have rlen : (r.map V.int).length=r.length := fu _
        refine ⟨_, rfl, .inl ⟨rfl, _, SqL.of f5⟩, _, rfl, _, rfl, l, _, rfl, .inl (SqL.of f5), d, c, _, rfl, F5, by omega, by omega, fun y H6 y0 y1 F6 sb6 => ?_⟩
        rw [rlen] at y1
        have f6 := sb6 _ _ nld f5
        have hy : y.toNat < r.length := by omega
        have br := bl r[y.toNat] (x3 _ (yP hy))
        refine ⟨l, _, y, y.toNat, .int r[y.toNat], rfl, rfl, f6, by omega, by omega, u9 y0 (by omega), (by rw [xY, xS hy];rfl), ?_⟩
        generalize hw : r[y.toNat]=w' at br ⊢
        have er : (r.map V.int).eraseIdx y.toNat=(r.eraseIdx y.toNat).map V.int := qI r _
        rw [er]
        have g6 := sb6 _ _ nl2d (k5 _ _ nll.symm g4)
        have f7 : (upd H6 l (.lst ((r.eraseIdx y.toNat).map V.int))) l=some (.lst ((r.eraseIdx y.toNat).map V.int)) := ab
        have g7 : (upd H6 l (.lst ((r.eraseIdx y.toNat).map V.int))) l2=some (.lst (J.map V.int)) := by rw [ak nll.symm];exact g6
        have F7 : Tp (upd H6 l (.lst ((r.eraseIdx y.toNat).map V.int))) d c := F6.but nld nlc a8.upd
        have k7 : ∀ b o, b≠d → b≠l → H4 b=some o → (upd H6 l (.lst ((r.eraseIdx y.toNat).map V.int))) b=some o := fun b o n1 n2 e => by rw [ak n2];exact sb6 _ _ n1 (k5 _ _ n2 e)
        generalize upd H6 l (.lst ((r.eraseIdx y.toNat).map V.int))=H7 at f7 g7 F7 k7 ⊢
        refine ⟨_, rfl, _, rfl, _, rfl, l2, _, x, x.toNat, rfl, rfl, g7, (by rw [← ixN_nat (show x.toNat < (J.map V.int).length by rw [fu];omega), Bn bx.1]), ?_⟩
        have g8 : (upd H7 l2 (.lst ((J.map V.int).set x.toNat (.int w')))) l2=some (.lst ((J.set x.toNat w').map V.int)) := by rw [ab, AY]
        have k8 : ∀ b o, b≠l2 → H7 b=some o → (upd H7 l2 (.lst ((J.map V.int).set x.toNat (.int w')))) b=some o := fun b o nb e => by rw [ak nb];exact e
        have F8 : Tp (upd H7 l2 (.lst ((J.map V.int).set x.toNat (.int w')))) d c := F7.but nl2d nl2c a8.upd
        generalize upd H7 l2 (.lst ((J.map V.int).set x.toNat (.int w')))=H8 at g8 k8 F8 ⊢
        refine ⟨_, rfl, _, rfl, _, rfl, l2, _, w', w'.toNat, rfl, rfl, g8, (by rw [← ixN_nat (show w'.toNat < ((J.set x.toNat w').map V.int).length by rw [fu, zm];omega), Bn br.1]), ?_⟩
        have el : (r.eraseIdx y.toNat).length+1=r.length := by rw [List.length_eraseIdx_of_lt hy];omega
        refine ⟨(r.eraseIdx y.toNat).length, by rw [yF];omega, r.eraseIdx y.toNat, (J.set x.toNat w').set w'.toNat x, _, _, g - 1, rfl, ?_, by rw [ab, AY, AY, AY], by omega, by omega, fun z hz => bl z (x3 _ (List.mem_of_mem_eraseIdx hz)), by rw [zm, zm];exact jl, fun z hz => ?_, F8.but nl2d nl2c a8.upd, fun b o nb e => ?_, rfl⟩
        · rw [ak nll];exact k8 _ _ nll f7
        · exact nH (P := fun z => 0≤z ∧ z < 2*m) (fun y hy => nH (P := fun z => 0≤z ∧ z < 2*m) bJ ⟨br.1, by omega⟩ hy) ⟨bx.1, by omega⟩ hz
        · have n1 := ah e hlH
          have n2 := ah e hl2H
          rw [ak n2]
          exact k8 _ _ n2 (k7 _ _ nb n1 (sb4 _ _ nb e))
    · rintro σ H3 ⟨J, b4, b5, rfl, g3, jl, bJ, F3, sb3⟩
      exact ⟨_, rfl, l2, _, rfl, .inl ⟨SqL.of g3, fun j hj => k j J _ (F3.new hj) (sb3.trans (au.new hj).b) ab jl bJ⟩⟩
end
end Kx
namespace Kx
open PySem PySem.Spec PyProof.Rows L2 Wd
inductive nJ (K : PySem.W.Frag)(vs : List V)(H : Hp)(Q : VK)(u3_ : XK) : Prop
  | mk : ∀ (a : Addr) (ns : List Int), (vs=[.ref a]) → (SqL K H a (ns.map V.int)) → (ns.length≤63) → (∀ H', Q (.bl true) H') → nJ K vs H Q u3_
section
variable {P : Program} {w : World} {K : PySem.W.Frag} {mg : Str → Option Value} {base : Heap} {aB : Addr}
theorem pQ {α : Type}{xs : List α}{j : Int}(h0 : 0≤j)(h1 : j < xs.length) : ∃ v, v∈xs ∧ atI xs j=some v := by
  have hj : j.toNat < xs.length := by omega
  refine ⟨xs[j.toNat], yP hj, ?_⟩
  unfold atI ixN
  rw [if_pos h0, if_pos (by omega)]
  exact xS hj
theorem j4 (ms : List Nat) : ∀ u : List L, (aA ms u).length=(u.map (bb ms)).sum
  | [] => rfl
  | x::r => by rw [bR, xX, yp, j4 ms r, yk, Ba]
theorem pR {ms : List Nat}{u : List L}{n : Nat}(U : SK u n)(hl : ms.length=n) : (aA ms u).length=2*ms.sum := by
  rw [j4, pL U.pm]
  have := nA (fun m => ms.getD m 0) n U.hi
  have e : (fam n).map (bb ms)=(fam n).map fun x => ms.getD (x.val % 6) 0 := rfl
  rw [e, this]
  congr 2
  refine BX (by rw [fu, yo, hl]) fun i h1 h2 => ?_
  rw [zJ, Az, xU, xS h2]
  rfl
theorem nK : ∀ l : List Nat, (nts l).sum=((l.sum : Nat) : Int)
  | [] => rfl
  | x::r => by
    show ((x : Int)::nts r).sum=_
    rw [Ba, nK r, Ba]
    omega
theorem iC {b : Nat} : ∀ {l : List Nat}, (∀ m∈l, m≤b) → l.sum≤l.length*b
  | [], _ => yQ _
  | x::r, h => by
    have := iC (b := b) (l := r) fun m hm => h m (x3 _ hm)
    have := h x yb
    rw [Ba, yF, B4]
    omega
theorem nM {ms : List Nat}{u : List L}{J : List Int}{N : Nat}(hN : (aA ms u).length=N) : (wsZ ms u J).length≤N ∧ (∀ w∈wsZ ms u J, w.length≤N) ∧ ∀ w∈wsZ ms u J, 1≤w.length := by
  unfold wsZ
  rw [hN]
  have a := i8 (E := enZ ms u) (sd := sdZ ms u) (nx := nxJ ms u J) (N := N) (List.range N) [] [] (fun w hw => by cases hw)
  have b := jk (E := enZ ms u) (sd := sdZ ms u) (nx := nxJ ms u J) (N := N) (List.range N) [] [] (fun i hi => yG.mp hi) (fun w hw => by cases hw)
  rw [zQ, Ab, yo] at a
  exact ⟨a.1, a.2, b⟩
theorem pS {H : Hp}{p q : Addr}{V : List (List L)}{Q : VK}(h1 : H p=some (.lst (V.map tx)))(h2 : H q=some (.lst (V.map tx)))(h : Q (.bl false) H) : wd (.ref p) (.ref q) H Q := by
  have lay : (PyData.list (dws V)).canLay0=true := by unfold PyData.canLay0;exact h_ V
  refine ⟨_, _, .lst h1 (eM V), .lst h2 (eM V), lay, lay, ?_, ?_⟩
  · show PyData.depthAll (dws V)+1≤10
    rw [(fT V).2.2.1]
    decide
  · rw [SeqAt.eqv_refl _ lay]
    exact h
theorem sP {A B X Y : List (List L)}(a : A.Perm X)(b : B.Perm Y)(p : X.Perm Y)(sa : sortedS (A.map toS)=true)(sb : sortedS (B.map toS)=true) : A=B :=
  (List.map_inj_right (fun _ _ e => eI e)).mp (kq sa sb ((a.trans (p.trans b.symm)).map toS))
abbrev iE : Stmt := top 37
theorem u_ : aC ["_law_script", "_law_tape_here", "_law_k", "_law_surface", "_law_most", "_law_many", "_law_picture", "_law_due", "_law_again", "_law_found", "_law_ways", "_law_told"] ["_law_script"] (aq iE) := ⟨rfl, rfl, rfl, by decide +kernel, rfl, by decide +kernel, by decide +kernel⟩
theorem wL {f : Addr}{fd : FuncData}(D : Fun K "law" "law" iE f fd)(T : Bt K w mg aB)(Tsum : mg "sum" = none)(F_tape : Fnc P w K mg base "_law_tape" ["_law_script"] 1 (lV K))(F_draw : Fnc P w K mg base "_law_draw" ["_law_tape_here", "_law_many"] 1 cH)(F_row : Fnc P w K mg base "_law_any_row" ["_law_tape_here", "_law_most"] 2 mL)(F_ajoins : Fnc P w K mg base "_law_any_joins" ["_law_tape_here", "_law_many"] 2 wK)
    (F_fwords : Fnc P w K mg base "_law_found_words" ["_law_surface", "_law_picture"] 3 eZ) (F_words : Fnc P w K mg base "words_of" ["surface", "picture"] 4 eZ) (F_sways : Fnc P w K mg base "_law_some_ways" ["_law_tape_here", "_law_many", "_law_most", "_law_long"] 4 iZ) (F_adrw : Fnc P w K mg base "_law_any_drawing" ["_law_tape_here", "_law_surface", "_law_ways"] 2 jb) (F_pic : Fnc P w K mg base "picture_of" ["surface", "ways", "drawing"] 5 sM) (F_same : Fnc P w K mg base "_law_same" ["_law_word"] 2 nr) : nN P w K mg base CX0 8 f fd ["_law_script"] (nJ K) := by
  have sc := u_
  refine D.ok sc (fun vs H Q E h => ?_) (fun cdv A outer s H vs Q E hr h => ?_)
  · obtain ⟨a, ns, rfl, _⟩ := h
    rfl
  · obtain ⟨a0, ns, rfl, hS, hlen, q⟩ := h
    have l16 := aO
    refine ⟨_, (@ae _ _ _ _ _ (@ar _ _ (1) _ _ _ _ sc.nd rfl (Or.inr rfl) (@aG _ _ _ _ _ _ _ _ _ _ _ F_tape hr (by decide) rfl (@aa _ _ _ _ _ (pv 0) ag (by rfl)) (by decide) (by rfl) (by rfl)) (by rfl) (by first | exact .inl rfl | exact .inr rfl | assumption)) (@ae _ _ _ _ _ (@bj _ _ _ _ _ _ _ _ yr rfl (@aJ _ _ _ _ _ _ rfl T.range (@aa _ _ _ _ _ ai ag (by rfl)) (by rfl)) (@av _ _ (2) _ sc.nd rfl (Or.inl rfl) (by first | exact .inl rfl | exact .inr rfl | assumption)) (@ae _ _ _ _ _ (@ar _ _ (3) _ _ _ _ sc.nd rfl (Or.inl rfl) (@aG _ _ _ _ _ _ _ _ _ _ _ F_row hr (by decide) rfl (@aa _ _ _ _ _ (pv 1) (@aa _ _ _ _ _ ai ag (by rfl)) (by rfl)) (by decide) (by rfl) (by rfl)) (by rfl) (by first | exact .inl rfl | exact .inr rfl | assumption)) (@ae _ _ _ _ _ (@ar _ _ (4) _ _ _ _ sc.nd rfl (Or.inr rfl) (@fB _ _ _ _ _ _ _ _ (@aW _ _ _ _ _ _ _ _ nW (@aG _ _ _ _ _ _ _ _ _ _ _ F_draw hr (by decide) rfl (@aa _ _ _ _ _ (pv 1) (@aa _ _ _ _ _ ai ag (by rfl)) (by rfl)) (by decide) (by rfl) (by rfl)) ai (bL _)) ai (@aF _ _ _ _ _ _ _ _ bV ai (@aF _ _ _ _ _ _ _ _ bV (@ay _ _ _ _ _ _ _ _ _ aD (by rfl) T.len yu (@aa _ _ _ _ _ (pv 3) ag (by rfl)) (by decide) (by decide) (by rfl) (by rfl)) ai))) (by rfl) (by first | exact .inl rfl | exact .inr rfl | assumption)) (@ae _ _ _ _ _ (@ar _ _ (5) _ _ _ _ sc.nd rfl (Or.inl rfl) (@aU _ _ _ _ _ _ _ _ _ aQ (by rfl) T.tuple cU (@aa _ _ _ _ _ (@bz _ _ _ _ _ _ _ (["_law_j", "_law_tape_here", "_law_most"]) (["_law_j"]) ([1, 4]) _ _ _ _ (@bP _ _ _ _ _ _ rfl (by kernel_rfl)) rfl (@aJ _ _ _ _ _ _ rfl T.range (@aa _ _ _ _ _ (@aF _ _ _ _ _ _ _ _ bV (@ay _ _ _ _ _ _ _ _ _ aD (by rfl) T.len yu (@aa _ _ _ _ _ (pv 3) ag (by rfl)) (by decide) (by decide) (by rfl) (by rfl)) ai) ag (by rfl)) (by rfl)) (fun _ _ _ _ => @av _ _ (0) _ (show (["_law_j", "_law_tape_here", "_law_most"] : List Str).Nodup from by decide +kernel) rfl (Or.inl rfl) (by first | exact .inl rfl | exact .inr rfl | assumption)) (fun _ _ _ _ => aR) (fun _ _ _ _ => by (exact (@aG _ _ _ _ _ _ _ _ _ _ _ F_draw hr (by decide) rfl (@aa _ _ _ _ _ (pv 1) (@aa _ _ _ _ _ (@aF _ _ _ _ _ _ _ _ bK (pv 2) ai) ag (by rfl)) (by rfl)) (by decide) (by rfl) (by rfl)))) (by intro _ ;rfl)) ag (by rfl)) (by decide) (by decide) (by rfl) (by rfl)) (by rfl) (by first | exact .inl rfl | exact .inr rfl | assumption)) (@ae _ _ _ _ _ (@ar _ _ (6) _ _ _ _ sc.nd rfl (Or.inl rfl) (@cw _ _ _ _ _ (@aa _ _ _ _ _ (pv 5) (@aa _ _ _ _ _ (@aG _ _ _ _ _ _ _ _ _ _ _ F_ajoins hr (by decide) rfl (@aa _ _ _ _ _ (pv 1) (@aa _ _ _ _ _ (@aF _ _ _ _ _ _ _ _ d9 ai (@ay _ _ _ _ _ _ _ _ _ (@mx _ rfl) (by rfl) Tsum wo (@aa _ _ _ _ _ (pv 5) ag (by rfl)) (by decide) (by decide) (by rfl) (by rfl))) ag (by rfl)) (by rfl)) (by decide) (by rfl) (by rfl)) ag (by rfl)) (by rfl))) (by rfl) (by first | exact .inl rfl | exact .inr rfl | assumption)) (@ae _ _ _ _ _ (@ar _ _ (7) _ _ _ _ sc.nd rfl (Or.inl rfl) (@aG _ _ _ _ _ _ _ _ _ _ _ F_fwords hr (by decide) rfl (@aa _ _ _ _ _ (pv 3) (@aa _ _ _ _ _ (pv 6) ag (by rfl)) (by rfl)) (by decide) (by rfl) (by rfl)) (by rfl) (by first | exact .inl rfl | exact .inr rfl | assumption)) (@ae _ _ _ _ _ (@bj _ _ _ _ _ _ _ _ yr rfl (@aJ _ _ _ _ _ _ rfl T.range (@aa _ _ _ _ _ ai ag (by rfl)) (by rfl)) (@av _ _ (8) _ sc.nd rfl (Or.inl rfl) (by first | exact .inl rfl | exact .inr rfl | assumption)) (@ae _ _ _ _ _ (@ar _ _ (9) _ _ _ _ sc.nd rfl (Or.inl rfl) (@aG _ _ _ _ _ _ _ _ _ _ _ F_words hr (by decide) rfl (@aa _ _ _ _ _ (pv 3) (@aa _ _ _ _ _ (pv 6) ag (by rfl)) (by rfl)) (by decide) (by rfl) (by rfl)) (by rfl) (by first | exact .inl rfl | exact .inr rfl | assumption)) (@ae _ _ _ _ _ (@e9 _ _ _ _ _ _ _ _ (@aW _ _ _ _ _ _ _ _ vB (@ay _ _ _ _ _ _ _ _ _ (@c7 _ (by exact hr.gd) (by exact hr.units)) (by rfl) T.repr qf (@aa _ _ _ _ _ (pv 9) ag (by rfl)) (by decide) (by decide) (by rfl) (by rfl)) (@ay _ _ _ _ _ _ _ _ _ (@c7 _ (by exact hr.gd) (by exact hr.units)) (by rfl) T.repr qf (@aa _ _ _ _ _ (pv 7) ag (by rfl)) (by decide) (by decide) (by rfl) (by rfl)) (bL _)) (@ao _ _ _ (@aH _ _ _ _ kL)) ck) (@ao _ _ _ (@bu _ _ _ _ (@bD _ _ _ _ _ _ _ _ _ _ _ _ yt yV zv cA (pv 9) (@aa _ _ _ _ _ bC ag (by rfl)) (by rfl) (by rfl) (by rfl) (by rfl) (by rfl)) (by rfl))))) (by intro _ ;rfl)) (@ae _ _ _ _ _ (@ar _ _ (10) _ _ _ _ sc.nd rfl (Or.inl rfl) (@aG _ _ _ _ _ _ _ _ _ _ _ F_sways hr (by decide) rfl (@aa _ _ _ _ _ (pv 1) (@aa _ _ _ _ _ (@aF _ _ _ _ _ _ _ _ bV (@ay _ _ _ _ _ _ _ _ _ aD (by rfl) T.len yu (@aa _ _ _ _ _ (pv 3) ag (by rfl)) (by decide) (by decide) (by rfl) (by rfl)) ai) (@aa _ _ _ _ _ ai (@aa _ _ _ _ _ (@aI _ _ _ _ _ _ _ aN (@bM _ _ _ _ (@aa _ _ _ _ _ ai (@aa _ _ _ _ _ ai (@aa _ _ _ _ _ ai ag (by rfl)) (by rfl)) (by rfl))) (@aG _ _ _ _ _ _ _ _ _ _ _ F_draw hr (by decide) rfl (@aa _ _ _ _ _ (pv 1) (@aa _ _ _ _ _ ai ag (by rfl)) (by rfl)) (by decide) (by rfl) (by rfl)) (fun _ _ => rfl)) ag (by rfl)) (by rfl)) (by rfl)) (by rfl)) (by decide) (by rfl) (by rfl)) (by rfl) (by first | exact .inl rfl | exact .inr rfl | assumption)) (@ae _ _ _ _ _ (@ar _ _ (11) _ _ _ _ sc.nd rfl (Or.inl rfl) (@aG _ _ _ _ _ _ _ _ _ _ _ F_words hr (by decide) rfl (@aa _ _ _ _ _ (pv 3) (@aa _ _ _ _ _ (@aG _ _ _ _ _ _ _ _ _ _ _ F_pic hr (by decide) rfl (@aa _ _ _ _ _ (pv 3) (@aa _ _ _ _ _ (pv 10) (@aa _ _ _ _ _ (@aG _ _ _ _ _ _ _ _ _ _ _ F_adrw hr (by decide) rfl (@aa _ _ _ _ _ (pv 1) (@aa _ _ _ _ _ (pv 3) (@aa _ _ _ _ _ (pv 10) ag (by rfl)) (by rfl)) (by rfl)) (by decide) (by rfl) (by rfl)) ag (by rfl)) (by rfl)) (by rfl)) (by decide) (by rfl) (by rfl)) ag (by rfl)) (by rfl)) (by decide) (by rfl) (by rfl)) (by rfl) (by first | exact .inl rfl | exact .inr rfl | assumption)) (@ao _ _ _ (@e9 _ _ _ _ _ _ _ _ (@aW _ _ _ _ _ _ _ _ (@ma _ (by exact hr.units)) (@ay _ _ _ _ _ _ _ _ _ cg (by rfl) T.sorted jB (@aa _ _ _ _ _ (@bz _ _ _ _ _ _ _ (["_law_word"]) (["_law_word"]) ([]) _ _ _ _ (@bP _ _ _ _ _ _ rfl (by kernel_rfl)) rfl (@fC _ _ _ _ (pv 11)) (fun _ _ _ _ => @av _ _ (0) _ (show (["_law_word"] : List Str).Nodup from by decide +kernel) rfl (Or.inl rfl) (by first | exact .inl rfl | exact .inr rfl | assumption)) (fun _ _ _ _ => aR) (fun _ _ _ _ => by (exact (@aG _ _ _ _ _ _ _ _ _ _ _ F_same hr (by decide) rfl (@aa _ _ _ _ _ (pv 0) ag (by rfl)) (by decide) (by rfl) (by rfl)))) (by intro _ ;rfl)) ag (by rfl)) (by decide) (by decide) (by rfl) (by rfl)) (@ay _ _ _ _ _ _ _ _ _ cg (by rfl) T.sorted jB (@aa _ _ _ _ _ (@bz _ _ _ _ _ _ _ (["_law_word"]) (["_law_word"]) ([]) _ _ _ _ (@bP _ _ _ _ _ _ rfl (by kernel_rfl)) rfl (@jr _ _ _ _ (pv 10)) (fun _ _ _ _ => @av _ _ (0) _ (show (["_law_word"] : List Str).Nodup from by decide +kernel) rfl (Or.inl rfl) (by first | exact .inl rfl | exact .inr rfl | assumption)) (fun _ _ _ _ => aR) (fun _ _ _ _ => by (exact (@aG _ _ _ _ _ _ _ _ _ _ _ F_same hr (by decide) rfl (@aa _ _ _ _ _ (pv 0) ag (by rfl)) (by decide) (by rfl) (by rfl)))) (by intro _ ;rfl)) ag (by rfl)) (by decide) (by decide) (by rfl) (by rfl)) (bL _)) (@ao _ _ _ (@aH _ _ _ _ kL)) ck)))))))))) (by intro _ ;rfl)) (@ao _ _ _ (@aH _ _ _ _ kL)))), ?_⟩
    refine ⟨_, rfl, a0, ns, rfl, hS, hlen, fun d c H1 _ _ F1 _ => ?_⟩
    refine ⟨_, rfl, by decide, by decide, bo (lo := 0) (n := 4) (fun i σ H' => ∃ (b2 b3 b4 b5 b6 b7 b8 b9 b10 b11 : Option V), σ = [some (.ref a0), some (.ref d), b2, b3, b4, b5, b6, b7, b8, b9, b10, b11] ∧ Tp H' d c) ⟨none, none, none, none, none, none, none, none, none, none, rfl, F1⟩ ?_ ?_⟩
    · rintro i σ H1 hi ⟨b2, b3, b4, b5, b6, b7, b8, b9, b10, b11, rfl, F1⟩
      refine ⟨_, rfl, d, c, _, rfl, F1, by decide, by decide, fun u n H2 U hn F2 _ => ?_⟩
      have hul := U.len
      have h1 := U.lo
      have h6 := U.hi
      have hll : (toS u).length≤sizeLine := by rw [af];omega
      have e2 : ((toS u).length : Int) / 2=(n : Int) := by rw [af];omega
      refine eW ?_
      refine sq (fun σ2 H3 => ∃ mo : Nat, σ2=[some (.ref a0), some (.ref d), some (.int (0+(i : Int))), some (tx u), some (.int (mo : Int)), b5, b6, b7, b8, b9, b10, b11] ∧ n*mo≤60 ∧ mo≤60 ∧ Tp H3 d c) (fun D' nx => ?_) ?_
      · refine ⟨_, rfl, d, c, _, rfl, F2, by decide, by decide, fun y H3 y0 y1 F3 sb3 => ⟨_, _, rfl, rfl, _, rfl, ?_⟩⟩
        refine kh (fun _ => ?_) (fun _ => ?_)
        · exact nx _ _ ⟨4, rfl, by omega, by decide, F3⟩
        · refine ⟨_, rfl, _, rfl, hll, _, _, rfl, rfl, ⟨by decide, by decide⟩, ?_⟩
          rw [e2]
          have nm : n*(60 / n)≤60 := Nat.mul_div_le 60 n
          refine ⟨_, _, rfl, rfl, ⟨by omega, by omega⟩, nx _ _ ⟨60 / n, ?_, nm, Nat.div_le_self _ _, F3⟩⟩
          rfl
      · rintro σ2 H3 ⟨mo, rfl, mb, mb2, F3⟩
        refine ⟨_, rfl, _, rfl, hll, _, _, rfl, rfl, ⟨by decide, by decide⟩, _, rfl, by omega, by omega, ?_⟩
        rw [e2, yf]
        refine bH (own := ["_law_j"]) (cap := [1, 4]) (J := Itr 0 n) n (fun i ys σ H' => ∃ (v : Option V) (ms : List Nat), σ = [v, some (.ref d), some (.int (mo : Int))] ∧ ys=ms.map (fun m : Nat => V.int (m : Int)) ∧ ms.length=i ∧ (∀ m∈ms, m≤mo) ∧ Tp H' d c)
          ⟨none, [], rfl, rfl, rfl, (fun x hx => by cases hx), F3⟩ (fun i ys σ H' hi ⟨v, ms, _, e, e2, _⟩ => by rw [e, fu, e2];exact xT _) (by omega) (fun i ys σ H' hi _ => hi) (fun ys σ H' _ => xT _) ?_ ?_
        · rintro j ys σ H4 x H5 N hj ⟨v, ms, rfl, rfl, ml, mb, F4⟩ ⟨rfl, rfl⟩ hN
          refine ⟨_, rfl, _, rfl, _, _, rfl, rfl, d, c, _, rfl, F4, by omega, by omega, fun y H6 y0 y1 F6 _ => ?_⟩
          obtain ⟨y, rfl⟩ := yS y0
          refine hN _ _ _ ⟨_, ms++[y], rfl, by rw [xZ];rfl, by rw [xX, ml];rfl, fun z hz => ?_, F6⟩
          rcases yn.mp hz with hz | hz
          · exact mb z hz
          · rw [x4.mp hz];omega
        rintro ys σ H4 l ⟨v, ms, rfl, rfl, ml, mbd, F4⟩ hl
        have F5 := F4.new (o := .lst (ms.map fun m : Nat => V.int (m : Int))) hl
        have f5 : (upd H4 l (.lst (ms.map fun m : Nat => V.int (m : Int)))) l=some (.lst (ms.map fun m : Nat => V.int (m : Int))) := ab
        generalize upd H4 l (.lst (ms.map fun m : Nat => V.int (m : Int)))=H5 at F5 f5 ⊢
        refine ⟨l, _, rfl, .inl ⟨SqL.of f5, fun a ha => ?_⟩⟩
        have F6 := F5.new (o := .tup (ms.map fun m : Nat => V.int (m : Int))) ha
        have g6 : (upd H5 a (.tup (ms.map fun m : Nat => V.int (m : Int)))) a=some (.tup (ms.map fun m : Nat => V.int (m : Int))) := ab
        generalize upd H5 a (.tup (ms.map fun m : Nat => V.int (m : Int)))=H6 at F6 g6 ⊢
        have es : (nts ms).map V.int=ms.map fun m : Nat => V.int (m : Int) := by unfold nts;rw [yR];rfl
        have msl := iC mbd
        rw [ml] at msl
        have hN := pR (ms := ms) U ml
        refine ⟨_, rfl, _, rfl, _, rfl, a, nts ms, rfl, (by rw [es];exact SqT.of g6), _, _, rfl, rfl, .inl ⟨by decide, by decide⟩, d, c, ms.sum, (by rw [nK];rfl), F6, by omega, fun aj J H7 F7 sb7 gJ jl bJ => ⟨(a9 (n := 2) (by decide)), fun pic hpic => ?_⟩⟩
        have g7 := sb7 _ _ (F6.nt g6) g6
        have s8 : au H7 (upd H7 pic (.tup [.ref a, .ref aj])) := au.new hpic
        have g8 : (upd H7 pic (.tup [.ref a, .ref aj])) pic=some (.tup [.ref a, .ref aj]) := ab
        generalize upd H7 pic (.tup [.ref a, .ref aj])=H8 at s8 g8 ⊢
        have F8 := F7.same s8
        have C8 : Cn ms n H8 a := ⟨s8 _ _ g7, ml, fun m hm => by have := mbd m hm;omega⟩
        have J8 : Jn (aA ms u).length J H8 aj := ⟨s8 _ _ gJ, by rw [hN];exact jl, fun x hx => by have := bJ x hx;rw [hN];omega⟩
        obtain ⟨wl1, wl2, _⟩ := nM (J := J) (hN : (aA ms u).length=2*ms.sum)
        have shw : Sh (.list (dws (wsZ ms u J))) := ua (n := 122) (fun v hv => by have := wl2 v hv;omega) (by have : (wsZ ms u J).length*(122+1)≤122*123 := Cc (by omega) (xT _);omega)
        refine ⟨_, rfl, _, rfl, u, n, pic, a, aj, ms, J, rfl, U, g8, C8, J8, fun dl H9 hdl s9 f9 => ?_⟩
        have ndl := F8.ne hdl
        have ncl := F8.nec hdl
        refine ⟨_, rfl, by decide, by decide, bo (lo := 0) (n := 2) (fun j σ H' => ∃ (b8 b9 : Option V), σ = [some (.ref a0), some (.ref d), some (.int (0+(i : Int))), some (tx u), some (.int (mo : Int)), some (.ref a), some (.ref pic), some (.ref dl), b8, b9, b10, b11] ∧ H' dl=some (.lst ((wsZ ms u J).map tx)) ∧ au H8 H') ⟨_, _, rfl, f9, s9⟩ ?_ ?_⟩
        · rintro j σ H10 hj ⟨b8, b9, rfl, f10, s10⟩
          refine ⟨_, rfl, _, rfl, u, n, pic, a, aj, ms, J, rfl, U, s10 _ _ g8, C8.same s10, J8.same s10, fun fl H11 hfl s11 f11 => ?_⟩
          have nfl : dl≠fl := ah f10 hfl
          have hfl8 : H8 fl=none := none_of s10 hfl
          refine ⟨_, rfl, fl, _, rfl, .lst f11 (eM _), shw, _, rfl, dl, _, rfl, .lst (s11 _ _ f10) (eM _), shw, rfl, _, rfl, vR rfl ?_⟩
          refine ⟨_, rfl, .inl ⟨rfl, _, SqL.of f11⟩, fl, _, _, rfl, rfl, f11, by rw [fu];omega, ?_⟩
          exact ⟨_, _, rfl, by rw [ak nfl];exact s11 _ _ f10, fun b o e => by rw [ak (ah e hfl8)];exact s11 _ _ (s10 _ _ e)⟩
        · rintro σ H10 ⟨b8, b9, rfl, f10, s10⟩
          have F10 := F8.same s10
          refine ⟨_, rfl, _, rfl, _, rfl, hll, _, _, rfl, rfl, ⟨by decide, by decide⟩, (a9 (n := 3) (by decide)), fun l0 hl0 => ⟨_, rfl, d, c, _, rfl, F10.new hl0, by decide, by decide, fun y H11 y0 y1 F11 sb11 => ?_⟩⟩
          have f11 := sb11 _ _ (F10.ne hl0) (ab (o := .lst [.int 3, .int 8, .int 15]))
          obtain ⟨x, hx, ax⟩ := pQ (xs := [V.int 3, .int 8, .int 15]) y0 y1
          obtain ⟨lng, rfl, lo, hi2⟩ : ∃ z : Int, x = .int z ∧ 1≤z ∧ z≤15 := by
            simp only [ye, yD, zV] at hx
            rcases hx with rfl | rfl | rfl
            · exact ⟨3, rfl, by decide, by decide⟩
            · exact ⟨8, rfl, by decide, by decide⟩
            · exact ⟨15, rfl, by decide, by decide⟩
          refine ⟨l0, _, _, _, rfl, rfl, SqL.of f11, ax, d, c, n, lng, yB (fun z => [V.ref d, .int z, .int 4, .int lng]) e2, F11, h1, h6, lo, hi2, fun aw W H12 F12 sb12 hW => ?_⟩
          refine ⟨_, rfl, _, rfl, _, rfl, _, rfl, _, rfl, _, rfl, d, c, u, n, aw, W, rfl, F12, U, hW, fun r rows H13 F13 sb13 dw => ?_⟩
          have hW13 := hW.sb F12 sb13
          have iw : ∀ w∈W, InM n w := fun w hw => (hW.ws w hw).2.2
          have al := qA hW13
          refine ⟨u, aw, r, n, W, rows, rfl, U, hW13, dw, fun p pc pj H14 s14 gp gc gj => ?_⟩
          have pl := sH (rows := rows) U
          have p2 := e7 U dw iw
          have C14 : Cn (msZ rows) n H14 pc := ⟨by rw [gc];unfold iG msZ;rw [yR, yR];rfl, by unfold msZ;rw [fu];exact dw.len, fun m hm => by
            unfold msZ at hm
            obtain ⟨row, hr, rfl⟩ := yq.mp hm
            obtain ⟨t, ht, rfl⟩ := A6.mp hr
            have e1 := (dw.pm t _ (xS ht)).length_eq
            have e2 : (rA W t).length≤(bA W).length := zr _ _
            omega⟩
          have J14 : Jn (aA (msZ rows) u).length (c9 (az rows u) W) H14 pj := ⟨gj, by rw [jX, pl, p2], fun x hx => by
            obtain ⟨t, ht, rfl⟩ := A6.mp hx
            obtain ⟨j, j1, _, j3, _⟩ := sF U dw iw t (by rw [jX] at ht;exact ht)
            rw [xS ht] at j3
            rw [x5 j3, pl, p2]
            omega⟩
          obtain ⟨vl1, vl2, vl3⟩ := nM (J := c9 (az rows u) W) (pl.trans p2)
          have pm := pO U dw iw (fun w hw => (hW.ws w hw).1)
          have wle := hW.le
          have wsl : (wsZ (msZ rows) u (c9 (az rows u) W)).length≤4 := by
            have := pm.length_eq
            rw [fu, fu] at this
            omega
          refine ⟨u, n, p, pc, pj, msZ rows, c9 (az rows u) W, rfl, U, gp, C14, J14, fun tl H15 htl s15 f15 => ?_⟩
          generalize wsZ (msZ rows) u (c9 (az rows u) W)=ws at pm vl1 vl2 vl3 wsl f15
          have hW15 := (hW13.same s14).same s15
          have F15 := (F13.same s14).same s15
          refine ⟨_, rfl, tl, rfl, ⟨_, SqL.of f15⟩, ?_⟩
          refine g_ (xs := ws.map tx) (own := ["_law_word"]) (cap := []) (fun m ys σ H' => ∃ v : Option V, σ = [v] ∧ ys=((ws.take m).map sm).map tx ∧ au H15 H') ⟨none, rfl, rfl, au.refl _⟩ (fun m ys σ H' hm ⟨_, _, e, _⟩ => by rw [e, fu, fu, yg];omega) (by rw [fu];omega) (fun m ys σ H' ⟨_, _, _, q⟩ => SqL.of (q _ _ f15)) ?_ ?_
          · rintro m ys σ H16 x N hx ⟨v, rfl, rfl, s16⟩ hN
            rw [xY] at hx
            cases hwm : ws[m]? with
            | none => rw [hwm] at hx;cases hx
            | some w' =>
              rw [hwm] at hx
              obtain rfl := x5 hx
              have hm := x_ hwm
              refine ⟨_, rfl, w', rfl, vl3 w' hm, by have := vl2 w' hm;omega, fun H17 s17 => hN _ _ _ ⟨_, rfl, by rw [bc hwm, xZ, xZ];rfl, s16.trans s17⟩⟩
          rintro ys σ H16 q1 ⟨v, rfl, rfl, s16⟩ hq1
          rw [fu, yL]
          have s17 := s16.then (o := .lst ((ws.map sm).map tx)) hq1
          have g17 : (upd H16 q1 (.lst ((ws.map sm).map tx))) q1=some (.lst ((ws.map sm).map tx)) := ab
          generalize upd H16 q1 (.lst ((ws.map sm).map tx))=H17 at s17 g17 ⊢
          refine ⟨q1, ws.map sm, rfl, SqL.of g17, (by rw [fu];omega), fun p1 V1 hp1 pm1 so1 => ?_⟩
          have s18 := s17.then (o := .lst (V1.map tx)) hp1
          have g18 : (upd H17 p1 (.lst (V1.map tx))) p1=some (.lst (V1.map tx)) := ab
          generalize upd H17 p1 (.lst (V1.map tx))=H18 at s18 g18 ⊢
          have hW18 := hW15.same s18
          refine ⟨_, rfl, aw, rfl, ⟨_, SqT.of hW18.at_⟩, ?_⟩
          refine fU (xs := W.map tx) (own := ["_law_word"]) (cap := []) (fun m ys σ H' => ∃ v : Option V, σ = [v] ∧ ys=((W.take m).map sm).map tx ∧ au H18 H') ⟨none, rfl, rfl, au.refl _⟩ (fun m ys σ H' hm ⟨_, _, e, _⟩ => by rw [e, fu, fu, yg];omega) (by rw [fu];omega) (fun m ys σ H' ⟨_, _, _, q⟩ => SqT.of (q _ _ hW18.at_)) ?_ ?_
          · rintro m ys σ H19 x N hx ⟨v, rfl, rfl, s19⟩ hN
            rw [xY] at hx
            cases hwm : W[m]? with
            | none => rw [hwm] at hx;cases hx
            | some w' =>
              rw [hwm] at hx
              obtain rfl := x5 hx
              have hm := hW.ws w' (x_ hwm)
              refine ⟨_, rfl, w', rfl, y_.mpr hm.1, by have := hm.2.1;omega, fun H20 s20 => hN _ _ _ ⟨_, rfl, by rw [bc hwm, xZ, xZ];rfl, s19.trans s20⟩⟩
          rintro ys σ H19 q2 ⟨v, rfl, rfl, s19⟩ hq2
          rw [fu, yL]
          have s20 := s19.then (o := .lst ((W.map sm).map tx)) hq2
          have g20 : (upd H19 q2 (.lst ((W.map sm).map tx))) q2=some (.lst ((W.map sm).map tx)) := ab
          generalize upd H19 q2 (.lst ((W.map sm).map tx))=H20 at s20 g20 ⊢
          refine ⟨q2, W.map sm, rfl, SqL.of g20, (by rw [fu];omega), fun p2 V2 hp2 pm2 so2 => ?_⟩
          obtain rfl := sP pm1 pm2 pm so1 so2
          refine pS ((s20.then hp2) _ _ g18) ab ⟨_, rfl, xb ?_⟩
          exact ⟨_, _, _, _, _, _, _, _, _, _, rfl, F15.same (s18.trans (s20.then hp2))⟩
    · rintro σ H1 ⟨b2, b3, b4, b5, b6, b7, b8, b9, b10, b11, rfl, F1⟩
      exact q _
end
end Kx
namespace Kx
open PySem PySem.Spec PyProof.Rows L2 Wd
theorem wM {K : PySem.W.Frag}{h : Heap}{mg : Str → Option Value}{x : Str}{st : Stmt}{f : Addr}{oc : Value}{od an : Option Addr}{osl : Array (Option Value)}{kV doc pm cdv ct : Value}(X : K.In h)(G : h.Ns mainGlobals mg)(a : PySem.W.nsIn K mainGlobals x=some (some (.ref f)))
    (l : K.lookup f=some ⟨oc, od, .func (PySem.W.fnOf x x (bY st) (bG st) (aq st) .none kV doc pm an cdv ct), osl⟩) (c : PySem.W.codeIn K cdv x=true) (k : PySem.W.keepIn K (.ref f)=true) : Df K mg x st := ⟨f, _, A9 X G a, qa l c k⟩
inductive DI (K : PySem.W.Frag)(x : Str)(st : Stmt) : Prop
  | mk {f : Addr} {oc : Value} {od an : Option Addr} {osl : Array (Option Value)} {kV doc pm cdv ct : Value} (a : PySem.W.nsIn K mainGlobals x=some (some (.ref f))) (l : K.lookup f=some ⟨oc, od, .func (PySem.W.fnOf x x (bY st) (bG st) (aq st) .none kV doc pm an cdv ct), osl⟩) (c : PySem.W.codeIn K cdv x=true) (k : PySem.W.keepIn K (.ref f)=true) : DI K x st
theorem DI.df {K : PySem.W.Frag}{h : Heap}{mg : Str → Option Value}{x : Str}{st : Stmt}(d : DI K x st)(X : K.In h)(G : h.Ns mainGlobals mg) : Df K mg x st := by
  cases d with
  | mk a l c k => exact wM X G a l c k
inductive DL where
  | n
  | c (x : Str) (st : Stmt) (r : DL)
def DIs (K : PySem.W.Frag) : DL → Prop
  | .n => True
  | .c x st r => DI K x st ∧ DIs K r
theorem DIs.on {K : PySem.W.Frag}{x : Str}{st : Stmt}{r : DL}{f : Addr}{oc : Value}{od an : Option Addr}{osl : Array (Option Value)}{kV doc pm cdv ct : Value}(a : PySem.W.nsIn K mainGlobals x=some (some (.ref f)))(l : K.lookup f=some ⟨oc, od, .func (PySem.W.fnOf x x (bY st) (bG st) (aq st) .none kV doc pm an cdv ct), osl⟩)(c : PySem.W.codeIn K cdv x=true)(k : PySem.W.keepIn K (.ref f)=true)(hr : DIs K r) : DIs K (.c x st r) := ⟨.mk a l c k, hr⟩
theorem va {l : PySem.W.OpenLaw}{w : World}{K : PySem.W.Frag}{h : Heap}{mg : Str → Option Value}{fa : Addr}(X : K.In h)(G : h.Ns mainGlobals mg)(hfa : mg "law" = some (.ref fa))
    {f29 : Addr} {od29 an29 : Option Addr} {sl29 : Array (Option Value)} {oc29 kV29 dc29 pm29 cd29 ct29 : Value} {aB : Addr} {es : Array DictEntry} {en : Nat} {tS : Tok}   {t0 t1 t2 t3 t4 t5 t6 t7 t8 t9 t10 t11 : Tok}
    (hs : DIs K (.c "number_of" rR <| .c "back" mJ <| .c "strands_of" rS <| .c "letter_of" rT <| .c "strand_behind" gk <| .c "strand_on" wB <| .c "letters_of" se <| .c "points" r_ <| .c "met_at" jd <| .c "chords" gs <| .c "picture_of" sO <| .c "words_of" jh <| .c "ends_of" m7 <| .c "other_sides" jg <| .c "_law_tape" mH <| .c "_law_draw" mI <| .c "_law_back" i9 <| .c "_law_any_row" rV <| .c "_law_inner" i_ <| .c "_law_rooted" eU <| .c "_law_any_way" wy <| .c "_law_some_ways" ja <| .c "_law_all_strands" mU <| .c "_law_any_drawing" mV <| .c "_law_any_joins" gE <| .c "_law_begins" gv <| .c "_law_ways_out" ng <| .c "_law_found_words" gx <| .c "_law_same" nu <| .n))
    (a29 : PySem.W.nsIn K mainGlobals "law" = some (some (.ref f29)))
    (l29 : K.lookup f29=some ⟨oc29, od29, .func (PySem.W.fnOf "law" "law" (bY iE) (bG iE) (aq iE) .none kV29 dc29 pm29 an29 cd29 ct29), sl29⟩)
    (c29 : PySem.W.codeIn K cd29 "law" = true)
    (k29 : PySem.W.keepIn K (.ref f29)=true)
    (z_len : PySem.W.nsIn K mainGlobals "len" = some none)
    (z_repr : PySem.W.nsIn K mainGlobals "repr" = some none)
    (z_abs : PySem.W.nsIn K mainGlobals "abs" = some none)
    (z_max : PySem.W.nsIn K mainGlobals "max" = some none)
    (z_int : PySem.W.nsIn K mainGlobals "int" = some none)
    (z_list : PySem.W.nsIn K mainGlobals "list" = some none)
    (z_range : PySem.W.nsIn K mainGlobals "range" = some none)
    (z_reversed : PySem.W.nsIn K mainGlobals "reversed" = some none)
    (z_min : PySem.W.nsIn K mainGlobals "min" = some none)
    (z_sorted : PySem.W.nsIn K mainGlobals "sorted" = some none)
    (z_tuple : PySem.W.nsIn K mainGlobals "tuple" = some none)
    (z_isinstance : PySem.W.nsIn K mainGlobals "isinstance" = some none)
    (z_all : PySem.W.nsIn K mainGlobals "all" = some none)
    (z_str : PySem.W.nsIn K mainGlobals "str" = some none)
    (z_zip : PySem.W.nsIn K mainGlobals "zip" = some none)
    (aBk : PySem.W.nsIn K mainGlobals "BACKS" = some (some (.ref aB)))
    (lB : K.lookup aB=some ⟨.type "dict", none, .dict es en, #[]⟩)
    (kB : PySem.W.KeysLit w.params es.toList)
    (aS : PySem.W.nsIn K mainGlobals "SMALL" = some (some (.str "abcdef" tS)))
    (zE : PySem.W.nsIn K mainGlobals "enumerate" = some none)
    (zM : PySem.W.nsIn K mainGlobals "sum" = some none)
    (gl0 : PySem.W.nsIn K aB "a" = some (some (.str "A" t0)))
    (gl1 : PySem.W.nsIn K aB "b" = some (some (.str "B" t1)))
    (gl2 : PySem.W.nsIn K aB "c" = some (some (.str "C" t2)))
    (gl3 : PySem.W.nsIn K aB "d" = some (some (.str "D" t3)))
    (gl4 : PySem.W.nsIn K aB "e" = some (some (.str "E" t4)))
    (gl5 : PySem.W.nsIn K aB "f" = some (some (.str "F" t5)))
    (gl6 : PySem.W.nsIn K aB "A" = some (some (.str "a" t6)))
    (gl7 : PySem.W.nsIn K aB "B" = some (some (.str "b" t7)))
    (gl8 : PySem.W.nsIn K aB "C" = some (some (.str "c" t8)))
    (gl9 : PySem.W.nsIn K aB "D" = some (some (.str "d" t9)))
    (gl10 : PySem.W.nsIn K aB "E" = some (some (.str "e" t10)))
    (gl11 : PySem.W.nsIn K aB "F" = some (some (.str "f" t11))) :
    ∃ fd : FuncData, (∀ (s : Shared) (v : Value), BindsTo s fd ⟨[v], []⟩ [("_law_script", v)]) ∧ ∀ base : Heap, K.In base → base.Ns mainGlobals mg → nN l.prog w K mg base CX0 8 fa fd ["_law_script"] (nJ K) := by
  have e := hfa.symm.trans (A9 X G a29)
  cases e
  have gB : ∀ x : L, ∃ t, PySem.W.nsIn K aB (toS [x])=some (some (.str (toS [inv x]) t)) := by
    have q : ∀ (x : L) (u v : Str) (t : Tok), PySem.W.nsIn K aB u=some (some (.str v t)) → toS [x]=u → toS [inv x]=v → ∃ t, PySem.W.nsIn K aB (toS [x])=some (some (.str (toS [inv x]) t)) := fun x u v t g e1 e2 => ⟨t, by rw [e1, e2];exact g⟩
    intro x
    match x with
    | ⟨0, _⟩ => exact q 0 "a" "A" _ gl0 (by decide +kernel) (by decide +kernel)
    | ⟨1, _⟩ => exact q 1 "b" "B" _ gl1 (by decide +kernel) (by decide +kernel)
    | ⟨2, _⟩ => exact q 2 "c" "C" _ gl2 (by decide +kernel) (by decide +kernel)
    | ⟨3, _⟩ => exact q 3 "d" "D" _ gl3 (by decide +kernel) (by decide +kernel)
    | ⟨4, _⟩ => exact q 4 "e" "E" _ gl4 (by decide +kernel) (by decide +kernel)
    | ⟨5, _⟩ => exact q 5 "f" "F" _ gl5 (by decide +kernel) (by decide +kernel)
    | ⟨6, _⟩ => exact q 6 "A" "a" _ gl6 (by decide +kernel) (by decide +kernel)
    | ⟨7, _⟩ => exact q 7 "B" "b" _ gl7 (by decide +kernel) (by decide +kernel)
    | ⟨8, _⟩ => exact q 8 "C" "c" _ gl8 (by decide +kernel) (by decide +kernel)
    | ⟨9, _⟩ => exact q 9 "D" "d" _ gl9 (by decide +kernel) (by decide +kernel)
    | ⟨10, _⟩ => exact q 10 "E" "e" _ gl10 (by decide +kernel) (by decide +kernel)
    | ⟨11, _⟩ => exact q 11 "F" "f" _ gl11 (by decide +kernel) (by decide +kernel)
  have T : Bt K w mg aB := ⟨yC X G z_len, yC X G z_repr, yC X G z_abs, yC X G z_max, yC X G z_int, yC X G z_list, yC X G z_range, yC X G z_reversed, yC X G z_min, yC X G z_sorted, yC X G z_tuple, yC X G z_isinstance, yC X G z_all, yC X G z_str, yC X G z_zip, A9 X G aBk, ⟨es, en, lB, kB⟩, gB⟩
  have S : ∃ t, mg "SMALL" = some (.str "abcdef" t) := ⟨_, A9 X G aS⟩
  have Te : mg "enumerate" = none := yC X G zE
  have Tsum : mg "sum" = none := yC X G zM
  refine ⟨PySem.W.fnOf "law" "law" (bY iE) (bG iE) (aq iE) .none kV29 dc29 pm29 an29 cd29 ct29, fun s v => .of_eq rfl, fun base _ _ => ?_⟩
  obtain ⟨h0, h1, h2, h3, h4, h5, h6, h7, h8, h9, h10, h11, h12, h13, h14, h15, h16, h17, h18, h19, h20, h21, h22, h23, h24, h25, h26, h27, h28, _⟩ := hs
  have F_tape := uD (P := l.prog) (w := w) (base := base) (h14.df X G) T
  have F_draw := uE (P := l.prog) (w := w) (base := base) (h15.df X G) T
  have F_back := uF (P := l.prog) (w := w) (base := base) (h1.df X G) T
  have F_lback := rN (P := l.prog) (w := w) (base := base) (h16.df X G) 
  have F_num := wq (P := l.prog) (w := w) (base := base) (h0.df X G) T S
  have F_str := wt (P := l.prog) (w := w) (base := base) (h2.df X G) T Te
  have F_lof := wu (P := l.prog) (w := w) (base := base) (h3.df X G) T
  have F_let := wF (P := l.prog) (w := w) (base := base) (h6.df X G) T S
  have F_row := wx (P := l.prog) (w := w) (base := base) (h17.df X G) T F_draw
  have F_lrooted := mR (P := l.prog) (w := w) (base := base) (h19.df X G) T
  have F_inner := rW (P := l.prog) (w := w) (base := base) (h18.df X G) T F_lback
  have F_aw := xN (P := l.prog) (w := w) (base := base) (h20.df X G) T F_draw F_inner F_lrooted
  have F_sways := rX (P := l.prog) (w := w) (base := base) (h21.df X G) T F_draw F_lback F_aw
  have F_alls := uM (P := l.prog) (w := w) (base := base) (h22.df X G) T
  have F_adrw := uO (P := l.prog) (w := w) (base := base) (h23.df X G) T F_draw F_alls
  have F_on := xO (P := l.prog) (w := w) (base := base) (h5.df X G) T
  have F_behind := pk (P := l.prog) (w := w) (base := base) (h4.df X G) T F_on
  have F_metat := r6 (P := l.prog) (w := w) (base := base) (h8.df X G) T F_num
  have F_pts := wD (P := l.prog) (w := w) (base := base) (h7.df X G) T F_metat
  have F_chords := pA (P := l.prog) (w := w) (base := base) (h9.df X G) T Te F_back F_lof F_behind F_pts F_str
  have F_pic := wJ (P := l.prog) (w := w) (base := base) (h10.df X G) T F_chords
  have F_ends := uS (P := l.prog) (w := w) (base := base) (h12.df X G) T F_num
  have F_sides := sx (P := l.prog) (w := w) (base := base) (h13.df X G) T F_ends F_let F_num F_back
  have F_words := sA (P := l.prog) (w := w) (base := base) (h11.df X G) T F_ends F_sides
  have F_begins := pE (P := l.prog) (w := w) (base := base) (h25.df X G) T
  have F_wout := uU (P := l.prog) (w := w) (base := base) (h26.df X G) T F_begins F_lback
  have F_fwords := pJ (P := l.prog) (w := w) (base := base) (h27.df X G) T F_wout
  have F_same := uY (P := l.prog) (w := w) (base := base) (h28.df X G) T F_lback
  have F_ajoins := pP (P := l.prog) (w := w) (base := base) (h24.df X G) T F_draw
  exact wL (qa l29 c29 k29) T Tsum F_tape F_draw F_row F_ajoins F_fwords F_words F_sways F_adrw F_pic F_same
theorem xP {l : PySem.W.OpenLaw}{q : Program}{loose : List Str}{XP : (Str → Option Value) → Heap → Prop}{YP : World → Heap → Prop}{d : DefRec}{K : Params → PySem.W.Frag}(hn : l.most=some 63)(hdf : d.params.defaults=[])
    (hY : ∀ (w : World) (h : Heap), YP w h → (K w.params).In h)
    (F : ∀ (w : World) (mg : Str → Option Value) (fa : Addr) (h : Heap), (K w.params).In h → h.Ns mainGlobals mg → mg d.name=some (.ref fa) →
      ∃ fd : FuncData, (∀ (s : Shared) (u : Value), BindsTo s fd ⟨[u], []⟩ [("_law_script", u)]) ∧ ∀ base : Heap, (K w.params).In base → base.Ns mainGlobals mg → nN l.prog w (K w.params) mg base CX0 8 fa fd ["_law_script"] (nJ (K w.params))) :
    PySem.W.WalkO q loose XP YP l.row.toRowW d [] (fun f vs => PySem.call f vs) :=
  L2.lE (n := 63) (k := 8) (x := "_law_script") (CX := fun _ => CX0) (sp := fun w => nJ (K w.params)) hn (by decide) hdf ⟨rfl, by decide, by decide, rfl⟩ hY F (fun _ _ a ns hl _ hS => ⟨a, ns, rfl, hS, hl, fun _ => rfl⟩) fun _ _ _ _ _ z => z
end Kx
namespace Kx
open PySem
def vb (s : String) : Str := ⟨⟨PySem.W.R.mapR Char.toNat (PySem.W.S.toListS s)⟩⟩
theorem pT : Str.ofString=vb := by
  funext s
  rw [Str.ofString_eq_toList, PySem.W.S.toListS_eq]
  show _=(⟨⟨PySem.W.R.mapR Char.toNat (PySem.W.S.toListS s)⟩⟩ : Str)
  rw [← PySem.W.R.mapR_eq]
def apG (G : (String → Str) → Program)(x : String → Str) : Program := G x
def Gs : { G : (String → Str) → Program // apG G Str.ofString=PySem.Challenge.pw_ringwords_k37_words_of_pictures } := by
  refine ⟨?G, ?h⟩
  case h =>
    delta PySem.Challenge.pw_ringwords_k37_words_of_pictures
    generalize Str.ofString=x
    exact rfl
end Kx
def PySem.W.Fast.tw17902422359601587155 : PySem.Program := Kx.Gs.1 Kx.vb
theorem PySem.W.Fast.te17902422359601587155 : PySem.Challenge.pw_ringwords_k37_words_of_pictures=PySem.W.Fast.tw17902422359601587155 := Kx.Gs.2.symm.trans (yB (Kx.apG Kx.Gs.1) Kx.pT)
theorem PySem.W.Fast.te12577076168231739420 : True := trivial
theorem PySem.W.Fast.tw12819763665435727700 : True := trivial
theorem PySem.W.Fast.tw11603170860607077824 : True := trivial
theorem PySem.W.Fast.tw8208653176736500002 : True := trivial
theorem PySem.W.Fast.tw16791376354169713757 : True := trivial
theorem PySem.W.Fast.tw10329312255402277555 : True := trivial
theorem PySem.W.Fast.tw8278714401657443150 : True := trivial
theorem PySem.W.Fast.tw11407141891154387809 : True := trivial
theorem PySem.W.Fast.tw11246186819041875603 : True := trivial
theorem PySem.W.Fast.tw12955810509829849776 : True := trivial
theorem PySem.W.Fast.tw13865590361868114327 : True := trivial
open PySem PySem.W PyProof.Rows
set_option maxRecDepth 100000 in
set_option maxHeartbeats 0 in
theorem PySem.Challenge.cw_ringwords_k37_words_of_pictures_holds : PySem.Challenge.rw_ringwords_k37_words_of_pictures.Holds := by
  w_on; o_law; k_head; (case hw => w_witness2)
  k_fill
  refine Kx.xP (l := PySem.Challenge.rw_ringwords_k37_words_of_pictures) rfl rfl (fun w h Y => PySem.W.kIn_of Y) ?F
  case F =>
    intro w mg fa h KX G hmg
    refine' Kx.va KX G hmg ?hs ?a29 ?l29 ?c29 ?k29 ?z_len ?z_repr ?z_abs ?z_max ?z_int ?z_list ?z_range ?z_reversed ?z_min ?z_sorted ?z_tuple ?z_isinstance ?z_all ?z_str ?z_zip ?aBk ?lB ?kB ?aS ?zE ?zM ?gl0 ?gl1 ?gl2 ?gl3 ?gl4 ?gl5 ?gl6 ?gl7 ?gl8 ?gl9 ?gl10 ?gl11
    (case hs => (iterate 29 (refine' Kx.DIs.on ?_ ?_ ?_ ?_ ?_; rotate_left 10; k_is; k_is; k_is; k_is)); exact trivial)
    (case a29 => k_is)
    (case l29 => k_is)
    (case c29 => k_is)
    (case k29 => k_is)
    (case z_len => k_is)
    (case z_repr => k_is)
    (case z_abs => k_is)
    (case z_max => k_is)
    (case z_int => k_is)
    (case z_list => k_is)
    (case z_range => k_is)
    (case z_reversed => k_is)
    (case z_min => k_is)
    (case z_sorted => k_is)
    (case z_tuple => k_is)
    (case z_isinstance => k_is)
    (case z_all => k_is)
    (case z_str => k_is)
    (case z_zip => k_is)
    (case aBk => k_is)
    (case lB => k_is)
    (case kB => exact ⟨⟨_, _, rfl, rfl⟩, ⟨_, _, rfl, rfl⟩, ⟨_, _, rfl, rfl⟩, ⟨_, _, rfl, rfl⟩, ⟨_, _, rfl, rfl⟩, ⟨_, _, rfl, rfl⟩, ⟨_, _, rfl, rfl⟩, ⟨_, _, rfl, rfl⟩, ⟨_, _, rfl, rfl⟩, ⟨_, _, rfl, rfl⟩, ⟨_, _, rfl, rfl⟩, ⟨_, _, rfl, rfl⟩, trivial⟩)
    (case aS => k_is)
    (case zE => k_is)
    (case zM => k_is)
    (case gl0 => k_is)
    (case gl1 => k_is)
    (case gl2 => k_is)
    (case gl3 => k_is)
    (case gl4 => k_is)
    (case gl5 => k_is)
    (case gl6 => k_is)
    (case gl7 => k_is)
    (case gl8 => k_is)
    (case gl9 => k_is)
    (case gl10 => k_is)
    (case gl11 => k_is)
end
