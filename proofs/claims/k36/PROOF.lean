import PyProof.Rows.All
import Wide.All
import OpenK.AllK
import Wide.FinOn
import Lean
import PyProof.EqAt
import PyProof.EqKinds
import PyProof.TupleCall
import KE.KRevIter
import PyProof.Rows.SortShellK
import PyProof.FString5
import PyProof.NeData
import PyProof.TupleOfStr
import PyProof.IsRules
import PyProof.ListRange
import PyProof.FactsAll.tuple_3
import PyProof.ExcInit
import PyProof.InstStoreFacts
import PyProof.NsDelKeeps
import PyProof.ListMulRoad
import PyProof.FactsAll.tuple_2
import PyProof.TupleKey
import PyProof.DictKinds
import PyProof.P3Eq
import PyProof.DictWalks
import PyProof.Rows.DictUnroll
import PyProof.Rows.SumAny
import PyProof.AttrMiss
import KE.KDictOf
import PyProof.DictValues
import PyProof.WalksMore
import PyProof.MeetsDictList
import PyProof.DictTruth
import PySem.Challenge.RW_ringwords_k36_pictures_by_kind
set_option Elab.async false
set_option linter.all false
set_option maxRecDepth 100000
set_option maxHeartbeats 0
set_option maxHeartbeats 400000
noncomputable section
def fu:=@List.length_map
def wX:=@PySem.wpAny_bind
def wY:=@List.getElem?_eq_getElem
def wZ:=@Nat.le_refl
def w4:=@List.length_append
def w5:=@PySem.Heap.get?_push_of_some
def w6:=@PySem.wpAny_pure
def w9:=@List.map_append
def w_:=@List.getElem?_map
def xa:=@List.size_toArray
def xb:=@Option.some.inj
def xc:=@List.mem_of_getElem?
def xf:=@List.mem_singleton
def xg:=@decide_eq_false
def xh:=@List.getElem?_eq_some_iff
def xi:=@List.getD_eq_getElem?_getD
def xj:=@PySem.Heap.get?_push_size
def xk:=@List.mem_cons_of_mem
def xl:=@List.mem_append_right
def xm:=@PySem.Heap.lt_size
def xn:=@PySem.boot_len
def xo:=@List.length_take
def xp:=@Bool.and_eq_true
def xq:=@decide_eq_true
def xr:=@List.mem_cons
def xt:=@List.mem_cons_self
def xu:=@Bool.false_ne_true
def xv:=@List.map_cons
def xw:=@Nat.lt_of_lt_of_le
def xx:=@PySem.F.plainAttrs_list
def xy:=@PySem.F.plainAttrs_str
def xA:=@congrArg
def xB:=@Int.toNat_natCast
def xC:=@List.mem_map
def xD:=@PySem.W.mg_none_of
def xE:=@List.not_mem_nil
def xF:=@List.mem_append
def xG:=@PySem.PassesOwn.never
def xH:=@Nat.le_trans
def xI:=@List.take_length
def xJ:=@PySem.wpAny_callSpecial?_slot
def xK:=@decide_eq_true_eq
def xM:=@List.length_cons
def xN:=@Nat.ne_of_lt
def xO:=@PySem.wpAny_newObj_type
def xP:=@List.all_eq_true
def xQ:=@List.idxOf_lt_length_of_mem
def xR:=@List.take_of_length_le
def xS:=@PySem.wpAny_call_entry
def xT:=@PyProof.Rows.slot_tuple_getitem
def xU:=@Nat.lt_irrefl
def xV:=@Nat.zero_le
def xW:=@List.length_reverse
def xX:=@List.length_drop
def xY:=@List.mem_append_left
def xZ:=@PySem.Heap.get?_update_other
def x3:=@Int.emod_lt_of_pos
def x4:=@PyProof.Rows.callWith_type1
def x5:=@List.length_replicate
def x6:=@List.replicate_succ
def x8:=@List.length_range
def x9:=@Bool.true_and
def x_:=@PySem.wpAny_field
def ya:=@List.mem_of_mem_take
def yb:=@PySem.W.kia_one
def yc:=@List.getElem_mem
def yd:=@Bool.eq_iff_iff
def ye:=@List.length_set
def yf:=@PySem.Obj.data_mapFields
def yg:=@Int.emod_nonneg
def yh:=@Array.length_toList
def yi:=@PySem.mem_of_lookup
def yj:=@List.getElem?_append_left
def yk:=@Array.getElem?_eq_getElem
def ym:=@List.nodup_cons
def yn:=@PySem.F.slot_list_append
def yo:=@PySem.F.slot_str_join
def yq:=@PySem.F.type_str_join
def yr:=@PySem.wpAny_mono
def yt:=@PySem.wpAny_getItem_str_slice
def yu:=@Int.eq_ofNat_of_zero_le
def yw:=@List.mem_range
def yy:=@Bool.false_and
def yz:=@List.flatMap_cons
def yA:=@Option.map_some
def yB:=@Array.getElem?_eq_some_iff
def yC:=@PySem.F.slot_tuple_iterator_next
def yD:=@List.mem_flatMap
def yE:=@PySem.Heap.get?_update_self
def yF:=@or_false
def yG:=@decide_eq_true_iff
def yH:=@List.getElem?_set_ne
def yI:=@List.mem_iff_getElem
def yJ:=@PySem.wpAny_truthy_bool
def yK:=@PySem.wpAny_passesOwn
def yL:=@List.append_nil
def yM:=@List.take_add_one
def yN:=@List.Pairwise.imp
def yO:=@PySem.F.slot_list_extend
def yP:=@PySem.F.type_list_extend
def yQ:=@PySem.wpAny_holding
def yR:=@PySem.Heap.SameBut.update
def yS:=@List.eq_nil_of_length_eq_zero
def yT:=@List.mem_reverse
def yU:=@List.map_reverse
def yV:=@PySem.call_meets
def yW:=@PySem.wpAny_setField
def yX:=@List.getElem?_set_self
def yY:=@PySem.F.slot_str_lower
def yZ:=@PySem.F.type_str_lower
def y6:=@PySem.wpAny_pyIter_tuple
def y7:=@List.getElem_idxOf
def y8:=@PySem.wpAny_specialOf
def y9:=@PySem.builtinLookup_eq_fast
def y_:=@PySem.Obj.isFreed_of_fields
def za:=@List.map_map
def zb:=@List.getElem?_reverse
def zc:=@List.getElem?_eq_none
def zd:=@List.range_succ
def ze:=@List.length_filter_le
def zf:=@List.getElem?_concat_length
def zg:=@List.flatten_cons
def zh:=@List.getElem?_append_right
def zi:=@List.mem_of_mem_drop
def zj:=@List.drop_eq_getElem_cons
def zk:=@beq_eq_false_iff_ne
def zm:=@List.flatMap_append
def zo:=@Int.toNat_of_nonneg
def zp:=@PySem.F.args_tuple_add_2
def zq:=@PySem.F.slot_list_insert
def zr:=@PySem.F.type_list_append
def zt:=@PySem.Paired.length
def zu:=@PySem.F.entry_tuple_add
def zv:=@List.eraseIdx_cons_succ
def zw:=@List.foldl_cons
def zx:=@List.length_nil
def zy:=@PySem.W.mg_of
def zA:=@Bool.false_eq_true
def zB:=@PySem.post_val_or_str
def zC:=@PySem.wpAny_attempt
def zD:=@List.sum_cons
def zF:=@PySem.F.args_dict_valueiterator_next_1
def zG:=@PySem.F.slot_tuple_add
def zH:=@PySem.Calls.callWith_builtin
def zI:=@List.find?_cons_of_pos
def zJ:=@List.find?_cons_of_neg
def zK:=@PySem.F.slot_str_index
def zL:=@PySem.F.type_str_index
def zN:=@PySem.sizeLine_eq
def zO:=@List.eraseIdxIfInBounds_toArray
def zP:=@PySem.wpAny_of_eq
def zQ:=@PySem.wpAny_pyIter_enum
def zR:=@List.pairwise_map
def zS:=@PySem.F.entry_dict_valueiterator_next
def zT:=@PySem.wpAny_loadPart_at
def zU:=@PySem.wpAny_dictEntries
def zV:=@List.nodup_nil
def zW:=@List.length_singleton
def zX:=@Array.getElem?_toList
def zY:=@PySem.Txt.slice_le
def zZ:=@List.take_append_drop
def z1:=@List.pairwise_flatMap
def z5:=@PySem.F.slot_dict_valueiterator_next
def z6:=@PySem.wpAny_isOneOf_valiter
def z7:=@PySem.F.slot_list_pop
def z8:=@PySem.F.type_list_pop
def z9:=@List.map_set
def z_:=@List.lookup_cons
def Aa:=@Option.getD_some
def Ab:=@PySem.wpAny_isInstance
def Ac:=@PySem.wpAny_typeNameOfWhole_valiter
def Ad:=@PySem.F.args_list_append_2
def Ae:=@List.map_take
def Af:=@PySem.F.args_tuple_iterator_next_1
def Ag:=@List.dropLast_concat_getLast
def Ah:=@PySem.typeIs_str
def Ai:=@List.mem_filter
def Aj:=@List.filterMap_cons
def Ak:=@PySem.wpAny_execs_nil
def Al:=@PyProof.Rows.entry_tuple_getitem
def Am:=@PySem.F.entry_list_append
def An:=@List.find?_cons
def Ao:=@List.forIn_cons
def Ap:=@PySem.typeLookup_type
def Aq:=@List.length_pos_iff
def Ar:=@PySem.F.entry_tuple_iterator_next
def As:=@PySem.Calls.Name_function_global
def Au:=@PySem.wpAny_Call_Name_kw
def Av:=@PyProof.Rows.args_tuple_getitem
def Aw:=@List.map_nil
def Ax:=@Option.toList_some
def Ay:=@Int.zero_add
def Az:=@List.filter_append
def AA:=@PyProof.Rows.slicePart_none
def AB:=@Bool.and_false
def AC:=@PySem.isSubtype_type
def AD:=@List.drop_zero
def AE:=@List.mem_or_eq_of_mem_set
def AF:=@Option.isSome_iff_exists
def AG:=@PySem.wpAny_sequenceKey
def AH:=@PyProof.Rows.Subscript_
def AI:=@List.append_assoc
def AJ:=@PySem.list_append
def AK:=@PySem.wpAny_comprehension_free
def AL:=@PySem.Obj.cls_mapFields
def AM:=@PySem.F.slot_dict_values
def AN:=@PySem.F.type_list_insert
def AO:=@List.Pairwise.imp_of_mem
def AQ:=@PySem.evalPart_none
def AR:=@List.map_drop
def AS:=@List.cons.inj
def AU:=@List.length_eq_zero_iff
def AV:=@List.filter_cons_of_pos
def AW:=@List.filter_cons_of_neg
def AX:=@PySem.F.slot_list_index
def AY:=@PySem.F.type_list_index
def AZ:=@PySem.noFill_tuple_add
def A0:=@PySem.IsL.update
def A1:=@Nat.lt_succ_self
def A2:=@List.flatMap_nil
def A3:=@PySem.W.cellsFrom_some
def A4:=@Array.getElem?_eq_none
def A5:=@List.pairwise_lt_range
def A6:=@List.of_mem_zip
def A7:=@if_true
def A8:=@PySem.wpAny_typeOf
def A9:=@List.all_map
def A_:=@PySem.wpAny_dictEpoch
def Ba:=@List.sum_append
def Bb:=@PySem.Heap.size_push
def Bc:=@PySem.isSubtype_stop
def Bd:=@PySem.wpAny_seqItems
def Be:=@if_false
def Bf:=@Bool.or_false
def Bg:=@List.any_cons
def Bh:=@List.all_cons
def Bi:=@PySem.wpAny_rule
def Bj:=@Nat.le_of_lt
def Bk:=@Nat.succ_mul
def Bl:=@Nat.sub_zero
def Bm:=@Nat.zero_add
def Bn:=@Prod.ext
namespace L2
open PySem PySem.Spec PyProof.Rows
abbrev Key := Sum Int Str
def jQ : Key → Value → Bool
  | .inl k, v => Value.isInt k v
  | .inr x, v => Value.isStrOf x v
def wc (w : World) : Key → Int
  | .inl k => hashInt k
  | .inr x => hashStr w x
theorem bb : ∀ {k : Key} {v : Value}, jQ k v=true → (∃ i t, k=Sum.inl i ∧ v=Value.int i t) ∨ (∃ x t, k=Sum.inr x ∧ v=Value.str x t)
  | .inl i, v, h => by
    obtain ⟨t, e⟩ := Value.isInt_shape (k := i) (v := v) h
    exact .inl ⟨i, t, rfl, e⟩
  | .inr x, v, h => by
    obtain ⟨t, e⟩ := Value.isStrOf_shape (x := x) (v := v) h
    exact .inr ⟨x, t, rfl, e⟩
theorem kj (i : Int)(t : Tok) : jQ (.inl i) (.int i t)=true := by simp [jQ, Value.isInt]
theorem km (x : Str)(t : Tok) : jQ (.inr x) (.str x t)=true := by simp [jQ, Value.isStrOf]
theorem rX (a b : Int) : decide ((Sum.inl a : Key)=Sum.inl b)=(a == b) := by
  by_cases e : a=b
  · subst e;simp
  · have h : ¬ (Sum.inl a : Key)=Sum.inl b := fun q => e (Sum.inl.inj q)
    rw [xg h]
    exact (zk.mpr e).symm
theorem rY (a b : Str) : decide ((Sum.inr a : Key)=Sum.inr b)=decide (a=b) := by
  by_cases e : a=b
  · subst e;simp
  · have h : ¬ (Sum.inr a : Key)=Sum.inr b := fun q => e (Sum.inr.inj q)
    rw [xg h, xg e]
theorem rZ (a : Int)(b : Str) : decide ((Sum.inl a : Key)=Sum.inr b)=false := xg (fun q => nomatch q)
theorem r6 (a : Str)(b : Int) : decide ((Sum.inr a : Key)=Sum.inl b)=false := xg (fun q => nomatch q)
def bo (prog : Program)(w : World) : PySem.KeyKind prog w Key where
  is := jQ
  hash := wc w
  inj := fun v a b ha hb => by
    rcases bb ha with ⟨i, t, rfl, rfl⟩ | ⟨x, t, rfl, rfl⟩
    · rcases bb hb with ⟨j, u, rfl, e⟩ | ⟨y, u, rfl, e⟩
      · injection e with e1 _;rw [e1]
      · exact nomatch e
    · rcases bb hb with ⟨j, u, rfl, e⟩ | ⟨y, u, rfl, e⟩
      · exact nomatch e
      · injection e with e1 _;rw [e1]
  byValue := fun k v h => by
    rcases bb h with ⟨i, t, rfl, rfl⟩ | ⟨x, t, rfl, rfl⟩ <;> rfl
  pyHash := fun hv h => by
    rcases bb hv with ⟨i, t, rfl, rfl⟩ | ⟨x, t, rfl, rfl⟩
    · exact wpAny_pyHash_int h
    · exact wpAny_pyHash_str h
  eqBool := fun hu hv h => by
    rcases bb hu with ⟨i, t, rfl, rfl⟩ | ⟨x, t, rfl, rfl⟩
    · rcases bb hv with ⟨j, u, rfl, rfl⟩ | ⟨y, u, rfl, rfl⟩
      · rw [rX] at h;exact wpAny_eqBool_int h
      · rw [rZ] at h;exact SeqAt.EqAt.int_str i t y u _ _ _ _ h
    · rcases bb hv with ⟨j, u, rfl, rfl⟩ | ⟨y, u, rfl, rfl⟩
      · rw [r6] at h;exact SeqAt.EqAt.str_int x t j u _ _ _ _ h
      · rw [rY] at h;exact wpAny_eqBool_str h
  «strs» := fun k x t v h => by
    rcases bb h with ⟨i, u, rfl, e⟩ | ⟨y, u, rfl, e⟩
    · exact nomatch e
    · injection e with e1 _
      subst e1
      cases v <;> rfl
theorem iA (prog : Program)(w : World)(i : Int)(t : Tok) : (bo prog w).is (.inl i) (.int i t)=true := kj i t
theorem iB (prog : Program)(w : World)(x : Str)(t : Tok) : (bo prog w).is (.inr x) (.str x t)=true := km x t
inductive V where
  | non | bl (b : Bool) | int (i : Int) | str (x : Str) | byt (b : Array UInt8) | flt (b : UInt64) | ref (a : Addr) | ty (n : String)
  deriving DecidableEq
def bz : V → Value → Prop
  | .non, u => u=Value.none
  | .bl b, u => u=Value.bool b
  | .int i, u => ∃ t, u=Value.int i t
  | .str x, u => ∃ t, u=Value.str x t
  | .byt b, u => ∃ t, u=Value.bytes b t
  | .flt b, u => ∃ t, u=Value.float b t
  | .ref a, u => u=Value.ref a
  | .ty n, u => u=Value.type n
abbrev aZ : List V → List Value → Prop := Paired bz
theorem aZ.length {xs : List V}{us : List Value}(r : aZ xs us) : xs.length=us.length := zt r
theorem aZ.get : ∀ {xs : List V} {us : List Value} {i : Nat} {x : V}, aZ xs us → xs[i]? = some x → ∃ u, us[i]? = some u ∧ bz x u
  | _, _, _, _, .nil, e => by simp at e
  | _, _, 0, _, .cons r _, e => by simp at e;subst e;exact ⟨_, rfl, r⟩
  | _, _, i+1, x, .cons _ t, e => by
    obtain ⟨u, h1, h2⟩ := aZ.get (i := i) (x := x) t (by simpa using e)
    exact ⟨u, by simpa using h1, h2⟩
theorem aZ.set {x : V}{u : Value}(r : bz x u) : ∀ {xs : List V} {us : List Value} (i : Nat), aZ xs us → aZ (xs.set i x) (us.set i u)
  | _, _, _, .nil => .nil
  | _, _, 0, .cons _ t => .cons r t
  | _, _, i+1, .cons q t => .cons q (aZ.set r i t)
theorem aZ.append : ∀ {xs ys : List V} {us ws : List Value}, aZ xs us → aZ ys ws → aZ (xs++ys) (us++ws)
  | _, _, _, _, .nil, s => s
  | _, _, _, _, .cons r t, s => .cons r (aZ.append t s)
theorem aZ.take : ∀ {xs : List V} {us : List Value} (n : Nat), aZ xs us → aZ (xs.take n) (us.take n)
  | _, _, 0, _ => .nil
  | _, _, _+1, .nil => .nil
  | _, _, n+1, .cons r t => .cons r (aZ.take n t)
theorem aZ.drop : ∀ {xs : List V} {us : List Value} (n : Nat), aZ xs us → aZ (xs.drop n) (us.drop n)
  | _, _, 0, r => r
  | _, _, _+1, .nil => .nil
  | _, _, n+1, .cons _ t => aZ.drop n t
def p9 : Option V → Option Value → Prop
  | some v, some u => bz v u
  | none, none => True
  | _, _ => False
def KV {κ : Type} : List (κ × V) → List (κ × Value) → Prop := Paired fun (p : κ × V) (q : κ × Value) => p.1=q.1 ∧ bz p.2 q.2
def kV : Key → V
  | .inl i => .int i
  | .inr x => .str x
inductive HO where
  | lst (xs : List V)
  | tup (xs : List V)
  | dK (kvs : List (Key × V)) | dT (kvs : List (List Key × V))
  | set (S : Int → Bool) (n : Nat)
  | ins (C dx : Addr) (fs : List (Str × V))
  | own (x : Addr)
  | xd (fs : List (Str × V))
  | met (f x : Addr)
  | rng (lo hi : Int)
  | frz (o : Obj) (u : HO)
  | tbl (ps : Array Value)
  | ext (φ : Heap → Prop)
abbrev Hp := Addr → Option HO
def upd (H : Hp)(a : Addr)(o : HO) : Hp := fun b => if b=a then some o else H b
theorem ab {H : Hp}{a : Addr}{o : HO} : upd H a o a=some o := by unfold upd; rw [if_pos rfl]
theorem ay {H : Hp}{a b : Addr}{o : HO}(h : b≠a) : upd H a o b=H b := by unfold upd; rw [if_neg h]
theorem dD {H : Hp}{a : Addr}{o u : HO} : upd (upd H a o) a u=upd H a u := by
  funext b;unfold upd;split <;> rfl
theorem cH {H : Hp}{a b : Addr}{o u : HO}(h : H a=some o)(h' : H b=some u)(d : o≠u) : a≠b := by
  intro e;subst e;rw [h] at h';exact d (xb h')
theorem ak {H : Hp}{a b : Addr}{o : HO}(h : H a=some o)(h' : H b=none) : a≠b := by
  intro e;subst e;rw [h] at h';cases h'
section
variable (P : Program) (w : World)
def NoD (h : Heap)(a : Addr) : Prop := ∃ o, h.get? a=some o ∧ o.dict=none
theorem NoD.new (h : Heap)(o : Obj)(e : o.dict=none)(hf : o.isFreed=false := by rfl) : NoD (h.push o) h.objs.size := ⟨o, xj _ hf, e⟩
def bg (H : Hp)(h : Heap)(a : Addr) : HO → Prop
  | .lst xs => xs.length≤sizeLine ∧ ∃ (its : List Value) (n : Nat), aZ xs its ∧ h.get? a=some { cls := .type "list", data := .seq its.toArray n }
  | .tup xs => xs.length≤sizeLine ∧ ∃ its : List Value, aZ xs its ∧ IsTup h a its.toArray ∧ NoD h a
  | .dK kvs => kvs.length≤sizeLine ∧ (a == sysModules)=false ∧ ∃ vs, KV kvs vs ∧ h.DictOf (bo P w) a vs
  | .dT kvs => kvs.length≤sizeLine ∧ (a == sysModules)=false ∧ ∃ xs : List (List Key × Addr × Value),
      Paired (fun (p : List Key × V) (q : List Key × Addr × Value) => p.1=q.1 ∧ H q.2.1=some (.tup (p.1.map kV)) ∧ bz p.2 q.2.2) kvs xs ∧
      ∃ o es ep, h.get? a=some o ∧ o.ExactDict ∧ o.data = .dict es ep ∧ es.toList=xs.map (entryOfKey (tupleKind (bo P w))) ∧ (xs.map (·.1)).Nodup
  | .set S n => h.SetOf (intKind P w) a S n
  | .ins C dx fs => H dx=some (.own a) ∧ fs.length≤1000 ∧ dx≠a ∧ h.get? a=some (PySem.W.instObj C dx) ∧
      ∃ mA, h.Ns1 dx mA ∧ (∀ f, p9 (fs.lookup f) (mA f)) ∧ PySem.Within mA (fs.map (·.1))
  | .own _ => ∃ o, h.get? a=some o
  | .xd fs => ∃ mA, h.Ns1 a mA ∧ ∀ f, p9 (fs.lookup f) (mA f)
  | .rng lo hi => ∃ t u v, h.get? a=some { cls := .type "range", data := .fields #[.int lo t, .int hi u, .int 1 v] }
  | .frz o u => h.get? a=some o ∧ bg H h a u
  | .tbl ps => h.get? a=some { cls := .none, data := .fields ps }
  | .met f x => h.get? a=some (PySem.W.methodObj (.ref f) (.ref x))
  | .ext φ => φ h ∧ (∃ o, h.get? a=some o) ∧ ∀ h1 h2 : Heap, φ h1 → (∀ o, h1.get? a=some o → h2.get? a=some o) → φ h2
def HOk (H : Hp)(h : Heap) : Prop := ∀ a o, H a=some o → bg P w H h a o
end
section
variable {P : Program} {w : World} {H H' : Hp} {h h' : Heap} {a : Addr} {o : HO}
theorem bg.lt (x : bg P w H h a o) : a < h.objs.size := by
  cases o with
  | lst xs => obtain ⟨_, _, _, _, e⟩ := x;exact xm e
  | tup xs => obtain ⟨_, _, _, p, _⟩ := x;exact p.lt
  | dK kvs => obtain ⟨_, _, _, _, o, _, _, e, _⟩ := x;exact xm e
  | dT kvs => obtain ⟨_, _, _, _, o, _, _, e, _⟩ := x;exact xm e
  | set S n => obtain ⟨o, _, _, _, e, _⟩ := x;exact xm e
  | ins C dx fs => obtain ⟨_, _, _, e, _⟩ := x;exact xm e
  | own y => obtain ⟨_, e⟩ := x;exact xm e
  | xd fs => obtain ⟨_, ⟨_, _, _, e, _⟩, _⟩ := x;exact xm e
  | rng lo hi => obtain ⟨_, _, _, e⟩ := x;exact xm e
  | frz ob u => obtain ⟨e, _⟩ := x;exact xm e
  | tbl ps => exact xm (show h.get? a=some _ from x)
  | met f y => exact xm (show h.get? a=some _ from x)
  | ext φ => obtain ⟨_, ⟨_, e⟩, _⟩ := x;exact xm e
theorem Paired.mapP {α β : Type}{F G : α → β → Prop} : ∀ {l₁ : List α} {l₂ : List β}, Paired F l₁ l₂ → (∀ a b, F a b → G a b) → Paired G l₁ l₂
  | _, _, .nil, _ => .nil
  | _, _, .cons r t, f => .cons (f _ _ r) (Paired.mapP t f)
theorem bg.stay (x : bg P w H h a o)(k : ∀ b u, (b=a ∨ H b=some (.own a)) → h.get? b=some u → h'.get? b=some u)
    (ho : ∀ b, H b=some (.own a) → H' b=some (.own a)) (ht : ∀ b xs, H b=some (.tup xs) → H' b=some (.tup xs)) : bg P w H' h' a o := by
  induction o with
  | lst xs => obtain ⟨z, its, n, r, e⟩ := x;exact ⟨z, its, n, r, k _ _ (.inl rfl) e⟩
  | tup xs => obtain ⟨z, its, r, ⟨ob, e, c⟩, o2, e2, c2⟩ := x;exact ⟨z, its, r, ⟨ob, k _ _ (.inl rfl) e, c⟩, o2, k _ _ (.inl rfl) e2, c2⟩
  | dK kvs => obtain ⟨z, y, vs, r, ob, es, ep, e, c⟩ := x;exact ⟨z, y, vs, r, ob, es, ep, k _ _ (.inl rfl) e, c⟩
  | dT kvs =>
    obtain ⟨z, y, xs, r, ob, es, ep, e, c⟩ := x
    exact ⟨z, y, xs, Paired.mapP r fun p q z => ⟨z.1, ht _ _ z.2.1, z.2.2⟩, ob, es, ep, k _ _ (.inl rfl) e, c⟩
  | set S n => obtain ⟨ob, es, ep, t, e, c⟩ := x;exact ⟨ob, es, ep, t, k _ _ (.inl rfl) e, c⟩
  | ins C dx fs =>
    obtain ⟨d, z, ne, e, mA, ⟨od, es, ep, e2, c⟩, r⟩ := x
    exact ⟨ho _ d, z, ne, k _ _ (.inl rfl) e, mA, ⟨od, es, ep, k _ _ (.inr d) e2, c⟩, r⟩
  | own y => obtain ⟨ob, e⟩ := x;exact ⟨ob, k _ _ (.inl rfl) e⟩
  | xd fs => obtain ⟨mA, ⟨od, es, ep, e, c⟩, r⟩ := x;exact ⟨mA, ⟨od, es, ep, k _ _ (.inl rfl) e, c⟩, r⟩
  | rng lo hi => obtain ⟨t, u, v, e⟩ := x;exact ⟨t, u, v, k _ _ (.inl rfl) e⟩
  | frz ob u ih => obtain ⟨e, q⟩ := x;exact ⟨k _ _ (.inl rfl) e, ih q⟩
  | tbl ps =>
    have e : h.get? a=some { cls := .none, data := .fields ps } := x
    show h'.get? a=some { cls := .none, data := .fields ps }
    exact k a _ (.inl rfl) e
  | met f y =>
    have e : h.get? a=some (PySem.W.methodObj (.ref f) (.ref y)) := x
    show h'.get? a=some (PySem.W.methodObj (.ref f) (.ref y))
    exact k a _ (.inl rfl) e
  | ext φ => obtain ⟨p, ⟨o, e⟩, st⟩ := x;exact ⟨st _ _ p fun o q => k _ _ (.inl rfl) q, ⟨o, k _ _ (.inl rfl) e⟩, st⟩
theorem HOk.lt (x : HOk P w H h)(e : H a=some o) : a < h.objs.size := (x a o e).lt
theorem HOk.fresh (x : HOk P w H h)(e : h.objs.size≤a) : H a=none := by
  cases q : H a with
  | none => rfl
  | some u => exact absurd (xw (x.lt q) e) (xU _)
theorem HOk.kept (x : HOk P w H h)(k : ∀ b u, h.get? b=some u → h'.get? b=some u) : HOk P w H h' := fun a o e =>
  (x a o e).stay (fun b u _ q => k b u q) (fun _ q => q) fun _ _ q => q
theorem HOk.laid (x : HOk P w H h)(k : ∀ b u, h.get? b=some u → h'.get? b=some u)(hp : h.objs.size≤a)(new : bg P w (upd H a o) h' a o) : HOk P w (upd H a o) h' := fun b u e => by
  have hn := x.fresh hp
  by_cases hb : b=a
  · subst hb;rw [ab] at e;cases e;exact new
  · rw [ay hb] at e
    exact (x b u e).stay (fun c v _ q => k c v q) (fun c q => by rw [ay (ak q hn)];exact q) fun c xs q => by rw [ay (ak q hn)];exact q
end
def Rd (H : Hp)(a : Addr)(u : HO) : Prop := H a=some u ∨ ∃ o, H a=some (.frz o u)
theorem Rd.ok {P : Program}{w : World}{H : Hp}{h : Heap}{a : Addr}{u : HO}(r : Rd H a u)(x : HOk P w H h) : bg P w H h a u := by
  rcases r with r | ⟨o, r⟩
  · exact x a u r
  · obtain ⟨_, q⟩ := x a _ r
    exact q
def Mut : Option HO → Prop
  | some (.lst _) => True
  | some (.dK _) => True
  | some (.dT _) => True
  | some (.set _ _) => True
  | some (.ins _ _ _) => True
  | some (.ext _) => True
  | _ => False
section
variable {P : Program} {w : World} {H : Hp} {h h' : Heap} {x e : Addr} {o' : HO}
theorem HOk.write (ok : HOk P w H h)(mu : Mut (H x))(he : e=x ∨ H e=some (.own x))(k : ∀ b u, b≠e → h.get? b=some u → h'.get? b=some u)(heo : ∃ u, h'.get? e=some u)
    (new : bg P w (upd H x o') h' x o') : HOk P w (upd H x o') h' := fun b u q => by
  have nown : ∀ c y, H c=some (.own y) → c≠x := fun c y r z => by subst z;rw [r] at mu;exact mu
  have ntup : ∀ c xs, H c=some (.tup xs) → c≠x := fun c xs r z => by subst z;rw [r] at mu;exact mu
  by_cases hb : b=x
  · subst hb;rw [ab] at q;cases q;exact new
  · rw [ay hb] at q
    by_cases hbe : b=e
    · have q' : H b=some (.own x) := by
        rcases he with z | z
        · exact absurd (hbe.trans z) hb
        · rw [hbe];exact z
      rw [q] at q';cases q'
      obtain ⟨v, hv⟩ := heo
      exact ⟨v, by rw [hbe];exact hv⟩
    · refine (ok b u q).stay (fun c v hc r => k c v ?_ r) (fun c r => by rw [ay (nown c b r)];exact r) fun c xs r => by rw [ay (ntup c xs r)];exact r
      rcases hc with rfl | hc
      · exact hbe
      · rintro rfl
        rcases he with z | z
        · exact nown c b hc z
        · rw [hc] at z;cases z;exact hb rfl
end
structure Un (fs ex : List Addr) (H H' : Hp) (h h' : Heap) : Prop where
  keep : ∀ b o, h.get? b=some o → H b=none → b∉fs → b∉ex → h'.get? b=some o
  slot : ∀ b o, h.get? b=some o → H b=none → b∈fs → b∉ex → ∃ sl, h'.get? b=some { o with slots := sl }
  free : ∀ b o, h.get? b=some o → H b=none → b∉ex → H' b=none
  there : ∀ b o, h.get? b=some o → b∉ex → ∃ o', h'.get? b=some o'
  tups : ∀ b xs, H b=some (.tup xs) → H' b=some (.tup xs)
  frzs : ∀ b o u, H b=some (.frz o u) → H' b=some (.frz o u)
  tbls : ∀ b ps, H b=some (.tbl ps) → ∃ more, H' b=some (.tbl (ps++more))
section
variable {fs fs' ex ex' : List Addr} {H H1 H2 : Hp} {h h1 h2 h' : Heap} {a x e : Addr} {o : HO}
theorem Un.any (u : Un fs ex H H1 h h1){b : Addr}{ob : Obj}(q : h.get? b=some ob)(n : H b=none)(hx : b∉ex) : ∃ sl, h1.get? b=some { ob with slots := sl } := by
  by_cases hb : b∈fs
  · exact u.slot b ob q n hb hx
  · exact ⟨ob.slots, u.keep b ob q n hb hx⟩
theorem Un.kept (k : ∀ b u, h.get? b=some u → h'.get? b=some u) : Un fs ex H H h h' :=
  ⟨fun b ob q _ _ _ => k b ob q, fun b ob q _ _ _ => ⟨ob.slots, k b ob q⟩, fun _ _ _ n _ => n, fun b ob q _ => ⟨ob, k b ob q⟩, fun _ _ q => q, fun _ _ _ q => q, fun _ ps q => ⟨#[], by rw [q];simp⟩⟩
theorem Un.refl : Un fs ex H H h h := Un.kept fun _ _ q => q
theorem Un.laid (k : ∀ b u, h.get? b=some u → h'.get? b=some u)(hp : h.objs.size≤a)(hn : H a=none) : Un fs ex H (upd H a o) h h' where
  keep := fun b u q _ _ _ => k b u q
  slot := fun b u q _ _ _ => ⟨u.slots, k b u q⟩
  free := fun b u q n _ => by rw [ay (xN (xw (xm q) hp))];exact n
  there := fun b u q _ => ⟨u, k b u q⟩
  tups := fun b xs q => by rw [ay (ak q hn)];exact q
  frzs := fun b u xs q => by rw [ay (ak q hn)];exact q
  tbls := fun b ps q => ⟨#[], by rw [ay (ak q hn), q];simp⟩
theorem Un.write (mu : Mut (H x))(he : e=x ∨ H e=some (.own x))(k : ∀ b u, b≠e → h.get? b=some u → h'.get? b=some u)(heo : ∃ u, h'.get? e=some u) : Un fs ex H (upd H x o) h h' := by
  have hx : ∀ b, H b=none → b≠x := fun b n z => by subst z;rw [n] at mu;exact mu
  have hb : ∀ b, H b=none → b≠e := fun b n z => by
    subst z
    rcases he with r | r
    · exact hx b n r
    · rw [n] at r;cases r
  have hm : ∀ b u, H b=some u → ¬ Mut (some u) → b≠x := fun b u q nm z => by subst z;rw [q] at mu;exact nm mu
  refine ⟨fun b u q n _ _ => k b u (hb b n) q, fun b u q n _ _ => ⟨u.slots, k b u (hb b n) q⟩, fun b u q n _ => by rw [ay (hx b n)];exact n, fun b u q _ => ?_,
    fun b xs q => by rw [ay (hm b _ q fun z => z)];exact q, fun b u xs q => by rw [ay (hm b _ q fun z => z)];exact q, fun b ps q => ⟨#[], by rw [ay (hm b _ q fun z => z), q];simp⟩⟩
  by_cases hbe : b=e
  · subst hbe;exact heo
  · exact ⟨u, k b u hbe q⟩
end
def trk (h : Heap)(H : Hp) : List Addr := (List.range h.objs.size).filter fun a => (H a).isSome
def m_ (h : Heap)(H : Hp) : Heap := PySem.W.hideAll h (trk h H)
theorem ko (h : Heap)(H : Hp) : (m_ h H).objs.size=h.objs.size := PySem.W.hideAll_size _ _
theorem nc {h : Heap}{H : Hp}{b : Addr}{o : Obj}(e : h.get? b=some o)(n : H b=none) : (m_ h H).get? b=some o :=
  PySem.W.hideAll_get _ e fun hm => by
    have q : (H b).isSome=true := (Ai.mp hm).2
    rw [n] at q;simp at q
theorem p_ {h : Heap}{H : Hp}{b : Addr}{o : Obj}(e : (m_ h H).get? b=some o) : h.get? b=some o ∧ H b=none := by
  have e' : h.get? b=some o := PySem.W.of_hideAll (trk h H) e
  refine ⟨e', ?_⟩
  cases q : H b with
  | none => rfl
  | some x =>
    have hm : b∈trk h H := Ai.mpr ⟨yw.mpr (xm e'), by simp [q]⟩
    have z : (m_ h H).get? b=none := PySem.W.hideAll_none (trk h H) hm
    rw [z] at e;cases e
structure Mod (K : PySem.W.Frag) (mg : Str → Option Value) (base : Heap) : Prop where
  kin : K.In base
  glob : base.Ns mainGlobals mg
  blt : ∃ mb, base.Ns builtinsNs mb ∧ ∀ x : Str, x ≠ "__name__" → mb x=bootBuiltins x
  nolimit : base.NoLimit
/-- the context: a def's body (or a comprehension's block) running. base: fixed through the whole law;s₀, H₀: the entry;outer: the frames whose slots others may change (a def's callers);stack: all frames that run;
   ex: iterators that were made ahead of the entry and are walked here (a comprehension's);fn: the names whose cells were made at the entry (a def: all;a comprehension's block: its own);calm: not within an except suite;pn: pins that every state bears;xe: what is wanted of an exception that leaves the code -/
structure Cx where
  prog : Program
  w : World
  K : PySem.W.Frag
  mg : Str → Option Value
  base : Heap
  A : Around
  N : List Str
  s₀ : Shared
  H₀ : Hp
  env : Env
  outer : List Env
  stack : List Env
  ex : List Addr
  fn : Str → Bool
  calm : Bool
  pn : List (Addr × Obj)
  xe : Value → Shared → Prop
def frs (l : List Env) : List Addr := l.filterMap (·.frame)
abbrev Cx.fs (X : Cx) : List Addr := frs X.outer
def Vis (sc : Scope)(x : Str) : Prop := sc.names.lookup x=some .local ∨ sc.names.lookup x=some .cell ∨ sc.names.lookup x=some .free
def Loc (sc : Scope)(x : Str) : Prop := sc.names.lookup x=some .local ∨ sc.names.lookup x=some .cell
def wd (env : Env)(h : Heap)(m : Str → Option Value)(x : Str)(u : Value) : Prop :=
  (env.kindOf x=some .local ∧ m x=some u) ∨ ((env.kindOf x=some .cell ∨ env.kindOf x=some .free) ∧ ∃ c, env.cells.lookup x=some c ∧ h.IsCell c (some u))
structure Cx.Ok (X : Cx) : Prop where
  mod : Mod X.K X.mg X.base
  kind : X.env.scope.kind = .function
  glob : X.env.globals=mainGlobals
  blt : X.env.builtins=builtinsNs
  above : X.s₀.heap.objs.size≤X.env.locals
  inj : ∀ x y c, X.env.cells.lookup x=some c → X.env.cells.lookup y=some c → x=y
  has : ∀ x, (X.env.kindOf x=some .cell ∨ X.env.kindOf x=some .free) → ∃ c, X.env.cells.lookup x=some c
  cab : ∀ x c, X.fn x=true → X.env.cells.lookup x=some c → X.s₀.heap.objs.size≤c
  hd : X.calm=true → X.A.handled=none
  frames : X.A.frames=some X.stack
  stk : X.stack=X.outer ∨ (X.stack=X.env::X.outer ∧ X.env.frame=some X.env.locals)
  exf : ∀ b∈X.ex, b≠X.env.locals ∧ ∀ x c, X.env.cells.lookup x=some c → c≠b
  bs : ∀ b o, X.base.get? b=some o → X.s₀.heap.get? b=some o ∧ X.H₀ b=none
  bsz : X.base.objs.size≤X.s₀.heap.objs.size
  noex : ∀ b o, X.base.get? b=some o → b∉X.ex
  exfs : ∀ b∈X.ex, b∉X.fs
  funs : X.s₀.heap.FunFrames X.base X.outer
  frf : ∀ b∈X.fs, X.H₀ b=none
structure Inv (X : Cx) (pins : List (Addr × Obj)) (σ : List (Option V)) (H : Hp) (s : Shared) : Prop where
  ok : X.Ok
  os : s.os=X.s₀.os
  bare : AllBare s.gens
  base : Un X.fs X.ex X.H₀ H X.s₀.heap s.heap
  loc : ∃ m, s.heap.Ns X.env.locals m ∧ ∀ (i : Nat) (x : Str) (v : V), X.N[i]? = some x → σ[i]? = some (some v) → Vis X.env.scope x → ∃ u, bz v u ∧ wd X.env s.heap m x u
  cell : ∀ x c, X.env.cells.lookup x=some c → ∃ v, s.heap.IsCell c v
  free : H X.env.locals=none
  freeC : ∀ x c, X.env.cells.lookup x=some c → H c=none
  pin : ∀ p∈X.pn++pins, s.heap.get? p.1=some p.2 ∧ H p.1=none ∧ p.1≠X.env.locals ∧ p.1∉X.fs ∧ ∀ v, p.2.data ≠ .cell v
  hok : HOk X.prog X.w H s.heap
  len : σ.length=X.N.length
section
variable {X : Cx} {pins : List (Addr × Obj)} {σ : List (Option V)} {H H' : Hp} {s : Shared} {h' : Heap}
theorem Cx.Ok.nofr (ok : X.Ok){b : Addr}{o : Obj}(e : X.base.get? b=some o) : b∉X.fs := fun hb => by
  have := (ok.funs.mem hb).1
  rw [e] at this;cases this
theorem Inv.bs (I : Inv X pins σ H s) : ∀ b o, X.base.get? b=some o → s.heap.get? b=some o ∧ H b=none := fun b o e =>
  ⟨I.base.keep b o (I.ok.bs b o e).1 (I.ok.bs b o e).2 (I.ok.nofr e) (I.ok.noex b o e), I.base.free b o (I.ok.bs b o e).1 (I.ok.bs b o e).2 (I.ok.noex b o e)⟩
theorem Inv.bk (I : Inv X pins σ H s) : ∀ b o, X.base.get? b=some o → s.heap.get? b=some o := fun b o e => (I.bs b o e).1
theorem Inv.mod (I : Inv X pins σ H s) : Mod X.K X.mg X.base := I.ok.mod
theorem Inv.kIn (I : Inv X pins σ H s) : X.K.In s.heap := I.ok.mod.kin.keeps I.bk
theorem Inv.fr (I : Inv X pins σ H s) : ∃ m, Fr X.base X.env.locals s.heap m :=
  let ⟨m, hn, _⟩ := I.loc
  ⟨m, hn, I.bk, xH I.ok.bsz I.ok.above⟩
theorem Inv.lt (I : Inv X pins σ H s) : X.env.locals < s.heap.objs.size := let ⟨_, hn, _⟩ := I.loc; hn.lt
theorem Inv.sz (I : Inv X pins σ H s) : X.s₀.heap.objs.size≤s.heap.objs.size := xH I.ok.above (Bj I.lt)
theorem Inv.nofs (I : Inv X pins σ H s){a : Addr}(h : s.heap.objs.size≤a) : a∉X.fs := fun hb => by
  obtain ⟨_, o, ho, _⟩ := I.ok.funs.mem hb
  exact absurd (xw (xm ho) (xH I.sz h)) (xU _)
theorem Inv.cne (I : Inv X pins σ H s) : ∀ x c, X.env.cells.lookup x=some c → c≠X.env.locals := fun x c e z => by
  obtain ⟨v, o, ho, hd⟩ := I.cell x c e
  obtain ⟨m, ⟨o', es, ep, ho', hd', _⟩, _⟩ := I.loc
  rw [z, ho'] at ho;cases ho;rw [hd'] at hd;cases hd
theorem Inv.funs (I : Inv X pins σ H s) : s.heap.FunFrames X.base X.outer := by
  have all : ∀ (l : List Env), (∀ b∈frs l, b∈X.fs) → X.s₀.heap.FunFrames X.base l → s.heap.FunFrames X.base l := by
    intro l
    induction l with
    | nil => intro _ _;trivial
    | cons env r ih =>
      intro hs hl
      obtain ⟨hk, ⟨L, o, hf, hn, ho, hd⟩, hr⟩ := hl
      have hL : L∈X.fs := hs L (by unfold frs;rw [Aj, hf];exact xt)
      obtain ⟨sl, e⟩ := I.base.slot L o ho (I.ok.frf L hL) hL fun z => I.ok.exfs L z hL
      exact ⟨hk, ⟨L, _, hf, hn, e, hd⟩, ih (fun b hb => hs b (by unfold frs;rw [Aj, hf];exact xk _ hb)) hr⟩
  exact all X.outer (fun _ hb => hb) I.ok.funs
theorem Inv.stack (I : Inv X pins σ H s) : s.heap.FunFrames X.base X.stack := by
  rcases I.ok.stk with e | ⟨e, hf⟩
  · rw [e];exact I.funs
  · rw [e]
    obtain ⟨m, hn, _⟩ := I.loc
    refine .cons (by rw [I.ok.kind];decide) hf hn ?_ I.funs
    exact Heap.get?_none_of_le (xH I.ok.bsz I.ok.above)
theorem Inv.stkSub (I : Inv X pins σ H s) : ∀ b∈frs X.stack, b∈X.env.locals::X.fs := fun b hb => by
  rcases I.ok.stk with e | ⟨e, hf⟩
  · rw [e] at hb;exact xk _ hb
  · rw [e] at hb
    unfold frs at hb
    rw [Aj, hf] at hb
    exact hb
theorem Inv.stkFree (I : Inv X pins σ H s) : ∀ b∈frs X.stack, H b=none := fun b hb => by
  rcases xr.mp (I.stkSub b hb) with e | hb
  · rw [e];exact I.free
  · obtain ⟨_, o, ho, _⟩ := I.ok.funs.mem hb
    exact I.base.free b o ho (I.ok.frf b hb) fun z => I.ok.exfs b z hb
theorem Inv.step {g' : Array GenState}{t' : Nat}{d' : Drawn}{ch : List Addr}(I : Inv X pins σ H s)
    (hch : ∀ b∈ch, (b∈X.ex ∨ X.s₀.heap.objs.size≤b) ∧ b≠X.env.locals ∧ (∀ x c, X.env.cells.lookup x=some c → c≠b) ∧ ∀ p∈X.pn++pins, p.1≠b)
    (keep : ∀ b o, b≠X.env.locals → b∉X.fs → b∉ch → s.heap.get? b=some o → H b=none → h'.get? b=some o)
    (slot : ∀ b o, b≠X.env.locals → b∈X.fs → b∉ch → s.heap.get? b=some o → H b=none → ∃ sl, h'.get? b=some { o with slots := sl }) (free : ∀ b o, b∉ch → s.heap.get? b=some o → H b=none → H' b=none)
    (there : ∀ b o, b∉ch → s.heap.get? b=some o → ∃ o', h'.get? b=some o')
    (tups : ∀ b xs, H b=some (.tup xs) → H' b=some (.tup xs)) (frzs : ∀ b o u, H b=some (.frz o u) → H' b=some (.frz o u)) (tbls : ∀ b ps, H b=some (.tbl ps) → ∃ more, H' b=some (.tbl (ps++more)))
    (ns : ∀ m, s.heap.Ns X.env.locals m → h'.Ns X.env.locals m) (hok : HOk X.prog X.w H' h') (hg : AllBare g') :
    Inv X pins σ H' { s with heap := h', gens := g', drawn := d', toks := t' } := by
  have neL : ∀ b o, X.s₀.heap.get? b=some o → b≠X.env.locals := fun b o e => xN (xw (xm e) I.ok.above)
  have neC : ∀ b o, X.s₀.heap.get? b=some o → b∉X.ex → b∉ch := fun b o e hx hb => by
    rcases (hch b hb).1 with z | z
    · exact hx z
    · exact absurd (xw (xm e) z) (xU _)
  have cellK : ∀ x c, X.env.cells.lookup x=some c → ∀ v, s.heap.IsCell c v → h'.IsCell c v := fun x c e v ⟨o, ho, hd⟩ => by
    have nch : c∉ch := fun z => (hch c z).2.2.1 x c e rfl
    by_cases hc : c∈X.fs
    · obtain ⟨sl, q⟩ := slot c o (I.cne x c e) hc nch ho (I.freeC x c e)
      exact ⟨_, q, hd⟩
    · exact ⟨o, keep c o (I.cne x c e) hc nch ho (I.freeC x c e), hd⟩
  refine ⟨I.ok, I.os, hg, ⟨fun b o e n hb hx => ?_, fun b o e n hb hx => ?_, fun b o e n hx => ?_, fun b o e hx => ?_, fun b xs e => tups b xs (I.base.tups b xs e), fun b o xs e => frzs b o xs (I.base.frzs b o xs e), fun b ps e => ?_⟩, ?_, fun x c e => ?_, ?_, fun x c e => ?_, fun p hp => ?_, hok, I.len⟩
  · exact keep b o (neL b o e) hb (neC b o e hx) (I.base.keep b o e n hb hx) (I.base.free b o e n hx)
  · obtain ⟨sl, e1⟩ := I.base.slot b o e n hb hx
    obtain ⟨sl', e2⟩ := slot b _ (neL b o e) hb (neC b o e hx) e1 (I.base.free b o e n hx)
    exact ⟨sl', e2⟩
  · obtain ⟨o', e1⟩ := I.base.there b o e hx
    exact free b o' (neC b o e hx) e1 (I.base.free b o e n hx)
  · obtain ⟨o', e1⟩ := I.base.there b o e hx
    exact there b o' (neC b o e hx) e1
  · obtain ⟨m1, e1⟩ := I.base.tbls b ps e
    obtain ⟨m2, e2⟩ := tbls b _ e1
    exact ⟨m1++m2, by rw [e2, Array.append_assoc]⟩
  · obtain ⟨m, hn, hl⟩ := I.loc
    refine ⟨m, ns m hn, fun i x v e1 e2 e3 => ?_⟩
    obtain ⟨u, r, l⟩ := hl i x v e1 e2 e3
    refine ⟨u, r, ?_⟩
    rcases l with l | ⟨k, c, e, z⟩
    · exact .inl l
    · exact .inr ⟨k, c, e, cellK x c e _ z⟩
  · obtain ⟨v, z⟩ := I.cell x c e
    exact ⟨v, cellK x c e v z⟩
  · obtain ⟨m, ⟨o, _, _, ho, _⟩, _⟩ := I.loc
    exact free _ o (fun z => (hch _ z).2.1 rfl) ho I.free
  · obtain ⟨v, o, ho, hd⟩ := I.cell x c e
    exact free c o (fun z => (hch c z).2.2.1 x c e rfl) ho (I.freeC x c e)
  · obtain ⟨e, n, ne, nf, d⟩ := I.pin p hp
    have nch : p.1∉ch := fun z => (hch p.1 z).2.2.2 p hp rfl
    exact ⟨keep p.1 p.2 ne nf nch e n, free p.1 p.2 nch e n, ne, nf, d⟩
theorem Inv.un {t' : Nat}(I : Inv X pins σ H s)(u : Un X.fs [] H H' s.heap h')(hok : HOk X.prog X.w H' h') : Inv X pins σ H' { s with heap := h', toks := t' } := by
  obtain ⟨m, ⟨o, es, ep, ho, r⟩, _⟩ := id I.loc
  obtain ⟨sl, hL⟩ := u.any ho I.free (by simp)
  exact I.step (g' := s.gens) (d' := s.drawn) (ch := []) (fun _ z => nomatch z) (fun b o _ hb _ e n => u.keep b o e n hb (by simp)) (fun b o _ hb _ e n => u.slot b o e n hb (by simp)) (fun b o _ e n => u.free b o e n (by simp)) (fun b o _ e => u.there b o e (by simp)) u.tups u.frzs u.tbls (fun m' hm => by
    obtain ⟨o', es', ep', ho', r'⟩ := hm
    rw [ho] at ho';cases ho'
    exact ⟨_, es', ep', hL, r'⟩) hok I.bare
theorem Inv.call {g' : Array GenState}{t' : Nat}{d' : Drawn}{ch : List Addr}(I : Inv X pins σ H s)(u : Un (frs X.stack) ch H H' s.heap h')(hok : HOk X.prog X.w H' h')(hg : AllBare g')
    (hch : ∀ b∈ch, (b∈X.ex ∨ X.s₀.heap.objs.size≤b) ∧ b≠X.env.locals ∧ (∀ x c, X.env.cells.lookup x=some c → c≠b) ∧ ∀ p∈X.pn++pins, p.1≠b) :
    Inv X pins σ H' { s with heap := h', gens := g', drawn := d', toks := t' } := by
  obtain ⟨m, ⟨o, es, ep, ho, r⟩, _⟩ := id I.loc
  obtain ⟨sl, hL⟩ := u.any ho I.free fun z => (hch _ z).2.1 rfl
  exact I.step (ch := ch) hch (fun b o hL hb hc e n => u.keep b o e n (fun z => (xr.mp (I.stkSub b z)).elim hL hb) hc) (fun b o _ _ hc e n => u.any e n hc) (fun b o hc e n => u.free b o e n hc) (fun b o hc e => u.there b o e hc) u.tups u.frzs u.tbls (fun m' hm => by
    obtain ⟨o', es', ep', ho', r'⟩ := hm
    rw [ho] at ho';cases ho'
    exact ⟨_, es', ep', hL, r'⟩) hok hg
theorem Inv.turned {t' : Nat}{it : Addr}(I : Inv X pins σ H s)(k : ∀ b o, b≠it → s.heap.get? b=some o → h'.get? b=some o)(hn : H it=none)(hL : it≠X.env.locals)
    (h1 : it∈X.ex ∨ X.s₀.heap.objs.size≤it) (h2 : ∀ x c, X.env.cells.lookup x=some c → c≠it) (h3 : ∀ p∈X.pn++pins, p.1≠it) : Inv X pins σ H { s with heap := h', toks := t' } := by
  have nit : ∀ b u, H b=some u → b≠it := fun b u e z => by rw [z, hn] at e;cases e
  refine I.step (g' := s.gens) (d' := s.drawn) (ch := [it]) (fun b hb => ?_) (fun b o _ _ hc e _ => k b o (fun z => hc (by simp [z])) e) (fun b o _ _ hc e _ => ⟨o.slots, k b o (fun z => hc (by simp [z])) e⟩) (fun _ _ _ _ n => n)
    (fun b o hc e => ⟨o, k b o (fun z => hc (by simp [z])) e⟩) (fun _ _ e => e) (fun _ _ _ e => e) (fun b ps e => ⟨#[], by rw [e];simp⟩) (fun m hm => ?_) (fun b u e => ?_) I.bare
  · have e : b=it := by simpa using hb
    subst e
    exact ⟨h1, hL, h2, h3⟩
  · obtain ⟨o, es, ep, ho, r⟩ := hm
    exact ⟨o, es, ep, k _ o (Ne.symm hL) ho, r⟩
  · refine (I.hok b u e).stay (fun c v hc q => k c v ?_ q) (fun _ q => q) fun _ _ q => q
    rcases hc with z | z
    · rw [z];exact nit b u e
    · exact nit c _ z
theorem Inv.tok (I : Inv X pins σ H s)(t : Nat) : Inv X pins σ H { s with toks := t } := I.un (h' := s.heap) (t' := t) Un.refl I.hok
theorem Inv.kept {t' : Nat}(I : Inv X pins σ H s)(k : ∀ b u, s.heap.get? b=some u → h'.get? b=some u) : Inv X pins σ H { s with heap := h', toks := t' } := I.un (Un.kept k) (I.hok.kept k)
theorem Inv.laid {a : Addr}{o : HO}{t' : Nat}(I : Inv X pins σ H s)(k : ∀ b u, s.heap.get? b=some u → h'.get? b=some u)(hp : s.heap.objs.size≤a)(new : bg X.prog X.w (upd H a o) h' a o) :
    Inv X pins σ (upd H a o) { s with heap := h', toks := t' } := I.un (Un.laid k hp (I.hok.fresh hp)) (I.hok.laid k hp new)
theorem Inv.write {x e : Addr}{o : HO}{t' : Nat}(I : Inv X pins σ H s)(mu : Mut (H x))(he : e=x ∨ H e=some (.own x))(k : ∀ b u, b≠e → s.heap.get? b=some u → h'.get? b=some u)(heo : ∃ u, h'.get? e=some u)
    (new : bg X.prog X.w (upd H x o) h' x o) : Inv X pins σ (upd H x o) { s with heap := h', toks := t' } := I.un (Un.write mu he k heo) (I.hok.write mu he k heo new)
theorem Inv.pins_of {pins' : List (Addr × Obj)}(I : Inv X pins σ H s)(h : ∀ p∈pins', s.heap.get? p.1=some p.2 ∧ H p.1=none ∧ p.1≠X.env.locals ∧ p.1∉X.fs ∧ ∀ v, p.2.data ≠ .cell v) : Inv X pins' σ H s :=
  ⟨I.ok, I.os, I.bare, I.base, I.loc, I.cell, I.free, I.freeC, fun p hp => (xF.mp hp).elim (fun z => I.pin p (xY _ z)) (h p), I.hok, I.len⟩
theorem jb {N : List Str}(hN : N.Nodup){i j : Nat}{x : Str}(a : N[i]? = some x)(b : N[j]? = some x) : i=j := by
  obtain ⟨h1, e1⟩ := xh.mp a
  obtain ⟨h2, e2⟩ := xh.mp b
  exact (List.getElem_inj hN).mp (e1.trans e2.symm)
theorem kq {M : Model}{A : Around}{E : Value → Shared → Prop}{i : Nat}{x : Str}{v : V}{u : Value}{Q : Unit → Shared → Prop}(I : Inv X pins σ H s)(hN : X.N.Nodup)(hi : X.N[i]? = some x)(hx : Loc X.env.scope x)(r : bz v u)
    (h : ∀ s', Inv X pins (σ.set i (some v)) H s' → (∃ a, Heap.SameBut a s.heap s'.heap ∧ (a=X.env.locals ∨ X.env.cells.lookup x=some a)) → Q () s') (hf : X.fn x=true ∨ X.env.scope.names.lookup x=some .local := by first | exact .inl rfl | exact .inr rfl | assumption) : wpAny M A (storeName X.env x u) Q E s := by
  obtain ⟨m, hn, hl⟩ := id I.loc
  have hcls : (X.env.scope.kind == .class || (X.env.scope.kind == .module && X.env.locals != X.env.globals))=false := by rw [I.ok.kind];rfl
  have hiσ : i < σ.length := by rw [I.len];exact (xh.mp hi).1
  have cne := I.cne
  have tracked : ∀ {a : Addr} {h' : Heap}, (∃ o, s.heap.get? a=some o ∧ H a=none) → Heap.SameBut a s.heap h' → HOk X.prog X.w H h' := fun {a h'} ha hs b ob e => by
    obtain ⟨_, _, hfree⟩ := ha
    refine (I.hok b ob e).stay (fun c w' hc q => (hs.2 c ?_).trans q) (fun _ q => q) fun _ _ q => q
    rintro rfl
    rcases hc with rfl | hc
    · rw [hfree] at e;cases e
    · rw [hfree] at hc;cases hc
  rcases hx with hk | hk
  · refine wpAny_storeName_local hk hn (fun h' hn' hs => ?_) hcls
    obtain ⟨oL, _, _, hoL, _⟩ := id hn
    refine h _ ⟨I.ok, I.os, I.bare, ⟨fun b o e n hb hx => ?_, fun b o e n hb hx => ?_, I.base.free, fun b o e hx => ?_, I.base.tups, I.base.frzs, I.base.tbls⟩, ⟨_, hn', fun j y v' e1 e2 e3 => ?_⟩, fun y c e => ?_, I.free, I.freeC, fun p hp => ?_, tracked ⟨oL, hoL, I.free⟩ hs, by simpa using I.len⟩ ⟨_, hs, .inl rfl⟩
    · exact (hs.2 b (xN (xw (xm e) I.ok.above))).trans (I.base.keep b o e n hb hx)
    · obtain ⟨sl, e1⟩ := I.base.slot b o e n hb hx
      exact ⟨sl, (hs.2 b (xN (xw (xm e) I.ok.above))).trans e1⟩
    · obtain ⟨o', e1⟩ := I.base.there b o e hx
      exact ⟨o', (hs.2 b (xN (xw (xm e) I.ok.above))).trans e1⟩
    · by_cases hj : j=i
      · subst hj
        rw [hi] at e1;cases e1
        rw [yX hiσ] at e2
        cases e2
        exact ⟨u, r, .inl ⟨hk, by simp⟩⟩
      · rw [yH (Ne.symm hj)] at e2
        obtain ⟨u', r', q⟩ := hl j y v' e1 e2 e3
        refine ⟨u', r', ?_⟩
        rcases q with ⟨k, e⟩ | ⟨k, c, e, z⟩
        · refine .inl ⟨k, ?_⟩
          have : y≠x := fun e => hj (jb hN e1 (e ▸ hi))
          simp [this, e]
        · exact .inr ⟨k, c, e, z.sameBut hs (cne y c e)⟩
    · obtain ⟨w', z⟩ := I.cell y c e
      exact ⟨w', z.sameBut hs (cne y c e)⟩
    · obtain ⟨e, n, ne, nf, d⟩ := I.pin p hp
      exact ⟨(hs.2 p.1 ne).trans e, n, ne, nf, d⟩
  · have hfn : X.fn x=true := by
      rcases hf with z | z
      · exact z
      · rw [z] at hk;cases hk
    obtain ⟨c, hc⟩ := I.ok.has x (.inl hk)
    obtain ⟨w', z⟩ := I.cell x c hc
    refine wpAny_storeName_cell I.ok.kind hk hc z (fun h' hc' hs => ?_)
    obtain ⟨oc, hoc, hocd⟩ := id z
    refine h { s with heap := h' } ⟨I.ok, I.os, I.bare, ⟨fun b o e n hb hx => ?_, fun b o e n hb hx => ?_, I.base.free, fun b o e hx => ?_, I.base.tups, I.base.frzs, I.base.tbls⟩, ⟨m, hn.sameBut hs (Ne.symm (cne x c hc)), fun j y v' e1 e2 e3 => ?_⟩, fun y c' e => ?_, I.free, I.freeC, fun p hp => ?_, tracked ⟨oc, hoc, I.freeC x c hc⟩ hs, by simpa using I.len⟩ ⟨c, hs, .inr hc⟩
    · exact (hs.2 b (xN (xw (xm e) (I.ok.cab x c hfn hc)))).trans (I.base.keep b o e n hb hx)
    · obtain ⟨sl, e1⟩ := I.base.slot b o e n hb hx
      exact ⟨sl, (hs.2 b (xN (xw (xm e) (I.ok.cab x c hfn hc)))).trans e1⟩
    · obtain ⟨o', e1⟩ := I.base.there b o e hx
      exact ⟨o', (hs.2 b (xN (xw (xm e) (I.ok.cab x c hfn hc)))).trans e1⟩
    · by_cases hj : j=i
      · subst hj
        rw [hi] at e1;cases e1
        rw [yX hiσ] at e2
        cases e2
        exact ⟨u, r, .inr ⟨.inl hk, c, hc, hc'⟩⟩
      · rw [yH (Ne.symm hj)] at e2
        obtain ⟨u', r', q⟩ := hl j y v' e1 e2 e3
        refine ⟨u', r', ?_⟩
        rcases q with q | ⟨k, c', e, z'⟩
        · exact .inl q
        · refine .inr ⟨k, c', e, z'.sameBut hs ?_⟩
          rintro rfl
          exact hj (jb hN e1 (I.ok.inj _ _ _ e hc ▸ hi))
    · by_cases hcc : c'=c
      · subst hcc;exact ⟨_, hc'⟩
      · obtain ⟨w2, z2⟩ := I.cell y c' e
        exact ⟨w2, z2.sameBut hs hcc⟩
    · obtain ⟨e, n, ne, nf, d⟩ := I.pin p hp
      refine ⟨(hs.2 p.1 ?_).trans e, n, ne, nf, d⟩
      intro q
      rw [q, hoc] at e
      have q' : oc=p.2 := xb e
      exact d w' (by rw [← q'];exact hocd)
theorem jc {M : Model}{A : Around}{E : Value → Shared → Prop}{i : Nat}{x : Str}{v : V}{u : Value}{Q : Unit → Shared → Prop}(I : Inv X pins σ H s)(hN : X.N.Nodup)(hi : X.N[i]? = some x)(hx : Loc X.env.scope x)(r : bz v u)
    (h : ∀ s', Inv X pins (σ.set i (some v)) H s' → Q () s') (hf : X.fn x=true ∨ X.env.scope.names.lookup x=some .local := by first | exact .inl rfl | exact .inr rfl | assumption) : wpAny M A (storeName X.env x u) Q E s :=
  kq I hN hi hx r (fun s' I' _ => h s' I') hf
theorem Inv.call' {s' : Shared}{ch : List Addr}(I : Inv X pins σ H s)(ho : s'.os=s.os)(u : Un (frs X.stack) ch H H' s.heap s'.heap)(hok : HOk X.prog X.w H' s'.heap)(hg : AllBare s'.gens)
    (hch : ∀ b∈ch, (b∈X.ex ∨ X.s₀.heap.objs.size≤b) ∧ b≠X.env.locals ∧ (∀ x c, X.env.cells.lookup x=some c → c≠b) ∧ ∀ p∈X.pn++pins, p.1≠b) : Inv X pins σ H' s' := by
  obtain ⟨h', g', d', t', o'⟩ := s'
  have e : o'=s.os := ho
  subst e
  exact I.call (g' := g') (t' := t') (d' := d') u hok hg hch
end
abbrev XK := Value → Option Addr → Hp → Prop
abbrev St := List (Option V)
abbrev VK := V → Hp → Prop
abbrev TE := St → Hp → VK → Prop
abbrev TT := St → Hp → (Bool → Hp → Prop) → Prop
abbrev TA := St → Hp → (List V → Hp → Prop) → Prop
structure fm where
  nx : St → Hp → Prop
  rt : VK
  bk : St → Hp → Prop := fun _ _ => False
  ct : St → Hp → Prop := fun _ _ => False
abbrev TS := fm → St → Hp → Prop
def EP (X : Cx)(pins : List (Addr × Obj))(σ : St)(Q : VK)(u : Value)(s' : Shared) : Prop := ∃ v H', Inv X pins σ H' s' ∧ bz v u ∧ Q v H'
def TP (X : Cx)(pins : List (Addr × Obj))(σ : St)(Q : Bool → Hp → Prop)(b : Bool)(s' : Shared) : Prop := ∃ H', Inv X pins σ H' s' ∧ Q b H'
def AP (X : Cx)(pins : List (Addr × Obj))(σ : St)(Q : List V → Hp → Prop)(us : List Value)(s' : Shared) : Prop := ∃ vs H', Inv X pins σ H' s' ∧ aZ vs us ∧ Q vs H'
def SP (X : Cx)(pins : List (Addr × Obj))(D : fm)(f : Flow)(s' : Shared) : Prop :=
  match f with
  | .next => ∃ σ' H', Inv X pins σ' H' s' ∧ D.nx σ' H'
  | .brk => ∃ σ' H', Inv X pins σ' H' s' ∧ D.bk σ' H'
  | .cont => ∃ σ' H', Inv X pins σ' H' s' ∧ D.ct σ' H'
  | .ret u => ∃ v σ' H', Inv X pins σ' H' s' ∧ bz v u ∧ D.rt v H'
def PE (X : Cx)(e : Expr)(t : TE) : Prop :=
  ∀ (pins : List (Addr × Obj)) (s : Shared) (σ : St) (H : Hp) (Q : VK), Inv X pins σ H s → t σ H Q → wpAny (model X.prog X.w) X.A (eval e X.env) (EP X pins σ Q) X.xe s
def PT (X : Cx)(e : Expr)(t : TT) : Prop :=
  ∀ (pins : List (Addr × Obj)) (s : Shared) (σ : St) (H : Hp) (Q : Bool → Hp → Prop), Inv X pins σ H s → t σ H Q → wpAny (model X.prog X.w) X.A (isTrue e X.env (eval e X.env)) (TP X pins σ Q) X.xe s
def PW (X : Cx)(e : Expr)(t : TT) : Prop :=
  ∀ (whole : Sem Value) (pins : List (Addr × Obj)) (s : Shared) (σ : St) (H : Hp) (Q : Bool → Hp → Prop), Inv X pins σ H s → t σ H Q → wpAny (model X.prog X.w) X.A (isTrue e X.env whole) (TP X pins σ Q) X.xe s
theorem PW.pt {X : Cx}{e : Expr}{t : TT}(h : PW X e t) : PT X e t := h _
def PA (X : Cx)(es : List Expr)(t : TA) : Prop :=
  ∀ (pos : Pos) (pins : List (Addr × Obj)) (s : Shared) (σ : St) (H : Hp) (Q : List V → Hp → Prop), Inv X pins σ H s → t σ H Q → wpAny (model X.prog X.w) X.A (spliced (backTo pos (starEach es X.env))) (AP X pins σ Q) X.xe s
def PS (X : Cx)(st : Stmt)(t : TS) : Prop :=
  ∀ (pins : List (Addr × Obj)) (s : Shared) (σ : St) (H : Hp) (D : fm), Inv X pins σ H s → t D σ H → wpAny (model X.prog X.w) X.A (exec st X.env) (SP X pins D) X.xe s
def PSs (X : Cx)(st : List Stmt)(t : TS) : Prop :=
  ∀ (pins : List (Addr × Obj)) (s : Shared) (σ : St) (H : Hp) (D : fm), Inv X pins σ H s → t D σ H → wpAny (model X.prog X.w) X.A (execs st X.env) (SP X pins D) X.xe s
theorem thn {α : Type}{t : Sem α}{Q Q' : α → Shared → Prop}{M : Model}{A : Around}{E : Value → Shared → Prop}{s : Shared}(h : wpAny M A t Q E s)(hQ : ∀ a s, Q a s → Q' a s) : wpAny M A t Q' E s := yr h hQ fun _ _ x => x
section
variable {X : Cx}
inductive uA (i : Nat)(σ : St)(H : Hp)(Q : VK) : Prop
  | mk : ∀ v, (σ[i]? = some (some v)) → (Q v H) → uA i σ H Q
def tC (v : V) : TE := fun _ H Q => Q v H
theorem r9 {i : Nat}{x : Str}{pos : Pos}(hN : X.N[i]? = some x)(hv : Vis X.env.scope x)(hd : (x == ("__debug__" : Str))=false := by decide)(hcd : (x == ("__classdict__" : Str))=false := by decide) : PE X (.Name x pos) (uA i) := by
  intro pins s σ H Q I h
  obtain ⟨v, e, h⟩ := h
  obtain ⟨m, hn, hl⟩ := I.loc
  obtain ⟨u, r, l⟩ := hl i x v hN e hv
  have fin : EP X pins σ Q u s := ⟨v, H, I, r, h⟩
  rcases l with ⟨hk, hm⟩ | ⟨hk, c, hc, hcell⟩
  · exact wpAny_Name (wpAny_loadName_local I.ok.kind hk hn hm fin) hd
  · rcases hk with hk | hk
    · exact wpAny_Name (wpAny_loadName_cell I.ok.kind hk hc hcell fin) hd
    · exact wpAny_Name (wpAny_loadName_free I.ok.kind hk hc hcell fin hcd) hd
theorem ao {i j pos} : PE X (.Constant (.int i) j pos) (tC (.int i)) := fun _ _ _ H _ I h => wpAny_Constant_int ⟨.int i, H, I.tok _, ⟨_, rfl⟩, h⟩
theorem c4 {b j pos} : PE X (.Constant (.bool b) j pos) (tC (.bl b)) := fun _ _ _ H _ I h => Constant_bool ⟨.bl b, H, I, rfl, h⟩
theorem o9 {j pos} : PE X (.Constant .none j pos) (tC .non) := fun _ _ _ H _ I h => Constant_none ⟨.non, H, I, rfl, h⟩
theorem bP {x j pos} : PE X (.Constant (.str x) j pos) (tC (.str x)) := fun _ _ _ H _ I h => Calls.Constant_str ⟨.str x, H, I.tok _, ⟨_, rfl⟩, h⟩
def Gl (X : Cx)(x : Str) : Prop := X.env.kindOf x=some .globalImplicit
theorem iC {E : Value → Shared → Prop}{pins : List (Addr × Obj)}{s : Shared}{σ : St}{H : Hp}{x : Str}{u : Value}{pos : Pos}{Q : Value → Shared → Prop}(I : Inv X pins σ H s)(hg : Gl X x)(hm : X.mg x=some u)(h : Q u s)
    (hd : (x == ("__debug__" : Str))=false := by decide) : wpAny (model X.prog X.w) X.A (eval (.Name x pos) X.env) Q E s :=
  As I.ok.kind hg (Calls.loadGlobal_global (by rw [I.ok.glob];exact I.mod.glob.keeps I.bk) hm h) hd
theorem dS {E : Value → Shared → Prop}{pins : List (Addr × Obj)}{s : Shared}{σ : St}{H : Hp}{x : Str}{u : Value}{pos : Pos}{Q : Value → Shared → Prop}(I : Inv X pins σ H s)(hg : Gl X x)(hm : X.mg x=none)(hv : bootBuiltins x=some u)(h : Q u s)
    (hn : x ≠ "__name__" := by decide) (hd : (x == ("__debug__" : Str))=false := by decide) : wpAny (model X.prog X.w) X.A (eval (.Name x pos) X.env) Q E s := by
  obtain ⟨mb, h1, h2⟩ := I.mod.blt
  exact As I.ok.kind hg (Calls.loadGlobal_builtin (by rw [I.ok.glob];exact I.mod.glob.keeps I.bk) hm (by rw [I.ok.blt];exact h1.keeps I.bk) ((h2 x hn).trans hv) h) hd
theorem kr {x : Str}{v : V}{u : Value}{pos : Pos}(hg : Gl X x)(hm : X.mg x=some u)(r : bz v u)(hd : (x == ("__debug__" : Str))=false := by decide) : PE X (.Name x pos) (tC v) :=
  fun _ _ _ H _ I h => iC I hg hm ⟨v, H, I, r, h⟩ hd
theorem bY {x : Str}{v : V}{u : Value}{pos : Pos}(hg : Gl X x)(hm : X.mg x=none)(hv : bootBuiltins x=some u)(r : bz v u)(hn : x ≠ "__name__" := by decide)(hd : (x == ("__debug__" : Str))=false := by decide) : PE X (.Name x pos) (tC v) :=
  fun _ _ _ H _ I h => dS I hg hm hv ⟨v, H, I, r, h⟩ hn hd
variable {a b : Expr} {ta tb : TE} {pos : Pos}
inductive IsB (x : V)(H : Hp)(Q : Bool → Hp → Prop) : Prop
  | mk : ∀ c, (x = .bl c) → (Q c H) → IsB x H Q
variable {tA tB' : TT} {rest : List Expr}
def qa (u : TT)(σ : St)(Q : (Bool → Hp → Prop)) : Bool → Hp → Prop := fun c H1 => if c=true then u σ H1 Q else Q false H1
def we (t u : TT) : TT := fun σ H Q => t σ H (qa u σ Q)
def jd (u : TT)(σ : St)(Q : (Bool → Hp → Prop)) : Bool → Hp → Prop := fun c H1 => if c=true then Q true H1 else u σ H1 Q
def tOr (t u : TT) : TT := fun σ H Q => t σ H (jd u σ Q)
def iD (Q : (Bool → Hp → Prop)) : Bool → Hp → Prop := fun c H1 => Q (!c) H1
def wg (t : TT) : TT := fun σ H Q => t σ H (iD Q)
theorem ku (ha : PT X a tA) : PW X (.BoolOp .And [a] pos) tA := by
  intro wh pins s σ H Q I h
  refine isTrue_and (thn (ha pins s σ H Q I h) fun c s1 e => ?_)
  cases c with
  | true => exact isTrue_and_nil e
  | false => exact e
theorem c8 (ha : PT X a tA) : PW X (.BoolOp .Or [a] pos) tA := by
  intro wh pins s σ H Q I h
  refine isTrue_or (thn (ha pins s σ H Q I h) fun c s1 e => ?_)
  cases c with
  | false => exact isTrue_or_nil e
  | true => exact e
theorem o_ (ha : PT X a tA)(hb : PW X (.BoolOp .And (b::rest) pos) tB') : PW X (.BoolOp .And (a::b::rest) pos) (we tA tB') := by
  intro wh pins s σ H Q I h
  refine isTrue_and (thn (ha pins s σ H _ I h) fun c s1 zq7 => ?_)
  obtain ⟨H1, I1, q1⟩ := zq7
  cases c with
  | true => exact hb wh pins s1 σ H1 Q I1 q1
  | false => exact ⟨H1, I1, q1⟩
theorem dE (ha : PT X a tA)(hb : PW X (.BoolOp .Or (b::rest) pos) tB') : PW X (.BoolOp .Or (a::b::rest) pos) (tOr tA tB') := by
  intro wh pins s σ H Q I h
  refine isTrue_or (thn (ha pins s σ H _ I h) fun c s1 zq8 => ?_)
  obtain ⟨H1, I1, q1⟩ := zq8
  cases c with
  | true => exact ⟨H1, I1, q1⟩
  | false => exact hb wh pins s1 σ H1 Q I1 q1
theorem cU (ha : PT X a tA) : PT X (.UnaryOp .Not a pos) (wg tA) := by
  intro pins s σ H Q I h
  exact isTrue_not (ha pins s σ H (fun c H1 => Q (!c) H1) I h)
def ng (tb : TE)(σ : St)(Q : VK) : Bool → Hp → Prop := fun c H1 => if c=true then tb σ H1 Q else Q (.bl false) H1
def nh (tb : TE)(σ : St)(Q : VK) : V → Hp → Prop := fun x H1 => IsB x H1 (ng tb σ Q)
def uB (ta tb : TE) : TE := fun σ H Q => ta σ H (nh tb σ Q)
def ni (Q : VK) : Bool → Hp → Prop := fun c H1 => Q (.bl (!c)) H1
def nj (Q : VK) : V → Hp → Prop := fun x H1 => IsB x H1 (ni Q)
def uC (ta : TE) : TE := fun σ H Q => ta σ H (nj Q)
theorem dU {op}{t : TE}(h : PE X a t) : PE X (.BoolOp op [a] pos) t := fun pins s σ H Q I hw => BoolOp_one (h pins s σ H Q I hw)
theorem dW (ha : PE X a ta)(hb : PE X (.BoolOp .And (b::rest) pos) tb) : PE X (.BoolOp .And (a::b::rest) pos) (uB ta tb) := by
  intro pins s σ H Q I h
  refine BoolOp_and (thn (ha pins s σ H _ I h) fun v s1 zq9 => ?_)
  obtain ⟨x, H1, I1, r1, q1⟩ := zq9
  obtain ⟨c, rfl, q1⟩ := q1
  cases r1
  refine yJ ?_
  cases c with
  | true => exact hb pins s1 σ H1 Q I1 q1
  | false => exact ⟨.bl false, H1, I1, rfl, q1⟩
theorem pb (ha : PE X a ta) : PE X (.UnaryOp .Not a pos) (uC ta) := by
  intro pins s σ H Q I h
  refine UnaryOp_ (thn (ha pins s σ H _ I h) fun v s1 zq11 => ?_)
  obtain ⟨x, H1, I1, r1, q1⟩ := zq11
  obtain ⟨c, rfl, q1⟩ := q1
  cases r1
  exact not_of (yJ ⟨.bl (!c), H1, I1, rfl, q1⟩)
def r_ (ta : TE)(tb : TE)(σ : St)(Q : VK) : Bool → Hp → Prop := fun c H1 => if c=true then ta σ H1 Q else tb σ H1 Q
def tIf (t : TT)(ta tb : TE) : TE := fun σ H Q => t σ H (r_ ta tb σ Q)
theorem fJ {c : Expr}(hc : PT X c tA)(ha : PE X a ta)(hb : PE X b tb) : PE X (.IfExp c a b pos) (tIf tA ta tb) := by
  intro pins s σ H Q I h
  refine wpAny_IfExp (thn (hc pins s σ H _ I h) fun d s1 zq12 => ?_)
  obtain ⟨H1, I1, q1⟩ := zq12
  cases d with
  | true => exact ha pins s1 σ H1 Q I1 q1
  | false => exact hb pins s1 σ H1 Q I1 q1
end
def SqL (K : PySem.W.Frag)(H : Hp)(a : Addr)(xs : List V) : Prop :=
  Rd H a (.lst xs) ∨
    ∃ (o : Obj) (its : Array Value) (n : Nat), K.lookup a=some o ∧ o.cls = .type "list" ∧ o.dict=none ∧ o.data = .seq its n ∧ its.size≤sizeLine ∧ aZ xs its.toList
def SqT (K : PySem.W.Frag)(H : Hp)(a : Addr)(xs : List V) : Prop :=
  Rd H a (.tup xs) ∨
    ∃ (o : Obj) (its : Array Value) (n : Nat), K.lookup a=some o ∧ o.cls = .type "tuple" ∧ o.data = .seq its n ∧ its.size≤sizeLine ∧ aZ xs its.toList
def wj : Value → Option V
  | .none => some .non
  | .bool b => some (.bl b)
  | .int i _ => some (.int i)
  | .str x _ => some (.str x)
  | .bytes b _ => some (.byt b)
  | .float b _ => some (.flt b)
  | .ref a => some (.ref a)
  | .type n => some (.ty n)
  | _ => none
theorem bz.abs {x : V}{u : Value}(r : bz x u) : wj u=some x := by
  cases x with
  | non => cases r;rfl
  | bl _ => cases r;rfl
  | int _ => obtain ⟨t, rfl⟩ := r;rfl
  | str _ => obtain ⟨t, rfl⟩ := r;rfl
  | byt _ => obtain ⟨t, rfl⟩ := r;rfl
  | flt _ => obtain ⟨t, rfl⟩ := r;rfl
  | ref _ => cases r;rfl
  | ty _ => cases r;rfl
theorem bz.inj {x y : V}{u : Value}(r : bz x u)(q : bz y u) : x=y := xb (r.abs.symm.trans q.abs)
theorem aZ.inj : ∀ {xs ys : List V} {us : List Value}, aZ xs us → aZ ys us → xs=ys
  | _, _, _, .nil, .nil => rfl
  | _, _, _, .cons r t, .cons r' t' => by rw [r.inj r', aZ.inj t t']
section
variable {X : Cx} {pins : List (Addr × Obj)} {σ : St} {H : Hp} {s : Shared} {a : Addr} {xs ys : List V}
theorem SqL.of {K : PySem.W.Frag}(h : H a=some (.lst xs)) : SqL K H a xs := .inl (.inl h)
theorem SqT.of {K : PySem.W.Frag}(h : H a=some (.tup xs)) : SqT K H a xs := .inl (.inl h)
theorem Inv.list (I : Inv X pins σ H s)(h : SqL X.K H a xs) : ∃ its : List Value, aZ xs its ∧ PlainL s.heap a its.toArray ∧ xs.length≤sizeLine := by
  rcases h with h | ⟨o, its, n, hk, hc, hd, hs, hz, r⟩
  · obtain ⟨z, its, n, r, e⟩ := h.ok I.hok
    exact ⟨its, r, ⟨_, n, e, rfl, rfl, rfl⟩, z⟩
  · refine ⟨its.toList, r, ⟨o, n, I.kIn a o hk, hc, hd, by simpa using hs⟩, ?_⟩
    have e := r.length
    simp only [yh] at e
    omega
theorem Inv.tuple (I : Inv X pins σ H s)(h : SqT X.K H a xs) : ∃ its : List Value, aZ xs its ∧ IsTup s.heap a its.toArray ∧ xs.length≤sizeLine := by
  rcases h with h | ⟨o, its, n, hk, hc, hs, hz, r⟩
  · obtain ⟨z, its, r, p, _⟩ := h.ok I.hok
    exact ⟨its, r, p, z⟩
  · refine ⟨its.toList, r, ⟨o, I.kIn a o hk, hc, n, by simpa using hs⟩, ?_⟩
    have e := r.length
    simp only [yh] at e
    omega
theorem Inv.list_inj (I : Inv X pins σ H s)(h : SqL X.K H a xs)(h' : SqL X.K H a ys) : xs=ys := by
  obtain ⟨its, r, ⟨o, n, e, _, _, d⟩, _⟩ := I.list h
  obtain ⟨its', r', ⟨o', n', e', _, _, d'⟩, _⟩ := I.list h'
  rw [e] at e';cases e'
  rw [d] at d'
  injection d' with d1 _
  have : its=its' := by simpa using xA Array.toList d1
  subst this
  exact r.inj r'
theorem Inv.tuple_inj (I : Inv X pins σ H s)(h : SqT X.K H a xs)(h' : SqT X.K H a ys) : xs=ys := by
  obtain ⟨its, r, ⟨o, e, _, n, d⟩, _⟩ := I.tuple h
  obtain ⟨its', r', ⟨o', e', _, n', d'⟩, _⟩ := I.tuple h'
  rw [e] at e';cases e'
  rw [d] at d'
  injection d' with d1 _
  have : its=its' := by simpa using xA Array.toList d1
  subst this
  exact r.inj r'
end
abbrev Cx.wish (X : Cx)(E : Value → Shared → Prop) : Cx := { X with xe := E }
abbrev Cx.nox (X : Cx) : Cx := X.wish fun _ _ => False
theorem Cx.Ok.wish {X : Cx}(ok : X.Ok)(E : Value → Shared → Prop) : (X.wish E).Ok :=
  ⟨ok.mod, ok.kind, ok.glob, ok.blt, ok.above, ok.inj, ok.has, ok.cab, ok.hd, ok.frames, ok.stk, ok.exf, ok.bs, ok.bsz, ok.noex, ok.exfs, ok.funs, ok.frf⟩
theorem Cx.Ok.unwish {X : Cx}{E : Value → Shared → Prop}(ok : (X.wish E).Ok) : X.Ok :=
  ⟨ok.mod, ok.kind, ok.glob, ok.blt, ok.above, ok.inj, ok.has, ok.cab, ok.hd, ok.frames, ok.stk, ok.exf, ok.bs, ok.bsz, ok.noex, ok.exfs, ok.funs, ok.frf⟩
section
variable {X : Cx} {pins : List (Addr × Obj)} {σ : St} {H : Hp} {s : Shared} {E : Value → Shared → Prop}
theorem Inv.wish (I : Inv X pins σ H s)(E : Value → Shared → Prop) : Inv (X.wish E) pins σ H s := ⟨I.ok.wish E, I.os, I.bare, I.base, I.loc, I.cell, I.free, I.freeC, I.pin, I.hok, I.len⟩
theorem Inv.unwish (I : Inv (X.wish E) pins σ H s) : Inv X pins σ H s := ⟨I.ok.unwish, I.os, I.bare, I.base, I.loc, I.cell, I.free, I.freeC, I.pin, I.hok, I.len⟩
theorem SP.unwish {D : fm}{f : Flow}{s' : Shared}(h : SP (X.wish E) pins D f s') : SP X pins D f s' := by
  cases f with
  | next => obtain ⟨σ', H', I, q⟩ := h;exact ⟨σ', H', I.unwish, q⟩
  | brk => obtain ⟨σ', H', I, q⟩ := h;exact ⟨σ', H', I.unwish, q⟩
  | cont => obtain ⟨σ', H', I, q⟩ := h;exact ⟨σ', H', I.unwish, q⟩
  | ret u => obtain ⟨v, σ', H', I, r, q⟩ := h;exact ⟨v, σ', H', I.unwish, r, q⟩
theorem PSs.nox {st : List Stmt}{t : TS}(h : PSs X.nox st t) : PSs X st t := fun pins s σ H D I hw =>
  yr (h pins s σ H D (I.wish _) hw) (fun _ _ q => q.unwish) fun _ _ z => False.elim z
end
section
variable {X : Cx} {st : Stmt} {rest : List Stmt} {t u : TS} {e : Expr} {te : TE} {pos : Pos}
def uD : TS := fun D σ H => D.nx σ H
def vK (t u : TS) : TS := fun D σ H => t { D with nx := u D } σ H
theorem aR : PSs X [] uD := fun _ _ σ H _ I h => Ak ⟨σ, H, I, h⟩
theorem ag (h1 : PS X st t)(h2 : PSs X rest u) : PSs X (st::rest) (vK t u) := by
  intro pins s σ H D I h
  refine wpAny_execs_cons (thn (h1 pins s σ H { D with nx := u D } I h) fun f s1 q => ?_)
  cases f with
  | next =>
    obtain ⟨σ', H', I', q⟩ := q
    exact h2 pins s1 σ' H' D I' q
  | ret v => exact q
  | brk => exact q
  | cont => exact q
theorem aq (h1 : PS X st t) : PSs X [st] t := by
  intro pins s σ H D I h
  refine wpAny_execs_cons (thn (h1 pins s σ H D I h) fun f s1 q => ?_)
  cases f with
  | next => exact Ak q
  | ret v => exact q
  | brk => exact q
  | cont => exact q
theorem Inv.quiet {pins : List (Addr × Obj)}{σ : St}{H : Hp}{s : Shared}(I : Inv X pins σ H s) : interactive X.env=false := by simp [interactive, I.ok.kind]
def nq (D : fm)(σ : St) : V → Hp → Prop := fun _ H1 => D.nx σ H1
def uE (te : TE) : TS := fun D σ H => te σ H (nq D σ)
theorem bQ (he : PE X e te)(hs : swapsWith e none pos.line X.env=pure false := by rfl) : PS X (.Expr e pos) (uE te) := by
  intro pins s σ H D I h
  exact wpAny_Expr_any (thn (he pins s σ H _ I h) fun v s1 zq15 => (by obtain ⟨x, H1, I1, r1, q1⟩ := zq15;exact ⟨σ, H1, I1, q1⟩)) I.quiet hs
def wk (te : TE) : TS := fun D σ H => te σ H D.rt
theorem aE (he : PE X e te) : PS X (.Return (some e) pos) (wk te) := by
  intro pins s σ H D I h
  exact wpAny_Return_some (thn (he pins s σ H _ I h) fun v s1 zq16 => (by obtain ⟨x, H1, I1, r1, q1⟩ := zq16;exact ⟨x, σ, H1, I1, r1, q1⟩))
def iE (t : TS)(u : TS)(D : fm)(σ : St) : Bool → Hp → Prop := fun b H1 => if b=true then t D σ H1 else u D σ H1
def wm (c : TT)(t u : TS) : TS := fun D σ H => c σ H (iE t u D σ)
theorem bN {c : Expr}{a b : List Stmt}{tc : TT}(hc : PT X c tc)(ha : PSs X a t)(hb : PSs X b u) : PS X (.If c a b pos) (wm tc t u) := by
  intro pins s σ H D I h
  refine wpAny_If (thn (hc pins s σ H _ I h) fun d s1 zq17 => ?_)
  obtain ⟨H1, I1, q1⟩ := zq17
  cases d with
  | true => exact ha pins s1 σ H1 D I1 q1
  | false => exact hb pins s1 σ H1 D I1 q1
end
abbrev TG := V → St → Hp → (St → Hp → Prop) → Prop
abbrev TGs := List V → St → Hp → (St → Hp → Prop) → Prop
def PG (X : Cx)(target : Expr)(t : TG) : Prop :=
  ∀ (pins : List (Addr × Obj)) (s : Shared) (σ : St) (H : Hp) (v : V) (u : Value) (Q : St → Hp → Prop), Inv X pins σ H s → bz v u → t v σ H Q →
    wpAny (model X.prog X.w) X.A (assign target X.env u) (fun _ s' => ∃ σ' H', Inv X pins σ' H' s' ∧ Q σ' H') X.xe s
def PGs (X : Cx)(ts : List Expr)(t : TGs) : Prop :=
  ∀ (pins : List (Addr × Obj)) (s : Shared) (σ : St) (H : Hp) (vs : List V) (us : List Value) (Q : St → Hp → Prop), Inv X pins σ H s → aZ vs us → t vs σ H Q →
    wpAny (model X.prog X.w) X.A (assignInOrder ((assignEach ts X.env).map (·.2)) us) (fun _ s' => ∃ σ' H', Inv X pins σ' H' s' ∧ Q σ' H') X.xe s
abbrev uF := V → V → V → Hp → (Hp → Prop) → Prop
def vL (X : Cx)(t : uF) : Prop :=
  ∀ (pins : List (Addr × Obj)) (s : Shared) (σ : St) (H : Hp) (o i v : V) (ov iv u : Value) (Q : Hp → Prop), Inv X pins σ H s → bz o ov → bz i iv → bz v u → t o i v H Q →
    wpAny (model X.prog X.w) X.A (setItem ov iv u) (fun _ s' => ∃ H', Inv X pins σ H' s' ∧ Q H') X.xe s
section
variable {X : Cx} {pos : Pos}
def iF (i : Nat) : TG := fun v σ H Q => Q (σ.set i (some v)) H
theorem aA {i : Nat}{x : Str}(hN : X.N.Nodup)(hi : X.N[i]? = some x)(hx : Loc X.env.scope x)(hf : X.fn x=true ∨ X.env.scope.names.lookup x=some .local := by first | exact .inl rfl | exact .inr rfl | assumption) : PG X (.Name x pos) (iF i) := by
  intro pins s σ H v u Q I r h
  exact wpAny_assign_Name (jc I hN hi hx r (fun s' I' => ⟨_, H, I', h⟩) hf)
def wo : TGs := fun vs σ H Q => vs=[] ∧ Q σ H
def uG (t : TG)(u : TGs) : TGs := fun vs σ H Q => ∃ v r, vs=v::r ∧ t v σ H fun σ' H' => u r σ' H' Q
theorem cI : PGs X [] wo := by
  intro pins s σ H vs us Q I r h
  obtain ⟨e, h⟩ := h
  subst e
  cases r
  exact assignInOrder_nil ⟨σ, H, I, h⟩
theorem aW {e : Expr}{es : List Expr}{t : TG}{u : TGs}(h1 : PG X e t)(h2 : PGs X es u)
    (hs : (assignEach (e::es) X.env).map (·.2)=assign e X.env::(assignEach es X.env).map (·.2) := by rfl) : PGs X (e::es) (uG t u) := by
  intro pins s σ H vs us Q I r h
  obtain ⟨v, vr, e1, h⟩ := h
  subst e1
  cases r with
  | cons r rr =>
    rw [hs]
    refine assignInOrder_cons (thn (h1 pins s σ H _ _ _ I r h) fun _ s1 zq18 => ?_)
    obtain ⟨σ1, H1, I1, q1⟩ := zq18
    exact h2 pins s1 σ1 H1 _ _ Q I1 rr q1
def vM (K : PySem.W.Frag)(n : Nat)(t : TGs) : TG := fun v σ H Q => ∃ a xs, v = .ref a ∧ SqT K H a xs ∧ xs.length=n ∧ t xs σ H Q
theorem dX {es : List Expr}{k : Nat}{t : TGs}{n : Nat}(hc : X.calm=true)(h : PGs X es t)
    (hn : (assignEach es X.env).length=n := by rfl) (hst : (assignEach es X.env).findIdx? (·.1)=none := by rfl) : PG X (.Tuple es k pos) (vM X.K n t) := by
  intro pins s σ H v u Q I r hw
  obtain ⟨a, xs, e1, hq, hl, hw⟩ := hw
  subst e1
  cases r
  obtain ⟨its, rv, ht, hz⟩ := I.tuple hq
  refine assign_Tuple_tuple (I.ok.hd hc) ht (by simp [hn, ← hl, rv.length]) hst fun h' hx => ?_
  have I1 : Inv X pins σ H { s with heap := h' } := I.kept (t' := s.toks) fun b o e => hx b o (xN (xm e)) e
  exact h pins _ σ H xs _ Q I1 (by simpa using rv) hw
def wq (to ti : TE)(t : uF) : TG := fun v σ H Q => to σ H fun o H1 => ti σ H1 fun i H2 => t o i v H2 fun H3 => Q σ H3
theorem cV {o i : Expr}{to ti : TE}{t : uF}(ho : PE X o to)(hi : PE X i ti)(hs : vL X t)
    (ha : ∀ v, assign (.Subscript o i pos) X.env v=(do
      let ov ← holding [v] (eval o X.env)
      let iv ← holding [v, ov] (eval i X.env)
      standAt pos
      holding [v, ov, iv] (setItem ov iv v)
      release [v, ov, iv] []) := by intro _;rfl) : PG X (.Subscript o i pos) (wq to ti t) := by
  intro pins s σ H v u Q I r h
  rw [ha]
  refine wX (yQ (thn (ho pins s σ H _ I h) fun ov s1 zq19 => ?_))
  obtain ⟨x, H1, I1, r1, q1⟩ := zq19
  refine wX (yQ (thn (hi pins s1 σ H1 _ I1 q1) fun iv s2 zq20 => ?_))
  obtain ⟨y, H2, I2, r2, q2⟩ := zq20
  refine wX (wpAny_standAt (wX (yQ (thn (hs pins s2 σ H2 x y v ov iv u _ I2 r1 r2 r q2) fun _ s3 zq21 => ?_))))
  obtain ⟨H3, I3, q3⟩ := zq21
  exact wpAny_release ⟨σ, H3, I3, q3⟩
def eF (g : TG)(D : fm)(σ : St) : V → Hp → Prop := fun x H1 => g x σ H1 D.nx
def uH (te : TE)(g : TG) : TS := fun D σ H => te σ H (eF g D σ)
theorem cD {tg e : Expr}{te : TE}{g : TG}(he : PE X e te)(hg : PG X tg g)(hs : swapsWithSole [tg] e pos.line X.env=pure false := by rfl)(hw : swappedStores [tg] e X.env=pure none := by rfl)
    (h1 : (assignEach [tg] X.env).map (·.2)=[assign tg X.env] := by rfl) : PS X (.Assign [tg] e pos) (uH te g) := by
  intro pins s σ H D I h
  refine wpAny_Assign_stores (thn (he pins s σ H _ I h) fun v s1 zq22 => ?_) hs hw
  obtain ⟨x, H1, I1, r1, q1⟩ := zq22
  rw [h1]
  exact thn (hg pins s1 σ H1 x v _ I1 r1 q1) fun _ s2 q => q
theorem aC {i : Nat}{x : Str}{e : Expr}{te : TE}{pos' : Pos}(hN : X.N.Nodup)(hi : X.N[i]? = some x)(hx : Loc X.env.scope x)(he : PE X e te)(hs : swapsWith e (some (.Name x pos')) pos.line X.env=pure false := by rfl)(hf : X.fn x=true ∨ X.env.scope.names.lookup x=some .local := by first | exact .inl rfl | exact .inr rfl | assumption) :
    PS X (.Assign [.Name x pos'] e pos) (uH te (iF i)) := by
  intro pins s σ H D I h
  refine wpAny_Assign_Name (thn (he pins s σ H _ I h) fun v s1 zq23 => ?_) hs
  obtain ⟨y, H1, I1, r1, q1⟩ := zq23
  exact jc I1 hN hi hx r1 (fun s2 I2 => ⟨_, H1, I2, q1⟩) hf
def pd (c : TT)(tb : TS) : TS := fun D σ H => ∃ W : Nat → St → Hp → Prop, (∃ m, W m σ H) ∧ ∀ m σ H, W m σ H →
  c σ H fun b H1 => if b=true then ∃ N : St → Hp → Prop, (∀ σ' H', N σ' H' → ∃ m', m' < m ∧ W m' σ' H') ∧ tb { D with nx := N, ct := N, bk := D.nx } σ H1 else D.nx σ H1
theorem je {c : Expr}{body : List Stmt}{tc : TT}{tb : TS}(hp : PassesOwn (model X.prog X.w) X.A X.env X.xe)(hc : PT X c tc)(hb : PSs X body tb) : PS X (.While c body [] pos) (pd tc tb) := by
  intro pins s σ H D I h
  obtain ⟨W, ⟨m0, w0⟩, turn⟩ := h
  refine wpAny_While (codeAny_whileLoop (fun n s' => ∃ σ' H', Inv X pins σ' H' s' ∧ W n σ' H') ?_ m0 ⟨σ, H, I, w0⟩)
  rintro n s1 ⟨σ1, H1, I1, w1⟩
  refine yK hp (thn (hc pins s1 σ1 H1 _ I1 (turn n σ1 H1 w1)) fun b s2 zq33 => ?_)
  obtain ⟨H2, I2, q2⟩ := zq33
  cases b with
  | true =>
    obtain ⟨N, hN, q2⟩ := q2
    rw [if_pos rfl]
    refine yK hp (thn (hb pins s2 σ1 H2 _ I2 q2) fun f s3 q3 => ?_)
    cases f with
    | next =>
      obtain ⟨σ3, H3, I3, n3⟩ := q3
      obtain ⟨m', hm, w3⟩ := hN σ3 H3 n3
      exact ⟨m', hm, σ3, H3, I3, w3⟩
    | cont =>
      obtain ⟨σ3, H3, I3, n3⟩ := q3
      obtain ⟨m', hm, w3⟩ := hN σ3 H3 n3
      exact ⟨m', hm, σ3, H3, I3, w3⟩
    | brk => exact q3
    | ret v => exact q3
  | false =>
    rw [if_neg xu]
    exact Ak ⟨σ1, H2, I2, q2⟩
end
structure It where
  go : Nat → Hp → Prop
  yld : Nat → Hp → V → Hp → Prop
  stop : Nat → Hp → Prop
def jg (X : Cx)(pins : List (Addr × Obj))(H : Hp)(b : Addr) : Prop :=
  H b=none ∧ b≠X.env.locals ∧ b∉X.fs ∧ (b∈X.ex ∨ X.s₀.heap.objs.size≤b) ∧ (∀ x c, X.env.cells.lookup x=some c → c≠b) ∧ ∀ p∈X.pn++pins, p.1≠b
theorem Inv.fpOk {X : Cx}{pins : List (Addr × Obj)}{σ : St}{H H' : Hp}{s : Shared}{b : Addr}(I : Inv X pins σ H s)(hb : s.heap.objs.size≤b)(hn : H' b=none) : jg X pins H' b := by
  refine ⟨hn, Nat.ne_of_gt (xw I.lt hb), I.nofs hb, .inr (xH I.sz hb), fun x c e z => ?_, fun p hp z => ?_⟩
  · obtain ⟨v, q⟩ := I.cell x c e
    exact absurd (xw q.lt (by rw [z];exact hb)) (xU _)
  · exact absurd (xw (xm (I.pin p hp).1) (by rw [z];exact hb)) (xU _)
structure pe (P : Program) (w : World) (K : PySem.W.Frag) (tg : Expr) (J : It) (fp : List Addr) (it : Addr) (tn : Nat → Heap → Prop) : Prop where
  mem : it∈fp
  obj : ∀ i h, tn i h → ∀ b∈fp, ∃ o, h.get? b=some o ∧ ∀ v, o.data ≠ .cell v
  keep : ∀ i h h', tn i h → (∀ b∈fp, ∀ o, h.get? b=some o → h'.get? b=some o) → tn i h'
  item : ∀ (X : Cx), X.prog=P → X.w=w → X.K=K → X.calm=true → ∀ (i : Nat) (pins : List (Addr × Obj)) (s : Shared) (σ : St) (H : Hp) (E : Value → Shared → Prop), Inv X pins σ H s → (∀ b∈fp, jg X pins H b) → tn i s.heap → J.go i H →
    wpAny (model P w) X.A (pyNext (.ref it)) (fun r s1 => ∃ u, r=some u ∧
      wpAny (model P w) X.A (letOwnedTupleGo tg (.ref it) u) (fun _ s2 => ∃ x H', Inv X pins σ H' s2 ∧ bz x u ∧ J.yld i H x H' ∧ tn (i+1) s2.heap ∧ ∀ b∈fp, H' b=none) E s1) E s
  done : ∀ (X : Cx), X.prog=P → X.w=w → X.K=K → X.calm=true → ∀ (i : Nat) (pins : List (Addr × Obj)) (s : Shared) (σ : St) (H : Hp) (E : Value → Shared → Prop), Inv X pins σ H s → (∀ b∈fp, jg X pins H b) → tn i s.heap → J.stop i H →
    wpAny (model P w) X.A (pyNext (.ref it)) (fun r s1 => r=none ∧ Inv X pins σ H s1) E s
  self : ∀ (A : Around) (i : Nat) (s : Shared) (Q : Value → Shared → Prop) (E : Value → Shared → Prop), tn i s.heap → Q (.ref it) s → wpAny (model P w) A (pyIter (.ref it)) Q E s
abbrev TI := St → Hp → (It → Hp → Prop) → Prop
def PIE (X : Cx)(pins : List (Addr × Obj))(σ : St)(tg : Expr)(R : It → Hp → Prop)(itv : Value)(s2 : Shared) : Prop :=
  ∃ (it : Addr) (fp : List Addr) (tn : Nat → Heap → Prop) (J : It) (H' : Hp), itv = .ref it ∧ Inv X pins σ H' s2 ∧ pe X.prog X.w X.K tg J fp it tn ∧ tn 0 s2.heap ∧ (∀ b∈fp, jg X pins H' b) ∧ R J H'
def PI (X : Cx)(tg iter : Expr)(wi : TI) : Prop :=
  ∀ (pins : List (Addr × Obj)) (s : Shared) (σ : St) (H : Hp) (R : It → Hp → Prop), Inv X pins σ H s → wi σ H R →
    wpAny (model X.prog X.w) X.A (eval iter X.env) (fun v s1 => wpAny (model X.prog X.w) X.A (pyIter v) (PIE X pins σ tg R) X.xe s1) X.xe s
theorem nr {M : Model}{A : Around}{E : Value → Shared → Prop}{s : Shared}{tg : Expr}{it : Addr}{u : Value}{o : Obj}{n : String}{vs : Array Value}{Q : Unit → Shared → Prop}(ho : s.heap.get? it=some o)(hc : o.cls = .type n)(hd : o.data = .fields vs)
    (hn : ["enumerate", "zip", "dict_itemiterator", "dict_reverseitemiterator", "odict_iterator", "itertools.zip_longest", "itertools.pairwise"].contains n=false) (hQ : Q () s) : wpAny M A (letOwnedTupleGo tg (.ref it) u) Q E s := by
  unfold letOwnedTupleGo
  cases tg <;> first
    | exact w6 hQ
    | (cases u <;> first
        | exact w6 hQ
        | (refine wX (wpAny_load ho ?_)
           rw [hc, hd]
           show wpAny M A (if (["enumerate", "zip", "dict_itemiterator", "dict_reverseitemiterator", "odict_iterator", "itertools.zip_longest", "itertools.pairwise"].contains n && vs[0]? == some (rawInt _))=true then _ else _) Q E s
           rw [if_neg (by intro h;rw [hn, yy] at h;cases h)]
           exact w6 hQ))
def Itl (K : PySem.W.Frag)(a : Addr) : It :=
  ⟨fun i H => ∃ xs x, SqL K H a xs ∧ xs[i]? = some x, fun i H x H' => H'=H ∧ ∀ xs, SqL K H a xs → xs[i]? = some x, fun i H => ∃ xs, SqL K H a xs ∧ xs.length≤i⟩
def Itt (K : PySem.W.Frag)(a : Addr) : It :=
  ⟨fun i H => ∃ xs x, SqT K H a xs ∧ xs[i]? = some x, fun i H x H' => H'=H ∧ ∀ xs, SqT K H a xs → xs[i]? = some x, fun i H => ∃ xs, SqT K H a xs ∧ xs.length≤i⟩
def Itr (lo : Int)(n : Nat) : It := ⟨fun i _ => i < n, fun i H x H' => H'=H ∧ x = .int (lo+i), fun i _ => n≤i⟩
theorem ky {P : Program}{w : World}{K : PySem.W.Frag}{tg : Expr}(a it : Addr) : pe P w K tg (Itl K a) [it] it (fun i h => h.IsListIter it a i) where
  mem := by simp
  obj := fun i h st b hb => by
    have e : b=it := by simpa using hb
    subst e
    obtain ⟨o, e, c, d⟩ := st
    exact ⟨o, e, fun v z => by rw [d] at z;cases z⟩
  keep := fun i h h' st k => st.at fun o e => k it (by simp) o e
  item := by
    intro X hP hw hK hc i pins s σ H E I hf st hg
    subst hP hw hK
    obtain ⟨xs, x, hq, hx⟩ := hg
    obtain ⟨its, rv, p, hz⟩ := I.list hq
    obtain ⟨u, hu, ru⟩ := rv.get hx
    obtain ⟨f0, f1, f2, f3, f4, f5⟩ := hf it (by simp)
    refine wpAny_pyNext_list_item st p.isList (x := u) (by simpa using hu) fun h' st' sb => ?_
    have I1 : Inv X pins σ H { s with heap := h' } := I.turned (t' := s.toks) (fun b o hb e => (sb.2 b hb).trans e) f0 f1 f3 f4 f5
    obtain ⟨o, e, c, d⟩ := id st'
    exact ⟨u, rfl, nr (s := { s with heap := h' }) e c d (by decide) ⟨x, H, I1, ru, ⟨rfl, fun ys hy => by rw [I.list_inj hy hq];exact hx⟩, st', fun b hb => (hf b hb).1⟩⟩
  done := by
    intro X hP hw hK hc i pins s σ H E I hf st hg
    subst hP hw hK
    obtain ⟨xs, hq, hx⟩ := hg
    obtain ⟨its, rv, p, hz⟩ := I.list hq
    obtain ⟨f0, f1, f2, f3, f4, f5⟩ := hf it (by simp)
    have hl := rv.length
    exact wpAny_pyNext_list_end (I.ok.hd hc) st p.isList (by simp;omega) fun h' eb => ⟨rfl, I.turned (t' := s.toks) (fun b o hb e => eb b o hb e) f0 f1 f3 f4 f5⟩
  self := fun _ _ _ _ _ st h => wpAny_pyIter_listiter st h
theorem jR {P : Program}{w : World}{K : PySem.W.Frag}{tg : Expr}(a it : Addr) : pe P w K tg (Itt K a) [it] it (fun i h => h.IsTupleIter it a i) where
  mem := by simp
  obj := fun i h st b hb => by
    have e : b=it := by simpa using hb
    subst e
    obtain ⟨o, e, c, d⟩ := st
    exact ⟨o, e, fun v z => by rw [d] at z;cases z⟩
  keep := fun i h h' st k => st.at fun o e => k it (by simp) o e
  item := by
    intro X hP hw hK hc i pins s σ H E I hf st hg
    subst hP hw hK
    obtain ⟨xs, x, hq, hx⟩ := hg
    obtain ⟨its, rv, p, hz⟩ := I.tuple hq
    obtain ⟨u, hu, ru⟩ := rv.get hx
    obtain ⟨f0, f1, f2, f3, f4, f5⟩ := hf it (by simp)
    refine wpAny_pyNext_tuple_item st (show s.heap.IsTuple a its.toArray from p) (x := u) (by simpa using hu) fun h' st' sb => ?_
    have I1 : Inv X pins σ H { s with heap := h' } := I.turned (t' := s.toks) (fun b o hb e => (sb.2 b hb).trans e) f0 f1 f3 f4 f5
    obtain ⟨o, e, c, d⟩ := id st'
    exact ⟨u, rfl, nr (s := { s with heap := h' }) e c d (by decide) ⟨x, H, I1, ru, ⟨rfl, fun ys hy => by rw [I.tuple_inj hy hq];exact hx⟩, st', fun b hb => (hf b hb).1⟩⟩
  done := by
    intro X hP hw hK hc i pins s σ H E I hf st hg
    subst hP hw hK
    obtain ⟨xs, hq, hx⟩ := hg
    obtain ⟨its, rv, p, hz⟩ := I.tuple hq
    obtain ⟨f0, f1, f2, f3, f4, f5⟩ := hf it (by simp)
    have hl := rv.length
    exact wpAny_pyNext_tuple_end (I.ok.hd hc) st (show s.heap.IsTuple a its.toArray from p) (by simp;omega) fun h' eb => ⟨rfl, I.turned (t' := s.toks) (fun b o hb e => eb b o hb e) f0 f1 f3 f4 f5⟩
  self := fun _ _ _ _ _ st h => wpAny_pyIter_tupleiter st h
theorem jS {P : Program}{w : World}{K : PySem.W.Frag}{tg : Expr}(it : Addr)(lo : Int)(n : Nat) : pe P w K tg (Itr lo n) [it] it (fun i h => IsRangeIter h it (lo+(i : Nat)*1) ((n : Int) - (i : Nat)) 1) where
  mem := by simp
  obj := fun i h st b hb => by
    have e : b=it := by simpa using hb
    subst e
    exact ⟨_, st, fun v z => by
      have z' : Data.fields _=Data.cell v := z
      cases z'⟩
  keep := fun i h h' st k => k it (by simp) _ st
  item := by
    intro X hP hw hK hc i pins s σ H E I hf st hg
    subst hP hw hK
    obtain ⟨f0, f1, f2, f3, f4, f5⟩ := hf it (by simp)
    have W := Walks.range (prog := X.prog) (w := X.w) (I.ok.hd hc) it lo 1 n
    refine W.item i s _ _ hg st fun v h' tk hv st' kk => ?_
    obtain ⟨t, rfl⟩ := hv
    have I1 : Inv X pins σ H { s with heap := h', toks := tk } := I.turned (fun b o hb e => kk b o (by simpa using hb) e) f0 f1 f3 f4 f5
    refine ⟨_, rfl, nr (s := { s with heap := h', toks := tk }) (n := "range_iterator") st' rfl rfl (by decide) ⟨.int (lo+i), H, I1, ⟨t, ?_⟩, ⟨rfl, rfl⟩, st', fun b hb => (hf b hb).1⟩⟩
    rw [Int.mul_one]
  done := by
    intro X hP hw hK hc i pins s σ H E I hf st hg
    subst hP hw hK
    obtain ⟨f0, f1, f2, f3, f4, f5⟩ := hf it (by simp)
    exact wpAny_pyNext_range_end (I.ok.hd hc) st (by have : n≤i := hg;omega) fun h' eb => ⟨rfl, I.turned (t' := s.toks) (fun b o hb e => eb b o hb e) f0 f1 f3 f4 f5⟩
  self := fun _ _ _ _ _ st h => wpAny_pyIter_rangeiter st h
section
variable {X : Cx} {tg : Expr}
def uI (K : PySem.W.Frag)(tl : TE) : TI := fun σ H R => tl σ H fun x H1 => ∃ a, x = .ref a ∧ (∃ xs, SqL K H1 a xs) ∧ R (Itl K a) H1
def wu (K : PySem.W.Frag)(tl : TE) : TI := fun σ H R => tl σ H fun x H1 => ∃ a, x = .ref a ∧ (∃ xs, SqT K H1 a xs) ∧ R (Itt K a) H1
theorem c5 {l : Expr}{tl : TE}(hl : PE X l tl) : PI X tg l (uI X.K tl) := by
  intro pins s σ H R I h
  refine thn (hl pins s σ H _ I h) fun v s1 zq34 => ?_
  obtain ⟨x, H1, I1, r1, q1⟩ := zq34
  obtain ⟨a, e, ⟨xs, hq⟩, q⟩ := q1
  subst e
  cases r1
  obtain ⟨its, rv, p, hz⟩ := I1.list hq
  refine wpAny_pyIter_list p.isList ?_
  refine ⟨s1.heap.objs.size, [s1.heap.objs.size], _, _, H1, rfl, I1.kept (t' := s1.toks) fun b o e => w5 _ e, ky a _, ⟨_, xj _ rfl, rfl, rfl⟩, fun b hb => ?_, q⟩
  have e : b=s1.heap.objs.size := by simpa using hb
  subst e
  exact I1.fpOk (wZ _) (I1.hok.fresh (wZ _))
theorem eG {l : Expr}{tl : TE}(hl : PE X l tl) : PI X tg l (wu X.K tl) := by
  intro pins s σ H R I h
  refine thn (hl pins s σ H _ I h) fun v s1 zq35 => ?_
  obtain ⟨x, H1, I1, r1, q1⟩ := zq35
  obtain ⟨a, e, ⟨xs, hq⟩, q⟩ := q1
  subst e
  cases r1
  obtain ⟨its, rv, p, hz⟩ := I1.tuple hq
  refine y6 (show s1.heap.IsTuple a its.toArray from p) ?_
  refine ⟨s1.heap.objs.size, [s1.heap.objs.size], _, _, H1, rfl, I1.kept (t' := s1.toks) fun b o e => w5 _ e, jR a _, ⟨_, xj _ rfl, rfl, rfl⟩, fun b hb => ?_, q⟩
  have e : b=s1.heap.objs.size := by simpa using hb
  subst e
  exact I1.fpOk (wZ _) (I1.hok.fresh (wZ _))
theorem jh {pins : List (Addr × Obj)}{σ : St}{H : Hp}{s : Shared}{R : It → Hp → Prop}{E : Value → Shared → Prop}{lo hi : Int}{t u v : Tok}{tk : Nat}(I : Inv X pins σ H s)(h1 : -(2 ^ 62)≤lo)(h2 : lo < 2 ^ 62)(h3 : -(2 ^ 62)≤hi)(h4 : hi < 2 ^ 62)
    (q : R (Itr lo (hi - lo).toNat) H) : wpAny (model X.prog X.w) X.A (pyIter (.ref s.heap.objs.size)) (PIE X pins σ tg R) E { s with heap := s.heap.push { cls := .type "range", data := .fields #[.int lo t, .int hi u, .int 1 v] }, toks := tk } := by
  refine wpAny_pyIter_range (IsRange.new ..) (small_one h1 h2 h3 h4) ?_
  have I1 : Inv X pins σ H { s with heap := s.heap.push { cls := .type "range", data := .fields #[.int lo t, .int hi u, .int 1 v] }, toks := tk } := I.kept fun b o e => w5 _ e
  refine ⟨(s.heap.push { cls := .type "range", data := .fields #[.int lo t, .int hi u, .int 1 v] }).objs.size, [(s.heap.push { cls := .type "range", data := .fields #[.int lo t, .int hi u, .int 1 v] }).objs.size], _, _, H, rfl,
    I1.kept (t' := tk) fun b o e => w5 _ e, jS _ lo (hi - lo).toNat, ?_, fun b hb => ?_, q⟩
  · have e1 : lo+((0 : Nat) : Int)*1=lo := by simp
    have e2 : (((hi - lo).toNat : Nat) : Int) - ((0 : Nat) : Int)=Builtin.Range.rangeSize lo hi 1 := by rw [rangeSize_one];split <;> omega
    show IsRangeIter _ _ (lo+((0 : Nat) : Int)*1) ((((hi - lo).toNat : Nat) : Int) - ((0 : Nat) : Int)) 1
    rw [e1, e2]
    exact xj _ rfl
  · have e : b=(s.heap.push { cls := .type "range", data := .fields #[.int lo t, .int hi u, .int 1 v] }).objs.size := by simpa using hb
    subst e
    exact I1.fpOk (wZ _) (I1.hok.fresh (wZ _))
def uJ (ta : TA) : TI := fun σ H R => ta σ H fun vs H1 => ∃ j : Int, vs=[.int j] ∧ -(2 ^ 62)≤j ∧ j < 2 ^ 62 ∧ R (Itr 0 j.toNat) H1
def uK (ta : TA) : TI := fun σ H R => ta σ H fun vs H1 => ∃ i j : Int, vs=[.int i, .int j] ∧ (-(2 ^ 62)≤i ∧ i < 2 ^ 62 ∧ -(2 ^ 62)≤j ∧ j < 2 ^ 62) ∧ R (Itr i (j - i).toNat) H1
theorem bh {a : Expr}{ta : TA}{p pos : Pos}(hg : Gl X "range")(hm : X.mg "range" = none)(ha : PA X [a] ta)(hs : starEach [a] X.env=[(false, eval a X.env)] := by rfl) : PI X tg (.Call (.Name "range" p) [a] [] pos) (uJ ta) := by
  intro pins s σ H R I h
  refine Call_ (dS I hg hm boot_range (x4 (thn (ha pos pins s σ H _ I h) fun us s1 zq36 => ?_) hs rfl))
  obtain ⟨vs, H1, I1, r1, q1⟩ := zq36
  obtain ⟨j, e, q1, q2, q⟩ := q1
  subst e
  cases r1 with
  | cons r rr =>
    cases rr
    obtain ⟨t, rfl⟩ := r
    exact call_range_1 (jh I1 (by omega) (by omega) q1 q2 (by simpa using q))
theorem kz {a b : Expr}{ta : TA}{p pos : Pos}(hg : Gl X "range")(hm : X.mg "range" = none)(ha : PA X [a, b] ta)(hs : starEach [a, b] X.env=[(false, eval a X.env), (false, eval b X.env)] := by rfl)(hs2 : starEach [b] X.env=[(false, eval b X.env)] := by rfl) :
    PI X tg (.Call (.Name "range" p) [a, b] [] pos) (uK ta) := by
  intro pins s σ H R I h
  refine Call_ (dS I hg hm boot_range (x4 (thn (ha pos pins s σ H _ I h) fun us s1 zq37 => ?_) (by rw [hs, hs2]) (by rw [hs2];rfl)))
  obtain ⟨vs, H1, I1, r1, q1⟩ := zq37
  obtain ⟨i, j, e, ⟨q1, q2, q3, q4⟩, q⟩ := q1
  subst e
  cases r1 with
  | cons r rr =>
    cases rr with
    | cons r' rr =>
      cases rr
      obtain ⟨t, rfl⟩ := r
      obtain ⟨t', rfl⟩ := r'
      exact call_range_2 (jh I1 q1 q2 q3 q4 q)
def wx (wi : TI)(g : TG)(tb : TS) : TS := fun D σ H => wi σ H fun J H1 => ∃ W : Nat → Nat → St → Hp → Prop, (∃ m, W 0 m σ H1) ∧ ∀ i m σ H, W i m σ H →
  (J.stop i H ∧ D.nx σ H) ∨ (J.go i H ∧ ∃ N : St → Hp → Prop, (∀ σ' H', N σ' H' → ∃ m', m' < m ∧ W (i+1) m' σ' H') ∧ ∀ x H', J.yld i H x H' → g x σ H' fun σ2 H2 => tb { D with nx := N, ct := N, bk := D.nx } σ2 H2)
def fo (fp : List Addr)(h : Heap) : List (Addr × Obj) := fp.filterMap fun b => (h.get? b).map fun o => (b, o)
theorem bO {fp : List Addr}{h : Heap}{b : Addr}{o : Obj}(hb : b∈fp)(e : h.get? b=some o) : (b, o)∈fo fp h := List.mem_filterMap.mpr ⟨b, hb, by rw [e]; rfl⟩
theorem kA {fp : List Addr}{h : Heap}{p : Addr × Obj}(hp : p∈fo fp h) : p.1∈fp ∧ h.get? p.1=some p.2 := by
  obtain ⟨b, hb, e⟩ := List.mem_filterMap.mp hp
  cases q : h.get? b with
  | none => rw [q] at e;cases e
  | some o =>
    rw [q] at e
    have e' : (b, o)=p := xb e
    subst e'
    exact ⟨hb, q⟩
theorem Inv.pinned {pins : List (Addr × Obj)}{σ : St}{H : Hp}{s : Shared}{fp : List Addr}(I : Inv X pins σ H s)(hf : ∀ b∈fp, jg X pins H b)(ho : ∀ b∈fp, ∃ o, s.heap.get? b=some o ∧ ∀ v, o.data ≠ .cell v) : Inv X (pins++fo fp s.heap) σ H s :=
  I.pins_of fun p hp => (xF.mp hp).elim (fun z => I.pin p (xl _ z)) fun z => by
    obtain ⟨hb, e⟩ := kA z
    obtain ⟨f0, f1, f2, _⟩ := hf p.1 hb
    obtain ⟨o, e', d⟩ := ho p.1 hb
    rw [e] at e';cases e'
    exact ⟨e, f0, f1, f2, d⟩
theorem Inv.unpinned {pins pl : List (Addr × Obj)}{σ : St}{H : Hp}{s : Shared}(I : Inv X (pins++pl) σ H s) : Inv X pins σ H s := I.pins_of fun p hp => I.pin p (xl _ (xY _ hp))
theorem bA {iter : Expr}{body : List Stmt}{wi : TI}{g : TG}{tb : TS}{pos : Pos}(hp : PassesOwn (model X.prog X.w) X.A X.env X.xe)(hc : X.calm=true)(hi : PI X tg iter wi)(hg : PG X tg g)(hb : PSs X body tb)
    (hs : ∀ x, foldedSetIterable iter X.env x=pure x := by intro _;rfl) : PS X (.For tg iter body [] pos) (wx wi g tb) := by
  intro pins s σ H D I h
  refine wpAny_For (thn (hi pins s σ H _ I h) fun v s1 h1 => thn h1 fun itv s2 h2 => ?_) hs
  obtain ⟨it, fp, tn, J, H2, e, I2, T, st2, f2, W, ⟨m0, w0⟩, turn⟩ := h2
  subst e
  -- what stays true of the iterator's objects through the loop
  have stat : ∀ {H' : Hp}, (∀ b∈fp, H' b=none) → ∀ b∈fp, jg X pins H' b := fun hn b hb => ⟨hn b hb, (f2 b hb).2⟩
  refine codeAny_forLoop_any (fun n s' => ∃ i σ' H', Inv X pins σ' H' s' ∧ tn i s'.heap ∧ (∀ b∈fp, H' b=none) ∧ W i n σ' H') ?_ m0 ⟨0, σ, H2, I2, st2, fun b hb => (f2 b hb).1, w0⟩
  rintro n s3 ⟨i, σ3, H3, I3, st3, fr3, w3⟩
  rcases turn i n σ3 H3 w3 with ⟨stop, qn⟩ | ⟨go, N, hN, step⟩
  · refine yK hp (thn (T.done X rfl rfl rfl hc i pins s3 σ3 H3 X.xe I3 (stat fr3) st3 stop) fun r s4 zq38 => ?_)
    obtain ⟨hr, I4⟩ := zq38
    subst hr
    exact Ak ⟨σ3, H3, I4, qn⟩
  · refine yK hp (thn (T.item X rfl rfl rfl hc i pins s3 σ3 H3 X.xe I3 (stat fr3) st3 go) fun r s4 zq39 => ?_)
    obtain ⟨u, hr, h4⟩ := zq39
    subst hr
    refine yK hp (thn h4 fun _ s5 zq40 => ?_)
    obtain ⟨x, H5, I5, r5, y5, st5, fr5⟩ := zq40
    have I5' := I5.pinned (stat fr5) (T.obj _ _ st5)
    refine yK hp (thn (hg _ s5 σ3 H5 x u _ I5' r5 (step x H5 y5)) fun _ s6 zq41 => ?_)
    obtain ⟨σ6, H6, I6, q6⟩ := zq41
    refine yK hp (thn (hb _ s6 σ6 H6 _ I6 q6) fun f s7 q7 => ?_)
    have again : ∀ {σ7 : St} {H7 : Hp}, Inv X (pins++fo fp s5.heap) σ7 H7 s7 → N σ7 H7 → ∃ m, m < n ∧ ∃ i σ' H', Inv X pins σ' H' s7 ∧ tn i s7.heap ∧ (∀ b∈fp, H' b=none) ∧ W i m σ' H' := fun {σ7 H7} I7 n7 => by
      obtain ⟨m', hm, w7⟩ := hN σ7 H7 n7
      refine ⟨m', hm, i+1, σ7, H7, I7.unpinned, T.keep _ _ _ st5 fun b hb o e => (I7.pin (b, o) (xl _ (xl _ (bO hb e)))).1, fun b hb => ?_, w7⟩
      obtain ⟨o, e, d⟩ := T.obj _ _ st5 b hb
      exact (I7.pin (b, o) (xl _ (xl _ (bO hb e)))).2.1
    cases f with
    | next => obtain ⟨σ7, H7, I7, n7⟩ := q7;exact again I7 n7
    | cont => obtain ⟨σ7, H7, I7, n7⟩ := q7;exact again I7 n7
    | brk => obtain ⟨σ7, H7, I7, q7⟩ := q7;exact ⟨σ7, H7, I7.unpinned, q7⟩
    | ret v => obtain ⟨x7, σ7, H7, I7, r7, q7⟩ := q7;exact ⟨x7, σ7, H7, I7.unpinned, r7, q7⟩
end
theorem c9 {K : PySem.W.Frag}{a : Addr}{xs : List V}{g : TG}{tb : TS}{D : fm}{σ : St}{H : Hp}(Pv : Nat → St → Hp → Prop)(h0 : Pv 0 σ H)(hl : ∀ i σ H, i≤xs.length → Pv i σ H → SqL K H a xs)
    (hs : ∀ i x σ H, xs[i]? = some x → Pv i σ H → g x σ H fun σ2 H2 => tb { D with nx := Pv (i+1), ct := Pv (i+1), bk := D.nx } σ2 H2) (hd : ∀ σ H, Pv xs.length σ H → D.nx σ H) :
    ∃ W : Nat → Nat → St → Hp → Prop, (∃ m, W 0 m σ H) ∧ ∀ i m σ H, W i m σ H →
      ((Itl K a).stop i H ∧ D.nx σ H) ∨ ((Itl K a).go i H ∧ ∃ N : St → Hp → Prop, (∀ σ' H', N σ' H' → ∃ m', m' < m ∧ W (i+1) m' σ' H') ∧ ∀ x H', (Itl K a).yld i H x H' → g x σ H' fun σ2 H2 => tb { D with nx := N, ct := N, bk := D.nx } σ2 H2) := by
  refine ⟨fun i m σ H => m=xs.length - i ∧ i≤xs.length ∧ Pv i σ H, ⟨xs.length, by simp, xV _, h0⟩, ?_⟩
  rintro i m σ H ⟨rfl, hi, p⟩
  have q := hl i σ H hi p
  by_cases hlt : i < xs.length
  · refine .inr ⟨⟨xs, xs[i], q, by simp [hlt]⟩, Pv (i+1), fun σ' H' p' => ⟨xs.length - (i+1), by omega, rfl, hlt, p'⟩, fun x H' y => ?_⟩
    obtain ⟨e, y⟩ := y
    subst e
    exact hs i x σ _ (y xs q) p
  · have e : i=xs.length := by omega
    subst e
    exact .inl ⟨⟨xs, q, wZ _⟩, hd σ H p⟩
theorem qb {K : PySem.W.Frag}{a : Addr}{xs : List V}{g : TG}{tb : TS}{D : fm}{σ : St}{H : Hp}(Pv : Nat → St → Hp → Prop)(h0 : Pv 0 σ H)(hl : ∀ i σ H, i≤xs.length → Pv i σ H → SqT K H a xs)
    (hs : ∀ i x σ H, xs[i]? = some x → Pv i σ H → g x σ H fun σ2 H2 => tb { D with nx := Pv (i+1), ct := Pv (i+1), bk := D.nx } σ2 H2) (hd : ∀ σ H, Pv xs.length σ H → D.nx σ H) :
    ∃ W : Nat → Nat → St → Hp → Prop, (∃ m, W 0 m σ H) ∧ ∀ i m σ H, W i m σ H →
      ((Itt K a).stop i H ∧ D.nx σ H) ∨ ((Itt K a).go i H ∧ ∃ N : St → Hp → Prop, (∀ σ' H', N σ' H' → ∃ m', m' < m ∧ W (i+1) m' σ' H') ∧ ∀ x H', (Itt K a).yld i H x H' → g x σ H' fun σ2 H2 => tb { D with nx := N, ct := N, bk := D.nx } σ2 H2) := by
  refine ⟨fun i m σ H => m=xs.length - i ∧ i≤xs.length ∧ Pv i σ H, ⟨xs.length, by simp, xV _, h0⟩, ?_⟩
  rintro i m σ H ⟨rfl, hi, p⟩
  have q := hl i σ H hi p
  by_cases hlt : i < xs.length
  · refine .inr ⟨⟨xs, xs[i], q, by simp [hlt]⟩, Pv (i+1), fun σ' H' p' => ⟨xs.length - (i+1), by omega, rfl, hlt, p'⟩, fun x H' y => ?_⟩
    obtain ⟨e, y⟩ := y
    subst e
    exact hs i x σ _ (y xs q) p
  · have e : i=xs.length := by omega
    subst e
    exact .inl ⟨⟨xs, q, wZ _⟩, hd σ H p⟩
theorem cj {lo : Int}{n : Nat}{g : TG}{tb : TS}{D : fm}{σ : St}{H : Hp}(Pv : Nat → St → Hp → Prop)(h0 : Pv 0 σ H)
    (hs : ∀ i σ H, i < n → Pv i σ H → g (.int (lo+i)) σ H fun σ2 H2 => tb { D with nx := Pv (i+1), ct := Pv (i+1), bk := D.nx } σ2 H2) (hd : ∀ σ H, Pv n σ H → D.nx σ H) :
    ∃ W : Nat → Nat → St → Hp → Prop, (∃ m, W 0 m σ H) ∧ ∀ i m σ H, W i m σ H →
      ((Itr lo n).stop i H ∧ D.nx σ H) ∨ ((Itr lo n).go i H ∧ ∃ N : St → Hp → Prop, (∀ σ' H', N σ' H' → ∃ m', m' < m ∧ W (i+1) m' σ' H') ∧ ∀ x H', (Itr lo n).yld i H x H' → g x σ H' fun σ2 H2 => tb { D with nx := N, ct := N, bk := D.nx } σ2 H2) := by
  refine ⟨fun i m σ H => m=n - i ∧ i≤n ∧ Pv i σ H, ⟨n, by simp, xV _, h0⟩, ?_⟩
  rintro i m σ H ⟨rfl, hi, p⟩
  by_cases hlt : i < n
  · refine .inr ⟨hlt, Pv (i+1), fun σ' H' p' => ⟨n - (i+1), by omega, rfl, hlt, p'⟩, fun x H' y => ?_⟩
    obtain ⟨e, y⟩ := y
    subst e y
    exact hs i σ _ hlt p
  · have e : i=n := by omega
    subst e
    exact .inl ⟨wZ _, hd σ H p⟩
abbrev R2 := V → V → Hp → VK → Prop
def OpR (X : Cx)(f : Value → Value → Sem Value)(r : R2) : Prop :=
  ∀ (pins : List (Addr × Obj)) (s : Shared) (σ : St) (H : Hp) (x y : V) (v u : Value) (Q : VK), Inv X pins σ H s → bz x v → bz y u → r x y H Q →
    wpAny (model X.prog X.w) X.A (f v u) (EP X pins σ Q) X.xe s
def UnR (X : Cx)(f : Value → Sem Value)(r : V → Hp → VK → Prop) : Prop :=
  ∀ (pins : List (Addr × Obj)) (s : Shared) (σ : St) (H : Hp) (x : V) (v : Value) (Q : VK), Inv X pins σ H s → bz x v → r x H Q →
    wpAny (model X.prog X.w) X.A (f v) (EP X pins σ Q) X.xe s
def cG (X : Cx)(f : Value)(r : List V → Hp → VK → Prop) : Prop :=
  ∀ (pins : List (Addr × Obj)) (s : Shared) (σ : St) (H : Hp) (xs : List V) (us : List Value) (Q : VK), Inv X pins σ H s → aZ xs us → r xs H Q →
    wpAny (model X.prog X.w) X.A (call f us) (EP X pins σ Q) X.xe s
def wy (X : Cx)(r : V → Hp → (Bool → Hp → Prop) → Prop) : Prop :=
  ∀ (pins : List (Addr × Obj)) (s : Shared) (σ : St) (H : Hp) (x : V) (v : Value) (Q : Bool → Hp → Prop), Inv X pins σ H s → bz x v → r x H Q →
    wpAny (model X.prog X.w) X.A (truthy v) (TP X pins σ Q) X.xe s
def sd (r : R2)(Q : VK)(x : V) : V → Hp → Prop := fun y H2 => r x y H2 Q
def se (r : R2)(tb : TE)(σ : St)(Q : VK) : V → Hp → Prop := fun x H1 => tb σ H1 (sd r Q x)
def tOp (r : R2)(ta tb : TE) : TE := fun σ H Q => ta σ H (se r tb σ Q)
def sf (r : V → Hp → VK → Prop)(Q : VK) : V → Hp → Prop := fun x H1 => r x H1 Q
def tUn (r : V → Hp → VK → Prop)(ta : TE) : TE := fun σ H Q => ta σ H (sf r Q)
inductive rI (C : Int → Int → Prop)(g : Int → Int → V)(x : V)(y : V)(H : Hp)(Q : VK) : Prop
  | mk : ∀ i j, (x = .int i) → (y = .int j) → (C i j) → (Q (g i j) H) → rI C g x y H Q
inductive rI0 (g : Int → Int → V)(x : V)(y : V)(H : Hp)(Q : VK) : Prop
  | mk : ∀ i j, (x = .int i) → (y = .int j) → (Q (g i j) H) → rI0 g x y H Q
inductive rU (g : Int → V)(x : V)(H : Hp)(Q : VK) : Prop
  | mk : ∀ i, (x = .int i) → (Q (g i) H) → rU g x H Q
section
variable {X : Cx} {a b c : Expr} {ta tb tc : TE} {pos : Pos}
theorem uL (ha : PE X a ta)(hb : PE X b tb){pins : List (Addr × Obj)}{s : Shared}{σ : St}{H : Hp}{R : V → V → Hp → Prop}(I : Inv X pins σ H s)
    (h : ta σ H fun x H1 => tb σ H1 fun y H2 => R x y H2) {Q : Value → Shared → Prop} {f : Value → Value → Sem Value}
    (hf : ∀ v u s2 x y H2, Inv X pins σ H2 s2 → bz x v → bz y u → R x y H2 → wpAny (model X.prog X.w) X.A (f v u) Q X.xe s2) :
    wpAny (model X.prog X.w) X.A (eval a X.env) (fun v s₁ => wpAny (model X.prog X.w) X.A (eval b X.env) (fun u s₂ => wpAny (model X.prog X.w) X.A (f v u) Q X.xe s₂) X.xe s₁) X.xe s := by
  refine thn (ha pins s σ H _ I h) fun v s1 zq42 => ?_
  obtain ⟨x, H1, I1, r1, q1⟩ := zq42
  refine thn (hb pins s1 σ H1 _ I1 q1) fun u s2 zq43 => ?_
  obtain ⟨y, H2, I2, r2, q2⟩ := zq43
  exact hf v u s2 x y H2 I2 r1 r2 q2
theorem aG {op : Operator}{r : R2}(ho : OpR X (binaryOp op) r)(ha : PE X a ta)(hb : PE X b tb) : PE X (.BinOp a op b pos) (tOp r ta tb) := by
  intro pins s σ H Q I h
  exact wpAny_BinOp (uL ha hb I h fun v u s2 x y H2 I2 rx ry q => ho pins s2 σ H2 x y v u Q I2 rx ry q)
theorem iG {op : UnaryOp}{r : V → Hp → VK → Prop}(ho : UnR X (unaryOp op) r)(ha : PE X a ta) : PE X (.UnaryOp op a pos) (tUn r ta) := by
  intro pins s σ H Q I h
  exact UnaryOp_ (thn (ha pins s σ H _ I h) fun v s1 zq44 => (by obtain ⟨x, H1, I1, r1, q1⟩ := zq44;exact ho pins s1 σ H1 x v Q I1 r1 q1))
theorem opI {f : Value → Value → Sem Value}{C : Int → Int → Prop}{g : Int → Int → Int}
    (rule : ∀ (i j : Int) (t u : Tok) (s : Shared) (Q : Value → Shared → Prop) (E : Value → Shared → Prop), C i j → Q (.int (g i j) s.toks) { s with toks := s.toks+1 } → wpAny (model X.prog X.w) X.A (f (.int i t) (.int j u)) Q E s) :
    OpR X f (rI C fun i j => .int (g i j)) := by
  intro pins s σ H x y v u Q I rx ry h
  obtain ⟨i, j, rfl, rfl, hc, q⟩ := h
  obtain ⟨t, rfl⟩ := rx
  obtain ⟨t', rfl⟩ := ry
  exact rule i j t t' s _ _ hc ⟨.int (g i j), H, I.tok _, ⟨_, rfl⟩, q⟩
theorem vN {f : Value → Value → Sem Value}{g : Int → Int → Int}
    (rule : ∀ (i j : Int) (t u : Tok) (s : Shared) (Q : Value → Shared → Prop) (E : Value → Shared → Prop), Q (.int (g i j) s.toks) { s with toks := s.toks+1 } → wpAny (model X.prog X.w) X.A (f (.int i t) (.int j u)) Q E s) :
    OpR X f (rI0 fun i j => .int (g i j)) := by
  intro pins s σ H x y v u Q I rx ry h
  obtain ⟨i, j, rfl, rfl, q⟩ := h
  obtain ⟨t, rfl⟩ := rx
  obtain ⟨t', rfl⟩ := ry
  exact rule i j t t' s _ _ ⟨.int (g i j), H, I.tok _, ⟨_, rfl⟩, q⟩
theorem uv {f : Value → Value → Sem Value}{g : Int → Int → Bool}
    (rule : ∀ (i j : Int) (t u : Tok) (s : Shared) (Q : Value → Shared → Prop) (E : Value → Shared → Prop), Q (.bool (g i j)) s → wpAny (model X.prog X.w) X.A (f (.int i t) (.int j u)) Q E s) :
    OpR X f (rI0 fun i j => .bl (g i j)) := by
  intro pins s σ H x y v u Q I rx ry h
  obtain ⟨i, j, rfl, rfl, q⟩ := h
  obtain ⟨t, rfl⟩ := rx
  obtain ⟨t', rfl⟩ := ry
  exact rule i j t t' s _ _ ⟨.bl (g i j), H, I, rfl, q⟩
def wz (i j : Int) : Prop := 0 < j ∧ j < 1073741824
def wA (i j : Int) : Prop := 0≤j ∧ j≤1000000 ∧ i.natAbs < 2 ^ 64
def uM (i j : Int) : Prop := (-(2 ^ 64) < i ∧ i < 2 ^ 64) ∨ (-(2 ^ 64) < j ∧ j < 2 ^ 64)
theorem uM.ok {i j : Int}(h : uM i j) : IntMulOk i j := by
  rcases h with ⟨h1, h2⟩ | ⟨h1, h2⟩
  · exact .of_left (intBits_le_64 h1 h2)
  · exact .of_right (intBits_le_64 h1 h2)
theorem bt : OpR X (binaryOp .Add) (rI0 fun i j => .int (i+j)) := vN fun _ _ _ _ _ _ _ q => add_int q
theorem pf : OpR X (binaryOp .Sub) (rI0 fun i j => .int (i - j)) := vN fun _ _ _ _ _ _ _ q => sub_int q
theorem cW : OpR X (binaryOp .Mult) (rI uM fun i j => .int (i*j)) := opI fun _ _ _ _ _ _ _ hc q => mul_int q hc.ok
theorem cv : OpR X (binaryOp .FloorDiv) (rI wz fun i j => .int (i / j)) := opI fun i j _ _ _ _ _ hc q => by
  have h1 : (0 : Int) < j := hc.1
  have h2 : j < 1073741824 := hc.2
  exact floordiv_int (by omega) (by rw [Int.fdiv_eq_ediv_of_nonneg i (by omega)];exact q) (.inl (PyProof.noPylong_small (by omega)))
theorem dY : OpR X (binaryOp .Mod) (rI (fun _ j => 0 < j) fun i j => .int (i % j)) := opI fun i j _ _ _ _ _ hc q => by
  have h1 : (0 : Int) < j := hc
  exact mod_int' (by omega) (by rw [Int.fmod_eq_emod_of_nonneg i (by omega)];exact q)
theorem ph : OpR X (binaryOp .Pow) (rI wA fun i j => .int (i ^ j.toNat)) := opI fun _ _ _ _ _ _ _ hc q => pow_int_small hc.1 hc.2.1 hc.2.2 q
theorem unI {f : Value → Sem Value}{g : Int → Int}
    (rule : ∀ (i : Int) (t : Tok) (s : Shared) (Q : Value → Shared → Prop) (E : Value → Shared → Prop), Q (.int (g i) s.toks) { s with toks := s.toks+1 } → wpAny (model X.prog X.w) X.A (f (.int i t)) Q E s) :
    UnR X f (rU fun i => .int (g i)) := by
  intro pins s σ H x v Q I rx h
  obtain ⟨i, rfl, q⟩ := h
  obtain ⟨t, rfl⟩ := rx
  exact rule i t s _ _ ⟨.int (g i), H, I.tok _, ⟨_, rfl⟩, q⟩
theorem eI : UnR X (unaryOp .USub) (rU fun i => .int (-i)) := unI fun _ _ _ _ _ q => neg_int q
end
def vO : V → V → Bool
  | .non, .non => true | .non, .int _ => true | .int _, .non => true | .non, .bl _ => true | .bl _, .non => true | .non, .str _ => true | .str _, .non => true
  | .int _, .int _ => true | .bl _, .bl _ => true | .str _, .str _ => true | .byt _, .byt _ => true
  | .int _, .str _ => true | .str _, .int _ => true | .bl _, .str _ => true | .str _, .bl _ => true
  | _, _ => false
def rEq : R2 := fun x y H Q => vO x y=true ∧ Q (.bl (decide (x=y))) H
def rNe : R2 := fun x y H Q => vO x y=true ∧ Q (.bl (!decide (x=y))) H
theorem dec_int {i j : Int} : decide (V.int i=V.int j)=(i == j) := by
  rw [yd]
  simp
theorem pk {i j : Bool} : decide (V.bl i=V.bl j)=(i == j) := by
  rw [yd]
  simp
theorem kC {i j : Str} : decide (V.str i=V.str j)=(i == j) := by
  rw [yd]
  simp
theorem kD {i j : Array UInt8} : decide (V.byt i=V.byt j)=(i.toList == j.toList) := by
  rw [yd]
  cases i
  cases j
  simp
section
variable {X : Cx} {a b c : Expr} {ta tb tc : TE} {pos : Pos}
theorem aT {pins : List (Addr × Obj)}{σ : St}{H : Hp}{s : Shared}{Q : VK}{k k' : Bool}(I : Inv X pins σ H s)(q : Q (.bl k) H)(e : k=k') : EP X pins σ Q (.bool k') s := by
  subst e
  exact ⟨.bl k, H, I, rfl, q⟩
theorem cS : OpR X (compareOp .Eq) rEq := by
  intro pins s σ H x y v u Q I rx ry h
  obtain ⟨hs, q⟩ := h
  cases x with
  | non =>
    cases rx
    cases y with
    | non => cases ry;exact PySem.EqNone.eq_none_none (aT I q (by simp))
    | bl j => cases ry;exact PySem.EqNone.eq_none_bool (aT I q (by simp))
    | int j => obtain ⟨t', rfl⟩ := ry;exact PySem.EqNone.eq_none_int (aT I q (by simp))
    | str j => obtain ⟨t', rfl⟩ := ry;exact PySem.EqNone.eq_none_str (aT I q (by simp))
    | _ => exact absurd (show false=true from hs) xu
  | bl i =>
    cases rx
    cases y with
    | non => cases ry;exact PySem.EqNone.eq_bool_none (aT I q (by simp))
    | bl j => cases ry;exact eq_bool (aT I q pk)
    | str j => obtain ⟨t', rfl⟩ := ry;exact PySem.EqMixed.eq_bool_str (aT I q (by simp))
    | _ => exact absurd (show false=true from hs) xu
  | int i =>
    obtain ⟨t, rfl⟩ := rx
    cases y with
    | non => cases ry;exact PySem.EqNone.eq_int_none (aT I q (by simp))
    | int j => obtain ⟨t', rfl⟩ := ry;exact eq_int (aT I q dec_int)
    | str j => obtain ⟨t', rfl⟩ := ry;exact PySem.EqMixed.eq_int_str (aT I q (by simp))
    | _ => exact absurd (show false=true from hs) xu
  | str i =>
    obtain ⟨t, rfl⟩ := rx
    cases y with
    | non => cases ry;exact PySem.EqNone.eq_str_none (aT I q (by simp))
    | bl j => cases ry;exact PySem.EqMixed.eq_str_bool (aT I q (by simp))
    | int j => obtain ⟨t', rfl⟩ := ry;exact PySem.EqMixed.eq_str_int (aT I q (by simp))
    | str j => obtain ⟨t', rfl⟩ := ry;exact eq_str (aT I q kC)
    | _ => exact absurd (show false=true from hs) xu
  | byt i =>
    obtain ⟨t, rfl⟩ := rx
    cases y with
    | byt j => obtain ⟨t', rfl⟩ := ry;exact PySem.W.eq_bytes (aT I q kD)
    | _ => exact absurd (show false=true from hs) xu
  | _ => cases y <;> exact absurd (show false=true from hs) xu
theorem fK : OpR X (compareOp .NotEq) rNe := by
  intro pins s σ H x y v u Q I rx ry h
  obtain ⟨hs, q⟩ := h
  cases x with
  | non =>
    cases rx
    cases y with
    | non => cases ry;exact PySem.EqNone.ne_none_none (aT I q (by simp))
    | bl j => cases ry;exact PySem.EqNone.ne_none_bool (aT I q (by simp))
    | int j => obtain ⟨t', rfl⟩ := ry;exact PySem.EqNone.ne_none_int (aT I q (by simp))
    | str j => obtain ⟨t', rfl⟩ := ry;exact PySem.EqNone.ne_none_str (aT I q (by simp))
    | _ => exact absurd (show false=true from hs) xu
  | bl i =>
    cases rx
    cases y with
    | non => cases ry;exact PySem.EqNone.ne_bool_none (aT I q (by simp))
    | bl j => cases ry;exact ne_bool (aT I q (xA not pk))
    | str j => obtain ⟨t', rfl⟩ := ry;exact PySem.EqMixed.ne_bool_str (aT I q (by simp))
    | _ => exact absurd (show false=true from hs) xu
  | int i =>
    obtain ⟨t, rfl⟩ := rx
    cases y with
    | non => cases ry;exact PySem.EqNone.ne_int_none (aT I q (by simp))
    | int j => obtain ⟨t', rfl⟩ := ry;exact ne_int (aT I q (xA not dec_int))
    | str j => obtain ⟨t', rfl⟩ := ry;exact PySem.EqMixed.ne_int_str (aT I q (by simp))
    | _ => exact absurd (show false=true from hs) xu
  | str i =>
    obtain ⟨t, rfl⟩ := rx
    cases y with
    | non => cases ry;exact PySem.EqNone.ne_str_none (aT I q (by simp))
    | bl j => cases ry;exact PySem.EqMixed.ne_str_bool (aT I q (by simp))
    | int j => obtain ⟨t', rfl⟩ := ry;exact PySem.EqMixed.ne_str_int (aT I q (by simp))
    | str j => obtain ⟨t', rfl⟩ := ry;exact ne_str (aT I q (xA not kC))
    | _ => exact absurd (show false=true from hs) xu
  | byt i =>
    obtain ⟨t, rfl⟩ := rx
    cases y with
    | byt j => obtain ⟨t', rfl⟩ := ry;exact PySem.W.ne_bytes (aT I q (xA not kD))
    | _ => exact absurd (show false=true from hs) xu
  | _ => cases y <;> exact absurd (show false=true from hs) xu
theorem qc : OpR X (compareOp .Lt) (rI0 fun i j => .bl (decide (i < j))) := uv fun _ _ _ _ _ _ _ q => lt_int q
theorem si : OpR X (compareOp .LtE) (rI0 fun i j => .bl (decide (i≤j))) := uv fun _ _ _ _ _ _ _ q => le_int q
theorem nu : OpR X (compareOp .Gt) (rI0 fun i j => .bl (decide (j < i))) := uv fun _ _ _ _ _ _ _ q => gt_int q
theorem ny : OpR X (compareOp .GtE) (rI0 fun i j => .bl (decide (j≤i))) := uv fun _ _ _ _ _ _ _ q => ge_int q
inductive eK  (x : V)(y : V)(H : Hp)(Q : VK) : Prop
  | mk : ∀ i j, (x = .str i) → (y = .str j) → (Q (.bl (!(Builtin.Str.occurrences j i 0 j.length 1).isEmpty)) H) → eK x y H Q
theorem gG : OpR X (compareOp .In) eK := by
  intro pins s σ H x y v u Q I rx ry h
  obtain ⟨i, j, rfl, rfl, q⟩ := h
  obtain ⟨t, rfl⟩ := rx
  obtain ⟨t', rfl⟩ := ry
  exact in_str (aT I q rfl)
theorem aK (b : Expr){op : CmpOp}(h : op ≠ .In := by decide)(h2 : op ≠ .NotIn := by decide) : behindInMarks op b=false := by
  have e1 : (op == CmpOp.In)=false := by cases op <;> first | rfl | exact absurd rfl h
  have e2 : (op == CmpOp.NotIn)=false := by cases op <;> first | rfl | exact absurd rfl h2
  cases b <;> simp [behindInMarks, e1, e2]
theorem c6 {op : CmpOp}{r : R2}(ho : OpR X (compareOp op) r)(ha : PE X a ta)(hb : PE X b tb)(hm : behindInMarks op b=false) : PE X (.Compare a [op] [b] pos) (tOp r ta tb) := by
  intro pins s σ H Q I h
  exact wpAny_Compare1 (uL ha hb I h fun v u s2 x y H2 I2 rx ry q => ho pins s2 σ H2 x y v u Q I2 rx ry q) hm
def nz (Q : (Bool → Hp → Prop)) : V → Hp → Prop := fun x H' => IsB x H' Q
def sj (t : TE) : TT := fun σ H Q => t σ H (nz Q)
theorem aH {op : CmpOp}{r : R2}(ho : OpR X (compareOp op) r)(ha : PE X a ta)(hb : PE X b tb)(hm : behindInMarks op b=false) : PT X (.Compare a [op] [b] pos) (sj (tOp r ta tb)) := by
  intro pins s σ H Q I h
  refine wpAny_isTrue_Compare1 (thn (ha pins s σ H _ I h) fun v s1 ⟨x, H1, I1, r1, q1⟩ => thn (hb pins s1 σ H1 _ I1 q1) fun u s2 ⟨y, H2, I2, r2, q2⟩ =>
    thn (ho pins s2 σ H2 x y v u _ I2 r1 r2 q2) fun c s3 ⟨z, H3, I3, r3, k, e, q3⟩ => ?_) hm
  subst e
  cases r3
  exact yJ ⟨H3, I3, q3⟩
def sk (r r' : R2)(ta tb tc : TE) : TE := fun σ H Q => ta σ H fun x H1 => tb σ H1 fun y H2 => r x y H2 fun z H3 => ∃ k, z = .bl k ∧
  (if k=true then tc σ H3 fun w' H4 => r' y w' H4 Q else Q (.bl false) H3)
theorem nA {op op' : CmpOp}{r r' : R2}(ho : OpR X (compareOp op) r)(ho' : OpR X (compareOp op') r')(ha : PE X a ta)(hb : PE X b tb)(hc : PE X c tc)
    (hm : lastMarks [op, op'] [b, c]=false := by with_unfolding_all rfl) : PE X (.Compare a [op, op'] [b, c] pos) (sk r r' ta tb tc) := by
  intro pins s σ H Q I h
  refine Compare_chain (thn (ha pins s σ H _ I h) fun v s1 ⟨x, H1, I1, r1, q1⟩ => chain_link (thn (hb pins s1 σ H1 _ I1 q1) fun u s2 ⟨y, H2, I2, r2, q2⟩ =>
    thn (ho pins s2 σ H2 x y v u _ I2 r1 r2 q2) fun d s3 ⟨z, H3, I3, r3, k, e, q3⟩ => ?_)) hm
  subst e
  cases r3
  refine yJ ?_
  cases k with
  | false => exact ite_ff ⟨.bl false, H3, I3, rfl, q3⟩
  | true => exact ite_tt (chain_last (thn (hc pins s3 σ H3 _ I3 q3) fun w' s4 zq45 => (by obtain ⟨z', H4, I4, r4, q4⟩ := zq45;exact ho' pins s4 σ H4 y z' u w' Q I4 r2 r4 q4)))
def wB (K : PySem.W.Frag)(x : V)(H : Hp)(k : Bool) : Prop :=
  match x with
  | .non => k=false
  | .bl b => k=b
  | .int i => k=(i != 0)
  | .str y => y.length≤sizeLine ∧ k=((y.length : Int) != 0)
  | .byt y => y.size≤sizeLine ∧ k=((y.size : Int) != 0)
  | .ref p => (∃ xs, SqL K H p xs ∧ k=!xs.isEmpty) ∨ (∃ xs, SqT K H p xs ∧ k=!xs.isEmpty) ∨ ∃ kvs, H p=some (.dK kvs) ∧ k=!kvs.isEmpty
  | _ => False
theorem jT {κ : Type}{kvs : List (κ × V)}{vs : List (κ × Value)}(r : KV kvs vs) : (!vs.isEmpty)=!kvs.isEmpty := by
  cases r <;> rfl
theorem fq {xs : List V}{its : List Value}(r : aZ xs its) : (!its.toArray.isEmpty)=!xs.isEmpty := by
  cases r <;> simp
theorem c_ : (sizeLine : Nat) < 2 ^ 63 := by rw [zN]; decide
inductive qd (K : PySem.W.Frag)(x : V)(H : Hp)(Q : Bool → Hp → Prop) : Prop
  | mk : ∀ k, (wB K x H k) → (Q k H) → qd K x H Q
theorem kE : wy X (qd X.K) := by
  intro pins s σ H x v Q I rx h
  obtain ⟨k, e, q⟩ := h
  have hl := c_
  have hs : sizeLine=16777216 := zN
  cases x with
  | non =>
    cases rx
    have e' : k=false := e
    subst e'
    exact truthy_none ⟨H, I, q⟩
  | bl b =>
    cases rx
    have e' : k=b := e
    subst e'
    exact yJ ⟨H, I, q⟩
  | int i =>
    obtain ⟨t, rfl⟩ := rx
    have e' : k=(i != 0) := e
    subst e'
    exact PySem.P.truthy_int ⟨H, I, q⟩
  | str y =>
    obtain ⟨t, rfl⟩ := rx
    obtain ⟨hy, e'⟩ : y.length≤sizeLine ∧ k=((y.length : Int) != 0) := e
    subst e'
    exact PySem.P.truthy_str (by omega) ⟨H, I.tok _, q⟩
  | byt y =>
    obtain ⟨t, rfl⟩ := rx
    obtain ⟨hy, e'⟩ : y.size≤sizeLine ∧ k=((y.size : Int) != 0) := e
    subst e'
    exact PySem.W.truthy_bytes (by omega) ⟨H, I.tok _, q⟩
  | ref p =>
    cases rx
    have e' : (∃ xs, SqL X.K H p xs ∧ k=!xs.isEmpty) ∨ (∃ xs, SqT X.K H p xs ∧ k=!xs.isEmpty) ∨ ∃ kvs, H p=some (.dK kvs) ∧ k=!kvs.isEmpty := e
    rcases e' with ⟨xs, hx, e'⟩ | ⟨xs, hx, e'⟩ | ⟨kvs, hx, e'⟩
    · subst e'
      obtain ⟨its, r, pl, hz⟩ := I.list hx
      have hlen := r.length
      exact wpAny_truthy_list pl.isList (by simp only [xa];omega) ⟨H, I.tok _, by rw [fq r];exact q⟩
    · subst e'
      obtain ⟨its, r, pl, hz⟩ := I.tuple hx
      have hlen := r.length
      exact truthy_tuple pl (by simp only [xa];omega) ⟨H, I.tok _, by rw [fq r];exact q⟩
    · subst e'
      obtain ⟨hz, hS, vs, r, m⟩ : kvs.length≤sizeLine ∧ (p == sysModules)=false ∧ ∃ vs, KV kvs vs ∧ s.heap.DictOf (bo X.prog X.w) p vs := I.hok p _ hx
      have hlen : kvs.length=vs.length := zt r
      exact wpAny_truthy_dict hS m (by omega) ⟨H, I.tok _, by rw [jT r];exact q⟩
  | _ => exact (show False from e).elim
def qe (K : PySem.W.Frag)(Q : (Bool → Hp → Prop)) : V → Hp → Prop := fun x H' => qd K x H' Q
def wC (K : PySem.W.Frag)(ta : TE) : TT := fun σ H Q => ta σ H (qe K Q)
theorem bC (ha : PE X a ta)(he : ∀ whole, isTrue a X.env whole=(do let v ← whole; standAt a.pos; holding [v] (truthy v))) :
    PT X a (wC X.K ta) := by
  intro pins s σ H Q I h
  exact isTrue_plain (thn (ha pins s σ H _ I h) fun v s1 zq47 => (by obtain ⟨x, H1, I1, r1, q1⟩ := zq47;exact kE pins s1 σ H1 x v Q I1 r1 q1)) (he _)
inductive dZ  (x : V)(y : V)(H : Hp)(Q : VK) : Prop
  | mk : ∀ i j, (x = .str i) → (y = .str j) → (i.length+j.length≤sizeLine) → (Q (.str (i++j)) H) → dZ x y H Q
theorem dF : OpR X (binaryOp .Add) dZ := by
  intro pins s σ H x y v u Q I rx ry h
  obtain ⟨i, j, rfl, rfl, hz, q⟩ := h
  obtain ⟨t, rfl⟩ := rx
  obtain ⟨t', rfl⟩ := ry
  exact add_str (fun t' tk => ⟨.str (i++j), H, I.tok _, ⟨_, rfl⟩, q⟩) hz
theorem cw {x : V}{us : List Value}(r : aZ [x] us) : ∃ u, us=[u] ∧ bz x u := by
  cases r with
  | cons r1 r2 => cases r2;exact ⟨_, rfl, r1⟩
theorem sm {x y : V}{us : List Value}(r : aZ [x, y] us) : ∃ u w', us=[u, w'] ∧ bz x u ∧ bz y w' := by
  cases r with
  | cons r1 r2 =>
    cases r2 with
    | cons r3 r4 => cases r4;exact ⟨_, _, rfl, r1, r3⟩
end
structure uN (h : Heap) (x dx C : Addr) (mA : Str → Option Value) : Prop where
  obj : h.get? x=some (PySem.W.instObj C dx)
  ns : h.Ns1 dx mA
  ne : dx≠x
theorem kF {h : Heap}{dx : Addr}{mA : Str → Option Value}(n : h.Ns1 dx mA) : ∃ od, h.get? dx=some od ∧ ∀ name, PySem.W.lookIn name od=some (mA name) := by
  obtain ⟨o, es, ep, ho, hd, hk, _, hm⟩ := n
  refine ⟨o, ho, fun name => ?_⟩
  have e := hm name
  unfold nsFind findBy at e
  rw [← Array.find?_toList] at e
  unfold PySem.W.lookIn
  rw [hd]
  dsimp only
  split
  · rename_i y q
    rw [q] at e
    exact xA some e
  · rename_i q
    rw [q] at e
    have a : es.toList.any (·.refKey)=false := by
      rw [List.any_eq_false]
      intro y hy
      obtain ⟨z, t, hkey⟩ := hk y (Array.mem_toList_iff.mp hy)
      simp [DictEntry.refKey, hkey]
    have a' : ¬ es.toList.any (·.refKey)=true := by rw [a];exact xu
    rw [if_neg a']
    exact xA some e
theorem uN.look {h : Heap}{x dx C : Addr}{mA : Str → Option Value}(I : uN h x dx C mA) : ∃ od, PySem.W.InstAt h x (PySem.W.instObj C dx) C (some od) ∧ ∀ name, PySem.W.lookIn name od=some (mA name) :=
  let ⟨od, ho, hl⟩ := kF I.ns
  ⟨od, ⟨I.obj, rfl, rfl, ho⟩, hl⟩
section
variable {prog : Program} {w : World} {A : Around} {E : Value → Shared → Prop} {s : Shared} {K : PySem.W.Frag} {x dx C f : Addr} {mA : Str → Option Value} {name : Str} {v : Value}
end
section
variable {P : Program} {w : World} {H H' : Hp} {h h' : Heap} {a C dx : Addr} {fs fs' : List (Str × V)}
theorem qf (hok : HOk P w H h)(e : H a=some (.ins C dx fs)) : ∃ mA, uN h a dx C mA ∧ (∀ f, p9 (fs.lookup f) (mA f)) ∧ PySem.Within mA (fs.map (·.1)) ∧ fs.length≤1000 ∧ H dx=some (.own a) := by
  obtain ⟨d, z, ne, ob, mA, n, r, q⟩ := (show bg P w H h a (.ins C dx fs) from hok a _ e)
  exact ⟨mA, ⟨ob, n, ne⟩, r, q, z, d⟩
end
structure Cls (K : PySem.W.Frag) (C : Addr) : Prop where
  pg : PySem.W.plainGet K C Str.empty=true
  hd : PySem.W.hasDictIn K C=true
  po : PySem.W.plainOver K C=true
  sa : PySem.W.findIn K (.ref C) "__setattr__" = some (some (.builtin "object.__setattr__"))
theorem Cls.get {K : PySem.W.Frag}{C : Addr}(c : Cls K C)(f : Str) : PySem.W.plainGet K C f=true := c.pg
section
variable {X : Cx} {pins : List (Addr × Obj)} {σ : St} {H : Hp} {s : Shared} {a C dx : Addr} {fs : List (Str × V)} {f : Str} {v : V} {A : Around} {E : Value → Shared → Prop}
end
section
variable {X : Cx} {o e value : Expr} {f : Str} {pos pos' tpos : Pos} {ta tv : TE}
end
section
variable {X : Cx} {pins : List (Addr × Obj)} {σ : St} {H : Hp} {s : Shared} {A : Around} {E : Value → Shared → Prop} {Q : Value → Shared → Prop} {c : Value} {b : Bool}
inductive ft (K : PySem.W.Frag)(H : Hp) : V → Value → Prop where
  | non : ft K H .non (.type "NoneType")
  | bl (x : Bool) : ft K H (.bl x) (.type "bool")
  | int (i : Int) : ft K H (.int i) (.type "int")
  | str (x : Str) : ft K H (.str x) (.type "str")
  | flt (x : UInt64) : ft K H (.flt x) (.type "float")
  | lst {a : Addr} {xs : List V} (e : H a=some (.lst xs)) : ft K H (.ref a) (.type "list")
  | frz {a : Addr} {o : Obj} {xs : List V} (e : H a=some (.frz o (.lst xs))) : ft K H (.ref a) (.type "list")
  | tup {a : Addr} {xs : List V} (e : H a=some (.tup xs)) : ft K H (.ref a) (.type "tuple")
  | dK {a : Addr} {kvs : List (Key × V)} (e : H a=some (.dK kvs)) : ft K H (.ref a) (.type "dict")
  | dT {a : Addr} {kvs : List (List Key × V)} (e : H a=some (.dT kvs)) : ft K H (.ref a) (.type "dict")
  | ins {a C dx : Addr} {fs : List (Str × V)} (e : H a=some (.ins C dx fs)) (cl : Cls K C) (ha : PySem.W.findIn K (.ref C) "__class__" = some (some (.builtin "object.__class__")))
      (hn : PySem.W.specialIn K (.builtin "object.__class__") "__get__" = some (some (.builtin "getset_descriptor.__get__"))) (htk : PySem.W.takesIn K (.builtin "object.__class__")=some true)
      (hm : PySem.W.mroIn K C (.type "object")=some true) : ft K H (.ref a) (.ref C)
theorem kG {x : V}{u t : Value}(I : Inv X pins σ H s)(rx : bz x u)(ty : ft X.K H x t)(e : PySem.W.kitOne X.K t c=some b)(h : ∀ tk, Q (.bool b) { s with toks := tk }) :
    wpAny (model X.prog X.w) A (call (.builtin "isinstance") [u, c]) Q E s := by
  cases ty with
  | non => cases (show u=Value.none from rx);exact yb PySem.W.kitx_none I.kIn True.intro e (fun z => nomatch z) h
  | bl y => cases (show u=Value.bool y from rx);exact yb PySem.W.kitx_bool I.kIn True.intro e (fun z => nomatch z) h
  | int i => obtain ⟨t, q⟩ := (show ∃ t, u=Value.int i t from rx);cases q;exact yb PySem.W.kitx_int I.kIn True.intro e (fun z => nomatch z) h
  | str y => obtain ⟨t, q⟩ := (show ∃ t, u=Value.str y t from rx);cases q;exact yb PySem.W.kitx_str I.kIn True.intro e (fun z => nomatch z) h
  | flt y => obtain ⟨t, q⟩ := (show ∃ t, u=Value.float y t from rx);cases q;exact yb PySem.W.kitx_float I.kIn True.intro e (fun z => nomatch z) h
  | @lst a xs ea =>
    cases (show u=Value.ref a from rx)
    obtain ⟨_, _, n, _, h1⟩ := (show bg X.prog X.w H s.heap a (.lst xs) from I.hok a _ ea)
    exact yb PySem.W.kitx_list I.kIn ⟨_, h1, rfl⟩ e (fun z => nomatch z) h
  | @frz a ob xs ea =>
    cases (show u=Value.ref a from rx)
    obtain ⟨_, _, _, n, _, h1⟩ := (show bg X.prog X.w H s.heap a (.frz ob (.lst xs)) from I.hok a _ ea)
    exact yb PySem.W.kitx_list I.kIn ⟨_, h1, rfl⟩ e (fun z => nomatch z) h
  | @tup a xs ea =>
    cases (show u=Value.ref a from rx)
    obtain ⟨_, _, _, p, _⟩ := (show bg X.prog X.w H s.heap a (.tup xs) from I.hok a _ ea)
    obtain ⟨o, h1, h2, _⟩ := p
    exact yb PySem.W.kitx_tuple I.kIn ⟨o, h1, h2⟩ e (fun z => nomatch z) h
  | @dK a kvs ea =>
    cases (show u=Value.ref a from rx)
    obtain ⟨_, _, vs, _, p⟩ := (show bg X.prog X.w H s.heap a (.dK kvs) from I.hok a _ ea)
    obtain ⟨o, es, ep, h1, h2, _⟩ := p
    exact yb PySem.W.kitx_dict I.kIn ⟨o, h1, h2.1⟩ e (fun z => nomatch z) h
  | @dT a kvs ea =>
    cases (show u=Value.ref a from rx)
    obtain ⟨_, _, xs, _, o, es, ep, h1, h2, _⟩ := (show bg X.prog X.w H s.heap a (.dT kvs) from I.hok a _ ea)
    exact yb PySem.W.kitx_dict I.kIn ⟨o, h1, h2.1⟩ e (fun z => nomatch z) h
  | @ins a C dx fs ea cl ha hn htk hm =>
    cases (show u=Value.ref a from rx)
    obtain ⟨mA, O, _⟩ := qf I.hok ea
    obtain ⟨od, J, _⟩ := O.look
    exact yb (PySem.W.kitx_own (cl.get _) cl.hd ha hn htk hm) I.kIn J e (fun z => nomatch z) h
end
structure fv (k : Nat) (A : Around) : Prop where
  hd : A.handled=none
  dp : A.depth+3*k+5 < recursionLimit
  un : A.units+16*k+200 < cLine
  gd : A.guards=some []
theorem fv.mono {j k : Nat}{A : Around}(r : fv k A)(h : j≤k) : fv j A := ⟨r.hd, by have := r.dp; omega, by have := r.un; omega, r.gd⟩
theorem fv.deeper {k : Nat}{A : Around}(r : fv (k+1) A)(env : Env) : fv k (A.deeper env) :=
  ⟨r.hd, by have := r.dp;show A.depth+1+3*k+5 < _;omega, by have := r.un;show A.units+3+16*k+200 < _;omega, r.gd⟩
theorem fv.depth {k : Nat}{A : Around}(r : fv k A) : A.depth < recursionLimit := by have := r.dp; omega
theorem fv.units {k : Nat}{A : Around}(r : fv k A) : A.units+64 < cLine := by have := r.un; omega
def wD : TA := fun _ H Q => Q [] H
def nB (Q : (List V → Hp → Prop))(x : V) : List V → Hp → Prop := fun xs H2 => Q (x::xs) H2
def nC (tr : TA)(σ : St)(Q : (List V → Hp → Prop)) : V → Hp → Prop := fun x H1 => tr σ H1 (nB Q x)
def so (ta : TE)(tr : TA) : TA := fun σ H Q => ta σ H (nC tr σ Q)
section
variable {X : Cx} {e : Expr} {es : List Expr} {te : TE} {t : TA} {pos : Pos}
theorem ae : PA X [] wD := fun _ _ _ _ H Q I h => Calls.spliced_nil ⟨[], H, I, .nil, h⟩
theorem aa (ha : PE X e te)(hr : PA X es t)(hs : starEach (e::es) X.env=(false, eval e X.env)::starEach es X.env := by rfl) : PA X (e::es) (so te t) := by
  intro pos pins s σ H Q I h
  rw [hs]
  show wpAny _ _ (spliced ((false, eval e X.env)::backTo pos (starEach es X.env))) _ _ s
  refine Calls.spliced_cons (thn (ha pins s σ H _ I h) fun u s1 zq54 => ?_)
  obtain ⟨x, H1, I1, r1, q1⟩ := zq54
  exact thn (hr pos pins s1 σ H1 _ I1 q1) fun us s2 zq55 => (by obtain ⟨xs, H2, I2, r2, q2⟩ := zq55;exact ⟨x::xs, H2, I2, .cons r1 r2, q2⟩)
def qg (Q : VK) : List V → Hp → Prop := fun xs H1 => xs.length≤sizeLine ∧ ∀ p, H1 p=none → Q (.ref p) (upd H1 p (.tup xs))
def wF (t : TA) : TE := fun σ H Q => t σ H (qg Q)
def qh (Q : VK) : List V → Hp → Prop := fun xs H1 => xs.length≤sizeLine ∧ ∀ p, H1 p=none → Q (.ref p) (upd H1 p (.lst xs))
def wG (t : TA) : TE := fun σ H Q => t σ H (qh Q)
theorem a4 {x1}(h : PA X es t) : PE X (.Tuple es x1 pos) (wF t) := by
  intro pins s σ H Q I hq
  refine wpAny_Tuple_spliced (thn (h pos pins s σ H _ I hq) fun us s1 ⟨xs, H1, I1, r, z, q⟩ => ⟨by rw [← r.length];exact z, ?_⟩)
  have hf : H1 s1.heap.objs.size=none := I1.hok.fresh (wZ _)
  refine ⟨.ref s1.heap.objs.size, upd H1 s1.heap.objs.size (.tup xs), I1.laid (t' := s1.toks) (fun b u e => w5 _ e) (wZ _) ?_, rfl, q _ hf⟩
  exact ⟨z, us, r, ⟨_, xj _ rfl, rfl, _, rfl⟩, .new _ _ rfl⟩
theorem bj (h : PA X es t) : PE X (.List es pos) (wG t) := by
  intro pins s σ H Q I hq
  refine wpAny_List_spliced (thn (h pos pins s σ H _ I hq) fun us s1 ⟨xs, H1, I1, r, z, q⟩ => ⟨by rw [← r.length];exact z, ?_⟩)
  have hf : H1 s1.heap.objs.size=none := I1.hok.fresh (wZ _)
  refine ⟨.ref s1.heap.objs.size, upd H1 s1.heap.objs.size (.lst xs), I1.laid (t' := s1.toks) (fun b u e => w5 _ e) (wZ _) ?_, rfl, q _ hf⟩
  exact ⟨z, us, 0, r, xj _ rfl⟩
end
abbrev Sp := List V → Hp → VK → XK → Prop
abbrev CXT := List Env → Hp → Shared → XK → Value → Shared → Prop
structure uw (P : Program) (w : World) (K : PySem.W.Frag) (mg : Str → Option Value) (base : Heap) (A : Around) (outer : List Env) (s : Shared) (H : Hp) : Prop where
  frames : A.frames=some outer
  mod : Mod K mg base
  bs : ∀ b o, base.get? b=some o → s.heap.get? b=some o ∧ H b=none
  bsz : base.objs.size≤s.heap.objs.size
  funs : s.heap.FunFrames base outer
  frf : ∀ b∈frs outer, H b=none
  hok : HOk P w H s.heap
  bare : AllBare s.gens
def CE (outer : List Env)(P : Program)(w : World)(H : Hp)(s : Shared)(Q : VK)(u : Value)(s' : Shared) : Prop :=
  ∃ v H', s'.os=s.os ∧ AllBare s'.gens ∧ Un (frs outer) [] H H' s.heap s'.heap ∧ HOk P w H' s'.heap ∧ bz v u ∧ Q v H'
def CR (CX : CXT)(outer : List Env)(P : Program)(w : World)(H : Hp)(s : Shared)(Q : VK)(E : XK)(r : Result)(s' : Shared) : Prop :=
  match r with
  | .ok (.ret u) => CE outer P w H s Q u s'
  | .ok _ => False
  | .error e => CX outer H s E e s'
structure m7 (P : Program) (w : World) (K : PySem.W.Frag) (mg : Str → Option Value) (base : Heap) (CX : CXT) (k : Nat) (f : Addr) (fd : FuncData) (ps : List Str) (sp : Sp) : Prop where
  len : ∀ vs H Q E, sp vs H Q E → vs.length=ps.length
  run : ∀ (A : Around) (outer : List Env) (s : Shared) (H : Hp) (args : Args) (us : List Value) (vs : List V) (Q : VK) (E : XK), fv k A → uw P w K mg base A outer s H → BindsTo s fd args (ps.zip us) → aZ vs us → sp vs H Q E →
    codeAny (model P w) A (.call (.ref f) args) (CR CX outer P w H s Q E) s
section
variable {X : Cx} {pins : List (Addr × Obj)} {σ : St} {H : Hp} {s s' : Shared}
theorem Inv.env0 (I : Inv X pins σ H s) : uw X.prog X.w X.K X.mg X.base X.A X.stack s H :=
  ⟨I.ok.frames, I.ok.mod, I.bs, xH I.ok.bsz I.sz, I.stack, I.stkFree, I.hok, I.bare⟩
theorem Inv.after {Q : VK}{u : Value}(I : Inv X pins σ H s)(h : CE X.stack X.prog X.w H s Q u s') : EP X pins σ Q u s' := by
  obtain ⟨v, H', os, bare, un, hok, r, q⟩ := h
  obtain ⟨hh, g, d, t, os'⟩ := s'
  obtain rfl : os'=s.os := os
  exact ⟨v, H', I.call (h' := hh) (g' := g) (d' := d) (t' := t) (ch := []) un hok bare (fun b z => absurd z (by simp)), r, q⟩
end
def nD (sp : Sp)(dvs : List V)(E : XK)(Q : VK) : List V → Hp → Prop := fun vs H1 => sp (vs++dvs) H1 Q E
def sq (sp : Sp)(dvs : List V)(E : XK)(t : TA) : TE := fun σ H Q => t σ H (nD sp dvs E Q)
def jU (K : PySem.W.Frag)(fd : FuncData)(ps : List Str)(ds : List Value) : Prop :=
  ∀ (s : Shared) (us : List Value), K.In s.heap → (us++ds).length=ps.length → BindsTo s fd ⟨us, []⟩ (ps.zip (us++ds))
theorem jU.all {K : PySem.W.Frag}{fd : FuncData}{ps : List Str}(h : ∀ us : List Value, us.length=ps.length → bindArgs fd ⟨us, []⟩=pure (ps.zip us)) : jU K fd ps [] := fun s us _ hl => by
  rw [yL] at hl ⊢
  exact .of_eq (h us hl)
def kH (CX : CXT)(X : Cx)(E : XK) : Prop := ∀ (pins : List (Addr × Obj)) (σ : St) (H : Hp) (s : Shared) (e : Value) (s' : Shared), Inv X pins σ H s → CX X.stack H s E e s' → X.xe e s'
section
variable {X : Cx} {CX : CXT} {k : Nat} {f C : Addr} {fd : FuncData} {ps : List Str} {sp : Sp} {dvs : List V} {ds : List Value} {E : XK} {x m : Str} {p pos apos : Pos} {e o : Expr} {es : List Expr} {ta : TE} {t : TA}
theorem sr {pins : List (Addr × Obj)}{σ : St}{H : Hp}{s : Shared}{Q : VK}{us : List Value}{vs : List V}(F : m7 X.prog X.w X.K X.mg X.base CX k f fd ps sp)(hr : fv k X.A)(hb : jU X.K fd ps ds)(hd : aZ dvs ds)(hx : kH CX X E)
    (I : Inv X pins σ H s) (r : aZ vs us) (h : sp (vs++dvs) H Q E) : wpAny (model X.prog X.w) X.A (call (.ref f) us) (EP X pins σ Q) X.xe s := by
  have r2 : aZ (vs++dvs) (us++ds) := r.append hd
  have hl : (us++ds).length=ps.length := by rw [← r2.length];exact F.len _ _ _ _ h
  refine wpAny_call (codeAny_mono (F.run X.A X.stack s H ⟨us, []⟩ (us++ds) (vs++dvs) Q E hr I.env0 (hb s us I.kIn hl) r2 h) fun r s' hq => ?_)
  cases r with
  | error e => exact hx pins σ H s e s' I hq
  | ok fl =>
    cases fl with
    | ret u => exact I.after hq
    | next => exact False.elim hq
    | brk => exact False.elim hq
    | cont => exact False.elim hq
theorem qi (F : m7 X.prog X.w X.K X.mg X.base CX k f fd ps sp)(hr : fv k X.A)(hg : Gl X x)(hm : X.mg x=some (.ref f))(hk : PySem.W.keepIn X.K (.ref f)=true)(hb : jU X.K fd ps ds)(hd : aZ dvs ds)(hx : kH CX X E)
    (ha : PA X (e::es) t) (hdb : (x == ("__debug__" : Str))=false := by decide) (he : starEach (e::es) X.env=(false, eval e X.env)::starEach es X.env := by rfl) (hpl : (backTo pos (starEach es X.env)).any (·.1)=false := by rfl) :
    PE X (.Call (.Name x p) (e::es) [] pos) (sq sp dvs E t) := by
  intro pins s σ H Q I h
  refine Au (iC I hg hm ?_ hdb)
  refine PySem.W.callWith_K (h₀ := X.base) I.ok.mod.kin hk (thn (ha pos pins s σ H _ I h) fun us s1 ⟨vs, H1, I1, r, q⟩ => ⟨I1.kIn, ?_⟩) he hpl
  exact sr F hr hb hd hx I1 r q
end
section
variable {X : Cx} {CX : CXT} {k : Nat} {f C : Addr} {fd : FuncData} {ps ks : List Str} {sp : Sp} {E : XK} {x m : Str} {p pos apos kpos : Pos} {e o : Expr} {es : List Expr} {kws : List Keyword} {te ta : TE} {t tk : TA} {nm : Option Str}
variable {g : List Value → List Value → List Value} {gV : List V → List V → List V}
end
structure aF (N P : List Str) (sc : Scope) : Prop where
  kind : sc.kind = .function
  co : sc.isCoroutine=false
  gen : sc.isGenerator=false
  nd : N.Nodup
  pre : N.take P.length=P
  par : ∀ x∈P, sc.names.lookup x=some .local ∨ sc.names.lookup x=some .cell
  nofree : ∀ y∈sc.names, y.2 ≠ .free
theorem gH {kindOf : Str → Option NameKind}{x : Str} : ∀ {binds : List (Str × Value)} {m : Str → Option Value}, (∀ v, (x, v)∉binds) → bindL kindOf binds m x=m x
  | [], _, _ => rfl
  | (n, v)::r, m, h => by
    unfold bindL
    rw [gH fun w hw => h w (xk _ hw)]
    split
    · have : x≠n := by rintro rfl;exact h v xt
      simp [this]
    · rfl
theorem gI {kindOf : Str → Option NameKind}{x : Str} : ∀ {binds : List (Str × Value)} {m : Str → Option Value}, (∀ v, (x, v)∉binds) → bindC kindOf binds m x=m x
  | [], _, _ => rfl
  | (n, v)::r, m, h => by
    unfold bindC
    rw [gI fun w hw => h w (xk _ hw)]
    split
    · rfl
    · have : x≠n := by rintro rfl;exact h v xt
      simp [this]
theorem gK {kindOf : Str → Option NameKind}{x : Str}{v : Value} : ∀ {P : List Str} {vs : List Value} {i : Nat} {m : Str → Option Value}, P.Nodup → P[i]? = some x → vs[i]? = some v → kindOf x=some .local →
    bindL kindOf (P.zip vs) m x=some v
  | [], _, _, _, _, h, _, _ => by simp at h
  | _::_, [], _, _, _, _, h, _ => by simp at h
  | p::P, w::vs, 0, m, nd, h1, h2, hk => by
    simp at h1 h2;subst h1;subst h2
    show bindL kindOf ((p, w)::P.zip vs) m p=_
    unfold bindL
    rw [gH fun v hv => (ym.mp nd).1 (A6 hv).1, if_pos hk]
    simp
  | p::P, w::vs, i+1, m, nd, h1, h2, hk => by
    show bindL kindOf ((p, w)::P.zip vs) m x=_
    unfold bindL
    exact gK (i := i) (ym.mp nd).2 (by simpa using h1) (by simpa using h2) hk
theorem gL {kindOf : Str → Option NameKind}{x : Str}{v : Value} : ∀ {P : List Str} {vs : List Value} {i : Nat} {m : Str → Option Value}, P.Nodup → P[i]? = some x → vs[i]? = some v → kindOf x≠some .local →
    bindC kindOf (P.zip vs) m x=some v
  | [], _, _, _, _, h, _, _ => by simp at h
  | _::_, [], _, _, _, _, h, _ => by simp at h
  | p::P, w::vs, 0, m, nd, h1, h2, hk => by
    simp at h1 h2;subst h1;subst h2
    show bindC kindOf ((p, w)::P.zip vs) m p=_
    unfold bindC
    rw [gI fun v hv => (ym.mp nd).1 (A6 hv).1, if_neg hk]
    simp
  | p::P, w::vs, i+1, m, nd, h1, h2, hk => by
    show bindC kindOf ((p, w)::P.zip vs) m x=_
    unfold bindC
    exact gL (i := i) (ym.mp nd).2 (by simpa using h1) (by simpa using h2) hk
def start (N : List Str)(vs : List V) : St := vs.map some++List.replicate (N.length - vs.length) none
def qj (CX : CXT)(P : Program)(w : World)(K : PySem.W.Frag)(mg : Str → Option Value)(base : Heap)(N : List Str)(qual : Str)(scope : Scope)(f : Addr)(cd : Value)(A : Around)(outer : List Env)(s : Shared)(H : Hp)(E : XK) : Cx where
  prog := P
  w := w
  K := K
  mg := mg
  base := base
  A := A.deeper (envOfC qual scope s.heap.objs.size f cd)
  N := N
  s₀ := s
  H₀ := H
  env := envOfC qual scope s.heap.objs.size f cd
  outer := outer
  stack := envOfC qual scope s.heap.objs.size f cd::outer
  ex := []
  calm := true
  fn := fun _ => true
  pn := []
  xe := fun e s' => wpAny (model P w) (A.deeper (envOfC qual scope s.heap.objs.size f cd)) (leaving (envOfC qual scope s.heap.objs.size f cd) e) (fun _ s'' => CX outer H s E e s'') (fun e' s'' => CX outer H s E e' s'') s'
theorem ji {sc : Scope}{n : Nat}{x : Str}(h : sc.names.lookup x=some .cell) : ∃ c, (cellsFrom n sc.names []).lookup x=some c := by
  have q := A3 sc.names n [] (.inl h)
  exact AF.mp q
theorem kI {CX : CXT}{P : Program}{w : World}{K : PySem.W.Frag}{mg : Str → Option Value}{base : Heap}{N ps : List Str}{qual : Str}{scope : Scope}{f : Addr}{cd : Value}{A : Around}{outer : List Env}{s s1 : Shared}{H : Hp}{E : XK}{us : List Value}{vs : List V}
    (S : aF N ps scope) (hd : A.handled=none) (e0 : uw P w K mg base A outer s H) (hl : vs.length=ps.length) (r : aZ vs us)
    (x : InCallC s s.heap.objs.size (bindL (envOfC qual scope s.heap.objs.size f cd).kindOf (ps.zip us) fun _ => none) (cellsFrom (s.heap.objs.size+1) scope.names []) (bindC (envOfC qual scope s.heap.objs.size f cd).kindOf (ps.zip us) fun _ => none) s1) :
    Inv (qj CX P w K mg base N qual scope f cd A outer s H E) [] (start N vs) H s1 := by
  have hpl : ps.length≤N.length := by have := xA List.length S.pre;rw [xo] at this;omega
  obtain ⟨h1, tk, rfl, hk⟩ := x.done
  have noA : ∀ b : Addr, b∉(qj CX P w K mg base N qual scope f cd A outer s H E).ex := fun b z => absurd (show b∈([] : List Addr) from z) (by simp)
  refine ⟨⟨e0.mod, S.kind, rfl, rfl, wZ _, fun y z c h1 h2 => ?_, fun y hy => ?_, fun y c _ h => ?_, fun _ => hd, Around.frames_deeper e0.frames, .inr ⟨rfl, rfl⟩, fun b z => absurd z (noA b), e0.bs, e0.bsz, fun b _ _ => noA b, fun b z => absurd z (noA b), e0.funs, e0.frf⟩,
    rfl, e0.bare, Un.kept hk, ⟨_, x.toInCall.ns, fun i y v h1 h2 h3 => ?_⟩, fun y c h => ⟨_, x.cell y c h⟩, e0.hok.fresh (wZ _), fun y c h => ?_, fun p hp => absurd (show p∈([] : List (Addr × Obj)) from hp) (by simp), e0.hok.kept hk, ?_⟩
  · exact name_of_addr x.apart (yi h1) (yi h2)
  · have hy : scope.names.lookup y=some .cell ∨ scope.names.lookup y=some .free := hy
    rcases hy with hy | hy
    · exact ji hy
    · exact absurd rfl (S.nofree _ (yi hy))
  · exact Bj (x.above y c (yi h))
  · have hi : i < vs.length := by
      unfold start at h2
      by_cases hi : i < vs.length
      · exact hi
      · rw [zh (by simpa using hi)] at h2
        rw [List.getElem?_replicate] at h2
        split at h2 <;> cases h2
    have ha : vs[i]? = some v := by
      unfold start at h2
      rw [yj (by simpa using hi), w_] at h2
      cases e : vs[i]? with
      | none => rw [e] at h2;cases h2
      | some a => rw [e] at h2;cases h2;rfl
    obtain ⟨u, hu, rv⟩ := r.get ha
    have hp : ps[i]? = some y := by
      rw [← S.pre, List.getElem?_take_of_lt (by omega)];exact h1
    have ndP : ps.Nodup := by rw [← S.pre];exact S.nd.sublist (List.take_sublist _ _)
    refine ⟨u, rv, ?_⟩
    rcases S.par y (xc hp) with k | k
    · exact .inl ⟨k, gK ndP hp hu k⟩
    · obtain ⟨c, e⟩ := ji (n := s.heap.objs.size+1) k
      refine .inr ⟨.inl k, c, e, ?_⟩
      have q := x.cell y c e
      rw [gL ndP hp hu (by show scope.names.lookup y≠_;rw [k];decide)] at q
      exact q
  · exact e0.hok.fresh (Bj (x.above y c (yi h)))
  · unfold start
    show _=N.length
    rw [w4, fu, x5]
    omega
theorem uO {CX : CXT}{P : Program}{w : World}{K : PySem.W.Frag}{mg : Str → Option Value}{base : Heap}{k : Nat}{f : Addr}{name qual : Str}{params : Arguments}{body : List Stmt}{scope : Scope}{dV kV doc pm cdv ct oc : Value}{an od : Option Addr}
    {osl : Array (Option Value)} {N ps : List Str} {sp : Sp} (lk : K.lookup f=some ⟨oc, od, .func (PySem.W.fnOf name qual params body scope dV kV doc pm an cdv ct), osl⟩) (hcd : PySem.W.codeIn K cdv qual=true) (S : aF N ps scope)
    (len : ∀ vs H Q E, sp vs H Q E → vs.length=ps.length)
    (hbody : ∀ (A : Around) (outer : List Env) (s : Shared) (H : Hp) (vs : List V) (Q : VK) (E : XK), fv k (A.deeper (envOfC qual scope s.heap.objs.size f cdv)) → sp vs H Q E →
      ∃ t, PSs (qj CX P w K mg base N qual scope f cdv A outer s H E) body t ∧ t { nx := fun _ H' => Q .non H', rt := Q } (start N vs) H) :
    m7 P w K mg base CX (k+1) f (PySem.W.fnOf name qual params body scope dV kV doc pm an cdv ct) ps sp := by
  refine ⟨len, fun A outer s H args us vs Q E hr e0 hb r hsp => ?_⟩
  have hl := len _ _ _ _ hsp
  have KX : K.In s.heap := e0.mod.kin.keeps fun b o e => (e0.bs b o e).1
  have lim : s.heap.NoLimit := e0.mod.nolimit.keeps fun b o e => (e0.bs b o e).1
  have hkind : ∀ y∈ps.zip us, scope.names.lookup y.1=some .local ∨ (scope.names.lookup y.1=some .cell ∧ ((cellsFrom (s.heap.objs.size+1) scope.names []).lookup y.1).isSome=true) := fun ⟨n, v⟩ hy => by
    rcases S.par n (A6 hy).1 with q | q
    · exact .inl q
    · exact .inr ⟨q, A3 _ _ _ (.inl q)⟩
  refine codeAny_call_function hr.depth (KX _ _ lk) rfl S.co S.gen rfl (PySem.W.codeRec_of KX hcd) (hb _ _ _ _ ?_)
  refine wpAny_newFunctionEnv_cells S.kind hkind fun env he s1 x => ?_
  subst he
  refine ⟨lim.keeps x.toInCall.keep, codeAny_func ?_⟩
  obtain ⟨t, ht, hq⟩ := hbody A outer s H vs Q E (hr.deeper _) hsp
  have I : Inv (qj CX P w K mg base N qual scope f cdv A outer s H E) [] (start N vs) H s1 := kI S hr.hd e0 hl r x
  refine yr (ht [] s1 (start N vs) H _ I hq) (fun fl s' hs => ?_) fun e s' hs => hs
  have fin : ∀ {σ' : St} {H' : Hp} {v : V} {u : Value}, Inv (qj CX P w K mg base N qual scope f cdv A outer s H E) [] σ' H' s' → bz v u → Q v H' → CE outer P w H s Q u s' :=
    fun {σ' H' v u} J rv q => ⟨v, H', J.os, J.bare, J.base, J.hok, rv, q⟩
  cases fl with
  | ret u =>
    obtain ⟨v, σ', H', J, rv, q⟩ := hs
    exact fin J rv q
  | next =>
    obtain ⟨σ', H', J, q⟩ := hs
    exact fin (v := V.non) (u := Value.none) J rfl q
  | brk =>
    obtain ⟨_, _, _, q⟩ := hs
    exact False.elim q
  | cont =>
    obtain ⟨_, _, _, q⟩ := hs
    exact False.elim q
section
variable {X : Cx} {x : Str} {p pos : Pos} {e : Expr} {es : List Expr} {t : TA} {id T : String} {r : List V → Hp → VK → Prop}
def su (r : List V → Hp → VK → Prop)(Q : VK) : List V → Hp → Prop := fun vs H1 => r vs H1 Q
def tCB (r : List V → Hp → VK → Prop)(t : TA) : TE := fun σ H Q => t σ H (su r Q)
theorem ar (hc : cG X (.builtin id) r)(hg : Gl X x)(hm : X.mg x=none)(hv : bootBuiltins x=some (.builtin id))(ha : PA X (e::es) t)(hn : x ≠ "__name__" := by decide)(hdb : (x == ("__debug__" : Str))=false := by decide)
    (he : starEach (e::es) X.env=(false, eval e X.env)::starEach es X.env := by rfl) (hpl : (backTo pos (starEach es X.env)).any (·.1)=false := by rfl) : PE X (.Call (.Name x p) (e::es) [] pos) (tCB r t) := by
  intro pins s σ H Q I h
  refine Au (dS I hg hm hv ?_ hn hdb)
  exact PyProof.Rows.callWith_builtin1 (thn (ha pos pins s σ H _ I h) fun us s1 zq60 => (by obtain ⟨vs, H1, I1, r1, q1⟩ := zq60;exact hc pins s1 σ H1 vs us Q I1 r1 q1)) he hpl
theorem aX (hc : cG X (.type T) r)(hg : Gl X x)(hm : X.mg x=none)(hv : bootBuiltins x=some (.type T))(ha : PA X (e::es) t)(hn : x ≠ "__name__" := by decide)(hdb : (x == ("__debug__" : Str))=false := by decide)
    (he : starEach (e::es) X.env=(false, eval e X.env)::starEach es X.env := by rfl) (hpl : (backTo pos (starEach es X.env)).any (·.1)=false := by rfl) : PE X (.Call (.Name x p) (e::es) [] pos) (tCB r t) := by
  intro pins s σ H Q I h
  refine Au (dS I hg hm hv ?_ hn hdb)
  exact x4 (thn (ha pos pins s σ H _ I h) fun us s1 zq61 => (by obtain ⟨vs, H1, I1, r1, q1⟩ := zq61;exact hc pins s1 σ H1 vs us Q I1 r1 q1)) he hpl
end
end L2
namespace HT
open PySem PyProof.Rows
section
open PySem.SeqAt
open PySem.AutoSeq1 (wpAny_loadPart')
open PySem.MeetsSeq PySem.MeetsSeq2 PySem.MeetsSeq3
end
section
variable {prog : Program} {w : World} {A : Around} {E : Value → Shared → Prop} {s : Shared}
theorem qk {t b : Addr}{vs ws : List Value}{Q : Value → Shared → Prop}(ht : IsTup s.heap t vs.toArray)(hb : IsTup s.heap b ws.toArray)(hv : vs≠[])
    (h1 : ws=[] → Q (.ref t) s) (h2 : ws≠[] → Q (.ref s.heap.objs.size) { s with heap := s.heap.push { cls := .type "tuple", data := .seq (vs++ws).toArray } })
    (hsz : vs.length+ws.length≤sizeLine) : wpAny (model prog w) A (binaryOp .Add (.ref t) (.ref b)) Q E s := by
  obtain ⟨⟨cls, dd, data, sl⟩, ho, hc, n, hd⟩ := id ht
  obtain ⟨⟨cls2, dd2, data2, sl2⟩, ho2, hc2, n2, hd2⟩ := id hb
  simp only at hc hd hc2 hd2
  subst hc hd hc2 hd2
  have e : vs.toArray++ws.toArray=(vs++ws).toArray := by simp
  by_cases hw : ws=[]
  · exact concat_meets ⟨_, ho, rfl⟩ ⟨_, ho2, rfl⟩ AZ seq_tuple_add zG zu (zp _ _)
      (tuple_addW1 t b vs.toArray ws.toArray n n2 dd dd2 sl sl2 (by simpa using hv) (by simp [hw])) ⟨ho, ho2, h1 hw⟩
  · refine concat_meets ⟨_, ho, rfl⟩ ⟨_, ho2, rfl⟩ AZ seq_tuple_add zG zu (zp _ _)
      (tuple_addW2 t b vs.toArray ws.toArray n n2 dd dd2 sl sl2 (by simpa using hv) (by simpa using hw) (by rw [xa, xa];exact hsz)) ⟨ho, ho2, ?_⟩
    rw [e]
    exact h2 hw
def sIx (n d : Nat) : Option Int → Nat
  | none => d
  | some v => if v < 0 then (v+(n : Int)).toNat else min v.toNat n
theorem da (n d : Nat) : sIx n d none=d := rfl
theorem cJ (n d k : Nat) : sIx n d (some (k : Int))=min k n := by
  show (if (k : Int) < 0 then ((k : Int)+(n : Int)).toNat else min (k : Int).toNat n)=min k n
  rw [if_neg (by omega), xB]
theorem kJ (n d : Nat)(hd : d≤n)(o : Option Int) : sIx n d o≤n := by
  cases o with
  | none => exact hd
  | some v =>
    show (if v < 0 then (v+(n : Int)).toNat else min v.toNat n)≤n
    by_cases hv : v < 0
    · rw [if_pos hv];omega
    · rw [if_neg hv];exact Nat.min_le_right _ _
theorem kK (v : Int)(n d : Nat) : (if v < 0 then max (v+(n : Int)) 0 else min v (n : Int))=((sIx n d (some v) : Nat) : Int) := by
  show (if v < 0 then max (v+(n : Int)) 0 else min v (n : Int))=(((if v < 0 then (v+(n : Int)).toNat else min v.toNat n) : Nat) : Int)
  by_cases hv : v < 0
  · simp only [if_pos hv];omega
  · simp only [if_neg hv];omega
theorem jV (lo hi : Option Int)(n : Nat) : Builtin.Slice.sliceAdjust lo hi 1 (n : Int)=(((sIx n 0 lo : Nat) : Int), ((sIx n n hi : Nat) : Int)) := by
  have h1 : ¬ ((1 : Int) < 0) := by omega
  unfold Builtin.Slice.sliceAdjust
  simp only [h1, Be]
  refine Bn ?_ ?_
  · cases lo with
    | none => rfl
    | some v => exact kK v n 0
  · cases hi with
    | none => rfl
    | some v => exact kK v n n
theorem jW (i j : Nat) : Builtin.Slice.slicePlaces (i : Int) (j : Int) 1=j - i := by
  unfold Builtin.Slice.slicePlaces
  have h1 : (1 : Int) > 0 := by omega
  simp only [h1, A7, Int.ediv_one]
  split <;> omega
theorem fw {v : Value}{o : Option Int}{Q : Option Int → Shared → Prop}(p : IsPart v o)(h : Q o s) : wpAny (model prog w) A (Builtin.Slice.slicePartIndex v) Q E s := by
  cases p with
  | none => exact AA h
  | int i t => exact slicePart_int h
theorem cE {sl : Addr}{vl vu : Value}{lo hi : Option Int}{n : Nat}{Q : Int × Int × Nat → Shared → Prop}(hs : s.heap.IsSliceOf sl vl vu .none)(pl : IsPart vl lo)(pu : IsPart vu hi)
    (h : Q (((sIx n 0 lo : Nat) : Int), 1, sIx n n hi - sIx n 0 lo) s) : wpAny (model prog w) A (Builtin.Slice.sliceApplied (.ref sl) (pure (n : Int))) Q E s := by
  obtain ⟨os, hos, hcs, hds⟩ := id hs
  unfold Builtin.Slice.sliceApplied Builtin.Slice.sliceFields
  refine wX (wX (x_ hos hds (x := vl) rfl (wX (x_ hos hds (x := vu) rfl (wX (x_ hos hds (x := .none) rfl (w6 ?_)))))))
  refine wX (AA ?_)
  show wpAny _ _ (if ((1 : Int) == 0)=true then _ else _) _ _ s
  rw [if_neg (by decide)]
  refine wX (fw pl (wX (fw pu (wX (w6 ?_)))))
  show wpAny _ _ (match Builtin.Slice.sliceAdjust lo hi 1 (n : Int) with | (lo, hi) => pure (lo, (1 : Int), Builtin.Slice.slicePlaces lo hi 1)) _ _ s
  rw [jV lo hi n]
  show wpAny _ _ (pure (((sIx n 0 lo : Nat) : Int), (1 : Int), Builtin.Slice.slicePlaces ((sIx n 0 lo : Nat) : Int) ((sIx n n hi : Nat) : Int) 1)) _ _ s
  rw [jW]
  exact w6 h
theorem nE (xs : Array Value)(i k : Nat) : ((List.range k).filterMap fun (m : Nat) => xs[((i : Int)+(m : Int)*1).toNat]?).toArray=((xs.toList.drop i).take k).toArray := by
  have e : (fun (m : Nat) => xs[((i : Int)+(m : Int)*1).toNat]?)=fun m => xs[i+m]? := by
    funext m
    have : ((i : Int)+(m : Int)*1).toNat=i+m := by omega
    rw [this]
  rw [e]
  have := pick_run xs i k
  rw [List.filterMap_map] at this
  have e2 : ((fun x => xs[x]?) ∘ fun x => i+x)=fun m => xs[i+m]? := rfl
  rw [e2] at this
  rw [this]
theorem dG {t sl : Addr}{items : Array Value}{vl vu : Value}{lo hi : Option Int}{Q : Value → Shared → Prop}(ht : IsTup s.heap t items)(hs : s.heap.IsSliceOf sl vl vu .none)(pl : IsPart vl lo)(pu : IsPart vu hi)
    (hw : ¬ (sIx items.size 0 lo=0 ∧ sIx items.size items.size hi=items.size))
    (h : Q (.ref s.heap.objs.size) { s with heap := s.heap.push { cls := .type "tuple", data := .seq ((items.toList.drop (sIx items.size 0 lo)).take (sIx items.size items.size hi - sIx items.size 0 lo)).toArray } })
    (hsz : items.size≤sizeLine) : wpAny (model prog w) A (getItem (.ref t) (.ref sl)) Q E s := by
  have htake : sizeOk (.seq ((items.toList.drop (sIx items.size 0 lo)).take (sIx items.size items.size hi - sIx items.size 0 lo)).toArray) := by
    show ((items.toList.drop (sIx items.size 0 lo)).take (sIx items.size items.size hi - sIx items.size 0 lo)).toArray.size≤sizeLine
    rw [xa, xo, xX, yh]
    omega
  have hj : sIx items.size items.size hi≤items.size := kJ _ _ (wZ _) hi
  obtain ⟨os, hos, hcs, hds⟩ := id hs
  have hTs : s.TypeIs (.ref sl) "slice" := ⟨os, hos, hcs⟩
  unfold getItem
  try with_reducible refine yQ ?_
  first | refine wX (w6 ?_) | skip
  refine wX (AG ht.typeIs (by decide) ?_)
  refine wX (xJ (name := Str.ofString "__getitem__") ht.typeIs xT
    (xS xT ht.typeIs Al ?_ (Av _ _)))
  show wpAny _ _ (Builtin.Tuple.tupleItemsOf (.ref t) >>= _) _ _ s
  refine wX (tupleItemsOf_ ht ?_)
  refine wX (A8 hTs ?_)
  rw [if_pos (by decide)]
  refine wX (cE hs pl pu ?_)
  have hno : ¬ ((((sIx items.size 0 lo : Nat) : Int) == 0 && (1 : Int) == 1 && (sIx items.size items.size hi - sIx items.size 0 lo) == items.size)=true) := by
    intro q
    rw [xp, xp] at q
    have q1 : ((sIx items.size 0 lo : Nat) : Int)=0 := eq_of_beq q.1.1
    have q2 : sIx items.size items.size hi - sIx items.size 0 lo=items.size := eq_of_beq q.2
    exact hw ⟨by omega, by omega⟩
  show wpAny _ _ (if (((sIx items.size 0 lo : Nat) : Int) == 0 && (1 : Int) == 1 && (sIx items.size items.size hi - sIx items.size 0 lo) == items.size)=true then _ else _) _ _ s
  rw [if_neg hno, nE]
  first
    | exact wX (m := Builtin.Tuple.tupleExact _) (xO (w6 ⟨_, rfl, w6 h⟩) htake)
    | exact wX (m := Builtin.Tuple.tupleExact _) (xO (wX (w6 (w6 ⟨_, rfl, w6 h⟩))) htake)
    | exact wX (wX (m := Builtin.Tuple.tupleExact _) (xO (w6 (w6 ⟨_, rfl, w6 h⟩)) htake))
    | exact wX (wX (m := Builtin.Tuple.tupleExact _) (xO (w6 ⟨_, rfl, w6 h⟩) htake))
end
end HT
namespace L2
open PySem PySem.Spec PyProof.Rows
abbrev TO := St → Hp → (Option Int → Hp → Prop) → Prop
def PO (X : Cx)(e : Option Expr)(t : TO) : Prop :=
  ∀ (pins : List (Addr × Obj)) (s : Shared) (σ : St) (H : Hp) (Q : Option Int → Hp → Prop), Inv X pins σ H s → t σ H Q →
    wpAny (model X.prog X.w) X.A (evalPart e X.env) (fun u s' => ∃ o H', Inv X pins σ H' s' ∧ IsPart u o ∧ Q o H') X.xe s
def ql : TO := fun _ H Q => Q none H
inductive IsI (x : V)(H : Hp)(Q : Option Int → Hp → Prop) : Prop
  | mk : ∀ i, (x = .int i) → (Q (some i) H) → IsI x H Q
def nF (Q : (Option Int → Hp → Prop)) : V → Hp → Prop := fun x H1 => IsI x H1 Q
def uP (t : TE) : TO := fun σ H Q => t σ H (nF Q)
section
variable {X : Cx} {e : Expr} {te : TE} {lo hi : Option Expr} {tl th : TO} {pos p2 : Pos}
theorem bf : PO X none ql := by
  intro pins s σ H Q I h
  rw [AQ]
  exact w6 ⟨none, H, I, .none, h⟩
theorem aV (h : PE X e te) : PO X (some e) (uP te) := by
  intro pins s σ H Q I hw
  rw [evalPart_some]
  refine thn (h pins s σ H _ I hw) fun u s1 zq62 => ?_
  obtain ⟨x, H1, I1, r1, q1⟩ := zq62
  obtain ⟨i, rfl, q⟩ := q1
  obtain ⟨t, rfl⟩ := r1
  exact ⟨some i, H1, I1, .int i t, q⟩
def SlR (X : Cx)(r : V → Option Int → Option Int → Hp → VK → Prop) : Prop :=
  ∀ (pins : List (Addr × Obj)) (s : Shared) (σ : St) (H : Hp) (x : V) (v vl vu : Value) (lo hi : Option Int) (sl : Addr) (Q : VK), Inv X pins σ H s → bz x v → s.heap.IsSliceOf sl vl vu .none → IsPart vl lo → IsPart vu hi → r x lo hi H Q →
    ∃ T id, typeLookup (.type T) "__getitem__" = pure (some (.builtin id)) ∧ s.TypeIs v T ∧ wpAny (model X.prog X.w) X.A (getItem v (.ref sl)) (EP X pins σ Q) X.xe s
def sx (r : V → Option Int → Option Int → Hp → VK → Prop)(Q : VK)(x : V)(l : Option Int) : Option Int → Hp → Prop := fun u H3 => r x l u H3 Q
def sy (r : V → Option Int → Option Int → Hp → VK → Prop)(th : TO)(σ : St)(Q : VK)(x : V) : Option Int → Hp → Prop := fun l H2 => th σ H2 (sx r Q x l)
def sA (r : V → Option Int → Option Int → Hp → VK → Prop)(tl : TO)(th : TO)(σ : St)(Q : VK) : V → Hp → Prop := fun x H1 => tl σ H1 (sy r th σ Q x)
def tSl (r : V → Option Int → Option Int → Hp → VK → Prop)(te : TE)(tl th : TO) : TE := fun σ H Q => te σ H (sA r tl th σ Q)
theorem aN {r : V → Option Int → Option Int → Hp → VK → Prop}(hr : SlR X r)(he : PE X e te)(hl : PO X lo tl)(hu : PO X hi th) : PE X (.Subscript e (.Slice lo hi none p2) pos) (tSl r te tl th) := by
  intro pins s σ H Q I h
  refine AH (thn (he pins s σ H _ I h) fun v s1 zq63 => ?_)
  obtain ⟨x, H1, I1, r1, q1⟩ := zq63
  refine wpAny_Slice (thn (hl pins s1 σ H1 _ I1 q1) fun vl s2 ⟨l, H2, I2, pl, q2⟩ => thn (hu pins s2 σ H2 _ I2 q2) fun vu s3 zq64 => ?_)
  obtain ⟨u, H3, I3, pu, q3⟩ := zq64
  rw [AQ]
  refine w6 ?_
  have I4 : Inv X pins σ H3 { s3 with heap := s3.heap.push { cls := .type "slice", data := .fields #[vl, vu, .none] } } := I3.kept (t' := s3.toks) fun b ob q => w5 _ q
  obtain ⟨T, id, hT, ht, hg⟩ := hr pins { s3 with heap := s3.heap.push { cls := .type "slice", data := .fields #[vl, vu, .none] } } σ H3 x v vl vu l u s3.heap.objs.size Q I4 r1 (Heap.IsSliceOf.new ..) pl pu q3
  show wpAny (model X.prog X.w) X.A (subscriptTail e (.Slice lo hi none p2) v (.ref s3.heap.objs.size)) (EP X pins σ Q) X.xe { s3 with heap := s3.heap.push { cls := .type "slice", data := .fields #[vl, vu, .none] } }
  exact tail_any (ops := [.ref s3.heap.objs.size, v]) ht hT hg (by with_unfolding_all rfl)
def d3 (xs : List V)(lo hi : Option Int) : List V := (xs.drop (HT.sIx xs.length 0 lo)).take (HT.sIx xs.length xs.length hi - HT.sIx xs.length 0 lo)
theorem eL (xs : List V)(lo hi : Option Int) : (d3 xs lo hi).length≤xs.length := by
  unfold d3
  rw [xo, xX]
  omega
inductive vP (K : PySem.W.Frag)(x : V)(lo : Option Int)(hi : Option Int)(H : Hp)(Q : VK) : Prop
  | mk : ∀ a xs, (x = .ref a) → (SqT K H a xs) → (¬ (HT.sIx xs.length 0 lo=0 ∧ HT.sIx xs.length xs.length hi=xs.length)) → (∀ p, H p=none → Q (.ref p) (upd H p (.tup (d3 xs lo hi)))) → vP K x lo hi H Q
theorem sC : SlR X (vP X.K) := by
  intro pins s σ H x v vl vu lo hi sl Q I rx hs pl pu h
  obtain ⟨a, xs, rfl, hx, hw, q⟩ := h
  cases rx
  obtain ⟨its, r, ht, hz⟩ := I.tuple hx
  have hlen : its.toArray.size=xs.length := by rw [xa];exact r.length.symm
  refine ⟨"tuple", _, xT.lookup, ht.typeIs, ?_⟩
  refine HT.dG ht hs pl pu (by rw [hlen];exact hw) ?_ (by rw [hlen];exact hz)
  rw [hlen]
  refine ⟨.ref s.heap.objs.size, _, I.laid (t' := s.toks) (o := .tup (d3 xs lo hi)) (fun b ob q => w5 _ q) (wZ _) ?_, rfl, q _ (I.hok.fresh (wZ _))⟩
  exact ⟨xH (eL xs lo hi) hz, _, (r.drop (HT.sIx xs.length 0 lo)).take (HT.sIx xs.length xs.length hi - HT.sIx xs.length 0 lo), IsTup.new _ _, .new _ _ rfl⟩
inductive sD (K : PySem.W.Frag)(x : V)(y : V)(H : Hp)(Q : VK) : Prop
  | mk : ∀ a b xs ys, (x = .ref a) → (y = .ref b) → (SqT K H a xs) → (SqT K H b ys) → (xs≠[]) → (xs.length+ys.length≤sizeLine) → ((ys=[] → Q (.ref a) H)) → ((ys≠[] → ∀ p, H p=none → Q (.ref p) (upd H p (.tup (xs++ys))))) → sD K x y H Q
theorem aZ.nil_iff {xs : List V}{us : List Value}(r : aZ xs us) : us=[] ↔ xs=[] := by
  cases r with
  | nil => simp
  | cons _ _ => simp
theorem qo : OpR X (binaryOp .Add) (sD X.K) := by
  intro pins s σ H x y v u Q I rx ry h
  obtain ⟨a, b, xs, ys, rfl, rfl, ha, hb, hx, hz, q1, q2⟩ := h
  cases rx
  cases ry
  obtain ⟨its, r1, p1, _⟩ := I.tuple ha
  obtain ⟨its2, r2, p2, _⟩ := I.tuple hb
  refine HT.qk p1 p2 (fun z => hx (r1.nil_iff.mp z)) (fun z => ⟨.ref a, H, I, rfl, q1 (r2.nil_iff.mp z)⟩) (fun z => ?_) (by rw [← r1.length, ← r2.length];exact hz)
  refine ⟨.ref s.heap.objs.size, _, I.laid (t' := s.toks) (o := .tup (xs++ys)) (fun b ob q => w5 _ q) (wZ _) ?_, rfl, q2 (fun w => z (r2.nil_iff.mpr w)) _ (I.hok.fresh (wZ _))⟩
  exact ⟨by rw [w4];exact hz, _, r1.append r2, IsTup.new _ _, .new _ _ rfl⟩
end
def ixN (n : Nat)(i : Int) : Option Nat := if 0≤i then (if i < n then some i.toNat else none) else if -(n : Int)≤i then some (i+n).toNat else none
def atI {α : Type}(xs : List α)(i : Int) : Option α := (ixN xs.length i).bind fun j => xs[j]?
theorem kL {n : Nat}{i : Int}{j : Nat}(h : ixN n i=some j) : seqIndex? i n=some j ∧ j < n ∧ -(n : Int)≤i ∧ i < n := by
  unfold ixN at h
  by_cases h0 : 0≤i
  · rw [if_pos h0] at h
    by_cases h1 : i < n
    · rw [if_pos h1] at h
      have e : i.toNat=j := xb h
      exact ⟨by rw [seqIndex_of h0 h1, e], by omega, by omega, h1⟩
    · rw [if_neg h1] at h;cases h
  · rw [if_neg h0] at h
    by_cases h1 : -(n : Int)≤i
    · rw [if_pos h1] at h
      have e : (i+n).toNat=j := xb h
      exact ⟨by rw [seqIndex_neg (by omega) h1, e], by omega, h1, by omega⟩
    · rw [if_neg h1] at h;cases h
theorem iH {α : Type}{xs : List α}{i : Int}{v : α}(h : atI xs i=some v) : ∃ j, seqIndex? i xs.length=some j ∧ xs[j]? = some v ∧ j < xs.length ∧ -(xs.length : Int)≤i ∧ i < xs.length := by
  unfold atI at h
  cases e : ixN xs.length i with
  | none => rw [e] at h;cases h
  | some j =>
    rw [e] at h
    obtain ⟨h1, h2, h3, h4⟩ := kL e
    exact ⟨j, h1, h, h2, h3, h4⟩
theorem bZ {α : Type}{xs : List α}{j : Nat}{v : α}(h : xs[j]? = some v) : atI xs (j : Int)=some v := by
  have hj : j < xs.length := (xh.mp h).1
  have e : ixN xs.length (j : Int)=some j := by
    unfold ixN
    rw [if_pos (by omega), if_pos (by omega)];simp
  unfold atI;rw [e];exact h
theorem jj {α : Type}(xs : List α)(v : α) : atI (xs++[v]) (-1)=some v := by
  have hl : (xs++[v]).length=xs.length+1 := by simp
  have e : ixN (xs++[v]).length (-1)=some xs.length := by
    unfold ixN
    rw [hl, if_neg (by decide), if_pos (by omega)]
    congr 1
    omega
  unfold atI
  rw [e]
  show (xs++[v])[xs.length]? = some v
  simp
def kM (b : Expr) : Prop := ∀ o i, subscripted b false o i=operate [o, i] (getItem o i)
def IxR (X : Cx)(r : R2) : Prop :=
  ∀ (value slice : Expr) (pins : List (Addr × Obj)) (s : Shared) (σ : St) (H : Hp) (x y : V) (v u : Value) (Q : VK), Inv X pins σ H s → bz x v → bz y u → r x y H Q →
    subscripted slice false v u=operate [v, u] (getItem v u) → wpAny (model X.prog X.w) X.A (subscriptTail value slice v u) (EP X pins σ Q) X.xe s
def MtR (X : Cx)(id : String)(r : V → List V → Hp → VK → Prop) : Prop :=
  ∀ (pins : List (Addr × Obj)) (s : Shared) (σ : St) (H : Hp) (x : V) (xs : List V) (v : Value) (us : List Value) (Q : VK), Inv X pins σ H s → bz x v → aZ xs us → r x xs H Q →
    wpAny (model X.prog X.w) X.A (call (.builtin id) (v::us)) (EP X pins σ Q) X.xe s
section
variable {X : Cx} {a b : Expr} {ta tb : TE} {pos : Pos}
theorem aL {r : R2}(hr : IxR X r)(ha : PE X a ta)(hb : PE X b tb)(hs : kM b) : PE X (.Subscript a b pos) (tOp r ta tb) := by
  intro pins s σ H Q I h
  exact AH (uL ha hb I h fun v u s2 x y H2 I2 rx ry q => hr a b pins s2 σ H2 x y v u Q I2 rx ry q (hs _ _))
inductive vQ (K : PySem.W.Frag)(x : V)(y : V)(H : Hp)(Q : VK) : Prop
  | mk : ∀ p xs i v, (x = .ref p) → (y = .int i) → (SqL K H p xs) → (atI xs i=some v) → (Q v H) → vQ K x y H Q
inductive uQ (K : PySem.W.Frag)(x : V)(y : V)(H : Hp)(Q : VK) : Prop
  | mk : ∀ p xs i v, (x = .ref p) → (y = .int i) → (SqT K H p xs) → (atI xs i=some v) → (Q v H) → uQ K x y H Q
inductive vR (x : V)(y : V)(H : Hp)(Q : VK) : Prop
  | mk : ∀ z i c, (x = .str z) → (y = .int i) → (z.length≤sizeLine) → (atI z.cps.toList i=some c) → (Q (.str ⟨#[c]⟩) H) → vR x y H Q
theorem a_ : IxR X (vQ X.K) := by
  intro value slice pins s σ H x y v u Q I rx ry h hs
  obtain ⟨p, xs, i, z, rfl, rfl, hq, he, q⟩ := h
  cases rx
  obtain ⟨t, rfl⟩ := ry
  obtain ⟨its, r, pl, hz⟩ := I.list hq
  obtain ⟨j, h1, h2, h3, h4, h5⟩ := iH he
  obtain ⟨w, ew, rw'⟩ := r.get h2
  have hl := r.length
  have hn := c_
  have fin : EP X pins σ Q w s := ⟨z, H, I, rw', q⟩
  by_cases h0 : 0≤i
  · have hj : i.toNat=j := by
      rw [seqIndex_of h0 h5] at h1
      exact xb h1
    exact item_listR pl.isList h0 (by omega) (by rw [hj];simpa using ew) fin hs
  · have hj : (i+(its.toArray.size : Int)).toNat=j := by
      rw [seqIndex_neg (by omega) h4] at h1
      rw [xa, ← hl]
      exact xb h1
    exact subscriptTail_builtinR (x := w) pl.isList.typeIs slot_list_getitem.lookup
      (wpAny_getItem_list_neg (Q := fun r s' => r=w ∧ EP X pins σ Q r s') pl.isList (by omega) (by rw [xa] <;> omega) (by omega) (by rw [hj];simpa using ew) ⟨rfl, fin⟩) hs
theorem aY : IxR X (uQ X.K) := by
  intro value slice pins s σ H x y v u Q I rx ry h hs
  obtain ⟨p, xs, i, z, rfl, rfl, hq, he, q⟩ := h
  cases rx
  obtain ⟨t, rfl⟩ := ry
  obtain ⟨its, r, pl, hz⟩ := I.tuple hq
  obtain ⟨j, h1, h2, h3, h4, h5⟩ := iH he
  obtain ⟨w, ew, rw'⟩ := r.get h2
  have hl := r.length
  have hn := c_
  have fin : EP X pins σ Q w s := ⟨z, H, I, rw', q⟩
  exact subscriptTail_builtinR (x := w) pl.typeIs slot_tuple_getitem.lookup
    (getItem_tuple (j := j) (Q := fun r s' => r=w ∧ EP X pins σ Q r s') pl (by omega) (by omega) (by rw [xa, ← hl];exact h1) (by simpa using ew) ⟨rfl, fin⟩) hs
theorem d5 : IxR X vR := by
  intro value slice pins s σ H x y v u Q I rx ry h hs
  obtain ⟨z, i, c, rfl, rfl, hz, he, q⟩ := h
  obtain ⟨t, rfl⟩ := rx
  obtain ⟨t', rfl⟩ := ry
  obtain ⟨j, h1, h2, h3, h4, h5⟩ := iH he
  have hl : z.cps.toList.length=z.length := by simp [Str.length]
  rw [hl] at h1 h4 h5
  have hn := c_
  exact tail_any (Ah s z t) slot_str_getitem.lookup (getItem_str (c := c) (by
    have e1 : decide (i < -(2 ^ 63 : Int))=false := xg (by omega)
    have e2 : decide (i≥2 ^ 63)=false := xg (by omega)
    rw [e1, e2, Bf]) (by rw [h1];simpa using h2) ⟨.str ⟨#[c]⟩, H, I.tok _, ⟨_, rfl⟩, q⟩) hs
theorem jX (its : List Value)(n j : Nat)(u : Value) : Obj.mapSeq (·.setIfInBounds j u) { cls := .type "list", data := .seq its.toArray n }={ cls := .type "list", data := .seq (its.set j u).toArray n } := by
  simp [Obj.mapSeq]
theorem Inv.lst {pins : List (Addr × Obj)}{σ : St}{H : Hp}{s : Shared}{p : Addr}{xs : List V}(I : Inv X pins σ H s)(h : H p=some (.lst xs)) :
    ∃ (its : List Value) (n : Nat), aZ xs its ∧ s.heap.get? p=some { cls := .type "list", data := .seq its.toArray n } ∧ xs.length≤sizeLine := by
  obtain ⟨z, its, n, r, e⟩ := I.hok p _ h
  exact ⟨its, n, r, e, z⟩
theorem Inv.lstUpd {pins : List (Addr × Obj)}{σ : St}{H : Hp}{s : Shared}{p : Addr}{xs ys : List V}{its its' : List Value}{n n' : Nat}{f : Obj → Obj}(I : Inv X pins σ H s)(h : H p=some (.lst xs))
    (ho : s.heap.get? p=some { cls := .type "list", data := .seq its.toArray n }) (hf : f { cls := .type "list", data := .seq its.toArray n }={ cls := .type "list", data := .seq its'.toArray n' }) (r : aZ ys its') (hz : ys.length≤sizeLine) (t : Nat) :
    Inv X pins σ (upd H p (.lst ys)) { s with heap := s.heap.update p f, toks := t } := by
  have e : (s.heap.update p f).get? p=some { cls := .type "list", data := .seq its'.toArray n' } := by
    rw [yE f ho (by rw [hf] <;> rfl), hf]
  refine I.write (x := p) (e := p) (by rw [h];trivial) (.inl rfl) (fun b u hb q => (xZ _ _ (Ne.symm hb)).trans q) ⟨_, e⟩ ?_
  exact ⟨hz, its', n', r, e⟩
inductive sE (o : V)(i : V)(v : V)(H : Hp)(Q : (Hp → Prop)) : Prop
  | mk : ∀ p xs k j, (o = .ref p) → (i = .int k) → (H p=some (.lst xs)) → (ixN xs.length k=some j) → (Q (upd H p (.lst (xs.set j v)))) → sE o i v H Q
theorem bD : vL X sE := by
  intro pins s σ H o i v ov iv u Q I ro ri rv h
  obtain ⟨p, xs, k, j, rfl, rfl, hp, hj, q⟩ := h
  cases ro
  obtain ⟨t, rfl⟩ := ri
  obtain ⟨its, n, r, ho, hz⟩ := I.lst hp
  obtain ⟨h1, h2, h3, h4⟩ := kL hj
  have hl := r.length
  have hn := c_
  have I' : Inv X pins σ (upd H p (.lst (xs.set j v))) { s with heap := s.heap.update p (Obj.mapSeq (·.setIfInBounds j u)) } :=
    I.lstUpd hp ho (jX its n j u) (r.set rv j) (by rw [ye];exact hz) s.toks
  by_cases h0 : 0≤k
  · have hk : k.toNat=j := by
      rw [seqIndex_of h0 h4] at h1
      exact xb h1
    exact PySem.W.ki_setAt ho h0 (by omega) (by rw [xa, ← hl];exact h4) (by rw [hk];exact ⟨_, I', q⟩)
  · have hk : (k+(its.toArray.size : Int)).toNat=j := by
      rw [seqIndex_neg (by omega) h3] at h1
      rw [xa, ← hl]
      exact xb h1
    exact PySem.W.ki_setBack ho (by omega) (by rw [xa, ← hl];exact h3) (by omega) (by rw [hk];exact ⟨_, I', q⟩)
theorem gM (lo hi : Option Int)(n : Nat) : (sliceBounds lo hi none n).1=((HT.sIx n 0 lo : Nat) : Int) ∧ (sliceBounds lo hi none n).2.1=((HT.sIx n n hi : Nat) : Int) ∧ (sliceBounds lo hi none n).2.2=1 := by
  refine ⟨?_, ?_, rfl⟩
  · cases lo with
    | none => simp [sliceBounds, HT.sIx]
    | some i =>
      simp only [sliceBounds, HT.sIx, Option.getD_none, show (1 : Int) > 0 by decide, A7]
      by_cases h : i < 0
      · simp only [h, A7] <;> omega
      · simp only [h, Be] <;> omega
  · cases hi with
    | none => simp [sliceBounds, HT.sIx]
    | some i =>
      simp only [sliceBounds, HT.sIx, Option.getD_none, show (1 : Int) > 0 by decide, A7]
      by_cases h : i < 0
      · simp only [h, A7] <;> omega
      · simp only [h, Be] <;> omega
theorem fL (its : List Value)(lo hi : Option Int) : slicePick its.toArray lo hi none=((its.drop (HT.sIx its.length 0 lo)).take (HT.sIx its.length its.length hi - HT.sIx its.length 0 lo)).toArray := by
  obtain ⟨h1, h2, h3⟩ := gM lo hi its.toArray.size
  unfold slicePick
  rw [h1, h2, h3]
  simp only [sliceRange_one, pick_run, xa] <;> rfl
inductive vS (K : PySem.W.Frag)(x : V)(lo : Option Int)(hi : Option Int)(H : Hp)(Q : VK) : Prop
  | mk : ∀ a xs, (x = .ref a) → (SqL K H a xs) → (∀ p, H p=none → Q (.ref p) (upd H p (.lst (d3 xs lo hi)))) → vS K x lo hi H Q
theorem kN : SlR X (vS X.K) := by
  intro pins s σ H x v vl vu lo hi sl Q I rx hs pl pu h
  obtain ⟨a, xs, rfl, hx, q⟩ := h
  cases rx
  obtain ⟨its, r, ht, hz⟩ := I.list hx
  have hlen := r.length
  refine ⟨"list", _, slot_list_getitem.lookup, ht.isList.typeIs, ?_⟩
  refine wpAny_getItem_list_slice ht.isList hs pl pu .none (by simp) ?_ (by rw [xa] <;> omega)
  rw [fL, ← hlen]
  refine ⟨.ref s.heap.objs.size, _, I.laid (t' := s.toks) (o := .lst (d3 xs lo hi)) (fun b ob q => w5 _ q) (wZ _) ?_, rfl, q _ (I.hok.fresh (wZ _))⟩
  exact ⟨xH (eL xs lo hi) hz, _, 0, (r.drop (HT.sIx xs.length 0 lo)).take (HT.sIx xs.length xs.length hi - HT.sIx xs.length 0 lo), xj _ rfl⟩
def qp : V → Bool
  | .non => true
  | .bl _ => true
  | .int _ => true
  | .str _ => true
  | _ => false
inductive b9 (K : PySem.W.Frag)(xs : List V)(H : Hp)(Q : VK) : Prop
  | mk : ∀ p ys, (xs=[.ref p]) → ((SqL K H p ys ∨ SqT K H p ys)) → (Q (.int ys.length) H) → b9 K xs H Q
theorem az : cG X (.builtin "len") (b9 X.K) := by
  intro pins s σ H xs us Q I r h
  obtain ⟨p, ys, rfl, hq, q⟩ := h
  obtain ⟨u, rfl, rx⟩ := cw r
  cases rx
  have hn := c_
  rcases hq with hq | hq
  · obtain ⟨its, r', pl, hz⟩ := I.list hq
    have hlen := r'.length
    exact Calls.call_len_list pl.isList (by simp only [xa] <;> omega) ⟨.int ys.length, H, I.tok _, ⟨s.toks+1, by rw [xa, hlen]⟩, q⟩
  · obtain ⟨its, r', pl, hz⟩ := I.tuple hq
    have hlen := r'.length
    exact len_tuple pl (by simp only [xa] <;> omega) ⟨.int ys.length, H, I.tok _, ⟨s.toks+1, by rw [xa, hlen]⟩, q⟩
inductive cX  (xs : List V)(H : Hp)(Q : VK) : Prop
  | mk : ∀ z, (xs=[.str z]) → (z.length≤sizeLine) → (Q (.int z.length) H) → cX xs H Q
theorem aI : cG X (.builtin "len") cX := by
  intro pins s σ H xs us Q I r h
  obtain ⟨z, rfl, hz, q⟩ := h
  obtain ⟨u, rfl, t, rfl⟩ := cw r
  have hn := c_
  exact len_str (by omega) ⟨.int z.length, H, I.tok _, ⟨_, rfl⟩, q⟩
inductive cY (K : PySem.W.Frag)(xs : List V)(H : Hp)(Q : VK) : Prop
  | mk : ∀ p ys, (xs=[.ref p]) → ((SqL K H p ys ∨ SqT K H p ys)) → (∀ l, H l=none → Q (.ref l) (upd H l (.lst ys))) → cY K xs H Q
theorem cK : cG X (.type "list") (cY X.K) := by
  intro pins s σ H xs us Q I r h
  obtain ⟨p, ys, rfl, hq, q⟩ := h
  obtain ⟨u, rfl, rx⟩ := cw r
  cases rx
  have fin : ∀ (its : List Value), aZ ys its → ys.length≤sizeLine → ∀ (h' : Heap) (c' : Nat), (∀ b o', s.heap.get? b=some o' → h'.get? b=some o') →
      h'.get? s.heap.objs.size=some { cls := .type "list", dict := none, data := .seq its.toArray c', slots := #[] } → EP X pins σ Q (.ref s.heap.objs.size) { s with heap := h' } := fun its r' hz h' c' kp e =>
    ⟨.ref s.heap.objs.size, _, I.laid (t' := s.toks) kp (wZ _) (show bg X.prog X.w _ h' _ (.lst ys) from ⟨hz, its, c', r', e⟩), rfl, q _ (I.hok.fresh (wZ _))⟩
  rcases hq with hq | hq
  · obtain ⟨its, r', pl, hz⟩ := I.list hq
    have hlen := r'.length
    obtain ⟨o, ho, hc, n, hd⟩ := pl.isList
    exact call_list_seq p (.inl rfl) ho hc hd (fun h' c' kp e => fin its r' hz h' c' kp e) (by simp only [xa] <;> omega)
  · obtain ⟨its, r', pl, hz⟩ := I.tuple hq
    have hlen := r'.length
    obtain ⟨o, ho, hc, n, hd⟩ := pl
    exact call_list_seq p (.inr rfl) ho hc hd (fun h' c' kp e => fin its r' hz h' c' kp e) (by simp only [xa] <;> omega)
inductive bR (K : PySem.W.Frag)(xs : List V)(H : Hp)(Q : VK) : Prop
  | mk : ∀ p ys, (xs=[.ref p]) → (((SqL K H p ys ∧ ∀ l, H l=none → Q (.ref l) (upd H l (.tup ys))) ∨ (SqT K H p ys ∧ Q (.ref p) H))) → bR K xs H Q
theorem aP : cG X (.type "tuple") (bR X.K) := by
  intro pins s σ H xs us Q I r h
  obtain ⟨p, ys, rfl, h⟩ := h
  obtain ⟨u, rfl, rx⟩ := cw r
  cases rx
  rcases h with ⟨hq, q⟩ | ⟨hq, q⟩
  · obtain ⟨its, r', pl, hz⟩ := I.list hq
    have hlen := r'.length
    refine call_tuple_list pl.isList (fun h' kp => ?_) (by simp only [xa] <;> omega)
    have I1 : Inv X pins σ H { s with heap := h' } := I.kept (t' := s.toks) kp
    have I2 : Inv X pins σ (upd H h'.objs.size (.tup ys)) { s with heap := h'.push { cls := .type "tuple", data := .seq its.toArray } } :=
      I1.laid (t' := s.toks) (fun b o e => w5 _ e) (wZ _) (show bg X.prog X.w _ _ _ (.tup ys) from ⟨hz, its, r', IsTup.new _ _, .new _ _ rfl⟩)
    exact ⟨.ref h'.objs.size, _, I2, rfl, q _ (I1.hok.fresh (wZ _))⟩
  · obtain ⟨its, r', pl, hz⟩ := I.tuple hq
    exact call_tuple_same pl ⟨.ref p, H, I, rfl, q⟩
def tyV (K : PySem.W.Frag)(T : String)(x : V)(H : Hp) : Prop := match x with
  | .str _ => T = "str"
  | .int _ => T = "int"
  | .ref p => (T = "list" ∧ ∃ xs, SqL K H p xs) ∨ (T = "tuple" ∧ ((∃ o, K.lookup p=some o ∧ o.cls = .type "tuple" ∧ o.dict=none) ∨ ∃ xs, H p=some (.tup xs))) ∨
      (T = "dict" ∧ ((∃ kvs, H p=some (.dK kvs)) ∨ ∃ kvs, H p=some (.dT kvs))) ∨ (T = "set" ∧ ∃ S n, H p=some (.set S n))
  | _ => False
theorem pq {pins : List (Addr × Obj)}{σ : St}{H : Hp}{s : Shared}{T : String}{x : V}{v : Value}(I : Inv X pins σ H s)(r : bz x v)(ty : tyV X.K T x H) :
    s.TypeIs v T ∧ ∀ a, v = .ref a → ∃ ob, s.heap.get? a=some ob ∧ ob.dict=none := by
  cases x with
  | str z =>
    obtain ⟨t, rfl⟩ := r
    cases (show T = "str" from ty)
    exact ⟨Ah s z t, fun _ e => nomatch e⟩
  | int i =>
    obtain ⟨t, rfl⟩ := r
    cases (show T = "int" from ty)
    exact ⟨typeIs_int s i t, fun _ e => nomatch e⟩
  | ref p =>
    cases r
    rcases ty with ⟨rfl, xs, hq⟩ | ⟨rfl, ⟨o, hk, hc, hd⟩ | ⟨xs, hk⟩⟩ | ⟨rfl, hk⟩ | ⟨rfl, S, n, hk⟩
    · obtain ⟨its, _, pl, _⟩ := I.list hq
      refine ⟨pl.isList.typeIs, fun a e => ?_⟩
      cases e
      obtain ⟨o, n, e, c, hd, _⟩ := pl
      exact ⟨o, e, hd⟩
    · refine ⟨⟨o, I.kIn p o hk, hc⟩, fun a e => ?_⟩
      cases e
      exact ⟨o, I.kIn _ o hk, hd⟩
    · obtain ⟨_, _, _, ⟨o, e, hc, _⟩, hn⟩ := I.hok p _ hk
      refine ⟨⟨o, e, hc⟩, fun a e => ?_⟩
      cases e
      exact hn
    · have z : ∃ o, s.heap.get? p=some o ∧ o.ExactDict := by
        rcases hk with ⟨kvs, hk⟩ | ⟨kvs, hk⟩
        · obtain ⟨_, _, _, _, o, _, _, e, ex, _⟩ := I.hok p _ hk
          exact ⟨o, e, ex⟩
        · obtain ⟨_, _, _, _, o, _, _, e, ex, _⟩ := I.hok p _ hk
          exact ⟨o, e, ex⟩
      obtain ⟨o, e, ex⟩ := z
      refine ⟨⟨o, e, ex.1⟩, fun a e2 => ?_⟩
      cases e2
      exact ⟨o, e, ex.2.1⟩
    · obtain ⟨o, _, _, _, e, ex, _⟩ := I.hok p _ hk
      refine ⟨⟨o, e, ex.1⟩, fun a e2 => ?_⟩
      cases e2
      exact ⟨o, e, ex.2.1⟩
  | _ => exact False.elim ty
def qq (K : PySem.W.Frag)(T : String)(r : V → List V → Hp → VK → Prop)(Q : VK) : V → Hp → Prop := fun x H1 => tyV K T x H1 ∧ r x [] H1 Q
def vT (K : PySem.W.Frag)(T : String)(r : V → List V → Hp → VK → Prop)(to : TE) : TE := fun σ H Q => to σ H (qq K T r Q)
def sF (r : V → List V → Hp → VK → Prop)(Q : VK)(x : V) : List V → Hp → Prop := fun xs H2 => r x xs H2 Q
def sG (K : PySem.W.Frag)(T : String)(r : V → List V → Hp → VK → Prop)(t : TA)(σ : St)(Q : VK) : V → Hp → Prop := fun x H1 => tyV K T x H1 ∧ t σ H1 (sF r Q x)
def tBM (K : PySem.W.Frag)(T : String)(r : V → List V → Hp → VK → Prop)(to : TE)(t : TA) : TE := fun σ H Q => to σ H (sG K T r t σ Q)
variable {o e : Expr} {es : List Expr} {to : TE} {t : TA} {name : Str} {apos cpos : Pos} {T id : String} {r : V → List V → Hp → VK → Prop}
theorem eM (pa : PlainAttrs T)(slot : Slot T name id)(hty : typeOf (.builtin id)=pure (.type "method_descriptor"))(hm : MtR X id r)(ho : PE X o to)
    (hbase : attributeBase o name X.env (eval o X.env)=eval o X.env := by rfl) (hline : (apos.endLine == cpos.line)=true := by rfl) : PE X (.Call (.Attribute o name apos) [] [] cpos) (vT X.K T r to) := by
  intro pins s σ H Q I h
  refine wpAny_Call_method0_late hbase hline (thn (ho pins s σ H _ I h) fun v s1 zq65 => ?_)
  obtain ⟨x, H1, I1, r1, ty, q1⟩ := zq65
  obtain ⟨h1, h2⟩ := pq I1 r1 ty
  exact ⟨T, id, pa, slot, hty, h1, h2, zH rfl (PySem.evalArgs_none (hm pins s1 σ H1 x [] v [] Q I1 r1 .nil q1))⟩
theorem bV (pa : PlainAttrs T)(slot : Slot T name id)(hty : typeOf (.builtin id)=pure (.type "method_descriptor"))(hm : MtR X id r)(ho : PE X o to)(ha : PA X (e::es) t)
    (hbase : attributeBase o name X.env (eval o X.env)=eval o X.env := by rfl)
    (hfew : ((backTo cpos (starEach (e::es) X.env)).all (fun x => !x.1) && (backToKw cpos (keywordEach [] X.env)).all (fun x => x.1.isSome)
      && decide ((e::es).length+([] : List Keyword).length+(if ([] : List Keyword).isEmpty then 0 else 1) < 30))=true := by rfl)
    (hline : (apos.endLine == cpos.line)=true := by rfl) (hs : starEach (e::es) X.env=(false, eval e X.env)::starEach es X.env := by rfl) (hplain : (backTo cpos (starEach es X.env)).any (·.1)=false := by rfl) :
    PE X (.Call (.Attribute o name apos) (e::es) [] cpos) (tBM X.K T r to t) := by
  intro pins s σ H Q I h
  refine wpAny_Call_method_late hbase hfew hline rfl (thn (ho pins s σ H _ I h) fun v s1 zq66 => ?_)
  obtain ⟨x, H1, I1, r1, ty, q1⟩ := zq66
  obtain ⟨h1, h2⟩ := pq I1 r1 ty
  refine ⟨T, id, pa, slot, hty, h1, h2, ?_⟩
  have hA := ha cpos pins s1 σ H1 _ I1 q1
  rw [hs] at hA ⊢
  refine zH (by show (false || (backTo cpos (starEach es X.env)).any (·.1))=false;rw [hplain] <;> rfl) (Calls.evalArgs_plain ?_)
  exact thn hA fun us s2 zq67 => (by obtain ⟨vs, H2, I2, r2, q2⟩ := zq67;exact hm pins s2 σ H2 x vs v us Q I2 r1 r2 q2)
/- xs.append(e), list.index on a module's tuple .. are MtR facts of 06m -/
end
def MtM (X : Cx)(id : String)(r : V → List V → Hp → VK → Prop) : Prop :=
  ∀ (pins : List (Addr × Obj)) (s : Shared) (σ : St) (H : Hp) (x : V) (xs : List V) (v : Value) (us : List Value) (Q : VK), Inv X pins σ H s → bz x v → aZ xs us → r x xs H Q →
    wpAny (model X.prog X.w) X.A (call (.builtin id) (v::us)) (EP X pins σ Q) X.xe s
theorem aZ.one : ∀ {x : V} {us : List Value}, aZ [x] us → ∃ u, us=[u] ∧ bz x u
  | _, _, .cons r .nil => ⟨_, rfl, r⟩
theorem aZ.zero : ∀ {us : List Value}, aZ [] us → us=[]
  | _, .nil => rfl
theorem aZ.dropLast {xs : List V}{us : List Value}(h : aZ xs us) : aZ xs.dropLast us.dropLast := by
  induction h with
  | nil => exact .nil
  | cons r t ih =>
    cases t with
    | nil => exact .nil
    | cons q t' => exact .cons r ih
theorem aZ.eraseIdx : ∀ {xs : List V} {us : List Value} (i : Nat), aZ xs us → aZ (xs.eraseIdx i) (us.eraseIdx i)
  | _, _, _, .nil => .nil
  | _, _, 0, .cons _ t => t
  | _, _, i+1, .cons r t => .cons r (aZ.eraseIdx i t)
theorem aZ.reverse {xs : List V}{us : List Value}(h : aZ xs us) : aZ xs.reverse us.reverse := by
  induction h with
  | nil => exact .nil
  | cons r t ih => rw [List.reverse_cons, List.reverse_cons];exact aZ.append ih (.cons r .nil)
theorem aZ.rep {xs : List V}{us : List Value}(h : aZ xs us) : ∀ k : Nat, aZ (List.replicate k xs).flatten (List.replicate k us).flatten
  | 0 => .nil
  | k+1 => by
    rw [x6, x6, zg, zg]
    exact aZ.append h (aZ.rep h k)
theorem jY {α : Type}(l : List α) : l.eraseIdx (l.length - 1)=l.dropLast := by
  induction l with
  | nil => rfl
  | cons a r ih =>
    cases r with
    | nil => rfl
    | cons b r =>
      have e : (a::b::r).length - 1=((b::r).length - 1)+1 := by
        have h1 : (a::b::r).length=r.length+2 := rfl
        have h2 : (b::r).length=r.length+1 := rfl
        omega
      rw [e, zv, ih]
      all_goals rfl
theorem gN {α : Type} : ∀ (l : List α) (i : Nat), (l.eraseIdx i).length≤l.length
  | [], _ => wZ _
  | _::_, 0 => Nat.le_succ _
  | _::r, i+1 => Nat.succ_le_succ (gN r i)
theorem gO (its : List Value) : ∀ (k : Nat) (acc : List Value),
    List.foldl (fun x1 x2 => x1++x2) acc.toArray (List.replicate k its.toArray)=(acc++(List.replicate k its).flatten).toArray
  | 0, acc => by simp
  | k+1, acc => by
    have e : acc.toArray++its.toArray=(acc++its).toArray := by simp
    have e2 : (acc++its)++(List.replicate k its).flatten=acc++(List.replicate (k+1) its).flatten := by
      rw [x6, zg, AI]
    rw [← e2, ← gO its k (acc++its), ← e, x6, zw]
section
variable {X : Cx} {pins : List (Addr × Obj)} {σ : St} {H : Hp} {s : Shared} {l b : Addr} {xs ys zs : List V}
theorem Inv.lset {its its' : List Value}{n : Nat}{f : Array Value → Array Value}{t' : Nat}(I : Inv X pins σ H s)(hH : H l=some (.lst xs))
    (e : s.heap.get? l=some { cls := .type "list", data := .seq its.toArray n }) (hf : f its.toArray=its'.toArray) (hv : aZ ys its') (hz : ys.length≤sizeLine) :
    Inv X pins σ (upd H l (.lst ys)) { s with heap := s.heap.update l (Obj.mapSeq f), toks := t' } := by
  have q := A0 e f
  rw [hf] at q
  refine I.write (x := l) (e := l) (by rw [hH];exact trivial) (.inl rfl) (fun b' u hb hu => (xZ s.heap (Obj.mapSeq f) (Ne.symm hb)).trans hu) ⟨_, q⟩ ?_
  exact ⟨hz, its', _, hv, q⟩
theorem Inv.lnew {its : List Value}{t' : Nat}(I : Inv X pins σ H s)(hv : aZ ys its)(hz : ys.length≤sizeLine) :
    Inv X pins σ (upd H s.heap.objs.size (.lst ys)) { s with heap := s.heap.push { cls := .type "list", data := .seq its.toArray }, toks := t' } :=
  I.laid (fun _ _ q => w5 _ q) (wZ _) ⟨hz, its, 0, hv, xj _ rfl⟩
theorem Inv.fresh (I : Inv X pins σ H s) : H s.heap.objs.size=none := I.hok.fresh (wZ _)
theorem Inv.lstM (I : Inv X pins σ H s)(hH : H l=some (.lst xs)) : xs.length≤sizeLine ∧ ∃ (its : List Value) (n : Nat), aZ xs its ∧ xs.length=its.length ∧ s.heap.get? l=some { cls := .type "list", data := .seq its.toArray n } := by
  obtain ⟨z, its, n, r, e⟩ := I.hok l _ hH
  exact ⟨z, its, n, r, r.length, e⟩
theorem jk {n : Nat}(h : n≤sizeLine) : Builtin.List.listTooLong n=false := by
  unfold Builtin.List.listTooLong
  exact xg (by omega)
end
section
variable {X : Cx}
inductive kO (x : V)(vs : List V)(H : Hp)(Q : VK) : Prop
  | mk : ∀ l xs y, (x = .ref l) → (vs=[y]) → (H l=some (.lst xs)) → (xs.length < sizeLine) → (Q .non (upd H l (.lst (xs++[y])))) → kO x vs H Q
theorem eN : MtM X "list.append" kO := by
  intro pins s σ H x vs v us Q I rx rv h
  obtain ⟨l, xs, y, rfl, rfl, hH, hz, q⟩ := h
  cases rx
  obtain ⟨u, rfl, ru⟩ := rv.one
  obtain ⟨z, its, n, r, hl, e⟩ := I.lstM hH
  refine yV yn ⟨_, e, rfl⟩ Am (Ad _ _) (AJ l its.toArray n u (by rw [xa];omega)) ⟨e, ?_⟩
  refine ⟨.non, _, I.lset (its' := its++[u]) hH e (by simp) (r.append (.cons ru .nil)) ?_, rfl, q⟩
  rw [w4, zW]
  omega
inductive kP (x : V)(vs : List V)(H : Hp)(Q : VK) : Prop
  | mk : ∀ l b xs zs, (x = .ref l) → (vs=[.ref b]) → (H l=some (.lst xs)) → (H b=some (.lst zs)) → (xs.length+zs.length≤sizeLine) → (Q .non (upd H l (.lst (xs++zs)))) → kP x vs H Q
theorem de : MtM X "list.extend" kP := by
  intro pins s σ H x vs v us Q I rx rv h
  obtain ⟨l, b, xs, zs, rfl, rfl, hH, hB, hz, q⟩ := h
  cases rx
  obtain ⟨u, rfl, ru⟩ := rv.one
  cases ru
  obtain ⟨z, its, n, r, hl, e⟩ := I.lstM hH
  obtain ⟨z2, its2, n2, r2, hl2, e2⟩ := I.lstM hB
  have hsz : its.toArray.size+its2.toArray.size≤sizeLine := by rw [xa, xa];omega
  have hlong : ¬ (!its.toArray.isEmpty && Builtin.List.listTooLong (its.toArray.size+its2.toArray.size))=true := by
    rw [jk hsz, AB]
    exact xu
  refine yV F.slot_list_extend ⟨_, e, rfl⟩ F.entry_list_extend (F.args_list_extend_2 _ _)
    (AutoSeq1.list_extend_list_list_0 l its.toArray n b its2.toArray n2 hlong (by rw [xa];omega) (by omega)) ⟨e, e2, ?_⟩
  refine ⟨.non, _, I.lset (its' := its++its2) hH e (by simp) (r.append r2) ?_, rfl, q⟩
  rw [w4]
  omega
inductive vU (x : V)(vs : List V)(H : Hp)(Q : VK) : Prop
  | mk : ∀ l xs y, (x = .ref l) → (vs=[]) → (H l=some (.lst xs)) → (xs[xs.length - 1]? = some y) → (Q y (upd H l (.lst xs.dropLast))) → vU x vs H Q
theorem sH : MtM X "list.pop" vU := by
  intro pins s σ H x vs v us Q I rx rv h
  obtain ⟨l, xs, y, rfl, rfl, hH, hy, q⟩ := h
  cases rx
  have hus := rv.zero
  subst hus
  obtain ⟨z, its, n, r, hl, e⟩ := I.lstM hH
  obtain ⟨u, hu, ru⟩ := r.get hy
  have hy' : its.toArray[its.toArray.size - 1]? = some u := by
    show its.toArray[its.length - 1]? = some u
    rw [← zX, ← hl]
    exact hu
  refine yV F.slot_list_pop ⟨_, e, rfl⟩ F.entry_list_pop (F.args_list_pop_1 _) (MeetsSeq.list_pop_last l its.toArray n u hy' (by rw [xa];omega)) ⟨e, ?_⟩
  refine ⟨y, _, I.lset (its' := its.dropLast) hH e ?_ r.dropLast ?_, ru, q⟩
  · show its.toArray.eraseIdxIfInBounds (its.toArray.size - 1)=its.dropLast.toArray
    rw [xa, zO, jY]
  · rw [List.length_dropLast]
    omega
inductive pw (x : V)(vs : List V)(H : Hp)(Q : VK) : Prop
  | mk : ∀ l xs i k y, (x = .ref l) → (vs=[.int i]) → (H l=some (.lst xs)) → (-(2 ^ 63)≤i) → (i < 2 ^ 63) → (seqIndex? i xs.length=some k) → (xs[k]? = some y) → (Q y (upd H l (.lst (xs.eraseIdx k)))) → pw x vs H Q
theorem jm : MtM X "list.pop" pw := by
  intro pins s σ H x vs v us Q I rx rv h
  obtain ⟨l, xs, i, k, y, rfl, rfl, hH, h1, h2, hk, hy, q⟩ := h
  cases rx
  obtain ⟨u, rfl, ru⟩ := rv.one
  obtain ⟨t, rfl⟩ := ru
  obtain ⟨z, its, n, r, hl, e⟩ := I.lstM hH
  obtain ⟨w, hw, rw'⟩ := r.get hy
  refine yV F.slot_list_pop ⟨_, e, rfl⟩ F.entry_list_pop (F.args_list_pop_2 _ _)
    (MeetsSeq.list_pop_at l its.toArray n i t k w (fitsIndex_both h1 h2) (by rw [xa, ← hl];exact hk) (by rw [← zX];exact hw) (by rw [xa];omega)) ⟨e, ?_⟩
  refine ⟨y, _, I.lset (its' := its.eraseIdx k) hH e ?_ (r.eraseIdx k) ?_, rw', q⟩
  · show its.toArray.eraseIdxIfInBounds k=(its.eraseIdx k).toArray
    rw [zO]
  · have := gN xs k
    omega
inductive jn (x : V)(vs : List V)(H : Hp)(Q : VK) : Prop
  | mk : ∀ l xs, (x = .ref l) → (vs=[]) → (H l=some (.lst xs)) → (Q .non (upd H l (.lst xs.reverse))) → jn x vs H Q
theorem jZ : MtM X "list.reverse" jn := by
  intro pins s σ H x vs v us Q I rx rv h
  obtain ⟨l, xs, rfl, rfl, hH, q⟩ := h
  cases rx
  have hus := rv.zero
  subst hus
  obtain ⟨z, its, n, r, hl, e⟩ := I.lstM hH
  refine yV F.slot_list_reverse ⟨_, e, rfl⟩ F.entry_list_reverse (F.args_list_reverse_1 _) (AutoSeq1.list_reverse_list_0 l its.toArray n (by rw [xa];omega)) ⟨e, ?_⟩
  refine ⟨.non, _, I.lset (its' := its.reverse) hH e (by simp) r.reverse ?_, rfl, q⟩
  rw [xW]
  omega
inductive vV (x : V)(y : V)(H : Hp)(Q : VK) : Prop
  | mk : ∀ l b xs zs, (x = .ref l) → (y = .ref b) → (H l=some (.lst xs)) → (H b=some (.lst zs)) → (xs.length+zs.length≤sizeLine) → (∀ p, H p=none → Q (.ref p) (upd H p (.lst (xs++zs)))) → vV x y H Q
theorem pz : OpR X (binaryOp .Add) vV := by
  intro pins s σ H x y v u Q I rx ry h
  obtain ⟨l, b, xs, zs, rfl, rfl, hH, hB, hz, q⟩ := h
  cases rx
  cases ry
  obtain ⟨z, its, n, r, hl, e⟩ := I.lstM hH
  obtain ⟨z2, its2, n2, r2, hl2, e2⟩ := I.lstM hB
  refine PySem.P.add_list e e2 ?_ (by rw [xa, xa];omega)
  have ea : its.toArray++its2.toArray=(its++its2).toArray := by simp
  rw [ea]
  exact ⟨.ref _, _, I.lnew (t' := s.toks) (r.append r2) (by rw [w4];omega), rfl, q _ I.fresh⟩
inductive vW (x : V)(y : V)(H : Hp)(Q : VK) : Prop
  | mk : ∀ l k xs, (x = .ref l) → (y = .int k) → (H l=some (.lst xs)) → (-(2 ^ 63)≤k) → (k < 2 ^ 63) → (xs.length*k.toNat≤sizeLine) → (∀ p, H p=none → Q (.ref p) (upd H p (.lst (List.replicate k.toNat xs).flatten))) → vW x y H Q
theorem qr {α : Type}(xs : List α)(k : Nat) : (List.replicate k xs).flatten.length=k*xs.length := by
  induction k with
  | zero => simp
  | succ k ih => rw [x6, zg, w4, ih, Bk, Nat.add_comm]
theorem jo : OpR X (binaryOp .Mult) vW := by
  intro pins s σ H x y v u Q I rx ry h
  obtain ⟨l, k, xs, rfl, rfl, hH, h1, h2, hz, q⟩ := h
  cases rx
  obtain ⟨t, rfl⟩ := ry
  obtain ⟨z, its, n, r, hl, e⟩ := I.lstM hH
  have hlen : its.toArray.size*k.toNat≤sizeLine := by rw [xa, ← hl];exact hz
  have hcap : ¬ its.toArray.size*k.toNat > (2 ^ 63 - 1) / 8 := by
    have : (sizeLine : Nat)≤(2 ^ 63 - 1) / 8 := by decide
    omega
  have hfit : ¬ (!Builtin.List.listFitsIndex k)=true := by
    rw [fitsIndex_both h1 h2]
    exact xu
  have hlong : ¬ Builtin.List.listTooLong (its.toArray.size*k.toNat)=true := by
    rw [jk hlen]
    exact xu
  have hnew : List.foldl (fun x1 x2 => x1++x2) #[] (List.replicate (if its.toArray.isEmpty=true then 0 else k.toNat) its.toArray)=(List.replicate k.toNat its).flatten.toArray := by
    have f0 : ∀ m : Nat, List.foldl (fun x1 x2 => x1++x2) #[] (List.replicate m its.toArray)=(List.replicate m its).flatten.toArray := fun m => by
      have := gO its m []
      rw [List.nil_append] at this
      exact this
    rw [f0]
    cases its with
    | nil => simp
    | cons a r' => rw [if_neg (by simp)]
  refine wpAny_binaryOp_repeat_ref (T := "list") (U := "int") (by decide) ⟨_, e, rfl⟩ (fun s' => typeIs_int s' k t) noFill_list_mul F.fills_int_mul F.slot_int_rmul repeat_list F.slot_int_index.lookup
    (yV F.slot_int_rmul (typeIs_int s k t) F.entry_int_rmul (F.args_int_rmul_2 _ _) (int___rmul___int_list k t l its.toArray n)
      ⟨e, rfl, ⟨_, e, rfl⟩, yV F.slot_list_mul ⟨_, e, rfl⟩ F.entry_list_mul (F.args_list_mul_2 _ _) (AutoListH.list___mul___list_int_3 l its.toArray n k t hfit hcap hlong) ⟨e, ?_⟩⟩)
  rw [hnew]
  exact ⟨.ref _, _, I.lnew (t' := s.toks) (r.rep k.toNat) (by rw [qr, Nat.mul_comm];exact hz), rfl, q _ I.fresh⟩
end
section
variable {prog : Program} {w : World} {A : Around} {E : Value → Shared → Prop} {s : Shared}
end
section
variable {X : Cx}
end
section
variable {κ : Type} [DecidableEq κ]
def eO (kvs : List (κ × V))(k : κ) : Option V := (kvs.find? fun kv => decide (kv.1=k)).map (·.2)
def gE (kvs : List (κ × V))(k : κ)(v : V) : List (κ × V) :=
  if (kvs.any fun kv => decide (kv.1=k))=true then kvs.map (fun kv => if kv.1=k then (kv.1, v) else kv) else kvs++[(k, v)]
theorem bE {p : κ × V}{r : List (κ × V)}{k : κ}(e : p.1=k) : eO (p::r) k=some p.2 := by simp [eO, An, e]
theorem bF {p : κ × V}{r : List (κ × V)}{k : κ}(e : ¬ p.1=k) : eO (p::r) k=eO r k := by simp [eO, An, e]
theorem dg (k : κ) : ∀ kvs : List (κ × V), (kvs.any fun kv => decide (kv.1=k))=(eO kvs k).isSome
  | [] => rfl
  | p::r => by
    rw [Bg]
    by_cases e : p.1=k
    · simp only [bE e, xq e, Bool.true_or, Option.isSome_some]
    · rw [bF e, xg e, Bool.false_or];exact dg k r
theorem jq (k j : κ)(y : V) : ∀ kvs : List (κ × V), eO (kvs.map fun kv => if kv.1=k then (kv.1, y) else kv) j=(eO kvs j).map fun x => if j=k then y else x
  | [] => rfl
  | p::r => by
    have ih := jq k j y r
    rw [xv]
    by_cases h : p.1=k
    · rw [if_pos h]
      by_cases e : p.1=j
      · rw [bE (p := (p.1, y)) e, bE e, yA, if_pos (e.symm.trans h)]
      · rw [bF (p := (p.1, y)) e, bF e, ih]
    · rw [if_neg h]
      by_cases e : p.1=j
      · rw [bE (p := p) e, bE e, yA, if_neg (fun z => h (e.trans z))]
      · rw [bF (p := p) e, bF e, ih]
theorem gP (k j : κ)(y : V) : ∀ kvs : List (κ × V), eO kvs k=none → eO (kvs++[(k, y)]) j=if j=k then some y else eO kvs j
  | [], _ => by
    by_cases e : k=j
    · rw [if_pos e.symm];exact bE (p := (k, y)) e
    · rw [if_neg (fun z => e z.symm)];exact bF (p := (k, y)) e
  | p::r, hn => by
    rw [List.cons_append]
    have hk : ¬ p.1=k := fun z => by rw [bE z] at hn;cases hn
    rw [bF hk] at hn
    have ih := gP k j y r hn
    by_cases e : p.1=j
    · rw [bE e, bE e, if_neg (fun z => hk (e.trans z))]
    · rw [bF e, bF e, ih]
theorem nG (kvs : List (κ × V))(k j : κ)(y : V) : eO (gE kvs k y) j=if j=k then some y else eO kvs j := by
  unfold gE
  by_cases a : (kvs.any fun kv => decide (kv.1=k))=true
  · rw [if_pos a, jq]
    rw [dg] at a
    by_cases e : j=k
    · obtain ⟨x, hx⟩ := AF.mp a
      rw [if_pos e, e, hx, yA, if_pos rfl]
    · rw [if_neg e]
      cases eO kvs j with
      | none => rfl
      | some x => rw [yA, if_neg e]
  · rw [if_neg a]
    refine gP k j y kvs ?_
    rw [dg] at a
    cases q : eO kvs k with
    | none => rfl
    | some x => rw [q] at a;exact (a rfl).elim
theorem eP (kvs : List (κ × V))(k : κ)(v : V) : (gE kvs k v).length≤kvs.length+1 := by
  unfold gE
  split
  · rw [fu];omega
  · rw [w4, xM, zx];omega
theorem nH {kvs : List (κ × V)}{k : κ}(v : V)(h : eO kvs k=none) : gE kvs k v=kvs++[(k, v)] := by
  unfold gE
  rw [dg, h]
  exact if_neg (by decide)
theorem p9.isSome_eq {o : Option V}{u : Option Value}(r : p9 o u) : o.isSome=u.isSome := by
  cases o with
  | none => cases u with
    | none => rfl
    | some _ => exact (show False from r).elim
  | some _ => cases u with
    | none => exact (show False from r).elim
    | some _ => rfl
theorem KV.any {kvs : List (κ × V)}{vs : List (κ × Value)}(r : KV kvs vs)(k : κ) : (kvs.any fun kv => decide (kv.1=k))=vs.any fun kv => decide (kv.1=k) := by
  unfold KV at r
  induction r with
  | nil => rfl
  | cons h t ih => rw [Bg, Bg, ih, h.1]
theorem KV.repl {kvs : List (κ × V)}{vs : List (κ × Value)}(r : KV kvs vs)(k : κ){y : V}{u : Value}(ry : bz y u) :
    KV (kvs.map fun kv => if kv.1=k then (kv.1, y) else kv) (vs.map fun kv => if kv.1=k then (kv.1, u) else kv) := by
  unfold KV at r ⊢
  induction r with
  | nil => exact .nil
  | @cons p q ps qs h t ih =>
    rw [xv, xv]
    refine .cons ?_ ih
    obtain ⟨h1, h2⟩ := h
    by_cases e : p.1=k
    · rw [if_pos e, if_pos (h1.symm.trans e)];exact ⟨h1, ry⟩
    · rw [if_neg e, if_neg (fun z => e (h1.trans z))];exact ⟨h1, h2⟩
theorem KV.put {kvs : List (κ × V)}{vs : List (κ × Value)}(r : KV kvs vs)(k : κ){y : V}{u : Value}(ry : bz y u) : KV (gE kvs k y) (stored vs k u) := by
  unfold gE stored
  rw [r.any k]
  by_cases e : (vs.any fun kv => decide (kv.1=k))=true
  · rw [if_pos e, if_pos e];exact r.repl k ry
  · rw [if_neg e, if_neg e];exact Paired.snoc r ⟨rfl, ry⟩
theorem KV.length {kvs : List (κ × V)}{vs : List (κ × Value)}(r : KV kvs vs) : kvs.length=vs.length := zt r
end
theorem sI {P : Program}{w : World}{k : Key}{u : Value}(r : bz (kV k) u) : (bo P w).is k u=true := by
  cases k with
  | inl i => obtain ⟨t, e⟩ := (show ∃ t, u=Value.int i t from r);subst e;exact iA P w i t
  | inr x => obtain ⟨t, e⟩ := (show ∃ t, u=Value.str x t from r);subst e;exact iB P w x t
theorem gQ {P : Program}{w : World} : ∀ {ks : List Key} {us : List Value}, aZ (ks.map kV) us → ItemsAre (bo P w) ks us
  | [], _, r => by rw [Aw] at r;cases r;exact .nil
  | k::ks, _, r => by
    rw [xv] at r
    cases r with
    | cons h t => exact .cons (sI h) (gQ t)
abbrev KT (H : Hp) : List (List Key × V) → List (List Key × Addr × Value) → Prop := Paired fun p q => p.1=q.1 ∧ H q.2.1=some (.tup (p.1.map kV)) ∧ bz p.2 q.2.2
theorem KT.val {H : Hp}{kvs : List (List Key × V)}{xs : List (List Key × Addr × Value)}(r : KT H kvs xs)(k : List Key) : p9 (eO kvs k) ((atKey xs k).map (·.2)) := by
  induction r with
  | nil => exact True.intro
  | @cons p q ps qs h t ih =>
    obtain ⟨h1, _, h2⟩ := h
    by_cases e : p.1=k
    · have e' : q.1=k := h1.symm.trans e
      have b : atKey (q::qs) k=some q.2 := by simp [atKey, An, e']
      rw [bE e, b];exact h2
    · have e' : ¬ q.1=k := fun z => e (h1.trans z)
      have b : atKey (q::qs) k=atKey qs k := by simp [atKey, An, e']
      rw [bF e, b];exact ih
theorem KT.repl {H : Hp}{kvs : List (List Key × V)}{xs : List (List Key × Addr × Value)}(r : KT H kvs xs)(k : List Key){y : V}{u : Value}(ry : bz y u) :
    KT H (kvs.map fun kv => if kv.1=k then (kv.1, y) else kv) (xs.map (putAt k u)) := by
  induction r with
  | nil => exact .nil
  | @cons p q ps qs h t ih =>
    rw [xv, xv]
    refine .cons ?_ ih
    obtain ⟨h1, h2, h3⟩ := h
    unfold putAt
    by_cases e : p.1=k
    · rw [if_pos e, if_pos (h1.symm.trans e)];exact ⟨h1, h2, ry⟩
    · rw [if_neg e, if_neg (fun z => e (h1.trans z))];exact ⟨h1, h2, h3⟩
theorem KT.put {H : Hp}{kvs : List (List Key × V)}{xs : List (List Key × Addr × Value)}(r : KT H kvs xs)(k : List Key){b : Addr}{y : V}{u : Value}(hb : H b=some (.tup (k.map kV)))(ry : bz y u) :
    KT H (gE kvs k y) (storedH xs k b u) := by
  have e : (kvs.any fun kv => decide (kv.1=k))=(atKey xs k).isSome := by
    rw [dg, (r.val k).isSome_eq, Option.isSome_map]
  unfold gE storedH
  rw [e]
  by_cases q : (atKey xs k).isSome=true
  · rw [if_pos q, if_pos q];exact r.repl k ry
  · rw [if_neg q, if_neg q];exact Paired.snoc r ⟨rfl, hb, ry⟩
theorem KT.keeps {H H' : Hp}{kvs : List (List Key × V)}{xs : List (List Key × Addr × Value)}(r : KT H kvs xs)(ht : ∀ b ys, H b=some (.tup ys) → H' b=some (.tup ys)) : KT H' kvs xs :=
  Paired.mapP r fun _ _ z => ⟨z.1, ht _ _ z.2.1, z.2.2⟩
section
variable {P : Program} {w : World} {H : Hp} {h : Heap} {a : Addr}
theorem sJ {u : HO}(ok : HOk P w H h)(e : Rd H a u) : bg P w H h a u := e.ok ok
theorem sL {kvs : List (Key × V)}(ok : HOk P w H h)(e : Rd H a (.dK kvs)) : kvs.length≤sizeLine ∧ (a == sysModules)=false ∧ ∃ vs, KV kvs vs ∧ h.DictOf (bo P w) a vs :=
  show bg P w H h a (.dK kvs) from sJ ok e
theorem uR {kvs : List (Key × V)}(ok : HOk P w H h)(e : H a=some (.dK kvs)) : kvs.length≤sizeLine ∧ (a == sysModules)=false ∧ ∃ vs, KV kvs vs ∧ h.DictOf (bo P w) a vs := sL ok (.inl e)
theorem pA {ks : List Key}(ok : HOk P w H h)(e : H a=some (.tup (ks.map kV))) : (tupleKind (bo P w)).is h ks a := by
  obtain ⟨_, its, r, ⟨o, h1, h2, n, h3⟩, _⟩ := (show bg P w H h a (.tup (ks.map kV)) from ok a _ e)
  exact ⟨o, its.toArray, n, h1, h2, h3, by simpa using gQ r⟩
theorem sM {kvs : List (List Key × V)}(ok : HOk P w H h)(e : Rd H a (.dT kvs)) : kvs.length≤sizeLine ∧ (a == sysModules)=false ∧
    ∃ xs, KT H kvs xs ∧ h.DictOfH (tupleKind (bo P w)) a xs := by
  obtain ⟨z, y, xs, r, o, es, ep, h1, h2, h3, h4, h5⟩ := (show bg P w H h a (.dT kvs) from sJ ok e)
  refine ⟨z, y, xs, r, o, es, ep, h1, h2, h3, h4, fun x hx => ?_, h5⟩
  have all : ∀ {l : List (List Key × V)} {m : List (List Key × Addr × Value)}, KT H l m → ∀ x∈m, (tupleKind (bo P w)).is h x.1 x.2.1 := by
    intro l m q
    induction q with
    | nil => intro x hx;exact nomatch hx
    | @cons p q ps qs hq t ih =>
      intro x hx
      rcases xr.mp hx with e | hx
      · subst e
        exact pA ok (by rw [← hq.1];exact hq.2.1)
      · exact ih x hx
  exact all r x hx
theorem uS {kvs : List (List Key × V)}(ok : HOk P w H h)(e : H a=some (.dT kvs)) : kvs.length≤sizeLine ∧ (a == sysModules)=false ∧
    ∃ xs, KT H kvs xs ∧ h.DictOfH (tupleKind (bo P w)) a xs := sM ok (.inl e)
end
def nI (H : Hp)(a : Addr)(y v : V)(H' : Hp) : Prop :=
  (∃ kvs k, H a=some (.dK kvs) ∧ y=kV k ∧ kvs.length < sizeLine ∧ H'=upd H a (.dK (gE kvs k v))) ∨
  ∃ kvs k b, H a=some (.dT kvs) ∧ y = .ref b ∧ H b=some (.tup (k.map kV)) ∧ kvs.length < sizeLine ∧ H'=upd H a (.dT (gE kvs k v))
theorem nI.k {H : Hp}{a : Addr}{kvs : List (Key × V)}{k : Key}{v : V}(e : H a=some (.dK kvs))(hl : kvs.length < sizeLine) : nI H a (kV k) v (upd H a (.dK (gE kvs k v))) := .inl ⟨kvs, k, e, rfl, hl, rfl⟩
theorem nI.t {H : Hp}{a b : Addr}{kvs : List (List Key × V)}{k : List Key}{v : V}(e : H a=some (.dT kvs))(eb : H b=some (.tup (k.map kV)))(hl : kvs.length < sizeLine) :
    nI H a (.ref b) v (upd H a (.dT (gE kvs k v))) := .inr ⟨kvs, k, b, e, rfl, eb, hl, rfl⟩
section
variable {X : Cx} {pins : List (Addr × Obj)} {σ : St} {H : Hp} {s : Shared} {a : Addr} {y v : V} {u r : Value} {o : Option V} {A : Around} {E : Value → Shared → Prop}
theorem Inv.big (I : Inv X pins σ H s) : sysModules < s.heap.objs.size := by
  have h : mainGlobals < s.heap.objs.size := (I.mod.glob.keeps I.bk).lt
  exact Nat.lt_trans (by decide) h
theorem fM {h' : Heap}{t' : Nat}{ob : HO}(I : Inv X pins σ H s)(mu : Mut (H a))(hs : Heap.SameBut a s.heap h')(he : ∃ q, h'.get? a=some q)(new : bg X.prog X.w (upd H a ob) h' a ob) :
    Inv X pins σ (upd H a ob) { s with heap := h', toks := t' } :=
  I.write (x := a) (e := a) mu (.inl rfl) (fun b q hb z => (hs.2 b hb).trans z) he new
theorem sN {P : Program}{w : World}{H' : Hp}{h' : Heap}{kvs : List (Key × V)}{vs : List (Key × Value)}(z : kvs.length≤sizeLine)(hd : (a == sysModules)=false)(rel : KV kvs vs)(dd : h'.DictOf (bo P w) a vs) :
    bg P w H' h' a (.dK kvs) := ⟨z, hd, vs, rel, dd⟩
theorem kQ {H' : Hp}{Q : Unit → Shared → Prop}(hu : A.units+1 < cLine)(I : Inv X pins σ H s)(g : nI H a y v H')(ry : bz y u)(rv : bz v r)(h : ∀ s', Inv X pins σ H' s' → Q () s') :
    wpAny (model X.prog X.w) A (setItem (.ref a) u r) Q E s := by
  rcases g with ⟨kvs, k, e, ey, l, eH⟩ | ⟨kvs, k, b, e, ey, eb, l, eH⟩
  · subst ey eH
    obtain ⟨z, hd, vs, rel, dd⟩ := uR I.hok e
    have hz : vs.length≤sizeLine := by rw [← rel.length];exact z
    have hl : (gE kvs k v).length≤sizeLine := by have := eP kvs k v;omega
    refine wpAny_setItem_pairs (hsz := hz) (sI ry) dd fun h' dd' hs => h _ ?_
    have he : ∃ q, h'.get? a=some q := let ⟨q, _, _, hq, _⟩ := dd';⟨q, hq⟩
    exact fM I (by rw [e];exact True.intro) hs he (sN hl hd (rel.put k rv) dd')
  · subst ey eH
    cases (show u=Value.ref b from ry)
    obtain ⟨z, hd, xs, rel, dd⟩ := uS I.hok e
    have hz : xs.length≤sizeLine := by rw [← zt rel];exact z
    have hl : (gE kvs k v).length≤sizeLine := by have := eP kvs k v;omega
    refine wpAny_setItem_heap (hsz := hz) (tupleKind_room_in1 hu) (pA I.hok eb) dd fun h' dd' hs => h _ ?_
    obtain ⟨q, es, ep, hq, h2, h3, h4, _, h5⟩ := dd'
    refine fM I (by rw [e];exact True.intro) hs ⟨q, hq⟩ ⟨hl, hd, _, (rel.put k eb rv).keeps fun c ys ec => ?_, q, es, ep, hq, h2, h3, h4, h5⟩
    rw [ay (cH ec e (fun z => nomatch z))]
    exact ec
end
section
variable {X : Cx} {pins : List (Addr × Obj)} {σ : St} {H : Hp} {s : Shared} {a : Addr} {kvs : List (Key × V)} {k : Key} {u : Value} {A : Around} {E : Value → Shared → Prop}
end
def vX (i : Expr) : Prop := ∀ ov iv, subscripted i false ov iv=operate [ov, iv] (getItem ov iv)
theorem qt {prog : Program}{w : World}{A : Around}{E : Value → Shared → Prop}{s : Shared}{env : Env}{value slice : Expr}{pos : Pos}{T id : String}{Q : Value → Shared → Prop}
    (hl : typeLookup (.type T) "__getitem__" = pure (some (.builtin id))) (hs : vX slice)
    (h : wpAny (model prog w) A (eval value env) (fun o s₁ => wpAny (model prog w) A (eval slice env) (fun i s₂ => s₂.TypeIs o T ∧ wpAny (model prog w) A (getItem o i) Q E s₂) E s₁) E s) :
    wpAny (model prog w) A (eval (.Subscript value slice pos) env) Q E s := by
  refine AH (yr h (fun o s₁ h₁ => yr h₁ (fun i s₂ h₂ => ?_) fun _ _ x => x) fun _ _ x => x)
  obtain ⟨hT, h₂⟩ := h₂
  unfold subscriptTail
  refine wX ?_
  rw [getitemInPython_of_ne hT.not_modules]
  refine wX (y8 hT hl ?_)
  have fin : wpAny (model prog w) A (subscripted slice false o i) (fun r s₃ => wpAny (model prog w) A (letTemporaryGo value o r >>= fun _ => pure r) Q E s₃) E s₂ := by
    rw [hs o i]
    exact wpAny_operating (yr h₂ (fun r s₃ h₃ => wX (wpAny_letTemporaryGo (w6 h₃))) fun _ _ x => x)
  first
    | exact w6 (wX fin)
    | exact wX (w6 (wX fin))
    | exact wX fin
def uT (td ty tv : TE) : TS := fun D σ H => tv σ H fun v H1 => td σ H1 fun x H2 => ty σ H2 fun y H3 => ∃ a H4, x = .ref a ∧ nI H3 a y v H4 ∧ D.nx σ H4
section
variable {X : Cx} {o i e value : Expr} {pos pos' tpos : Pos} {td ty tv : TE}
theorem qu (hu : X.A.units+1 < cLine)(ho : PE X o td)(hi : PE X i ty)(hv : PE X value tv)(hs : swapsWith value (some (.Subscript o i pos')) pos.line X.env=pure false) :
    PS X (.Assign [.Subscript o i pos'] value pos) (uT td ty tv) := by
  intro pins s σ H D I h
  refine wpAny_Assign_Subscript (thn (hv pins s σ H _ I h) fun r s1 ⟨v, H1, I1, rv, q1⟩ => thn (ho pins s1 σ H1 _ I1 q1) fun u s2 ⟨x, H2, I2, rx, q2⟩ => thn (hi pins s2 σ H2 _ I2 q2) fun iv s3 zq71 => ?_) hs
  obtain ⟨y, H3, I3, ry, a, H4, ex, g, q3⟩ := zq71
  subst ex
  obtain rfl : u=Value.ref a := rx
  exact kQ hu I3 g ry rv fun s4 I4 => ⟨σ, H4, I4, q3⟩
end
theorem nJ {P : Program}{w : World}{H : Hp}(h : Heap)(hb : sysModules < h.objs.size) : bg P w H (h.push { cls := .type "dict", data := .dict #[] }) h.objs.size (.dT []) :=
  ⟨xV _, zk.mpr (Ne.symm (xN hb)), [], .nil, _, #[], 0, xj _ rfl, ⟨rfl, rfl, rfl⟩, rfl, rfl, zV⟩
def sO : TE := fun _ H Q => ∀ p, H p=none → Q (.ref p) (upd H p (.dT []))
section
variable {X : Cx} {pos : Pos}
theorem nK : PE X (.Dict [] [] pos) sO := fun pins s σ H Q I h =>
  wpAny_Dict_empty ⟨.ref s.heap.objs.size, _, I.laid (a := s.heap.objs.size) (o := .dT []) (t' := s.toks) (fun _ _ q => w5 _ q) (wZ _) (nJ s.heap I.big), rfl, h _ (I.hok.fresh (wZ _))⟩
end
def IsD (H : Hp)(a : Addr) : Prop := (∃ kvs, Rd H a (.dK kvs)) ∨ ∃ kvs, Rd H a (.dT kvs)
theorem sP {X : Cx}{pins : List (Addr × Obj)}{σ : St}{H : Hp}{s : Shared}{a : Addr}(I : Inv X pins σ H s)(d : IsD H a) :
    s.TypeIs (.ref a) "dict" ∧ (∀ b, Value.ref a = .ref b → ∃ ob, s.heap.get? b=some ob ∧ ob.dict=none) ∧ (a == sysModules)=false := by
  rcases d with ⟨kvs, e⟩ | ⟨kvs, e⟩
  · obtain ⟨_, hd, vs, _, dd⟩ := sL I.hok e
    refine ⟨dd.typeIs, fun b q => ?_, hd⟩
    cases q
    obtain ⟨ob, _, _, h1, h2, _⟩ := dd
    exact ⟨ob, h1, h2.2.1⟩
  · obtain ⟨_, hd, xs, _, dd⟩ := sM I.hok e
    refine ⟨dd.typeIs, fun b q => ?_, hd⟩
    cases q
    obtain ⟨ob, _, _, h1, h2, _⟩ := dd
    exact ⟨ob, h1, h2.2.1⟩
section
variable {X : Cx} {pins : List (Addr × Obj)} {σ : St} {H : Hp} {s : Shared} {a : Addr} {y d : V} {u r : Value} {o : Option V} {A : Around} {E : Value → Shared → Prop}
end
section
variable {X : Cx} {o e f : Expr} {apos cpos : Pos} {td ty tx : TE}
end
section
variable {X : Cx} {pins : List (Addr × Obj)} {σ : St} {H : Hp} {s : Shared} {a : Addr} {kvs : List (Key × V)} {A : Around} {E : Value → Shared → Prop}
end
section
variable {X : Cx} {pins : List (Addr × Obj)} {σ : St} {H : Hp} {s : Shared} {a : Addr} {y : V} {u : Value} {A : Around} {E : Value → Shared → Prop}
end
end L2
namespace Att
open PySem PySem.W PySem.Calls PyProof.Rows
theorem eQ {P : Params}{h : Heap} : ∀ (ns : List Int) (vs : List Value), WellAll P h vs (ns.map WData.int) → IntsAre vs ns := by
  intro ns
  induction ns with
  | nil =>
    intro vs w
    rw [Aw] at w
    cases w
    exact .nil
  | cons n ns ih =>
    intro vs w
    rw [xv] at w
    cases w with
    | cons a b =>
      cases a
      exact .cons _ _ (ih _ b)
theorem kR {l : OpenLaw}{n : Nat}(hn : l.most=some n){P : Params}{h : Heap}{args : List WData}{vals : List Value}
    (hpre : l.row.toRowW.claim.pre args=true) (hwl : WellAll P h vals args) :
    ∃ a vs ns, vals=[Value.ref a] ∧ args=[WData.list (ns.map WData.int)] ∧ h.get? a=some { cls := .type "list", data := .seq vs.toArray } ∧ IntsAre vs ns ∧ ns.length≤n := by
  have hsh : WShape.hasAll [] args [.list .int]=true := (pre_splitW hpre).1
  have hc : l.pre.holds [] { args := args }=true := (pre_splitW hpre).2
  obtain ⟨d, r, rfl, h1, h2⟩ := hasAllW_cons hsh
  obtain rfl := hasAllW_nil h2
  obtain ⟨xs, rfl, h3⟩ := hasW_list h1
  obtain ⟨ns, rfl⟩ := items_int h3
  have hlen : ns.length≤n := by
    unfold OpenLaw.pre at hc
    have h4 : (WTm.not (.lt (.lit (.int (n : Int))) (.len (.arg 0)))).holds [] { args := [.list (ns.map .int)] }=true := by
      have h4 := (holds_andW hc).1
      rw [hn] at h4
      exact h4
    have h5 := condW_of h4 (w_not (w_lt w_lit (w_len_list (w_arg rfl))))
    rw [fu] at h5
    refine Nat.le_of_not_lt fun q => ?_
    have q' : (n : Int) < ((ns.length : Nat) : Int) := by omega
    first
      | (rw [xq q'] at h5;exact absurd h5 (by decide))
      | (simp at h5;omega)
  cases hwl with
  | cons w1 w2 =>
    cases w2
    cases w1 with
    | list ho hall => exact ⟨_, _, ns, rfl, rfl, ho, eQ ns _ hall, hlen⟩
theorem kT (l : OpenLaw)(args : List WData) : l.row.toRowW.claim.post args (.bool true) args=true :=
  postW_of (r := l.row.toRowW) (X := (true == true))
    (show WShape.has [] (.bool true) .bool=true by first | rfl | decide | simp [WShape.has, WShape.arms, WShape.armsAll])
    (show (WTm.eq .res (.lit (.bool true))).value [] { args := args, res := some (.bool true), after := args }=some (.bool (true == true)) from w_eq_bool (w_res rfl) w_lit) rfl
theorem attach_call {l : OpenLaw}{n : Nat}{q : Program}{loose : List Str}{XP : (Str → Option Value) → Heap → Prop}{YP : World → Heap → Prop}{d : DefRec}
    (hn : l.most=some n) (hdf : d.params.defaults=[])
    (call : ∀ (w : World) (s₀ s₁ : Shared) (mg mb : Str → Option Value) (fa : Addr) (o : Obj) (pm cd doc : Value) (a : Addr) (vs : List Value) (ns : List Int),
      Ground q loose [] XP w s₀ mg mb s₁.heap → YP w s₁.heap →
      s₁.heap.get? fa=some o → o.data = .func (docDef d.name d.params d.body d.scope pm cd doc) → s₁.heap.CodeRec cd d.name → mg d.name=some (.ref fa) →
      s₁.heap.get? a=some { cls := .type "list", data := .seq vs.toArray } → IntsAre vs ns → ns.length≤n → s₁.gens=#[] →
      codeAny (model l.prog w) callerA (.call (.ref fa) ⟨[.ref a], []⟩) (fun r s' => r = .ok (.ret (.bool true)) ∧ OldK s₁.heap s'.heap ∧ s'.os=s₁.os ∧ AllBare s'.gens) s₁) :
    WalkO q loose XP YP l.row.toRowW d [] (fun f vs => PySem.call f vs) := by
  intro w s₀ s₁ mg mb G Y fa o pm cd doc dV kV ho hd hcd hD hmg hg args vals as hpre hlay hrd hwl hlo
  obtain rfl : dV = .none := Dflts.none hD hdf
  obtain rfl : kV = .none := Dflts.noKw hD
  obtain ⟨a, vs, ns, rfl, rfl, hobj, hints, hlen⟩ := kR hn hpre hwl
  refine enter_call (codeAny_mono (call w s₀ s₁ mg mb fa o pm cd doc a vs ns G Y ho (fd_plain hd) hcd hmg hobj hints hlen hg) fun r s' hq => ?_)
  obtain ⟨rfl, h2, h3, h4⟩ := hq
  exact ⟨.inl ⟨.bool true, .bool true, [], rfl, fun _ => rfl, .bool true, kT l _, fun _ => ⟨List.Pairwise.nil, fun _ hm => (nomatch hm)⟩⟩, h2, h3, h4⟩
section
variable {prog : Program} {w : World} {A : Around} {E : Value → Shared → Prop} {s : Shared} {K : Frag}
end
end Att
namespace L2
open PySem PySem.Spec PyProof.Rows
theorem gS : ∀ {vs : List Value} {ns : List Int}, IntsAre vs ns → aZ (ns.map V.int) vs
  | _, _, .nil => .nil
  | _, _, .cons n t h => .cons ⟨t, rfl⟩ (gS h)
def uU (H : Hp) : Prop := ∀ b, H b=none ∨ ∃ o xs, H b=some (.frz o (.lst xs))
theorem nM {P : Program}{w : World}{K : PySem.W.Frag}{mg mb : Str → Option Value}{CX : CXT}{k : Nat}{fa a : Addr}{fd : FuncData}{x : Str}{sp : Sp}{s₁ : Shared}{vs : List Value}{ns : List Int}
    (KX : K.In s₁.heap) (hns : s₁.heap.Ns mainGlobals mg) (hb : s₁.heap.Ns builtinsNs mb) (hbb : ∀ x : Str, x ≠ "__name__" → mb x=bootBuiltins x) (hlim : s₁.heap.NoLimit) (hg : s₁.gens=#[])
    (ha : s₁.heap.get? a=some { cls := .type "list", data := .seq vs.toArray }) (hi : IntsAre vs ns) (hl : ns.length≤sizeLine) (hr : fv k callerA)
    (F : ∀ base : Heap, K.In base → base.Ns mainGlobals mg → m7 P w K mg base CX k fa fd [x] sp) (hbind : ∀ (s : Shared) (u : Value), BindsTo s fd ⟨[u], []⟩ [(x, u)])
    (hsp : ∀ H : Hp, uU H → SqL K H a (ns.map V.int) → sp [.ref a] H (fun v _ => v = .bl true) fun _ _ _ => False)
    (hCX : ∀ H e s', CX [] H s₁ (fun _ _ _ => False) e s' → False) :
    codeAny (model P w) callerA (.call (.ref fa) ⟨[.ref a], []⟩) (fun r s' => r = .ok (.ret (.bool true)) ∧ OldK s₁.heap s'.heap ∧ s'.os=s₁.os ∧ AllBare s'.gens) s₁ := by
  have rv := gS hi
  have lenV := hi.length
  -- from an abstract heap in which nothing but the script may be tracked
  have core : ∀ H : Hp, uU H → SqL K H a (ns.map V.int) → HOk P w H s₁.heap → (∀ b, H b≠none → b=a) → (H a≠none → K.lookup a=none) →
      codeAny (model P w) callerA (.call (.ref fa) ⟨[.ref a], []⟩) (fun r s' => r = .ok (.ret (.bool true)) ∧ OldK s₁.heap s'.heap ∧ s'.os=s₁.os ∧ AllBare s'.gens) s₁ := by
    intro H hO hS hok hA hK
    have base_of : ∀ {b : Addr} {o : Obj}, s₁.heap.get? b=some o → H b=none → (m_ s₁.heap H).get? b=some o := fun e n => nc e n
    have noA : ∀ {b : Addr} {o : Obj} {es : Array DictEntry} {ep : Nat}, s₁.heap.get? b=some o → o.data = .dict es ep → H b=none := fun {b o es ep} e d => by
      cases q : H b with
      | none => rfl
      | some u =>
        have e' : b=a := hA b (by rw [q];simp)
        subst e'
        rw [ha] at e;cases e
        have d' : Data.seq vs.toArray _=Data.dict es ep := d
        cases d'
    have nsK : ∀ {b : Addr} {m : Str → Option Value}, s₁.heap.Ns b m → (m_ s₁.heap H).Ns b m := fun {b m} ⟨o, es, ep, e, d, r⟩ => ⟨o, es, ep, base_of e (noA e d), d, r⟩
    have hKb : K.In (m_ s₁.heap H) := fun b o e => base_of (KX b o e) (by
      cases q : H b with
      | none => rfl
      | some u =>
        have e' : b=a := hA b (by rw [q];simp)
        subst e'
        rw [hK (by rw [q];simp)] at e;cases e)
    have hM : Mod K mg (m_ s₁.heap H) := ⟨hKb, nsK hns, ⟨mb, nsK hb, hbb⟩, let ⟨mc, h1, h2⟩ := hlim;⟨mc, nsK h1, h2⟩⟩
    have e0 : uw P w K mg (m_ s₁.heap H) callerA [] s₁ H := ⟨rfl, hM, fun b o e => p_ e, Nat.le_of_eq (ko _ _), trivial, fun b hb => absurd (show b∈([] : List Addr) from hb) (by simp), hok, .of_eq hg⟩
    refine codeAny_mono ((F _ hKb (nsK hns)).run callerA [] s₁ H ⟨[.ref a], []⟩ [.ref a] [.ref a] _ _ hr e0 (hbind s₁ (.ref a)) (.cons rfl .nil) (hsp H hO hS)) fun r s' h => ?_
    cases r with
    | error e => exact (hCX H e s' h).elim
    | ok fl =>
      cases fl with
      | next => exact False.elim h
      | brk => exact False.elim h
      | cont => exact False.elim h
      | ret u =>
        obtain ⟨v, H', os, bare, un, hok', r', q⟩ := h
        have q' : v = .bl true := q
        subst q'
        obtain rfl : u=Value.bool true := r'
        refine ⟨rfl, OldK.of_keep fun b o e => ?_, os, bare⟩
        cases q : H b with
        | none => exact un.keep b o e q (by intro z;exact absurd (show b∈([] : List Addr) from z) (by simp)) (by simp)
        | some u =>
          rcases hO b with z | ⟨ob, xs, z⟩
          · rw [q] at z;cases z
          · have z2 := un.frzs b ob _ z
            obtain ⟨e1, _⟩ := hok b _ z
            obtain ⟨e2, _⟩ := hok' b _ z2
            rw [e] at e1;cases e1
            exact e2
  cases hk : K.lookup a with
  | some o =>
    -- the script is one of the module's own objects
    have e := KX a o hk
    rw [ha] at e
    cases e
    refine core (fun _ => none) (fun _ => .inl rfl) (.inr ⟨_, vs.toArray, _, hk, rfl, rfl, rfl, by rw [xa, lenV];exact hl, by simpa using rv⟩) (fun b u z => by have z' : (none : Option HO)=some u := z;cases z') (fun b z => absurd rfl z) fun z => absurd rfl z
  | none =>
    refine core (fun b => if b=a then some (.frz { cls := .type "list", data := .seq vs.toArray } (.lst (ns.map V.int))) else none) (fun b => ?_) (.inl (.inr ⟨{ cls := .type "list", data := .seq vs.toArray }, if_pos rfl⟩)) (fun b u z => ?_) (fun b z => ?_) fun _ => hk
    · by_cases hb : b=a
      · exact .inr ⟨_, _, if_pos hb⟩
      · exact .inl (if_neg hb)
    · by_cases hb : b=a
      · have z' := (if_pos hb).symm.trans z
        cases z'
        subst hb
        exact ⟨ha, by rw [fu];exact hl, vs, _, rv, ha⟩
      · have z' := (if_neg hb).symm.trans z
        cases z'
    · by_cases hb : b=a
      · exact hb
      · exact absurd (if_neg hb) z
theorem kU {l : PySem.W.OpenLaw}{n k : Nat}{q : Program}{loose : List Str}{XP : (Str → Option Value) → Heap → Prop}{YP : World → Heap → Prop}{d : DefRec}{K : Params → PySem.W.Frag}{CX : World → CXT}{sp : World → Sp}{x : Str}
    (hn : l.most=some n) (hn2 : n≤sizeLine) (hdf : d.params.defaults=[]) (hr : fv k callerA)
    (hY : ∀ (w : World) (h : Heap), YP w h → (K w.params).In h)
    (F : ∀ (w : World) (mg : Str → Option Value) (fa : Addr) (h : Heap), (K w.params).In h → h.Ns mainGlobals mg → mg d.name=some (.ref fa) →
      ∃ fd : FuncData, (∀ (s : Shared) (u : Value), BindsTo s fd ⟨[u], []⟩ [(x, u)]) ∧
        ∀ base : Heap, (K w.params).In base → base.Ns mainGlobals mg → m7 l.prog w (K w.params) mg base (CX w) k fa fd [x] (sp w))
    (hsp : ∀ (w : World) (H : Hp) (a : Addr) (ns : List Int), ns.length≤n → uU H → SqL (K w.params) H a (ns.map V.int) → sp w [.ref a] H (fun v _ => v = .bl true) fun _ _ _ => False)
    (hCX : ∀ (w : World) (H : Hp) (s : Shared) (e : Value) (s' : Shared), CX w [] H s (fun _ _ _ => False) e s' → False) :
    PySem.W.WalkO q loose XP YP l.row.toRowW d [] (fun f vs => PySem.call f vs) := by
  refine Att.attach_call hn hdf fun w s₀ s₁ mg mb fa o pm cd doc a vs ns G Y ho hd hcd hmg hobj hints hlen hg => ?_
  have KX := hY w _ Y
  obtain ⟨fd, hb, hF⟩ := F w mg fa _ KX G.T.g hmg
  exact nM KX G.T.g G.T.b G.T.builtins G.T.nolimit hg hobj hints (xH hlen hn2) hr hF hb (fun H hO hS => hsp w H a ns hlen hO hS) fun H e s' => hCX w H s₁ e s'
end L2
/- THE LAST THEOREM (shape;LID, My.* are yours):
   My.Adr: a structure of the addresses that your layer names (classes, functions);My.Txt K t: a structure (Prop) of the equations over K;
   My.txt_mk : {K} {implicit addresses ..} (e1 : nsIn K mainGlobals "law" = some (some (.ref f))) (e2 : K.lookup f=some ⟨oc, od, .func (fnOf "law" "law" params body scope dV kV doc pm an cdv ct), sl⟩) (e3 : codeIn K cdv "law" = true) .. : ∃ t, My.Txt K t
set_option maxRecDepth 100000 in
set_option maxHeartbeats 0 in
theorem PySem.Challenge.cw_LID_holds : PySem.Challenge.rw_LID.Holds := by
  w_on;o_law;k_head;(case hw => w_witness2)
  k_fill
  refine L2.kU (l := PySem.Challenge.rw_LID) (n := 63) (k := 40) (x := "script") (CX := fun w => ..) (sp := fun _ => My.sp_law) rfl (by decide) rfl ⟨rfl, by decide, by decide⟩ (fun w h Y => PySem.W.kIn_of Y) ?F ?S ?C
  case F =>
    intro w mg fa h KX G hmg
    have T : ∃ t, My.Txt (L2.KOf KX) t := by
      dsimp only [L2.KOf]                          -- K must stand as «<heap const> w.params» for k_is
      refine' My.txt_mk ?e1 ?e2 ?e3 ..
      (case e1 => PySem.W.k_is)                    -- in the order: a name -> its address -> its object -> its parts
      (case e2 => PySem.W.k_is)
      ..
    obtain ⟨t, T⟩ := T
    have e0 := hmg.symm.trans (zy KX G T.law)
    cases e0                                       -- fa is the law's own address
    exact ⟨_, fun s u => .of_eq rfl, fun base kb nb => My.law_fn T kb nb⟩     -- if «.of_eq rfl» comes too early: refine' ⟨_, ?b, fun base kb nb => My.law_fn T kb nb⟩;exact fun s u => .of_eq rfl
  case S => exact fun w H a ns hl hO hS => ..
  case C => exact ..
(the tactic k_is has no namespace: write k_is) -/
namespace L2
open PySem PySem.Spec PyProof.Rows
def b_ (s : Stmt) : Arguments := match s with
  | .FunctionDef _ a _ _ _ _ _ _ _ _ => a
  | _ => { posonlyargs := [], args := [], vararg := none, kwonlyargs := [], kw_defaults := [], kwarg := none, defaults := [] }
def bL (s : Stmt) : List Stmt := match s with
  | .FunctionDef _ _ b _ _ _ _ _ _ _ => b
  | _ => []
def av (s : Stmt) : Scope := match s with
  | .FunctionDef _ _ _ _ _ _ sc _ _ _ => sc
  | _ => { kind := .function, names := [], isGenerator := false, isCoroutine := false }
abbrev CX0 : CXT := fun _ _ _ _ _ _ => False
abbrev E0 : XK := fun _ _ _ => False
theorem uV {X : Cx} : kH CX0 X E0 := fun _ _ _ _ _ _ _ h => h.elim
structure Fun (K : PySem.W.Frag) (x qual : Str) (st : Stmt) (f : Addr) (fd : FuncData) : Prop where
  ex : ∃ (oc : Value) (od : Option Addr) (kV doc pm : Value) (an : Option Addr) (cdv ct : Value) (osl : Array (Option Value)),
    fd=PySem.W.fnOf x qual (b_ st) (bL st) (av st) .none kV doc pm an cdv ct ∧ K.lookup f=some ⟨oc, od, .func fd, osl⟩ ∧ PySem.W.codeIn K cdv qual=true
  kp : PySem.W.keepIn K (.ref f)=true
section
variable {P : Program} {w : World} {K : PySem.W.Frag} {mg : Str → Option Value} {base : Heap}
theorem Fun.ok {x qual : Str}{st : Stmt}{f : Addr}{fd : FuncData}{N ps : List Str}{k : Nat}{sp : Sp}(F : Fun K x qual st f fd)(S : aF N ps (av st))(len : ∀ vs H Q E, sp vs H Q E → vs.length=ps.length)
    (hbody : ∀ (cdv : Value) (A : Around) (outer : List Env) (s : Shared) (H : Hp) (vs : List V) (Q : VK) (E : XK), fv k (A.deeper (envOfC qual (av st) s.heap.objs.size f cdv)) → sp vs H Q E →
      ∃ t, PSs (qj CX0 P w K mg base N qual (av st) f cdv A outer s H E).nox (bL st) t ∧ t { nx := fun _ H' => Q .non H', rt := Q } (start N vs) H) : m7 P w K mg base CX0 (k+1) f fd ps sp := by
  obtain ⟨oc, od, kV, doc, pm, an, cdv, ct, osl, rfl, lk, hcd⟩ := F.ex
  refine uO lk hcd S len fun A outer s H vs Q E hr hsp => ?_
  obtain ⟨t, h, q⟩ := hbody cdv A outer s H vs Q E hr hsp
  exact ⟨t, h.nox, q⟩
theorem Fun.binds {x qual : Str}{st : Stmt}{f : Addr}{fd : FuncData}{ps : List Str}(F : Fun K x qual st f fd)
    (h : ∀ (kV doc pm : Value) (an : Option Addr) (cdv ct : Value) (us : List Value), us.length=ps.length → bindArgs (PySem.W.fnOf x qual (b_ st) (bL st) (av st) .none kV doc pm an cdv ct) ⟨us, []⟩=pure (ps.zip us)) : jU K fd ps [] := by
  obtain ⟨oc, od, kV, doc, pm, an, cdv, ct, osl, rfl, lk, hcd⟩ := F.ex
  exact .all (h kV doc pm an cdv ct)
theorem pB {x qual : Str}{st : Stmt}{f : Addr}{oc : Value}{od an : Option Addr}{osl : Array (Option Value)}{kV doc pm cdv ct : Value}(l : K.lookup f=some ⟨oc, od, .func (PySem.W.fnOf x qual (b_ st) (bL st) (av st) .none kV doc pm an cdv ct), osl⟩)
    (c : PySem.W.codeIn K cdv qual=true) (k : PySem.W.keepIn K (.ref f)=true) : Fun K x qual st f (PySem.W.fnOf x qual (b_ st) (bL st) (av st) .none kV doc pm an cdv ct) := ⟨⟨oc, od, kV, doc, pm, an, cdv, ct, osl, rfl, l, c⟩, k⟩
end
theorem sQ {A : Around}{k : Nat}(hr : fv k A) : A.units+1 < cLine := Nat.lt_of_le_of_lt (Nat.add_le_add_left (by decide : 1≤64) _) hr.units
section
variable {X : Cx}
theorem pv (i : Nat){x : Str}{pos : Pos}(hN : X.N[i]? = some x := by rfl)(hv : Vis X.env.scope x := by first | exact Or.inl rfl | exact Or.inr (Or.inl rfl) | exact Or.inr (Or.inr rfl))(hd : (x == ("__debug__" : Str))=false := by decide)
    (hcd : (x == ("__classdict__" : Str))=false := by decide) : PE X (.Name x pos) (uA i) := r9 hN hv hd hcd
end
theorem iz {A B : Prop}(h : B) : if false=true then A else B := by
  rw [if_neg xu]
  exact h
theorem kg {A B : Prop}(h : A) : if true=true then A else B := by
  rw [if_pos rfl]
  exact h
theorem gF {c A B : Prop}[Decidable c](h1 : c → A)(h2 : ¬ c → B) : if c then A else B := by
  by_cases h : c
  · rw [if_pos h]
    exact h1 h
  · rw [if_neg h]
    exact h2 h
theorem kW {c A B : Prop}[Decidable c](hc : c)(h : B) : if (!decide c)=true then A else B := by
  rw [xq hc]
  exact iz h
def au (H H' : Hp) : Prop := ∀ b o, H b=some o → H' b=some o
theorem au.refl (H : Hp) : au H H := fun _ _ h => h
theorem au.trans {H H1 H2 : Hp}(a : au H H1)(b : au H1 H2) : au H H2 := fun c o h => b c o (a c o h)
section
variable {κ : Type} [DecidableEq κ]
end
end L2
namespace L2
open PySem PySem.Spec PyProof.Rows
def jr (cells : List (Str × Addr)) : List (Str × NameKind) → List (Str × Addr) → List (Str × Addr)
  | [], acc => acc
  | (x, k)::r, acc => if k == NameKind.free then jr cells r ((x, (cells.lookup x).getD 0)::acc) else jr cells r acc
theorem fN {cells : List (Str × Addr)}{p : Str × Addr} : ∀ {names : List (Str × NameKind)} {acc : List (Str × Addr)}, p∈jr cells names acc → p∈acc ∨ ((p.1, NameKind.free)∈names ∧ p.2=(cells.lookup p.1).getD 0)
  | [], _, h => .inl h
  | (x, k)::r, acc, h => by
    unfold jr at h
    by_cases hk : (k == NameKind.free)=true
    · rw [if_pos hk] at h
      have ek : k=NameKind.free := by simpa using hk
      subst ek
      rcases fN h with h | ⟨h, e⟩
      · rcases xr.mp h with h | h
        · subst h
          exact .inr ⟨xt, rfl⟩
        · exact .inl h
      · exact .inr ⟨xk _ h, e⟩
    · rw [if_neg hk] at h
      rcases fN h with h | ⟨h, e⟩
      · exact .inl h
      · exact .inr ⟨xk _ h, e⟩
theorem fO {cells : List (Str × Addr)}{p : Str × Addr} : ∀ {names : List (Str × NameKind)} {acc : List (Str × Addr)}, p∈acc → p∈jr cells names acc
  | [], _, h => h
  | (x, k)::r, acc, h => by
    unfold jr
    split
    · exact fO (xk _ h)
    · exact fO h
theorem fP {cells : List (Str × Addr)}{x : Str} : ∀ {names : List (Str × NameKind)} {acc : List (Str × Addr)}, (x, NameKind.free)∈names → (x, (cells.lookup x).getD 0)∈jr cells names acc
  | [], _, h => by simp at h
  | (y, k)::r, acc, h => by
    unfold jr
    rcases xr.mp h with h | h
    · have e1 : x=y := xA Prod.fst h
      have e2 : NameKind.free=k := xA Prod.snd h
      subst e1 e2
      rw [if_pos (by simp)]
      exact fO xt
    · split
      · exact fP h
      · exact fP h
theorem dh {x : Str}{c : Addr} : ∀ {l : List (Str × Addr)}, (x, c)∈l → ∃ d, l.lookup x=some d
  | [], h => by simp at h
  | (y, d)::r, h => by
    rw [z_]
    by_cases e : (x == y)=true
    · rw [e];exact ⟨d, rfl⟩
    · have e' : (x == y)=false := by simpa using e
      rw [e']
      rcases xr.mp h with h | h
      · have : x=y := xA Prod.fst h
        exact absurd (by simpa using this) e
      · exact dh h
theorem dj {env : Env}{scope : Scope}(h : ∀ y∈scope.names, y.2=NameKind.free → ∃ c, env.cells.lookup y.1=some c) : closureFor scope env=pure (jr env.cells scope.names []) := by
  have all : ∀ (names : List (Str × NameKind)) (acc : List (Str × Addr)), (∀ y∈names, y.2=NameKind.free → ∃ c, env.cells.lookup y.1=some c) →
      (forIn names acc (fun (p : Str × NameKind) (r : List (Str × Addr)) => (if (p.2 == NameKind.free)=true then (do let a ← cellOf env p.1;pure (ForInStep.yield ((p.1, a)::r))) else pure (ForInStep.yield r) : Sem (ForInStep (List (Str × Addr))))))=(pure (jr env.cells names acc) : Sem (List (Str × Addr))) := by
    intro names
    induction names with
    | nil => intro acc _;rfl
    | cons p r ih =>
      intro acc hh
      obtain ⟨x, k⟩ := p
      have hr : ∀ y∈r, y.2=NameKind.free → ∃ c, env.cells.lookup y.1=some c := fun y hy => hh y (xk _ hy)
      rw [Ao]
      unfold jr
      by_cases hk : (k == NameKind.free)=true
      · obtain ⟨c, hc⟩ := hh (x, k) xt (by simpa using hk)
        have hc : env.cells.lookup x=some c := hc
        have ec : cellOf env x=pure c := by
          unfold cellOf
          rw [hc]
        simp only [hk, A7, ec, pure_bind, hc, Aa]
        exact ih _ hr
      · simp only [hk, Be, pure_bind]
        exact ih _ hr
  have e := all scope.names [] h
  unfold closureFor
  simp only [bind_pure]
  exact e
def sR (scope sc : Scope)(NB own : List Str)(cap : List Nat)(N : List Str) : Bool :=
  (scope.kind == .function) && (sc.kind == .function) &&
  (scope.names.all fun y => match y.2 with
    | .cell => false
    | .free => sc.names.lookup y.1 == some NameKind.cell
    | .local => scope.names.lookup y.1 == some NameKind.local
    | _ => true) &&
  (own.all fun x => scope.names.lookup x == some NameKind.local && scope.names.all fun y => !(y.1 == x) || y.2 == NameKind.local) &&
  (NB == own++cap.map fun i => N.getD i "") && (cap.all fun i => decide (i < N.length) && scope.names.lookup (N.getD i "") == some NameKind.free)
structure Blk (X : Cx) (scope : Scope) (NB own : List Str) (cap : List Nat) : Prop where
  kind : scope.kind = .function
  outk : X.env.scope.kind = .function
  nocell : ∀ y∈scope.names, y.2 ≠ .cell
  free : ∀ y∈scope.names, y.2 = .free → X.env.kindOf y.1=some .cell
  names : ∀ y∈scope.names, y.2 = .local → scope.names.lookup y.1=some .local
  owns : ∀ x∈own, ∀ y∈scope.names, y.1=x → y.2 = .local
  nb : NB=own++cap.map fun i => X.N.getD i ""
  caps : ∀ i∈cap, i < X.N.length ∧ scope.names.lookup (X.N.getD i "")=some .free
theorem bH {X : Cx}{scope sc : Scope}{NB own : List Str}{cap : List Nat}(hs : X.env.scope=sc)(h : sR scope sc NB own cap X.N=true) : Blk X scope NB own cap := by
  unfold sR at h
  simp only [xp] at h
  obtain ⟨⟨⟨⟨⟨h1, h2⟩, h3⟩, h4⟩, h5⟩, h6⟩ := h
  rw [xP] at h3 h4 h6
  subst hs
  refine ⟨by simpa using h1, by simpa using h2, fun y hy e => ?_, fun y hy e => ?_, fun y hy e => ?_, fun x hx y hy e => ?_, by simpa using h5, fun i hi => ?_⟩
  · have := h3 y hy
    rw [e] at this
    exact absurd this (by simp)
  · have := h3 y hy
    rw [e] at this
    show X.env.scope.names.lookup y.1=some .cell
    simpa using this
  · have := h3 y hy
    rw [e] at this
    simpa using this
  · have := h4 x hx
    simp only [xp, xP] at this
    have q := this.2 y hy
    subst e
    simpa using q
  · have := h6 i hi
    simp only [xp] at this
    exact ⟨of_decide_eq_true this.1, by simpa using this.2⟩
def cxB (X : Cx)(NB own : List Str)(scope : Scope)(C : Addr)(fp : List Addr)(s₀ : Shared)(H₀ : Hp) : Cx where
  prog := X.prog
  w := X.w
  K := X.K
  mg := X.mg
  base := X.base
  A := X.A
  N := NB
  s₀ := s₀
  H₀ := H₀
  env := compEnvC scope (jr X.env.cells scope.names []) C X.env
  outer := X.stack
  stack := X.stack
  ex := fp
  fn := fun x => own.contains x
  calm := X.calm
  pn := []
  xe := fun _ _ => False
theorem cL {env : Env}{x : Str}{k : NameKind}(hk : k = .cell ∨ k = .free) : ∀ {names : List (Str × NameKind)}, (∀ y∈names, y.2 ≠ .cell) →
    (names.map fun (n, k) => if (k == NameKind.free && env.scope.kind == .function && env.kindOf n == some .cell) then (n, NameKind.cell) else (n, k)).lookup x=some k → (x, NameKind.free)∈names
  | [], _, h => by simp at h
  | (n, q)::r, hn, h => by
    have ih := @cL env x k hk r fun y hy => hn y (xk _ hy)
    rw [xv, z_] at h
    have key : (if (q == NameKind.free && env.scope.kind == .function && env.kindOf n == some .cell)=true then (n, NameKind.cell) else (n, q)).1=n := by split <;> rfl
    by_cases e : (x == n)=true
    · have en : x=n := by simpa using e
      subst en
      by_cases hq : q = .free
      · subst hq;exact xt
      · have hqf : (q == NameKind.free)=false := by simpa using hq
        simp only [hqf, yy, zA, Be, beq_self_eq_true] at h
        have h' : q=k := xb h
        rcases hk with z | z
        · exact absurd (h'.trans z) (hn (x, q) xt)
        · exact absurd (h'.trans z) hq
    · have e' : (x == n)=false := by simpa using e
      refine xk _ (ih ?_)
      have e2 : (x == (if (q == NameKind.free && env.scope.kind == .function && env.kindOf n == some .cell)=true then (n, NameKind.cell) else (n, q)).1)=false := by rw [key];exact e'
      rw [e2] at h
      exact h
theorem eR {env : Env}{x : Str}(hk : env.scope.kind = .function)(hc : env.kindOf x=some .cell) : ∀ {names : List (Str × NameKind)}, names.lookup x=some .free →
    (names.map fun (n, k) => if (k == NameKind.free && env.scope.kind == .function && env.kindOf n == some .cell) then (n, NameKind.cell) else (n, k)).lookup x=some .cell
  | [], h => by simp at h
  | (n, q)::r, h => by
    have ih := @eR env x hk hc r
    rw [z_] at h
    rw [xv, z_]
    by_cases e : (x == n)=true
    · have en : x=n := by simpa using e
      subst en
      rw [e] at h
      have hq : q = .free := xb h
      subst hq
      simp [hk, hc]
    · have e' : (x == n)=false := by simpa using e
      rw [e'] at h
      have key : (if (q == NameKind.free && env.scope.kind == .function && env.kindOf n == some .cell)=true then (n, NameKind.cell) else (n, q)).1=n := by split <;> rfl
      have e2 : (x == (if (q == NameKind.free && env.scope.kind == .function && env.kindOf n == some .cell)=true then (n, NameKind.cell) else (n, q)).1)=false := by rw [key];exact e'
      rw [e2]
      exact ih h
def stB (own : List Str)(cap : List Nat)(σ : St) : St := (own.map fun _ => none)++cap.map fun i => (σ[i]?).getD none
section
variable {X : Cx} {pins : List (Addr × Obj)} {σ : St} {H : Hp} {s : Shared} {scope : Scope} {NB own : List Str} {cap : List Nat} {fp : List Addr} {C : Addr}
theorem Blk.cells (B : Blk X scope NB own cap)(ok : X.Ok){x : Str}{c : Addr}(h : (jr X.env.cells scope.names []).lookup x=some c) : X.env.cells.lookup x=some c ∧ (x, NameKind.free)∈scope.names := by
  rcases fN (yi h) with q | ⟨q, e⟩
  · simp at q
  · obtain ⟨d, hd⟩ := ok.has x (.inl (B.free (x, .free) q rfl))
    have e : c=(X.env.cells.lookup x).getD 0 := e
    rw [hd] at e
    refine ⟨?_, q⟩
    rw [hd, e];rfl
theorem Blk.cell (B : Blk X scope NB own cap)(ok : X.Ok){x : Str}(h : (x, NameKind.free)∈scope.names) : ∃ c, (jr X.env.cells scope.names []).lookup x=some c := dh (fP h)
theorem Blk.start (B : Blk X scope NB own cap)(I : Inv X pins σ H s)(hf : ∀ b∈fp, jg X pins H b)(hfs : ∀ b∈fp, ∃ o, s.heap.get? b=some o){h' : Heap}{tk : Nat}{m : Str → Option Value}(hC : s.heap.objs.size≤C)
    (k : ∀ b o, s.heap.get? b=some o → h'.get? b=some o) (hn : h'.Ns C m) :
    Inv (cxB X NB own scope C fp s H) [] (stB own cap σ) H { s with heap := h', toks := tk } := by
  have hlen : NB.length=own.length+cap.length := by rw [B.nb];simp
  have okB : (cxB X NB own scope C fp s H).Ok := by
    refine ⟨I.ok.mod, B.kind, I.ok.glob, I.ok.blt, hC, fun x y c h1 h2 => I.ok.inj x y c (B.cells I.ok h1).1 (B.cells I.ok h2).1, fun x hx => ?_, fun x c h1 h2 => ?_, I.ok.hd, I.ok.frames, .inl rfl, fun b hb => ⟨?_, fun x c h => ?_⟩, I.bs, xH I.ok.bsz I.sz, fun b o e hb => ?_, fun b hb z => ?_, I.stack, I.stkFree⟩
    · have : (x, NameKind.free)∈scope.names := by
        rcases hx with z | z
        · exact cL (.inl rfl) B.nocell z
        · exact cL (.inr rfl) B.nocell z
      exact B.cell I.ok this
    · have hx : x∈own := by simpa [cxB] using h1
      have q := B.owns x hx _ (B.cells I.ok h2).2 rfl
      exact absurd q (by simp)
    · obtain ⟨o, e⟩ := hfs b hb
      exact xN (xw (xm e) hC)
    · exact (hf b hb).2.2.2.2.1 x c (B.cells I.ok h).1
    · have hb : b∈fp := hb
      rcases (hf b hb).2.2.2.1 with z | z
      · exact I.ok.noex b o e z
      · exact absurd (xw (xm e) (xH I.ok.bsz z)) (xU _)
    · rcases xr.mp (I.stkSub b z) with z | z
      · exact (hf b hb).2.1 z
      · exact (hf b hb).2.2.1 z
  refine ⟨okB, rfl, I.bare, Un.kept k, ⟨m, hn, fun i x v e1 e2 e3 => ?_⟩, fun x c h => ?_, I.hok.fresh hC, fun x c h => I.freeC x c (B.cells I.ok h).1, fun p hp => absurd (show p∈([] : List (Addr × Obj)) from hp) (by simp), I.hok.kept k, ?_⟩
  · have e1 : NB[i]? = some x := e1
    have hi : ¬ i < own.length := fun hi => by
      unfold stB at e2
      rw [yj (by simpa using hi), w_] at e2
      cases q : own[i]? <;> rw [q] at e2 <;> cases e2
    unfold stB at e2
    rw [zh (by simpa using hi), w_] at e2
    rw [B.nb, zh (by omega), w_] at e1
    simp only [fu] at e2
    cases q : cap[i - own.length]? with
    | none => rw [q] at e1;cases e1
    | some j =>
      rw [q] at e1 e2
      have ex : X.N.getD j "" = x := xb e1
      have ev : (σ[j]?).getD none=some v := xb e2
      obtain ⟨hj, hjf⟩ := B.caps j (xc q)
      rw [ex] at hjf
      have hN : X.N[j]? = some x := by rw [← ex, xi, wY hj];rfl
      have hσ : σ[j]? = some (some v) := by
        cases z : σ[j]? with
        | none => rw [z] at ev;cases ev
        | some u => rw [z] at ev;exact xA some ev
      have hmem : (x, NameKind.free)∈scope.names := yi hjf
      have hkc := B.free _ hmem rfl
      obtain ⟨m0, hn0, hl⟩ := I.loc
      obtain ⟨u, r, l⟩ := hl j x v hN hσ (.inr (.inl hkc))
      refine ⟨u, r, .inr ⟨.inl (eR B.outk hkc hjf), ?_⟩⟩
      obtain ⟨c, hc⟩ := B.cell I.ok hmem
      refine ⟨c, hc, ?_⟩
      rcases l with ⟨z, _⟩ | ⟨_, c', hc', ⟨oc, hoc, hd⟩⟩
      · rw [show X.env.kindOf x=some .cell from hkc] at z;cases z
      · have := (B.cells I.ok hc).1
        rw [hc'] at this
        have : c'=c := xb this
        subst this
        exact ⟨oc, k _ _ hoc, hd⟩
  · obtain ⟨v, oc, hoc, hd⟩ := I.cell x c (B.cells I.ok h).1
    exact ⟨v, oc, k _ _ hoc, hd⟩
  · show (stB own cap σ).length=NB.length
    unfold stB
    rw [hlen];simp
theorem Blk.done (B : Blk X scope NB own cap)(I : Inv X pins σ H s)(hf : ∀ b∈fp, jg X pins H b){σB : St}{H' : Hp}{s' : Shared}{h'' : Heap}{D : Addr}{ys : List V}{its : List Value}{n : Nat}(hC : s.heap.objs.size≤C)(hD : s.heap.objs.size≤D)(hDC : D≠C)
    (J : Inv (cxB X NB own scope C fp s H) [] σB H' s') (hn : H' D=none) (e : s'.heap.get? D=some { cls := .type "list", data := .seq its.toArray n }) (hv : aZ ys its) (hz : ys.length≤sizeLine)
    (sb : Heap.SameBut C s'.heap h'') : Inv X pins σ (upd H' D (.lst ys)) { s' with heap := h'' } := by
  have un : Un (frs X.stack) fp H H' s.heap s'.heap := J.base
  have neC : ∀ {b o}, s.heap.get? b=some o → b≠C := fun q => xN (xw (xm q) hC)
  have neD : ∀ {b o}, s.heap.get? b=some o → b≠D := fun q => xN (xw (xm q) hD)
  have hCn : H' C=none := J.free
  refine I.call' (s' := { s' with heap := h'' }) (ch := fp) J.os ⟨fun b o q n hb hx => ?_, fun b o q n hb hx => ?_, fun b o q n hx => ?_, fun b o q hx => ?_, fun b xs q => ?_, fun b o u q => ?_, fun b ps q => ?_⟩ (fun b u q => ?_) J.bare fun b hb => ?_
  · exact (sb.2 b (neC q)).trans (un.keep b o q n hb hx)
  · obtain ⟨sl, r⟩ := un.slot b o q n hb hx
    exact ⟨sl, (sb.2 b (neC q)).trans r⟩
  · rw [ay (neD q)]
    exact un.free b o q n hx
  · obtain ⟨o', r⟩ := un.there b o q hx
    exact ⟨o', (sb.2 b (neC q)).trans r⟩
  · have r := un.tups b xs q
    rw [ay (ak r hn)]
    exact r
  · have r := un.frzs b o u q
    rw [ay (ak r hn)]
    exact r
  · obtain ⟨more, r⟩ := un.tbls b ps q
    exact ⟨more, by rw [ay (ak r hn)];exact r⟩
  · by_cases hb : b=D
    · subst hb
      rw [ab] at q
      cases q
      exact ⟨hz, its, n, hv, (sb.2 b hDC).trans e⟩
    · rw [ay hb] at q
      refine (J.hok b u q).stay (fun c v hc r => (sb.2 c ?_).trans r) (fun c r => ?_) fun c xs r => ?_
      · rcases hc with z | z
        · rw [z];exact ak q hCn
        · exact ak z hCn
      · rw [ay (ak r hn)];exact r
      · rw [ay (ak r hn)];exact r
  · obtain ⟨_, f1, _, f3, f4, f5⟩ := hf b hb
    exact ⟨f3, f1, f4, f5⟩
end
def PIf (X : Cx)(ifs : List Expr)(t : TT) : Prop :=
  ∀ (pins : List (Addr × Obj)) (s : Shared) (σ : St) (H : Hp) (Q : Bool → Hp → Prop), Inv X pins σ H s → t σ H Q →
    wpAny (model X.prog X.w) X.A (forIn ifs true fun c r => if r=true then do let ok ← isTrue c X.env (eval c X.env);pure (ForInStep.yield ok) else pure (ForInStep.yield r)) (TP X pins σ Q) X.xe s
def wH : TT := fun _ H Q => Q true H
theorem a9 {X : Cx} : PIf X [] wH := fun _ _ _ H _ I h => wpAny_tests_nil ⟨H, I, h⟩
theorem nN {X : Cx}{c : Expr}{t : TT}(h : PT X c t) : PIf X [c] t := fun pins s σ H Q I q => wpAny_tests_one (h pins s σ H Q I q)
section
variable {prog : Program} {w : World} {A : Around} {R : Result → Shared → Prop} {s : Shared}
abbrev noE : Value → Shared → Prop := fun _ _ => False
theorem gT {elt tg iter : Expr}{ifs : List Expr}{scope : Scope}{pos : Pos}{it acc : Value}{env : Env}(I : Nat → Shared → Prop)
    (turn : ∀ n s, I n s → wpAny (model prog w) A (pyNext it) (fun r s₁ => match r with
      | none => R (.ok .next) s₁
      | some v => wpAny (model prog w) A (letOwnedTupleGo tg it v) (fun _ s₀ => wpAny (model prog w) A (assign tg env v) (fun _ s₂ =>
          wpAny (model prog w) A (forIn ifs true fun c r => if r=true then do let ok ← isTrue c env (eval c env);pure (ForInStep.yield ok) else pure (ForInStep.yield r)) (fun ok s₃ =>
            if ok=true then wpAny (model prog w) A (eval elt env) (fun x s₄ => wpAny (model prog w) A (call (.builtin "list.append") [acc, x]) (fun _ s₅ => ∃ m, m < n ∧ I m s₅) noE s₄) noE s₃
            else ∃ m, m < n ∧ I m s₃) noE s₂) noE s₀) noE s₁) noE s)
    (n : Nat) (h : I n s) : codeAny (model prog w) A (.compLoop (.ListComp elt [⟨tg, iter, ifs, 0⟩] scope pos) 0 it acc env) R s := by
  refine codeAny_loop rfl I (fun n s hI => ?_) n h
  show wpAny _ A ((compTurn (.ListComp elt [⟨tg, iter, ifs, 0⟩] scope pos) 0 it acc env).onRaise (fun x => do noteFrame x env;theTreesLotGoes x)) _ _ s
  refine wpAny_noted ?_
  rw [compTurn_list]
  refine wX (wpAny_standAt (wX (yr (turn n s hI) (fun r s₁ h₁ => ?_) fun _ _ z => False.elim z)))
  cases r with
  | none => exact w6 h₁
  | some v =>
    refine wX (yr h₁ (fun _ s₀ h₀ => wX (yr h₀ (fun _ s₂ h₂ => wX (yr h₂ (fun ok s₃ h₃ => ?_) fun _ _ z => False.elim z)) fun _ _ z => False.elim z)) fun _ _ z => False.elim z)
    cases ok with
    | false => exact w6 ⟨rfl, h₃⟩
    | true => exact wX (wX (yr h₃ (fun x s₄ h₄ => wX (yr h₄ (fun _ s₅ h₅ => w6 (w6 ⟨rfl, h₅⟩)) fun _ _ z => False.elim z)) fun _ _ z => False.elim z))
end
def nO (own : List Str)(cap : List Nat)(g : TG)(ti : TT)(te : TE)(Q : VK)(σ : St)(J : It)(H1 : Hp) : Prop := ∃ W : Nat → Nat → List V → St → Hp → Prop, (∃ m, W 0 m [] (stB own cap σ) H1) ∧ ∀ i m ys σ H, W i m ys σ H →
  (J.stop i H ∧ ys.length≤sizeLine ∧ ∀ D, H D=none → Q (.ref D) (upd H D (.lst ys))) ∨
  (J.go i H ∧ ys.length < sizeLine ∧ ∀ x H', J.yld i H x H' → g x σ H' fun σ2 H2 => ti σ2 H2 fun b H3 => if b=true then te σ2 H3 fun y H4 => ∃ m', m' < m ∧ W (i+1) m' (ys++[y]) σ2 H4 else ∃ m', m' < m ∧ W (i+1) m' ys σ2 H3)
def sS (own : List Str)(cap : List Nat)(wi : TI)(g : TG)(ti : TT)(te : TE) : TE := fun σ H Q => wi σ H fun J H1 => nO own cap g ti te Q σ J H1
theorem bp {X : Cx}{elt iter tg : Expr}{ifs : List Expr}{scope : Scope}{pos : Pos}{NB own : List Str}{cap : List Nat}{wi : TI}{g : TG}{ti : TT}{te : TE}(B : Blk X scope NB own cap)(hc : X.calm=true)(hi : PI X tg iter wi)
    (hg : ∀ C fp s₀ H₀, PG (cxB X NB own scope C fp s₀ H₀) tg g) (ht : ∀ C fp s₀ H₀, PIf (cxB X NB own scope C fp s₀ H₀) ifs ti) (he : ∀ C fp s₀ H₀, PE (cxB X NB own scope C fp s₀ H₀) elt te)
    (hs : ∀ x, foldedSetIterable iter X.env x=pure x := by intro _;rfl) : PE X (.ListComp elt [⟨tg, iter, ifs, 0⟩] scope pos) (sS own cap wi g ti te) := by
  intro pins s σ H Q I0 h
  rw [eval_ListComp]
  have hclos := dj (env := X.env) (scope := scope) fun y hy e => I0.ok.has y.1 (.inl (B.free y hy e))
  refine AK (use := none) rfl hs hclos B.kind B.names (thn (hi pins s σ H _ I0 h) fun v s1 h1 => thn h1 fun itv s2 h2 => ?_)
  obtain ⟨it, fp, tn, J, H2, rfl, I, T, st2, f2, W, ⟨m0, w0⟩, turn⟩ := h2
  refine wpAny_newList ?_
  refine wpAny_newFunctionEnv B.nocell (by intro y hy;simp at hy) (fun h₁ hns₁ hsb₁ => ?_) B.kind
  dsimp only at hns₁ hsb₁ ⊢
  generalize hP : s2.heap.push { cls := .type "list", dict := none, data := .seq ([] : List Value).toArray }=P at hns₁ hsb₁ ⊢
  have hC : P.objs.size=s2.heap.objs.size+1 := by rw [← hP, Bb]
  have hDC : s2.heap.objs.size≠P.objs.size := by rw [hC];exact xN (A1 _)
  have hCle : s2.heap.objs.size≤P.objs.size := by rw [hC];exact Nat.le_succ _
  have old : ∀ b o, s2.heap.get? b=some o → h₁.get? b=some o := fun b o e => by
    refine (hsb₁.2 b ?_).trans (w5 _ (hP ▸ w5 _ e))
    exact xN (xw (xm e) hCle)
  have hD : h₁.get? s2.heap.objs.size=some { cls := .type "list", data := .seq ([] : List Value).toArray 0 } := by
    refine (hsb₁.2 _ hDC).trans (w5 _ ?_)
    rw [← hP]
    exact xj _ rfl
  have hfs : ∀ b∈fp, ∃ o, s2.heap.get? b=some o := fun b hb => let ⟨o, e, _⟩ := T.obj _ _ st2 b hb;⟨o, e⟩
  have st4 : tn 0 h₁ := T.keep _ _ _ st2 fun b _ o e => old b o e
  generalize htk : s2.toks+([] : List (Str × Value)).length=tk4
  have I4 := B.start (C := P.objs.size) (tk := tk4) I f2 hfs hCle old hns₁
  have fOk : ∀ {H' : Hp} {b : Addr} {ob : Obj}, b∈fp → H' b=none → jg (cxB X NB own scope P.objs.size fp s2 H2) [(s2.heap.objs.size, ob)] H' b := fun {H' b ob} hb hn => by
    obtain ⟨o, e⟩ := hfs b hb
    refine ⟨hn, (I4.ok.exf b hb).1, I4.ok.exfs b hb, .inl hb, (I4.ok.exf b hb).2, fun p hp => ?_⟩
    have ep : p=(s2.heap.objs.size, ob) := xf.mp (show p∈[(s2.heap.objs.size, ob)] from hp)
    rw [ep]
    exact fun z => absurd (xm e) (by rw [← z];exact xU _)
  have dnf : s2.heap.objs.size∉frs X.stack := fun z => by
    rcases xr.mp (I.stkSub _ z) with z | z
    · exact absurd I.lt (by rw [← z];exact xU _)
    · exact I.nofs (wZ _) z
  have I3D : ∀ {σ3 : St} {H3 : Hp} {s3 : Shared} {its : List Value} {k : Nat}, Inv (cxB X NB own scope P.objs.size fp s2 H2) [] σ3 H3 s3 → s3.heap.get? s2.heap.objs.size=some { cls := .type "list", data := .seq its.toArray k } → H3 s2.heap.objs.size=none →
      Inv (cxB X NB own scope P.objs.size fp s2 H2) [(s2.heap.objs.size, { cls := .type "list", data := .seq its.toArray k })] σ3 H3 s3 := fun I3 e n => I3.pins_of fun p hp => by
    have ep := xf.mp hp
    subst ep
    exact ⟨e, n, hDC, dnf, fun v z => by cases z⟩
  have ndf : s2.heap.objs.size∉fp := fun z => by
    obtain ⟨o, e⟩ := hfs _ z
    exact absurd (xm e) (xU _)
  have nCD : ∀ x c, (cxB X NB own scope P.objs.size fp s2 H2).env.cells.lookup x=some c → c≠s2.heap.objs.size := fun x c e z => by
    obtain ⟨v, o, ho, _⟩ := I.cell x c (B.cells I.ok e).1
    rw [z] at ho
    exact absurd (xm ho) (xU _)
  have loop : ∀ s₃ : Shared, s₃ = { s2 with heap := h₁, toks := tk4 } → codeAny (model X.prog X.w) X.A (.compLoop (.ListComp elt [⟨tg, iter, ifs, 0⟩] scope pos) 0 (.ref it) (.ref s2.heap.objs.size) (cxB X NB own scope P.objs.size fp s2 H2).env)
      (compPost (model X.prog X.w) X.A X.xe none (EP X pins σ Q) (.ref s2.heap.objs.size) P.objs.size) s₃ := by
    rintro s₃ rfl
    refine gT (fun n s' => ∃ i σB H' ys its k, Inv (cxB X NB own scope P.objs.size fp s2 H2) [] σB H' s' ∧ tn i s'.heap ∧ (∀ b∈fp, H' b=none) ∧ s'.heap.get? s2.heap.objs.size=some { cls := .type "list", data := .seq (its : List Value).toArray k } ∧ aZ ys its ∧ H' s2.heap.objs.size=none ∧ W i n ys σB H') ?_ m0
      ⟨0, stB own cap σ, H2, [], [], 0, I4, st4, fun b hb => (f2 b hb).1, hD, .nil, I.hok.fresh (wZ _), w0⟩
    rintro n s3 ⟨i, σ3, H3, ys, its, k, I3, st3, fr3, hD3, rv, hn3, w3⟩
    rcases turn i n ys σ3 H3 w3 with ⟨stop, hz, q⟩ | ⟨go, hz, step⟩
    · refine thn (T.done (cxB X NB own scope P.objs.size fp s2 H2) rfl rfl rfl hc i _ s3 σ3 H3 noE (I3D I3 hD3 hn3) (fun b hb => fOk hb (fr3 b hb)) st3 stop) fun r s4 zq1 => ?_
      obtain ⟨hr, I4'⟩ := zq1
      subst hr
      have hD4 : s4.heap.get? s2.heap.objs.size=some { cls := .type "list", data := .seq (its : List Value).toArray k } := (I4'.pin (s2.heap.objs.size, _) (xl _ (xf.mpr rfl))).1
      have I5 : Inv (cxB X NB own scope P.objs.size fp s2 H2) [] σ3 H3 s4 := I4'.pins_of fun p hp => absurd (show p∈([] : List (Addr × Obj)) from hp) (by simp)
      obtain ⟨mC, hnC, _⟩ := I5.loc
      exact ⟨mC, hnC, fun h'' sb => ⟨.ref s2.heap.objs.size, _, B.done I f2 hCle (wZ _) hDC I5 hn3 hD4 rv hz sb, rfl, q _ hn3⟩⟩
    · refine thn (T.item (cxB X NB own scope P.objs.size fp s2 H2) rfl rfl rfl hc i _ s3 σ3 H3 noE (I3D I3 hD3 hn3) (fun b hb => fOk hb (fr3 b hb)) st3 go) fun r s4 zq2 => ?_
      obtain ⟨u, hr, h4⟩ := zq2
      subst hr
      refine thn h4 fun _ s5 zq3 => ?_
      obtain ⟨x, H5, I5, r5, y5, st5, fr5⟩ := zq3
      have I5' := I5.pinned (fun b hb => fOk hb (fr5 b hb)) (T.obj _ _ st5)
      refine thn (hg _ fp s2 H2 _ s5 σ3 H5 x u _ I5' r5 (step x H5 y5)) fun _ s6 zq4 => ?_
      obtain ⟨σ6, H6, I6, q6⟩ := zq4
      refine thn (ht _ fp s2 H2 _ s6 σ6 H6 _ I6 q6) fun b s7 zq5 => ?_
      obtain ⟨H7, I7, q7⟩ := zq5
      have pinned : ∀ {σ8 : St} {H8 : Hp} {s8 : Shared}, Inv (cxB X NB own scope P.objs.size fp s2 H2) ([(s2.heap.objs.size, { cls := .type "list", data := .seq (its : List Value).toArray k })]++fo fp s5.heap) σ8 H8 s8 →
          tn (i+1) s8.heap ∧ (∀ b∈fp, H8 b=none) ∧ s8.heap.get? s2.heap.objs.size=some { cls := .type "list", data := .seq (its : List Value).toArray k } ∧ H8 s2.heap.objs.size=none := fun {σ8 H8 s8} I8 => by
        refine ⟨T.keep _ _ _ st5 fun b hb o e => (I8.pin (b, o) (xl _ (xl _ (bO hb e)))).1, fun b hb => ?_, ?_, ?_⟩
        · obtain ⟨o, e, d⟩ := T.obj _ _ st5 b hb
          exact (I8.pin (b, o) (xl _ (xl _ (bO hb e)))).2.1
        · exact (I8.pin (s2.heap.objs.size, _) (xl _ (xY _ (xf.mpr rfl)))).1
        · exact (I8.pin (s2.heap.objs.size, _) (xl _ (xY _ (xf.mpr rfl)))).2.1
      have nopin : ∀ {pp : List (Addr × Obj)} {σ8 : St} {H8 : Hp} {s8 : Shared}, Inv (cxB X NB own scope P.objs.size fp s2 H2) pp σ8 H8 s8 → Inv (cxB X NB own scope P.objs.size fp s2 H2) [] σ8 H8 s8 := fun I8 => I8.pins_of fun p hp => absurd (show p∈([] : List (Addr × Obj)) from hp) (by simp)
      cases b with
      | false =>
        rw [if_neg xu] at q7 ⊢
        obtain ⟨m', hm, w7⟩ := q7
        obtain ⟨p1, p2, p3, p4⟩ := pinned I7
        exact ⟨m', hm, i+1, σ6, H7, ys, its, k, nopin I7, p1, p2, p3, rv, p4, w7⟩
      | true =>
        rw [if_pos rfl] at q7 ⊢
        refine thn (he _ fp s2 H2 _ s7 σ6 H7 _ I7 q7) fun yv s8 zq6 => ?_
        obtain ⟨y, H8, I8, r8, m', hm, w8⟩ := zq6
        obtain ⟨p1, p2, p3, p4⟩ := pinned I8
        refine yV yn ⟨_, p3, rfl⟩ Am (Ad _ _) (AJ s2.heap.objs.size its.toArray k yv (by rw [xa, ← rv.length];omega)) ⟨p3, ?_⟩
        have q := A0 p3 fun a => a.push yv
        have ea : its.toArray.push yv=(its++[yv]).toArray := by simp
        rw [ea] at q
        have I9 : Inv (cxB X NB own scope P.objs.size fp s2 H2) [] σ6 H8 { s8 with heap := s8.heap.update s2.heap.objs.size (Obj.mapSeq fun a => a.push yv), toks := s8.toks } :=
          (nopin I8).turned (it := s2.heap.objs.size) (fun b o hb e => (xZ s8.heap _ (Ne.symm hb)).trans e) p4 hDC (.inr (wZ _)) (fun x c e => nCD x c e) fun p hp => absurd (show p∈([] : List (Addr × Obj)) from hp) (by simp)
        refine ⟨m', hm, i+1, σ6, H8, ys++[y], its++[yv], _, I9, ?_, p2, q, rv.append (.cons r8 .nil), p4, w8⟩
        refine T.keep _ _ _ p1 fun b hb o e => (xZ s8.heap _ ?_).trans e
        intro z
        rw [z] at ndf
        exact ndf hb
  exact codeAny_compStart_list (loop _ rfl) (T.self X.A 0 _ _ _ st4 (loop _ rfl))
theorem bS {own : List Str}{cap : List Nat}{J : It}{g : TG}{ti : TT}{te : TE}{σ : St}{H : Hp}{Q : VK}(n : Nat)(Pv : Nat → List V → St → Hp → Prop)(h0 : Pv 0 [] (stB own cap σ) H)(hz : ∀ i ys σ H, i≤n → Pv i ys σ H → ys.length≤i)(hn : n≤sizeLine)
    (hgo : ∀ i ys σ H, i < n → Pv i ys σ H → J.go i H) (hst : ∀ ys σ H, Pv n ys σ H → J.stop n H)
    (hs : ∀ i ys σ H x H' (N : List V → St → Hp → Prop), i < n → Pv i ys σ H → J.yld i H x H' → (∀ ys' σ' H'', Pv (i+1) ys' σ' H'' → N ys' σ' H'') → g x σ H' fun σ2 H2 => ti σ2 H2 fun b H3 => if b=true then te σ2 H3 fun y H4 => N (ys++[y]) σ2 H4 else N ys σ2 H3)
    (hd : ∀ ys σ H D, Pv n ys σ H → H D=none → Q (.ref D) (upd H D (.lst ys))) :
    nO own cap g ti te Q σ J H := by
  refine ⟨fun i m ys σ H => m=n - i ∧ i≤n ∧ Pv i ys σ H, ⟨n, by simp, xV _, h0⟩, ?_⟩
  rintro i m ys σ H ⟨rfl, hi, p⟩
  have hl := hz i ys σ H hi p
  by_cases hlt : i < n
  · refine .inr ⟨hgo i ys σ H hlt p, by omega, fun x H' y => ?_⟩
    exact hs i ys σ H x H' (fun ys' σ' H'' => ∃ m', m' < n - i ∧ m'=n - (i+1) ∧ i+1≤n ∧ Pv (i+1) ys' σ' H'') hlt p y fun ys' σ' H'' q => ⟨n - (i+1), by omega, rfl, hlt, q⟩
  · have e : i=n := by omega
    subst e
    exact .inl ⟨hst ys σ H p, by omega, fun D hD => hd ys σ H D p hD⟩
end L2
namespace L2
open PySem PySem.Spec PyProof.Rows
def Its (z : Str) : It := ⟨fun i _ => i < z.cps.size, fun i H x H' => H'=H ∧ ∃ c, z.cps[i]? = some c ∧ x = .str ⟨#[c]⟩, fun i _ => i=z.cps.size⟩
theorem cx {P : Program}{w : World}{K : PySem.W.Frag}{tg : Expr}{it n : Nat}{Pv : Nat → Value → Prop}{st : Nat → Heap → Prop}{J : It}{T : String}{fl : Nat → Array Value}
    (W : ∀ A : Around, A.handled=none → Walks P w A it [it] [it] n Pv st) (hst : ∀ i h, st i h → ∃ o, h.get? it=some o ∧ o.cls = .type T ∧ o.data = .fields (fl i))
    (hT : ["enumerate", "zip", "dict_itemiterator", "dict_reverseitemiterator", "odict_iterator", "itertools.zip_longest", "itertools.pairwise"].contains T=false)
    (hgo : ∀ i H, J.go i H → i < n) (hstop : ∀ i H, J.stop i H → i=n) (hy : ∀ i H u, J.go i H → Pv i u → ∃ x, bz x u ∧ J.yld i H x H)
    (hself : ∀ (A : Around) (i : Nat) (s : Shared) (Q : Value → Shared → Prop) (E : Value → Shared → Prop), st i s.heap → Q (.ref it) s → wpAny (model P w) A (pyIter (.ref it)) Q E s) : pe P w K tg J [it] it st where
  mem := by simp
  obj := fun i h s b hb => by
    have e : b=it := by simpa using hb
    subst e
    obtain ⟨o, e, c, d⟩ := hst i h s
    exact ⟨o, e, fun v z => by rw [d] at z;cases z⟩
  keep := fun i h h' s k => (W {} rfl).frame i h h' s k
  item := by
    intro X hP hw hK hc i pins s σ H E I hf s0 hg
    subst hP hw hK
    obtain ⟨f0, f1, f2, f3, f4, f5⟩ := hf it (by simp)
    refine (W X.A (I.ok.hd hc)).item i s _ _ (hgo i H hg) s0 fun v h' tk hv st' kk => ?_
    have I1 : Inv X pins σ H { s with heap := h', toks := tk } := I.turned (fun b o hb e => kk b o (by simpa using hb) e) f0 f1 f3 f4 f5
    obtain ⟨o, e, c, d⟩ := hst _ _ st'
    obtain ⟨x, rx, yx⟩ := hy i H v hg hv
    exact ⟨v, rfl, nr (s := { s with heap := h', toks := tk }) e c d hT ⟨x, H, I1, rx, yx, st', fun b hb => (hf b hb).1⟩⟩
  done := by
    intro X hP hw hK hc i pins s σ H E I hf s0 hg
    subst hP hw hK
    obtain ⟨f0, f1, f2, f3, f4, f5⟩ := hf it (by simp)
    have e := hstop i H hg
    subst e
    exact (W X.A (I.ok.hd hc)).done s _ _ s0 fun h' tk kk => ⟨rfl, I.turned (fun b o hb e => kk b o (by simpa using hb) e) f0 f1 f3 f4 f5⟩
  self := hself
section
variable {X : Cx} {tg : Expr}
def wI (tl : TE) : TI := fun σ H R => tl σ H fun x H1 => ∃ z, x = .str z ∧ R (Its z) H1
theorem kX {z : Str}{i : Nat}{H : Hp}{u : Value}(h : SignAt z i u) : ∃ x, bz x u ∧ (Its z).yld i H x H := by
  obtain ⟨c, t, e, rfl⟩ := h
  exact ⟨.str ⟨#[c]⟩, ⟨t, rfl⟩, rfl, c, e, rfl⟩
theorem js {l : Expr}{tl : TE}(hl : PE X l tl) : PI X tg l (wI tl) := by
  intro pins s σ H R I h
  refine thn (hl pins s σ H _ I h) fun v s1 zq1 => ?_
  obtain ⟨x, H1, I1, r1, q1⟩ := zq1
  obtain ⟨z, rfl, q⟩ := q1
  obtain ⟨t, rfl⟩ := r1
  have fp : ∀ b∈[s1.heap.objs.size], jg X pins H1 b := fun b hb => by
    have e : b=s1.heap.objs.size := by simpa using hb
    subst e
    exact I1.fpOk (wZ _) (I1.hok.fresh (wZ _))
  cases ha : z.cps.all (· < 128)
  · refine wpAny_pyIter_wide ha ⟨s1.heap.objs.size, [s1.heap.objs.size], _, Its z, H1, rfl, I1.kept (t' := s1.toks) fun b o e => w5 _ e,
      cx (T := "str_iterator") (fl := fun i => #[.str z t, .int i 0]) (fun A hh => Walks.strWide hh _ z t) (fun i h st => st) (by decide) (fun i H g => g) (fun i H g => g) (fun i H u _ hu => kX hu) (fun A i s Q E st h => wpAny_pyIter_striter_wide st h), ⟨_, xj _ rfl, rfl, rfl⟩, fp, q⟩
  · refine wpAny_pyIter_ascii ha ⟨s1.heap.objs.size, [s1.heap.objs.size], _, Its z, H1, rfl, I1.kept (t' := s1.toks) fun b o e => w5 _ e,
      cx (T := "str_ascii_iterator") (fl := fun i => #[.str z t, .int i 0]) (fun A hh => Walks.strAscii hh _ z t) (fun i h st => st) (by decide) (fun i H g => g) (fun i H g => g) (fun i H u _ hu => kX hu) (fun A i s Q E st h => wpAny_pyIter_striter_ascii st h), ⟨_, xj _ rfl, rfl, rfl⟩, fp, q⟩
inductive vY (x : V)(lo : Option Int)(hi : Option Int)(H : Hp)(Q : VK) : Prop
  | mk : ∀ z, (x = .str z) → (z.length≤sizeLine) → (Q (.str (Txt.slice z lo hi)) H) → vY x lo hi H Q
theorem dk : SlR X vY := by
  intro pins s σ H x v vl vu lo hi sl Q I rx hs pl pu h
  obtain ⟨z, rfl, hz, q⟩ := h
  obtain ⟨t, rfl⟩ := rx
  have fin : ∀ (lo hi : Option Int), Q (.str (Txt.slice z lo hi)) H → ∀ t' k, EP X pins σ Q (.str (Txt.slice z lo hi) t') { s with toks := k } := fun lo hi q t' k => ⟨.str _, H, I.tok _, ⟨_, rfl⟩, q⟩
  refine ⟨"str", _, F.slot_str_getitem.lookup, Ah _ _ _, ?_⟩
  cases pl with
  | none =>
    cases pu with
    | none => exact yt (l := none) (u := none) (st := none) hs rfl (zB ⟨xH (zY z _ _) hz, fun t' k => fin _ _ q t' k⟩)
    | int j uj => exact yt (l := none) (u := some (j, uj)) (st := none) hs rfl (zB ⟨xH (zY z _ _) hz, fun t' k => fin _ _ q t' k⟩)
  | int i ui =>
    cases pu with
    | none => exact yt (l := some (i, ui)) (u := none) (st := none) hs rfl (zB ⟨xH (zY z _ _) hz, fun t' k => fin _ _ q t' k⟩)
    | int j uj => exact yt (l := some (i, ui)) (u := some (j, uj)) (st := none) hs rfl (zB ⟨xH (zY z _ _) hz, fun t' k => fin _ _ q t' k⟩)
inductive pD (x : V)(vs : List V)(H : Hp)(Q : VK) : Prop
  | mk : ∀ z, (x = .str z) → (vs=[]) → (z.length≤5592405) → (Q (.str (Txt.upper z)) H) → pD x vs H Q
inductive pE (x : V)(vs : List V)(H : Hp)(Q : VK) : Prop
  | mk : ∀ z, (x = .str z) → (vs=[]) → (z.length≤5592405) → (Q (.str (Txt.lower z)) H) → pE x vs H Q
theorem nP : MtR X "str.upper" pD := by
  intro pins s σ H x vs v us Q I rx rv h
  obtain ⟨z, rfl, rfl, hz, q⟩ := h
  obtain ⟨t, rfl⟩ := rx
  cases rv
  exact SCL.upper hz fun _ => ⟨.str _, H, I.tok _, ⟨_, rfl⟩, q⟩
theorem eg : MtR X "str.lower" pE := by
  intro pins s σ H x vs v us Q I rx rv h
  obtain ⟨z, rfl, rfl, hz, q⟩ := h
  obtain ⟨t, rfl⟩ := rx
  cases rv
  exact SCL.lower hz fun _ => ⟨.str _, H, I.tok _, ⟨_, rfl⟩, q⟩
theorem dH : ∀ {ys : List Str} {us : List Value}, aZ (ys.map V.str) us → StrsAre us ys
  | [], _, r => by
    rw [Aw] at r
    cases r
    exact .nil
  | y::ys, us, r => by
    rw [xv] at r
    cases r with
    | cons r1 r2 =>
      obtain ⟨t, e⟩ := r1
      subst e
      exact .cons y t (dH r2)
inductive sT (K : PySem.W.Frag)(x : V)(vs : List V)(H : Hp)(Q : VK) : Prop
  | mk : ∀ z p ys, (x = .str z) → (vs=[.ref p]) → (SqL K H p (ys.map V.str)) → ((ys.map (·.length)).sum+ys.length*z.length≤16777216) → (Q (.str (Txt.join z ys)) H) → sT K x vs H Q
theorem eS : MtR X "str.join" (sT X.K) := by
  intro pins s σ H x vs v us Q I rx rv h
  obtain ⟨z, p, ys, rfl, rfl, hq, hz, q⟩ := h
  obtain ⟨t, rfl⟩ := rx
  obtain ⟨u, rfl, ru⟩ := cw rv
  cases ru
  obtain ⟨its, r, pl, _⟩ := I.list hq
  exact join_list pl.isList (by simpa using dH r) hz fun t' k => ⟨.str _, H, I.tok _, ⟨_, rfl⟩, q⟩
inductive d7  (x : V)(y : V)(H : Hp)(Q : VK) : Prop
  | mk : ∀ z n, (x = .str z) → (y = .int n) → (MulOk z n) → (Q (.str (Txt.mul z n)) H) → d7 x y H Q
theorem fx : OpR X (binaryOp .Mult) d7 := by
  intro pins s σ H x y v u Q I rx ry h
  obtain ⟨z, n, rfl, rfl, hz, q⟩ := h
  obtain ⟨t, rfl⟩ := rx
  obtain ⟨t', rfl⟩ := ry
  exact SB.mul hz fun t' k => ⟨.str _, H, I.tok _, ⟨_, rfl⟩, q⟩
end
theorem iI {z : Str}{g : TG}{tb : TS}{D : fm}{σ : St}{H : Hp}(Pv : Nat → St → Hp → Prop)(h0 : Pv 0 σ H)
    (hs : ∀ i c σ H, z.cps[i]? = some c → Pv i σ H → g (.str ⟨#[c]⟩) σ H fun σ2 H2 => tb { D with nx := Pv (i+1), ct := Pv (i+1), bk := D.nx } σ2 H2) (hd : ∀ σ H, Pv z.cps.size σ H → D.nx σ H) :
    ∃ W : Nat → Nat → St → Hp → Prop, (∃ m, W 0 m σ H) ∧ ∀ i m σ H, W i m σ H →
      ((Its z).stop i H ∧ D.nx σ H) ∨ ((Its z).go i H ∧ ∃ N : St → Hp → Prop, (∀ σ' H', N σ' H' → ∃ m', m' < m ∧ W (i+1) m' σ' H') ∧ ∀ x H', (Its z).yld i H x H' → g x σ H' fun σ2 H2 => tb { D with nx := N, ct := N, bk := D.nx } σ2 H2) := by
  refine ⟨fun i m σ H => m=z.cps.size - i ∧ i≤z.cps.size ∧ Pv i σ H, ⟨z.cps.size, by simp, xV _, h0⟩, ?_⟩
  rintro i m σ H ⟨rfl, hi, p⟩
  by_cases hlt : i < z.cps.size
  · refine .inr ⟨hlt, Pv (i+1), fun σ' H' p' => ⟨z.cps.size - (i+1), by omega, rfl, hlt, p'⟩, fun x H' y => ?_⟩
    obtain ⟨e, c, hc, ex⟩ := y
    subst e ex
    exact hs i c σ _ hc p
  · have e : i=z.cps.size := by omega
    subst e
    exact .inl ⟨rfl, hd σ H p⟩
end L2
namespace PySem
open Sem (wp)
open Builtin Builtin.SmallTypes
namespace F
theorem lookup_str_reversed : typeLookup (.type "str") "__reversed__" = pure none := by rw [Ap, y9]; kernel_rfl
theorem fQ : Slot "reversed" "__init__" "object.__init__" :=
  .of (owner := "object") (n := "__init__") (by rw [Ap, y9];kernel_rfl) (by decide +kernel) (by decide +kernel) (by decide +kernel)
    (by first | exact .inl (by decide +kernel) | exact .inr (by decide +kernel)) (by rw [AC];kernel_rfl)
theorem called_rvs : TypeCalled "reversed" "reversed.__new__" "object.__init__" :=
  ⟨by decide +kernel, create_reversed, ⟨_, _, mro_reversed⟩, made_reversed, plain_reversed_new, sub_reversed_self, fQ⟩
end F
set_option maxHeartbeats 1000000 in
theorem kY (x : Str)(t : Tok) : Meets (Builtin.«reversed.__new__» ⟨[.type "reversed", .str x t], []⟩) (fun _ R s => ¬ (x.length : Int)≥2 ^ 63 ∧
      ∀ tk, R (.ok (.ret (.ref s.heap.objs.size))) { s with heap := s.heap.push { cls := .type "reversed", data := .fields #[.str x t, rawInt ((x.length : Int) - 1)] }, toks := tk }) :=
  .of_wp fun prog w A R s h => by
    obtain ⟨hx, h⟩ := h
    unfold Builtin.«reversed.__new__»
    refine wX (zP (newClass_reversed _) ?_)
    try dsimp only
    refine wX (zP (a := ()) (by first | rfl | kernel_rfl) ?_)
    refine wX (zP (a := ()) (by first | rfl | kernel_rfl) ?_)
    try dsimp only
    refine wX (y8 (Ah s x t) F.lookup_str_reversed ?_)
    try dsimp only
    refine wX ?_
    have hl := F.slot_str_getitem.lookup
    have hT := Ah s x t
    have hD : isSubtype (.type "str") (.type "dict")=pure false := by rw [AC];kernel_rfl
    repeat (any_goals (first | assumption | refine PySem.P.len_str hx ?_ | wp_step))
    exact ⟨_, rfl, h _⟩
def Heap.IsRvs (h : Heap)(a : Addr)(x : Str)(t : Tok)(i : Int) : Prop := ∃ o, h.get? a=some o ∧ o.cls = .type "reversed" ∧ o.data = .fields #[.str x t, rawInt i]
theorem Heap.IsRvs.typeIs {s : Shared}{a : Addr}{x : Str}{t : Tok}{i : Int}(y : s.heap.IsRvs a x t i) : s.TypeIs (.ref a) "reversed" := let ⟨o, ho, hc, _⟩ := y; ⟨o, ho, hc⟩
namespace F
theorem slot_rvs_next : Slot "reversed" "__next__" "reversed.__next__" :=
  .of (owner := "reversed") (n := "__next__") (by rw [Ap, y9];kernel_rfl) (by decide +kernel) (by decide +kernel) (by decide +kernel)
    (by first | exact .inl (by decide +kernel) | exact .inr (by decide +kernel)) (by rw [AC];kernel_rfl)
theorem entry_rvs_next : entryFor table "reversed.__next__" = some Builtin.«reversed.__next__» := entryFor_of_tree (by kernel_rfl)
theorem args_rvs_next (a : Value) : argsOk "reversed.__next__" ⟨[a], []⟩ := by unfold argsOk; kernel_rfl
theorem slot_rvs_iter : Slot "reversed" "__iter__" "reversed.__iter__" :=
  .of (owner := "reversed") (n := "__iter__") (by rw [Ap, y9];kernel_rfl) (by decide +kernel) (by decide +kernel) (by decide +kernel)
    (by first | exact .inl (by decide +kernel) | exact .inr (by decide +kernel)) (by rw [AC];kernel_rfl)
theorem args_rvs_iter (a : Value) : argsOk "reversed.__iter__" ⟨[a], []⟩ := by unfold argsOk; kernel_rfl
theorem entry_rvs_iter : entryFor table "reversed.__iter__" = some Builtin.«dict_keyiterator.__iter__» :=
  entryFor_alias (id' := "dict_keyiterator.__iter__") (by kernel_rfl) rfl (by decide +kernel) (by kernel_rfl)
end F
section
variable {prog : Program} {w : World} {A : Around} {E : Value → Shared → Prop} {s : Shared} {x : Str} {t : Tok}
theorem gU {Q : Value → Shared → Prop}(hx : ¬ (x.length : Int)≥2 ^ 63)
    (h : ∀ tk, Q (.ref s.heap.objs.size) { s with heap := s.heap.push { cls := .type "reversed", data := .fields #[.str x t, rawInt ((x.length : Int) - 1)] }, toks := tk }) : wpAny (model prog w) A (call (.type "reversed") [.str x t]) Q E s :=
  callType_new F.called_rvs (by decide) (F.typeCall_reversed_1 _) (F.newCall_reversed_1 _) (fun obj => F.args_object_init_2 obj _) F.entry_reversed_new (kY x t) ⟨hx, fun tk => ⟨⟨_, xj _ rfl, rfl⟩, h tk⟩⟩
theorem fS {it : Addr}{i : Int}{Q : Value → Shared → Prop}(hit : s.heap.IsRvs it x t i)(h : Q (.ref it) s) : wpAny (model prog w) A (pyIter (.ref it)) Q E s := by
  refine wpAny_pyIter_slot hit.typeIs F.slot_rvs_iter (xS F.slot_rvs_iter hit.typeIs F.entry_rvs_iter ?_ (F.args_rvs_iter _))
  show wpAny _ _ (ret (.ref it)) _ _ s
  exact w6 ⟨_, rfl, "reversed", _, hit.typeIs, F.slot_rvs_next.lookup, h⟩
theorem fT {it : Addr}{i : Nat}{c : Nat}{Q : Option Value → Shared → Prop}(hit : s.heap.IsRvs it x t (i : Int))(hx : x.cps[i]? = some c)(h63 : (i : Int) < 2 ^ 63)
    (hQ : ∀ h' tk u, h'.IsRvs it x t ((i : Int) - 1) → Heap.SameBut it s.heap h' → Q (some (.str ⟨#[c]⟩ u)) { s with heap := h', toks := tk }) : wpAny (model prog w) A (pyNext (.ref it)) Q E s := by
  obtain ⟨o, ho, hc, hd⟩ := id hit
  unfold pyNext
  refine wX (zC (xJ (name := Str.ofString "__next__") hit.typeIs F.slot_rvs_next
    (xS F.slot_rvs_next hit.typeIs F.entry_rvs_next ?_ (F.args_rvs_next _))))
  unfold Builtin.«reversed.__next__»
  refine wX (zP (a := (Value.ref it, [])) rfl ?_)
  try dsimp only
  refine wX (x_ ho hd (x := .str x t) rfl ?_)
  refine wX (x_ ho hd (x := rawInt (i : Int)) rfl ?_)
  show wpAny _ _ (if (i : Int) < 0 then _ else _) _ _ s
  rw [if_neg (by omega)]
  refine wX (y8 (Ah s x t) F.slot_str_getitem.lookup ?_)
  show wpAny _ _ (if (some (Value.builtin "str.__getitem__")).isNone=true then _ else _) _ _ s
  rw [if_neg (by decide)]
  refine wX (wpAny_mkInt ?_)
  have hlt : i < x.length := by
    have := yB.mp hx
    exact this.1
  refine wX (zC (PySem.P.getItem_str (c := c) ?_ ?_ ?_))
  · have e1 : decide ((i : Int) < -(2 ^ 63 : Int))=false := xg (by omega)
    have e2 : decide ((i : Int)≥2 ^ 63)=false := xg (by omega)
    rw [e1, e2, Bf]
  · rw [PySem.StrLaws.seqIndex_nonneg (by omega) (by omega)]
    simpa using hx
  try dsimp only
  refine wX (x_ ho hd (x := rawInt (i : Int)) rfl ?_)
  show wpAny _ _ (setField (.ref it) 1 (rawInt ((i : Int) - 1)) >>= _) _ _ _
  refine wX (yW ho hd (by simp) ?_)
  refine w6 ⟨_, rfl, w6 (hQ _ _ _ ?_ (yR ..))⟩
  exact ⟨_, yE _ ho (y_ (yf hd _)), (AL ..).trans hc, by
    rw [yf hd];simp⟩
theorem gX {it : Addr}{Q : Option Value → Shared → Prop}(hh : A.handled=none)(hit : s.heap.IsRvs it x t (-1))
    (hQ : ∀ h', (∀ b o, b≠it → s.heap.get? b=some o → h'.get? b=some o) → Q none { s with heap := h' }) : wpAny (model prog w) A (pyNext (.ref it)) Q E s := by
  obtain ⟨o, ho, hc, hd⟩ := id hit
  unfold pyNext
  refine wX (zC (xJ (name := Str.ofString "__next__") hit.typeIs F.slot_rvs_next
    (xS F.slot_rvs_next hit.typeIs F.entry_rvs_next ?_ (F.args_rvs_next _))))
  unfold Builtin.«reversed.__next__»
  refine wX (zP (a := (Value.ref it, [])) rfl ?_)
  try dsimp only
  refine wX (x_ ho hd (x := .str x t) rfl ?_)
  refine wX (x_ ho hd (x := rawInt (-1)) rfl ?_)
  show wpAny _ _ (if (-1 : Int) < 0 then _ else _) _ _ s
  rw [if_pos (by decide)]
  refine wX (Bi ?_)
  refine wX ?_
  show wpAny _ _ (setField (.ref it) 1 (rawInt (-1)) >>= fun _ => setField (.ref it) 0 .none) _ _ s
  refine wX (yW ho hd (by simp) ?_)
  have ho2 := yE (Obj.mapFields fun a => a.setIfInBounds 1 (rawInt (-1))) ho (y_ (yf hd _))
  have hd2 := yf hd fun a => a.setIfInBounds 1 (rawInt (-1))
  refine yW ho2 hd2 (by simp) ?_
  generalize hh2 : (s.heap.update it _).update it _=h2
  have kk : ∀ b o, b≠it → s.heap.get? b=some o → h2.get? b=some o := fun b o hb e => by
    rw [← hh2]
    exact (xZ _ _ (Ne.symm hb)).trans ((xZ _ _ (Ne.symm hb)).trans e)
  have hz : A.in1.handled=none := hh
  have sub := Bc
  repeat (any_goals (first | assumption | wp_step))
  unfold raiseNew
  refine wX (wpAny_handled ?_)
  rw [hz]
  refine wX (w6 (wpAny_throw ?_))
  refine wX (Ab (T := "StopIteration") (b := true) ?_ sub (w6 (hQ _ fun b o hb e => ?_)))
  · exact ⟨_, xj _ rfl, rfl⟩
  exact w5 _ (w5 _ (kk b o hb e))
theorem kZ (hh : A.handled=none)(it : Addr)(x : Str)(t : Tok)(h63 : (x.cps.size : Int) < 2 ^ 63) :
    Walks prog w A it [it] [it] x.cps.size (fun i v => ∃ c u, x.cps[x.cps.size - 1 - i]? = some c ∧ v = .str ⟨#[c]⟩ u) (fun i h => i≤x.cps.size ∧ h.IsRvs it x t ((x.cps.size : Int) - 1 - (i : Int))) where
  sub := fun _ hb => hb
  frame := fun _ _ _ st hk => let ⟨l, o, ho, r⟩ := st;⟨l, o, hk it (by simp) o ho, r⟩
  item := fun i s Q E hi y hQ => by
    have e : (x.cps.size : Int) - 1 - (i : Int)=((x.cps.size - 1 - i : Nat) : Int) := by omega
    have hit := y.2
    rw [e] at hit
    have hx : x.cps[x.cps.size - 1 - i]? = some (x.cps[x.cps.size - 1 - i]'(by omega)) := yk (by omega)
    refine fT hit hx (by omega) fun h' tk u hit' hs' => ?_
    have e2 : ((x.cps.size - 1 - i : Nat) : Int) - 1=(x.cps.size : Int) - 1 - ((i+1 : Nat) : Int) := by omega
    rw [e2] at hit'
    exact hQ _ h' tk ⟨_, u, hx, rfl⟩ ⟨hi, hit'⟩ fun b o hb eo => hs'.extBut b o (fun h => hb (by simp [h])) eo
  done := fun s Q E y hQ => by
    have e : (x.cps.size : Int) - 1 - (x.cps.size : Int) = -1 := by omega
    have hit := y.2
    rw [e] at hit
    exact gX hh hit fun h' he' => hQ h' s.toks fun b o hb eo => he' b o (fun h => hb (by simp [h])) eo
  self := fun _ _ _ _ y hQ => fS y.2 hQ
end
end PySem
namespace L2
open PySem PySem.Spec PyProof.Rows
def uW (z : Str) : It := ⟨fun i _ => i < z.cps.size, fun i H x H' => H'=H ∧ ∃ c, z.cps[z.cps.size - 1 - i]? = some c ∧ x = .str ⟨#[c]⟩, fun i _ => i=z.cps.size⟩
section
variable {X : Cx} {tg : Expr}
def uX (ta : TA) : TI := fun σ H R => ta σ H fun vs H1 => ∃ z, vs=[.str z] ∧ z.length≤sizeLine ∧ R (uW z) H1
theorem qv {a : Expr}{ta : TA}{p pos : Pos}(hg : Gl X "reversed")(hm : X.mg "reversed" = none)(hb : bootBuiltins "reversed" = some (.type "reversed"))(ha : PA X [a] ta)(hs : starEach [a] X.env=[(false, eval a X.env)] := by rfl) :
    PI X tg (.Call (.Name "reversed" p) [a] [] pos) (uX ta) := by
  intro pins s σ H R I h
  refine Call_ (dS I hg hm hb (x4 (thn (ha pos pins s σ H _ I h) fun us s1 zq1 => ?_) hs rfl))
  obtain ⟨vs, H1, I1, r1, q1⟩ := zq1
  obtain ⟨z, rfl, hz, q⟩ := q1
  obtain ⟨u, rfl, t, rfl⟩ := cw r1
  have hn := c_
  have hsz : z.cps.size=z.length := rfl
  refine gU (by omega) fun tk => ?_
  have hit : Heap.IsRvs (s1.heap.push { cls := .type "reversed", data := .fields #[.str z t, rawInt ((z.length : Int) - 1)] }) s1.heap.objs.size z t ((z.length : Int) - 1) := ⟨_, xj _ rfl, rfl, rfl⟩
  refine fS (s := { s1 with heap := s1.heap.push { cls := .type "reversed", data := .fields #[.str z t, rawInt ((z.length : Int) - 1)] }, toks := tk }) hit ?_
  refine ⟨s1.heap.objs.size, [s1.heap.objs.size], _, uW z, H1, rfl, I1.kept (t' := tk) fun b o e => w5 _ e,
    cx (T := "reversed") (fl := fun i => #[.str z t, rawInt ((z.cps.size : Int) - 1 - (i : Int))]) (fun A hh => kZ hh _ z t (by omega)) (fun i h st => st.2) (by decide) (fun i H g => g) (fun i H g => g)
      (fun i H u _ ⟨c, t', e, eu⟩ => ⟨.str ⟨#[c]⟩, ⟨t', eu⟩, rfl, c, e, rfl⟩) (fun A i s Q E st h => fS st.2 h), ⟨xV _, by simpa [hsz] using hit⟩, fun b hb => ?_, q⟩
  have e : b=s1.heap.objs.size := by simpa using hb
  subst e
  exact I1.fpOk (wZ _) (I1.hok.fresh (wZ _))
structure DTx (K : PySem.W.Frag) (w : World) (a : Addr) : Prop where
  ob : ∃ (es : Array DictEntry) (n : Nat), K.lookup a=some ⟨.type "dict", none, .dict es n, #[]⟩ ∧ PySem.W.KeysLit w.params es.toList
theorem nQ {a : Addr}(D : DTx X.K X.w a) : IxR X (fun x y H Q => ∃ z z' t, x = .ref a ∧ y = .str z ∧ PySem.W.nsIn X.K a z=some (some (.str z' t)) ∧ Q (.str z') H) := by
  intro value slice pins s σ H x y v u Q I rx ry h hs
  obtain ⟨z, z', t', rfl, rfl, e, q⟩ := h
  cases rx
  obtain ⟨t, rfl⟩ := ry
  obtain ⟨es, n, hl, hk⟩ := D.ob
  obtain ⟨m, F⟩ := I.fr
  exact PySem.W.topItem_K F I.ok.mod.kin hl hk e ⟨.str z', H, I.tok _, ⟨_, rfl⟩, q⟩ hs
def nS (K : PySem.W.Frag)(a : Addr)(Q : VK) : V → Hp → Prop := fun y H1 => ∃ z z' t, y = .str z ∧ PySem.W.nsIn K a z=some (some (.str z' t)) ∧ Q (.str z') H1
def uY (K : PySem.W.Frag)(a : Addr)(ti : TE) : TE := fun σ H Q => ti σ H (nS K a Q)
theorem qw {K : PySem.W.Frag}{w : World}{a : Addr}{x : Str}{i : Expr}{ti : TE}{p pos : Pos}(D : DTx K w a)(hK : X.K=K)(hw : X.w=w)(hg : Gl X x)(hm : X.mg x=some (.ref a))(hi : PE X i ti)(hs : kM i)
    (hd : (x == ("__debug__" : Str))=false := by decide) : PE X (.Subscript (.Name x p) i pos) (uY K a ti) := by
  subst hK hw
  intro pins s σ H Q I h
  refine AH (iC I hg hm (thn (hi pins s σ H _ I h) fun u s2 zq2 => ?_) hd)
  obtain ⟨y, H2, I2, ry, z, z', t', e1, e2, q⟩ := zq2
  exact nQ D _ _ pins s2 σ H2 (.ref a) y (.ref a) u Q I2 rfl ry ⟨z, z', t', rfl, e1, e2, q⟩ (hs _ _)
end
end L2
namespace Wd
abbrev L := Fin 12
def inv (x : L) : L := if h : x.val < 6 then ⟨x.val+6, by omega⟩ else ⟨x.val - 6, by omega⟩
theorem fU : ∀ x : L, inv (inv x)=x := by decide
def bk (w : List L) : List L := (w.map inv).reverse
theorem ck (w : List L) : (bk w).length=w.length := by simp [bk]
theorem pF (x : L) : bk [x]=[inv x] := rfl
def push (st : List L)(x : L) : List L := match st with
  | [] => [x]
  | y::r => if y=inv x then r else x::y::r
def act (w : List L)(st : List L) : List L := w.foldl push st
def Rd : List L → Prop
  | [] => True
  | [_] => True
  | x::y::r => y≠inv x ∧ Rd (y::r)
def red (w : List L) : List L := (act w []).reverse
def rep : Nat → List L → List L
  | 0, _ => []
  | n+1, w => rep n w++w
theorem jt (w : List L) : ∀ n, rep n w++w=w++rep n w
  | 0 => by simp [rep]
  | n+1 => by
    show (rep n w++w)++w=w++(rep n w++w)
    rw [← AI, ← jt w n]
theorem fy (w : List L) : ∀ n, (rep n w).length=n*w.length
  | 0 => by simp [rep]
  | n+1 => by
    show (rep n w++w).length=_
    rw [w4, fy w n, Bk]
end Wd
namespace L2
open PySem PySem.Spec PyProof.Rows Wd
def cp (x : L) : Nat := if x.val < 6 then 97+x.val else 59+x.val
theorem sU : ∀ x : L, cp x < 128 := by decide
theorem sV : ∀ x y : L, cp x=cp y → x=y := by decide
def toS (w : List L) : Str := ⟨(w.map cp).toArray⟩
def tx (w : List L) : V := .str (toS w)
theorem cM (w : List L) : (toS w).cps.toList=w.map cp := by simp [toS]
theorem ah (w : List L) : (toS w).length=w.length := by simp [toS, Str.length]
theorem bW (w : List L) : (toS w).cps.size=w.length := by simp [toS]
theorem dI (u v : List L) : toS u++toS v=toS (u++v) := by
  apply Str.ext'
  rw [Str.cps_append]
  simp [toS]
theorem dJ : ∀ {u v : List L}, u.map cp=v.map cp → u=v
  | [], [], _ => rfl
  | [], _::_, h => by simp at h
  | _::_, [], h => by simp at h
  | x::u, y::v, h => by
    simp only [xv, List.cons.injEq] at h
    rw [sV x y h.1, dJ h.2]
theorem k4 {u v : List L}(h : toS u=toS v) : u=v := by
  have : (toS u).cps.toList=(toS v).cps.toList := by rw [h]
  rw [cM, cM] at this
  exact dJ this
theorem pG {u v : List L}(h : tx u=tx v) : u=v := k4 (V.str.inj h)
theorem qx : toS [0, 1, 2, 3, 4, 5]=("abcdef" : Str) := by decide +kernel
theorem big : toS [6, 7, 8, 9, 10, 11]=("ABCDEF" : Str) := by decide +kernel
theorem eT {w : List L}{i c : Nat}(h : (toS w).cps[i]? = some c) : ∃ x, w[i]? = some x ∧ (⟨#[c]⟩ : Str)=toS [x] := by
  have h : ((w.map cp).toArray)[i]? = some c := h
  rw [List.getElem?_toArray, w_] at h
  cases e : w[i]? with
  | none => rw [e] at h;cases h
  | some x =>
    rw [e] at h
    have : cp x=c := xb h
    exact ⟨x, rfl, by rw [← this];rfl⟩
theorem dM {w : List L}{k : Nat}{x : L}{i : Int}(hk : i=(k : Int))(h : w[k]? = some x) : atI (toS w).cps.toList i=some (cp x) := by
  subst hk
  rw [cM]
  obtain ⟨hl, e⟩ := xh.mp h
  unfold atI ixN
  rw [if_pos (by omega), if_pos (by rw [fu];omega)]
  show (w.map cp)[((k : Nat) : Int).toNat]? = _
  rw [xB, w_, h]
  rfl
def nT (w : List L)(lo hi : Option Int) : List L := (w.drop (HT.sIx w.length 0 lo)).take (HT.sIx w.length w.length hi - HT.sIx w.length 0 lo)
theorem qy (lo hi : Option Int)(n : Nat) : Builtin.Str.strSliceIndices lo hi 1 n=(List.range (HT.sIx n n hi - HT.sIx n 0 lo)).map (fun k => HT.sIx n 0 lo+k) := by
  have cl : ∀ v : Int, max (0 : Int) (min (if v < 0 then v+(n : Int) else v) (n : Int))=(((if v < 0 then (v+(n : Int)).toNat else min v.toNat n) : Nat) : Int) := fun v => by
    by_cases hv : v < 0
    · simp only [if_pos hv];omega
    · simp only [if_neg hv];omega
  have fin : ∀ a b : Nat, sliceRange (a : Int) (b : Int) 1=(List.range (b - a)).map (fun k => a+k) := fun a b => by
    unfold sliceRange
    simp only [show ((1 : Int) > 0)=True from by simp, A7]
    by_cases hlt : (a : Int) < b
    · have e3 : (((b : Int) - a+1 - 1) / 1).toNat=b - a := by first | omega | (simp;done) | (simp;omega)
      simp only [hlt, A7, e3]
      exact List.map_congr_left fun k _ => by omega
    · have : b - a=0 := by omega
      simp [hlt, this]
  unfold Builtin.Str.strSliceIndices
  simp only [show ((1 : Int) > 0)=True from by simp, A7]
  cases lo with
  | none =>
    cases hi with
    | none => exact fin 0 n
    | some j => simp only [cl];exact fin 0 _
  | some i =>
    cases hi with
    | none => simp only [cl];exact fin _ n
    | some j => simp only [cl];exact fin _ _
theorem bu (w : List L)(lo hi : Option Int) : Txt.slice (toS w) lo hi=toS (nT w lo hi) := by
  have h1 := HT.kJ w.length 0 (xV _) lo
  have h2 := HT.kJ w.length w.length (wZ _) hi
  unfold Txt.slice
  rw [qy, ah]
  split
  · rename_i h
    have hl : HT.sIx w.length w.length hi - HT.sIx w.length 0 lo=w.length := by simpa using h
    have e : nT w lo hi=w := by
      unfold nT
      rw [hl]
      have ha : HT.sIx w.length 0 lo=0 ∨ w.length=0 := by omega
      rcases ha with ha | ha
      · rw [ha, AD, xI]
      · have : w=[] := yS ha
        subst this
        simp
    rw [e]
  · apply Str.ext'
    show (List.filterMap _ _).toArray=_
    have e := StrLaws.picks (w.map cp) (HT.sIx w.length w.length hi - HT.sIx w.length 0 lo) (HT.sIx w.length 0 lo)
    by_cases hle : HT.sIx w.length 0 lo≤HT.sIx w.length w.length hi
    · have e := e (by rw [fu];omega)
      have e2 : (fun k : Nat => (toS w).cps[k]?)=fun k : Nat => (w.map cp)[k]? := funext fun k => by simp [toS]
      rw [e2, e]
      simp [toS, nT, Ae, AR]
    · have z : HT.sIx w.length w.length hi - HT.sIx w.length 0 lo=0 := by omega
      rw [z]
      simp [toS, nT, z]
theorem eU (w : List L){n : Int}(h : 0≤n) : nT w none (some n)=w.take n.toNat := by
  obtain ⟨k, rfl⟩ := yu h
  unfold nT
  rw [HT.da, HT.cJ, AD, Bl, xB]
  by_cases hk : k≤w.length
  · rw [Nat.min_eq_left hk]
  · rw [Nat.min_eq_right (by omega), xI, xR (by omega)]
theorem ju (w : List L){n : Int}(h : 0≤n) : nT w (some n) none=w.drop n.toNat := by
  obtain ⟨k, rfl⟩ := yu h
  unfold nT
  rw [HT.da, HT.cJ, xB]
  by_cases hk : k≤w.length
  · rw [Nat.min_eq_left hk, xR (by rw [xX];omega)]
  · rw [Nat.min_eq_right (by omega), List.drop_length, List.drop_eq_nil_of_le (by omega)]
    simp
theorem k9 (w : List L) : Txt.upper (toS w)=⟨((w.map cp).map up1).toArray⟩ := by
  rw [upper_ascii fun c hc => by rw [cM] at hc;obtain ⟨x, _, rfl⟩ := xC.mp hc;exact sU x]
  simp [toS]
theorem gY (w : List L) : Txt.lower (toS w)=⟨((w.map cp).map lo1).toArray⟩ := by
  rw [lower_ascii fun c hc => by rw [cM] at hc;obtain ⟨x, _, rfl⟩ := xC.mp hc;exact sU x]
  simp [toS]
theorem uZ : ∀ x : L, x.val < 6 → up1 (cp x)=cp (inv x) := by decide
theorem u0 : ∀ x : L, ¬ x.val < 6 → lo1 (cp x)=cp (inv x) := by decide
theorem k_ {x : L}(h : x.val < 6) : Txt.upper (toS [x])=toS [inv x] := by
  rw [k9]
  show (⟨#[up1 (cp x)]⟩ : Str)=⟨#[cp (inv x)]⟩
  rw [uZ x h]
theorem la {x : L}(h : ¬ x.val < 6) : Txt.lower (toS [x])=toS [inv x] := by
  rw [gY]
  show (⟨#[lo1 (cp x)]⟩ : Str)=⟨#[cp (inv x)]⟩
  rw [u0 x h]
theorem nU : ∀ w : List L, Txt.join ("" : Str) (w.map fun x => toS [x])=toS w := by
  intro w
  have e0 : ("" : Str)=Str.empty := by decide +kernel
  unfold Txt.join
  rw [StrLaws.glued_eq_join, e0]
  induction w with
  | nil => rfl
  | cons x r ih =>
    cases r with
    | nil => rfl
    | cons y r =>
      show toS [x]++Str.empty++Str.join Str.empty ((y::r).map fun x => toS [x])=_
      rw [ih, Str.append_empty, dI]
      rfl
theorem qz (w : List L) : ((w.map fun x => toS [x]).map (·.length)).sum=w.length := by
  induction w with
  | nil => rfl
  | cons x r ih =>
    simp only [xv, zD, xM]
    rw [ih, ah]
    simp only [zW]
    omega
theorem d8 (w : List L) : ∀ (n : Nat) (acc : Array Nat), (List.replicate n (toS w).cps).foldl (· ++ ·) acc=acc++((rep n w).map cp).toArray
  | 0, acc => by simp [rep]
  | n+1, acc => by
    rw [x6, zw, d8 w n]
    show _=acc++((rep n w++w).map cp).toArray
    rw [jt]
    simp [toS]
theorem lb : ∀ n, rep n ([] : List L)=[]
  | 0 => rfl
  | n+1 => by show rep n []++[]=[];rw [lb n];rfl
theorem qA (w : List L)(n : Int) : Txt.mul (toS w) n=toS (rep n.toNat w) := by
  unfold Txt.mul
  by_cases h1 : n < 1
  · rw [if_pos h1]
    have : n.toNat=0 := by omega
    rw [this]
    rfl
  · rw [if_neg h1]
    split
    · rename_i h
      rw [ah] at h
      simp only [Bool.or_eq_true, beq_iff_eq] at h
      rcases h with h | h
      · subst h
        show toS w=toS (rep 1 w)
        show toS w=toS ([]++w)
        rfl
      · have : w=[] := yS h
        subst this
        rw [lb]
    · apply Str.ext'
      show (List.replicate n.toNat (toS w).cps).foldl (· ++ ·) #[]=_
      rw [d8]
      simp [toS]
theorem gZ (w : List L){n : Int}(h1 : -1000000≤n)(h2 : n≤1000)(hw : w.length≤10000) : MulOk (toS w) n := by
  refine ⟨?_, fun hn _ => ?_, fun hn _ => ?_⟩
  · have e1 : decide (n < -(2 ^ 63 : Int))=false := xg (by omega)
    have e2 : decide (n≥2 ^ 63)=false := xg (by omega)
    rw [e1, e2, Bf]
  · rw [ah]
    have hn1 : 1≤n := by omega
    have q : (9223372036854775 : Int)≤(2 ^ 63 - 1) / n := by
      rw [Int.le_ediv_iff_mul_le (by omega)]
      omega
    omega
  · rw [ah]
    unfold Builtin.Str.tooLong
    have e : sizeLine=16777216 := zN
    obtain ⟨k, rfl⟩ := yu (show 0≤n by omega)
    have hk : k≤1000 := by omega
    rw [xB]
    have q : w.length*k≤10000*1000 := Nat.mul_le_mul hw hk
    exact xg (by omega)
end L2
namespace L2
open PySem PySem.Spec PyProof.Rows Wd
structure Fnc (P : Program) (w : World) (K : PySem.W.Frag) (mg : Str → Option Value) (base : Heap) (x : Str) (ps : List Str) (k : Nat) (sp : Sp) : Prop where
  ex : ∃ (f : Addr) (fd : FuncData), mg x=some (.ref f) ∧ PySem.W.keepIn K (.ref f)=true ∧ jU K fd ps [] ∧ m7 P w K mg base CX0 k f fd ps sp
theorem aJ {X : Cx}{x : Str}{ps : List Str}{k j : Nat}{sp : Sp}{e : Expr}{es : List Expr}{t : TA}{p pos : Pos}(F : Fnc X.prog X.w X.K X.mg X.base x ps j sp)(hr : fv k X.A)(hj : j≤k)(hg : Gl X x)(ha : PA X (e::es) t)
    (hdb : (x == ("__debug__" : Str))=false := by decide) (he : starEach (e::es) X.env=(false, eval e X.env)::starEach es X.env := by rfl) (hpl : (backTo pos (starEach es X.env)).any (·.1)=false := by rfl) :
    PE X (.Call (.Name x p) (e::es) [] pos) (sq sp [] E0 t) := by
  obtain ⟨f, fd, hm, hk, hb, F⟩ := F.ex
  exact qi F (hr.mono hj) hg hm hk hb .nil uV ha hdb he hpl
structure Df (K : PySem.W.Frag) (mg : Str → Option Value) (x : Str) (st : Stmt) : Prop where
  ex : ∃ (f : Addr) (fd : FuncData), mg x=some (.ref f) ∧ Fun K x x st f fd
theorem Df.ok {P : Program}{w : World}{K : PySem.W.Frag}{mg : Str → Option Value}{base : Heap}{x : Str}{st : Stmt}{N ps : List Str}{k : Nat}{sp : Sp}(D : Df K mg x st)(S : aF N ps (av st))
    (hb : ∀ (kV doc pm : Value) (an : Option Addr) (cdv ct : Value) (us : List Value), us.length=ps.length → bindArgs (PySem.W.fnOf x x (b_ st) (bL st) (av st) .none kV doc pm an cdv ct) ⟨us, []⟩=pure (ps.zip us))
    (len : ∀ vs H Q E, sp vs H Q E → vs.length=ps.length)
    (hbody : ∀ (f : Addr) (cdv : Value) (A : Around) (outer : List Env) (s : Shared) (H : Hp) (vs : List V) (Q : VK) (E : XK), fv k (A.deeper (envOfC x (av st) s.heap.objs.size f cdv)) → sp vs H Q E →
      ∃ t, PSs (qj CX0 P w K mg base N x (av st) f cdv A outer s H E).nox (bL st) t ∧ t { nx := fun _ H' => Q .non H', rt := Q } (start N vs) H) : Fnc P w K mg base x ps (k+1) sp := by
  obtain ⟨f, fd, hm, F⟩ := D.ex
  exact ⟨f, fd, hm, F.kp, F.binds hb, F.ok S len fun cdv A outer s H vs Q E hr h => hbody f cdv A outer s H vs Q E hr h⟩
def aU (d : Addr)(H H' : Hp) : Prop := ∀ b o, b≠d → H b=some o → H' b=some o
theorem aU.refl (d : Addr)(H : Hp) : aU d H H := fun _ _ _ h => h
theorem aU.trans {d : Addr}{H H1 H2 : Hp}(a : aU d H H1)(b : aU d H1 H2) : aU d H H2 := fun c o n h => b c o n (a c o n h)
theorem au.b {d : Addr}{H H' : Hp}(a : au H H') : aU d H H' := fun b o _ h => a b o h
theorem au.new {H : Hp}{a : Addr}{o : HO}(h : H a=none) : au H (upd H a o) := fun b u e => by rw [ay (ak e h)]; exact e
theorem aU.upd {d : Addr}{H : Hp}{o : HO} : aU d H (upd H d o) := fun b u n e => by rw [ay n]; exact e
theorem au.then {H H1 : Hp}{a : Addr}{o : HO}(s : au H H1)(h : H1 a=none) : au H (L2.upd H1 a o) := s.trans (au.new h)
def kS (x : Str) : Key := .inr x
theorem qB {ns : List Int}(h : ns≠[])(i : Int) : ∃ n : Int, atI (ns.map V.int) (i % ((ns.map V.int).length : Int))=some (.int n) := by
  have hl : 0 < ns.length := Aq.mpr h
  rw [fu]
  have h0 := yg i (show (ns.length : Int)≠0 by omega)
  have h1 := x3 i (show (0 : Int) < ns.length by omega)
  obtain ⟨k, hk⟩ := yu h0
  rw [hk] at h1 ⊢
  have hk' : k < ns.length := by omega
  refine ⟨ns[k], ?_⟩
  unfold atI ixN
  rw [if_pos (by omega), if_pos (by rw [fu];omega)]
  show (ns.map V.int)[((k : Nat) : Int).toNat]? = _
  rw [xB, w_, wY hk']
  rfl
end L2
namespace L2
open PySem PySem.Spec PyProof.Rows Wd
mutual
inductive Dt (H : Hp) : V → PyData → Prop where
  | non : Dt H .non .none
  | bl (b : Bool) : Dt H (.bl b) (.bool b)
  | int (i : Int) : Dt H (.int i) (.int i)
  | str (x : Str) : Dt H (.str x) (.str x)
  | lst {a : Addr} {xs : List V} {ds : List PyData} : H a=some (.lst xs) → Dts H xs ds → Dt H (.ref a) (.list ds)
  | tup {a : Addr} {xs : List V} {ds : List PyData} : H a=some (.tup xs) → Dts H xs ds → Dt H (.ref a) (.tuple ds)
inductive Dts (H : Hp) : List V → List PyData → Prop where
  | nil : Dts H [] []
  | cons {v : V} {d : PyData} {vs : List V} {ds : List PyData} : Dt H v d → Dts H vs ds → Dts H (v::vs) (d::ds)
end
section
variable {P : Program} {w : World} {H : Hp} {h : Heap}
mutual
theorem Dt.reads (ok : HOk P w H h) : ∀ {v : V} {d : PyData}, Dt H v d → ∀ {u : Value}, bz v u → ∃ as, Reads h u d as
  | _, _, .non, u, r => by cases r;exact ⟨_, .none⟩
  | _, _, .bl b, u, r => by cases r;exact ⟨_, .bool b⟩
  | _, _, .int i, u, r => by obtain ⟨t, rfl⟩ := r;exact ⟨_, .int i t⟩
  | _, _, .str x, u, r => by obtain ⟨t, rfl⟩ := r;exact ⟨_, .str x t⟩
  | _, _, .lst e q, u, r => by
    cases r
    obtain ⟨_, its, n, rv, g⟩ := ok _ _ e
    obtain ⟨as, ra⟩ := Dts.reads ok q rv
    exact ⟨_, .list g rfl rfl (by simpa using ra)⟩
  | _, _, .tup e q, u, r => by
    cases r
    obtain ⟨_, its, rv, ⟨ob, g, c, n, d⟩, _⟩ := ok _ _ e
    obtain ⟨as, ra⟩ := Dts.reads ok q rv
    exact ⟨_, .tuple g c d (by simpa using ra)⟩
theorem Dts.reads (ok : HOk P w H h) : ∀ {vs : List V} {ds : List PyData}, Dts H vs ds → ∀ {us : List Value}, aZ vs us → ∃ as, ReadsAll h us ds as
  | _, _, .nil, _, r => by cases r;exact ⟨_, .nil⟩
  | _, _, .cons q qs, _, r => by
    cases r with
    | cons r rs =>
      obtain ⟨as, a1⟩ := Dt.reads ok q r
      obtain ⟨bs, a2⟩ := Dts.reads ok qs rs
      exact ⟨_, .cons a1 a2⟩
end
end
structure Sh (d : PyData) : Prop where
  sh : d.showable=true
  nd : d.hasDict=false
  dp : d.depth≤10
  sz : d.shown.length≤sizeLine
section
variable {X : Cx}
inductive cN  (xs : List V)(H : Hp)(Q : VK) : Prop
  | mk : ∀ a d, (xs=[.ref a]) → (Dt H (.ref a) d) → (Sh d) → (Q (.str d.shown) H) → cN xs H Q
theorem dn (hg : X.A.guards=some [])(hu : X.A.units+64 < cLine) : cG X (.builtin "repr") cN := by
  intro pins s σ H xs us Q I r h
  obtain ⟨a, d, rfl, q, S, hQ⟩ := h
  obtain ⟨u, rfl, ru⟩ := cw r
  cases ru
  obtain ⟨as, rd⟩ := q.reads I.hok (u := .ref a) rfl
  refine repr_of_reads' rd S.sh (PyData.noDict_hsm S.nd) hg (by have := S.dp;omega) (fun _ _ e => e) (fun h' u tk hk => ?_) S.sz
  exact ⟨.str _, H, I.kept hk, ⟨_, rfl⟩, hQ⟩
end
end L2
namespace Kx
open PySem PySem.Spec PyProof.Rows L2 Wd
theorem jv : bootBuiltins "list" = some (.type "list") := by kernel_rfl
theorem sW : bootBuiltins "int" = some (.type "int") := by kernel_rfl
theorem jw : bootBuiltins "repr" = some (.builtin "repr") := by kernel_rfl
theorem bq : bootBuiltins "tuple" = some (.type "tuple") := by kernel_rfl
theorem aQ : bootBuiltins "isinstance" = some (.builtin "isinstance") := by kernel_rfl
theorem qC : bootBuiltins "all" = some (.builtin "all") := by kernel_rfl
theorem j5 : bootBuiltins "reversed" = some (.type "reversed") := by kernel_rfl
structure Bt (K : PySem.W.Frag) (w : World) (mg : Str → Option Value) (aB : Addr) : Prop where
  len : mg "len" = none
  repr : mg "repr" = none
  abs : mg "abs" = none
  max : mg "max" = none
  int : mg "int" = none
  list : mg "list" = none
  range : mg "range" = none
  reversed : mg "reversed" = none
  min : mg "min" = none
  sorted : mg "sorted" = none
  tuple : mg "tuple" = none
  isinstance : mg "isinstance" = none
  all : mg "all" = none
  str : mg "str" = none
  zip : mg "zip" = none
  mgB : mg "BACKS" = some (.ref aB)
  dB : DTx K w aB
  gB : ∀ x : L, ∃ t, PySem.W.nsIn K aB (toS [x])=some (some (.str (toS [inv x]) t))
theorem dp {H : Hp}{d : Addr}{kvs kvs' : List (Key × V)}{k : Str}{v : V}(h : H d=some (.dK kvs))(hl : kvs.length < sizeLine)(e : gE kvs (kS k) v=kvs') : nI H d (.str k) v (upd H d (.dK kvs')) := by
  have q := nI.k (k := kS k) (v := v) h hl
  rw [e] at q
  exact q
theorem u4 {ns : List Int}(h : ns.length≤63) : d3 (ns.map V.int) none (some 63)=ns.map V.int := by
  unfold d3
  have e : HT.sIx (ns.map V.int).length (ns.map V.int).length (some 63)=(ns.map V.int).length := by
    have := HT.cJ (ns.map V.int).length (ns.map V.int).length 63
    rw [show ((63 : Nat) : Int)=63 from rfl] at this
    rw [this, fu]
    omega
  rw [e, HT.da, AD, Bl, xI]
def bI (w : List L) : List V := w.map fun x => tx [x]
theorem cQ (w : List L) : bI w=(w.map fun x => toS [x]).map V.str := by unfold bI; rw [za]; rfl
theorem cm (w : List L)(x : L) : bI w++[tx [x]]=bI (w++[x]) := by unfold bI; rw [w9]; rfl
theorem bc (w : List L) : (bI w).length=w.length := by unfold bI; rw [fu]
theorem cn (w : List L) : V.str (Txt.join ("" : Str) (w.map fun x => toS [x]))=tx w := xA V.str (nU w)
theorem cq (w : List L)(h : w.length≤1000000) : ((w.map fun x => toS [x]).map (·.length)).sum+(w.map fun x => toS [x]).length*("" : Str).length≤16777216 := by
  have e : ("" : Str).length=0 := by decide +kernel
  rw [e, qz]
  omega
theorem a8 : sizeLine=16777216 := zN
inductive qD (vs : List V)(H : Hp)(Q : VK)(u3_ : XK) : Prop
  | mk : ∀ w, (vs=[tx w]) → (w.length≤5000) → (∀ H', au H H' → Q (tx (bk w)) H') → qD vs H Q u3_
theorem lg (u v : List L) : V.str (toS u++toS v)=tx (u++v) := xA V.str (dI u v)
def sg (m : Int) : List L := ([0, 1, 2, 3, 4, 5] : List L).take m.toNat++([6, 7, 8, 9, 10, 11] : List L).take m.toNat
theorem lh {m : Int}(h1 : 1≤m)(h2 : m≤6) : (sg m).length=2*m.toNat := by
  unfold sg
  rw [w4, xo, xo]
  simp only [xM, zx]
  omega
theorem nV {m : Int}(h1 : 1≤m) : V.str (Txt.slice ("abcdef" : Str) none (some m)++Txt.slice ("ABCDEF" : Str) none (some m))=tx (sg m) := by
  rw [← qx, ← big, bu, bu, eU _ (by omega), eU _ (by omega), lg]
  rfl
theorem lj : ("abcdef" : Str).length=6 := by decide +kernel
theorem lp : ("ABCDEF" : Str).length=6 := by decide +kernel
theorem pH (u : List L){i : Nat}{y : L}(hi : i < u.length)(h : u[u.length - 1 - i]? = some y) : (bk u)[i]? = some (inv y) := by
  unfold bk
  rw [zb (by rw [fu];exact hi), fu, w_, h]
  rfl
theorem cu {u : List L}{i : Nat}{x : L}(h : u[i]? = some x) : u.take (i+1)=u.take i++[x] := by
  obtain ⟨hl, e⟩ := xh.mp h
  rw [yM, h]
  rfl
theorem lq {c : Bool}{A B : Prop}(hc : c=true)(h : A) : if c=true then A else B := by rw [if_pos hc]; exact h
theorem pI {c : Bool}{A B : Prop}(hc : c=false)(h : B) : if c=true then A else B := by rw [hc]; exact iz h
theorem sm6 : ∀ j : Fin 6, ([0, 1, 2, 3, 4, 5] : List L)[j.val]? = some ⟨j.val, Nat.lt_trans j.isLt (by decide)⟩ := by decide
end Kx
namespace Tv
open PySem PyProof.Rows
section
variable {prog : Program} {w : World} {A : Around} {E : Value → Shared → Prop} {s : Shared} {κ : KeyKind} {kd : SortKind}
end
end Tv
namespace Tv
open PySem PyProof.Rows
end Tv
namespace Tv
open PySem PyProof.Rows
variable {κ : KeyKind} {kd : SortKind}
end Tv
namespace Tv
open PySem PyProof.Rows
section
variable {prog : Program} {w : World} {A : Around} {E : Value → Shared → Prop} {s : Shared} {κ : KeyKind} {kd : SortKind}
end
end Tv
namespace Tv
open PySem PyProof.Rows
variable {κ : KeyKind} {kd : SortKind}
section
variable {prog : Program} {w : World} {A : Around} {E : Value → Shared → Prop} {s : Shared}
end
end Tv
namespace Tv
open PySem PyProof.Rows
variable {κ : KeyKind} {kd : SortKind}
section
variable {prog : Program} {w : World} {A : Around} {E : Value → Shared → Prop} {s : Shared}
end
end Tv
namespace Tv
open PySem PyProof.Rows
variable {κ : KeyKind} {kd : SortKind}
section
variable {prog : Program} {w : World} {A : Around} {E : Value → Shared → Prop} {s : Shared}
end
end Tv
namespace Tv
open PySem PyProof.Rows
variable {κ : KeyKind} {kd : SortKind}
section
variable {prog : Program} {w : World} {A : Around} {E : Value → Shared → Prop} {s : Shared}
end
end Tv
namespace Tv
open PySem PyProof.Rows
variable {κ : KeyKind} {kd : SortKind}
section
variable {prog : Program} {w : World} {A : Around} {E : Value → Shared → Prop} {s : Shared}
end
end Tv
namespace Tv
open PySem PyProof.Rows
variable {κ : KeyKind} {kd : SortKind}
section
variable {prog : Program} {w : World} {A : Around} {E : Value → Shared → Prop} {s : Shared}
end
end Tv
namespace L2
open PySem PySem.Spec PyProof.Rows Wd
section
variable {X : Cx} {tg : Expr}
end
section
variable {X : Cx} {o e : Expr} {es : List Expr} {to : TE} {t : TA} {name : Str} {apos cpos : Pos} {T id : String} {r : V → List V → Hp → VK → Prop} {K : PySem.W.Frag}
theorem lu (hK : X.K=K)(pa : PlainAttrs T)(slot : Slot T name id)(hty : typeOf (.builtin id)=pure (.type "method_descriptor"))(hm : MtR X id r)(ho : PE X o to)
    (hbase : attributeBase o name X.env (eval o X.env)=eval o X.env := by rfl) (hline : (apos.endLine == cpos.line)=true := by rfl) : PE X (.Call (.Attribute o name apos) [] [] cpos) (vT K T r to) := by
  subst hK
  exact eM pa slot hty hm ho hbase hline
end
end L2
namespace L2
open PySem PySem.Spec PyProof.Rows Wd
theorem jx : ∀ {bs : List Bool} {us : List Value} {i : Nat} {v : Value}, aZ (bs.map V.bl) us → us[i]? = some v → ∃ b, bs[i]? = some b ∧ v = .bool b
  | [], us, i, v, r, h => by
    rw [Aw] at r
    cases r
    simp at h
  | b::bs, us, i, v, r, h => by
    rw [xv] at r
    cases r with
    | cons r1 r2 =>
      cases i with
      | zero =>
        simp at h
        subst h
        exact ⟨b, rfl, r1⟩
      | succ i =>
        obtain ⟨b', e1, e2⟩ := jx (i := i) r2 (by simpa using h)
        exact ⟨b', by simpa using e1, e2⟩
theorem jy : ∀ bs : List Bool, ((List.range bs.length).all fun i => bs.getD i true)=bs.all id
  | [] => rfl
  | b::bs => by
    rw [xM, List.range_succ_eq_map, Bh, A9, Bh]
    have ih := jy bs
    show (b && (List.range bs.length).all fun i => (b::bs).getD (i+1) true)=_
    have e : (fun i => (b::bs).getD (i+1) true)=fun i => bs.getD i true := by funext i;simp
    rw [e, ih]
    rfl
section
variable {X : Cx}
inductive vZ (K : PySem.W.Frag)(xs : List V)(H : Hp)(Q : VK) : Prop
  | mk : ∀ (l : Addr) (bs : List Bool), (xs=[.ref l]) → (SqL K H l (bs.map V.bl)) → (Q (.bl (bs.all id)) H) → vZ K xs H Q
theorem cf (hc : X.calm=true) : cG X (.builtin "all") (vZ X.K) := by
  intro pins s σ H xs us Q I r h
  obtain ⟨l, bs, rfl, hq, q⟩ := h
  obtain ⟨u, rfl, ru⟩ := cw r
  cases ru
  obtain ⟨its, rv, pl, _⟩ := I.list hq
  have hl := pl.isList
  have hlen : its.length=bs.length := by rw [← rv.length, fu]
  have hlt : l < s.heap.objs.size := by obtain ⟨_, e, _⟩ := hl;exact xm e
  refine call_all_walk (wpAny_pyIter_list hl ?_)
  refine ⟨_, _, _, _, _, _, fun i => bs.getD i true, rfl, Walks.list (A := X.A.in1) (I.ok.hd hc) _ l (xN hlt) its.toArray, ⟨⟨_, xj _ rfl, rfl, rfl⟩, hl.push _⟩, ?_, fun h' tk hk => ?_⟩
  · intro i v s' Q' E' hP hQ'
    have hP : its[i]? = some v := by simpa using hP
    obtain ⟨b, hb, e⟩ := jx rv hP
    subst e
    have : bs.getD i true=b := by rw [xi, hb];rfl
    have hQ' : Q' (bs.getD i true) s' := hQ'
    rw [this] at hQ'
    exact yJ hQ'
  · have old : ∀ b o, s.heap.get? b=some o → h'.get? b=some o := fun b o e => hk b o (fun z => by rw [xf.mp z] at e;exact absurd (xm e) (xU _)) (w5 _ e)
    refine ⟨.bl _, H, I.kept old, rfl, ?_⟩
    have e : ((List.range its.toArray.size).all fun i => bs.getD i true)=bs.all id := by
      rw [xa, hlen]
      exact jy bs
    rw [e]
    exact q
inductive cy (K : PySem.W.Frag)(xs : List V)(H : Hp)(Q : VK) : Prop
  | mk : ∀ x t b n, (xs=[x, .ty n]) → (ft K H x t) → (PySem.W.kitOne K t (.type n)=some b) → (Q (.bl b) H) → cy K xs H Q
theorem iJ : cG X (.builtin "isinstance") (cy X.K) := by
  intro pins s σ H xs us Q I r h
  obtain ⟨x, t, b, n, rfl, ty, e, q⟩ := h
  obtain ⟨u, u2, rfl, rx, r2⟩ := sm r
  cases r2
  exact kG I rx ty e fun tk => ⟨.bl b, H, I.tok _, rfl, q⟩
inductive pJ (x : V)(vs : List V)(H : Hp)(Q : VK) : Prop
  | mk : ∀ z y i rest, (x = .str z) → (vs=[.str y]) → (Builtin.Str.occurrences z y 0 z.length 1=i::rest) → (Q (.int (i : Nat)) H) → pJ x vs H Q
theorem fV : MtR X "str.index" pJ := by
  intro pins s σ H x vs v us Q I rx rv h
  obtain ⟨z, y, i, rest, rfl, rfl, ho, q⟩ := h
  obtain ⟨t, rfl⟩ := rx
  obtain ⟨u1, rfl, ⟨t1, rfl⟩⟩ := cw rv
  exact SC.index ho ⟨.int _, H, I.tok _, ⟨_, rfl⟩, q⟩
def wJ (z : Str) : List V := z.cps.toList.map fun c => .str ⟨#[c]⟩
inductive cF  (xs : List V)(H : Hp)(Q : VK) : Prop
  | mk : ∀ b, (xs=[.bl b]) → (Q (.str (if b=true then Str.ofString "True" else Str.ofString "False")) H) → cF xs H Q
theorem cZ : cG X (.builtin "repr") cF := by
  intro pins s σ H xs us Q I r h
  obtain ⟨b, rfl, q⟩ := h
  obtain ⟨u, rfl, ru⟩ := cw r
  cases ru
  exact P.repr_of_bool ⟨.str _, H, I.tok _, ⟨_, rfl⟩, q⟩
end
end L2
namespace PySem
open Sem (wp)
section
variable {prog : Program} {w : World} {A : Around} {E : Value → Shared → Prop} {s : Shared} {z TI TO i1 i2 : Addr} {x y : Str} {t u : Tok} {k c d : Nat} {a b : Value}
end
end PySem
namespace PySem
end PySem
namespace L2
open PySem PySem.Spec PyProof.Rows
theorem Inv.stepT {X : Cx}{pins : List (Addr × Obj)}{σ : St}{H : Hp}{s : Shared}{h' : Heap}{t' : Nat}{ch : List Addr}{T : Addr}{xs : List V}{its : List Value}(I : Inv X pins σ H s)(hf : ∀ b∈ch, jg X pins H b)
    (k : ∀ b o, b∉ch → s.heap.get? b=some o → h'.get? b=some o) (hT : s.heap.objs.size≤T) (hz : xs.length≤sizeLine) (rv : aZ xs its) (ht : IsTup h' T its.toArray) (hnd : NoD h' T) (there : ∀ b∈ch, ∃ o, s.heap.get? b=some o) : Inv X pins σ (upd H T (.tup xs)) { s with heap := h', toks := t' } := by
  have hn : H T=none := I.hok.fresh hT
  have ne : ∀ {b o}, s.heap.get? b=some o → b≠T := fun e => xN (xw (xm e) hT)
  have nch : ∀ {b u}, H b=some u → b∉ch := fun e z => by rw [(hf _ z).1] at e;cases e
  refine I.step (g' := s.gens) (d' := s.drawn) (ch := ch) (fun b hb => ?_) (fun b o _ _ hc e _ => k b o hc e) (fun b o _ _ hc e _ => ⟨o.slots, k b o hc e⟩) (fun b o _ e n => by rw [ay (ne e)];exact n) (fun b o hc e => ⟨o, k b o hc e⟩)
    (fun b ys e => by rw [ay (ak e hn)];exact e) (fun b o u e => by rw [ay (ak e hn)];exact e) (fun b ps e => ⟨#[], by rw [ay (ak e hn), e];simp⟩) (fun m hm => ?_) (fun b u e => ?_) I.bare
  · obtain ⟨_, f1, _, f3, f4, f5⟩ := hf b hb
    exact ⟨f3, f1, f4, f5⟩
  · obtain ⟨o, es, ep, ho, r⟩ := hm
    exact ⟨o, es, ep, k _ o (fun z => (hf _ z).2.1 rfl) ho, r⟩
  · by_cases hb : b=T
    · subst hb
      rw [ab] at e
      cases e
      exact ⟨hz, its, rv, ht, hnd⟩
    · rw [ay hb] at e
      refine (I.hok b u e).stay (fun c v hc q => k c v ?_ q) (fun c q => by rw [ay (ak q hn)];exact q) fun c ys q => by rw [ay (ak q hn)];exact q
      rcases hc with z | z
      · rw [z];exact nch e
      · exact nch z
section
variable {X : Cx}
theorem qE {K : PySem.W.Frag}{es : List Expr}{k : Nat}{t : TGs}{n : Nat}{pos : Pos}(hK : X.K=K)(hc : X.calm=true)(h : PGs X es t)
    (hn : (assignEach es X.env).length=n := by rfl) (hst : (assignEach es X.env).findIdx? (·.1)=none := by rfl) : PG X (.Tuple es k pos) (vM K n t) := by
  subst hK
  exact dX hc h hn hst
end
end L2
namespace L2
open PySem PySem.Spec PyProof.Rows Wd
def lx : Expr → Bool
  | .Starred _ _ => false
  | _ => true
theorem qF {e : Expr}(h : lx e=true)(es : List Expr)(env : Env) : starEach (e::es) env=(false, eval e env)::starEach es env := by
  cases e <;> first | rfl | cases h
theorem g0 {X : Cx}{e : Expr}{es : List Expr}{te : TE}{t : TA}(ha : PE X e te)(hr : PA X es t)(h : lx e=true := by rfl) : PA X (e::es) (so te t) := aa ha hr (qF h _ _)
theorem bG {X : Cx}{K : PySem.W.Frag}(hK : X.K=K) : cG X (.builtin "isinstance") (cy K) := by
  subst hK
  exact iJ
theorem ft.same {K : PySem.W.Frag}{H H' : Hp}{x : V}{t : Value}(s : au H H')(h : ft K H x t)(hc : ∀ C, t ≠ .ref C) : ft K H' x t := by
  cases h with
  | non => exact .non
  | bl x => exact .bl x
  | int x => exact .int x
  | str x => exact .str x
  | flt x => exact .flt x
  | lst e => exact .lst (s _ _ e)
  | frz e => exact .frz (s _ _ e)
  | tup e => exact .tup (s _ _ e)
  | dK e => exact .dK (s _ _ e)
  | dT e => exact .dT (s _ _ e)
  | _ => exact absurd rfl (hc _)
def keyT (e : DictEntry) : Str := match e.key with
  | .str x _ => x
  | _ => ""
def u5 : List Str := ([0, 1, 2, 3, 4, 5, 6, 7, 8, 9, 10, 11] : List L).map fun x => toS [x]
end L2
namespace Kx
open PySem PySem.Spec PyProof.Rows L2 Wd
inductive qG (vs : List V)(H : Hp)(Q : VK)(u3_ : XK) : Prop
  | mk : ∀ (x : L), (vs=[tx [x]]) → (Q (.int ((x.val % 6 : Nat) : Int)) H) → qG vs H Q u3_
theorem sX : ∀ x : L, Builtin.Str.occurrences ("abcdef" : Str) (Txt.lower (toS [x])) 0 ("abcdef" : Str).length 1=[x.val % 6] := by
  have q : ∀ x : L, Builtin.Str.occurrences ("abcdef" : Str) (⟨(([x].map cp).map lo1).toArray⟩ : Str) 0 ("abcdef" : Str).length 1=[x.val % 6] := by decide +kernel
  intro x
  rw [gY]
  exact q x
end Kx
namespace L2
open PySem PySem.Spec PyProof.Rows Wd
section
variable {X : Cx}
inductive pK (x : V)(y : V)(H : Hp)(Q : VK) : Prop
  | mk : ∀ a b xs, (x = .ref a) → (y = .ref b) → (H a=some (.lst xs)) → (H b=some (.lst [])) → (Q (.bl (!xs.isEmpty)) H) → pK x y H Q
theorem g_ (hu : X.A.units+64 < cLine) : OpR X (compareOp .NotEq) pK := by
  intro pins s σ H x y v u Q I rx ry h
  obtain ⟨a, b, xs, rfl, rfl, ha, hb, q⟩ := h
  cases rx
  cases ry
  obtain ⟨its, n, rv, ea, _⟩ := I.lst ha
  obtain ⟨its2, n2, rv2, eb, _⟩ := I.lst hb
  cases rv2
  have hla : s.heap.IsList a its.toArray := ⟨_, ea, rfl, _, rfl⟩
  have hlb : s.heap.IsList b ([] : List Value).toArray := ⟨_, eb, rfl, _, rfl⟩
  cases xs with
  | nil =>
    cases rv
    refine EqBoolInt.of_rcne (SeqAt.RcNeAt.lists (e := fun _ => true) hla hlb rfl (by omega) (fun j hj => by simp at hj)) ?_
    exact ⟨.bl false, H, I, rfl, q⟩
  | cons z r =>
    cases rv with
    | cons r1 r2 =>
      refine EqBoolInt.of_rcne (SeqAt.RcNeAt.lists_lengths hla hlb (by simp) (by omega)) ?_
      exact ⟨.bl true, H, I, rfl, q⟩
end
theorem bX {K : PySem.W.Frag} : PySem.W.kitOne K (.type "tuple") (.type "tuple")=some true := by unfold PySem.W.kitOne; rw [if_pos (by rfl)]
theorem nW {K : PySem.W.Frag} : PySem.W.kitOne K (.type "NoneType") (.type "tuple")=some false := by kernel_rfl
theorem lz {K : PySem.W.Frag} : PySem.W.kitOne K (.type "bool") (.type "tuple")=some false := by kernel_rfl
theorem nX {K : PySem.W.Frag} : PySem.W.kitOne K (.type "int") (.type "tuple")=some false := by kernel_rfl
theorem hG {K : PySem.W.Frag} : PySem.W.kitOne K (.type "list") (.type "tuple")=some false := by kernel_rfl
theorem nY {K : PySem.W.Frag} : PySem.W.kitOne K (.type "str") (.type "tuple")=some false := by kernel_rfl
theorem nZ {xs : List V}{lo hi : Option Int}{y : V}(h : y∈d3 xs lo hi) : y∈xs := zi (ya h)
end L2
namespace Kx
open PySem PySem.Spec PyProof.Rows L2 Wd
theorem s12 : toS [0, 1, 2, 3, 4, 5, 6, 7, 8, 9, 10, 11]=("abcdefABCDEF" : Str) := by decide +kernel
end Kx
namespace L2
open PySem PySem.Spec PyProof.Rows Wd
theorem cR {K : PySem.W.Frag}{a : Addr}{xs : List V}{own : List Str}{cap : List Nat}{g : TG}{ti : TT}{te : TE}{σ : St}{H : Hp}{Q : VK}(Pv : Nat → List V → St → Hp → Prop)(h0 : Pv 0 [] (stB own cap σ) H)(hz : ∀ i ys σ H, i≤xs.length → Pv i ys σ H → ys.length≤i)(hn : xs.length≤sizeLine)
    (hl : ∀ i ys σ H, Pv i ys σ H → SqT K H a xs)
    (hs : ∀ i ys σ H x (N : List V → St → Hp → Prop), xs[i]? = some x → Pv i ys σ H → (∀ ys' σ' H'', Pv (i+1) ys' σ' H'' → N ys' σ' H'') → g x σ H fun σ2 H2 => ti σ2 H2 fun b H3 => if b=true then te σ2 H3 fun y H4 => N (ys++[y]) σ2 H4 else N ys σ2 H3)
    (hd : ∀ ys σ H D, Pv xs.length ys σ H → H D=none → Q (.ref D) (upd H D (.lst ys))) :
    nO own cap g ti te Q σ (Itt K a) H := by
  refine bS (J := Itt K a) xs.length Pv h0 hz hn (fun i ys σ H hi p => ⟨xs, xs[i], hl i ys σ H p, wY hi⟩) (fun ys σ H p => ⟨xs, hl _ ys σ H p, wZ _⟩) ?_ hd
  rintro i ys σ H x H' N hi p ⟨rfl, hx⟩ hN
  exact hs i ys σ _ x N (hx xs (hl i ys σ _ p)) p hN
theorem hU {K : PySem.W.Frag}{a : Addr}{xs : List V}{own : List Str}{cap : List Nat}{g : TG}{ti : TT}{te : TE}{σ : St}{H : Hp}{Q : VK}(Pv : Nat → List V → St → Hp → Prop)(h0 : Pv 0 [] (stB own cap σ) H)(hz : ∀ i ys σ H, i≤xs.length → Pv i ys σ H → ys.length≤i)(hn : xs.length≤sizeLine)
    (hl : ∀ i ys σ H, Pv i ys σ H → SqL K H a xs)
    (hs : ∀ i ys σ H x (N : List V → St → Hp → Prop), xs[i]? = some x → Pv i ys σ H → (∀ ys' σ' H'', Pv (i+1) ys' σ' H'' → N ys' σ' H'') → g x σ H fun σ2 H2 => ti σ2 H2 fun b H3 => if b=true then te σ2 H3 fun y H4 => N (ys++[y]) σ2 H4 else N ys σ2 H3)
    (hd : ∀ ys σ H D, Pv xs.length ys σ H → H D=none → Q (.ref D) (upd H D (.lst ys))) :
    nO own cap g ti te Q σ (Itl K a) H := by
  refine bS (J := Itl K a) xs.length Pv h0 hz hn (fun i ys σ H hi p => ⟨xs, xs[i], hl i ys σ H p, wY hi⟩) (fun ys σ H p => ⟨xs, hl _ ys σ H p, wZ _⟩) ?_ hd
  rintro i ys σ H x H' N hi p ⟨rfl, hx⟩ hN
  exact hs i ys σ _ x N (hx xs (hl i ys σ _ p)) p hN
theorem u6 {X : Cx}{a : Expr}{ta : TE}(ha : PE X a ta)(he : ∀ whole, isTrue a X.env whole=(do let v ← whole; standAt a.pos; holding [v] (truthy v))) : PT X a (sj ta) := by
  intro pins s σ H Q I h
  refine isTrue_plain (thn (ha pins s σ H _ I h) fun v s1 ⟨x, H1, I1, r1, q1⟩ => kE pins s1 σ H1 x v Q I1 r1 ?_) (he _)
  obtain ⟨k, e, q⟩ := q1
  subst e
  exact ⟨k, rfl, q⟩
theorem n4 {c : TT}{tb : TS}{D : fm}{σ : St}{H : Hp}(W : Nat → St → Hp → Prop)(E : St → Hp → Prop)(h0 : ∃ m, W m σ H)
    (turn : ∀ nx : St → Hp → Prop, (∀ σ H, E σ H → nx σ H) → ∀ m σ H, W m σ H → c σ H fun b H1 => if b=true then ∃ N : St → Hp → Prop, (∀ σ' H', N σ' H' → ∃ m', m' < m ∧ W m' σ' H') ∧ tb { D with nx := N, ct := N, bk := nx } σ H1 else nx σ H1)
    (he : ∀ σ H, E σ H → D.nx σ H) : pd c tb D σ H := ⟨W, h0, turn D.nx he⟩
theorem none_of {H H1 : Hp}{a : Addr}(s : au H H1)(h : H1 a=none) : H a=none := by
  cases e : H a with
  | none => rfl
  | some o => rw [s _ _ e] at h;cases h
end L2
namespace L2
open PySem PySem.Spec PyProof.Rows
theorem lA {X : Cx}{i : Nat}{y : Str}{py spos : Pos}{elt iter tg : Expr}{ifs : List Expr}{scope : Scope}{pos : Pos}{NB own : List Str}{cap : List Nat}{wi : TI}{g : TG}{ti : TT}{te : TE}(hN : X.N.Nodup)(hi0 : X.N[i]? = some y)(hx : Loc X.env.scope y)(B : Blk X scope NB own cap)(hc : X.calm=true)(hi : PI X tg iter wi)
    (hg : ∀ C fp s₀ H₀, PG (cxB X NB own scope C fp s₀ H₀) tg g) (ht : ∀ C fp s₀ H₀, PIf (cxB X NB own scope C fp s₀ H₀) ifs ti) (he : ∀ C fp s₀ H₀, PE (cxB X NB own scope C fp s₀ H₀) elt te)
    (hs : ∀ x, foldedSetIterable iter X.env x=pure x := by intro _;rfl) (hsw : swapsWith (.ListComp elt [⟨tg, iter, ifs, 0⟩] scope pos) (some (.Name y py)) spos.line X.env=pure true := by rfl) (hf : X.fn y=true ∨ X.env.scope.names.lookup y=some .local := by first | exact .inl rfl | exact .inr rfl | assumption) : PS X (.Assign [.Name y py] (.ListComp elt [⟨tg, iter, ifs, 0⟩] scope pos) spos) (uH (sS own cap wi g ti te) (iF i)) := by
  intro pins s σ H DD I0 h
  rw [exec_Assign_Name_used _ _ _ _ hsw]
  refine wX (wpAny_standAt (wX ?_))
  show wpAny _ X.A (do let _ ← comprehension (.ListComp elt [⟨tg, iter, ifs, 0⟩] scope pos) scope X.env _ (newList []) false (eval iter X.env) (some (assign (.Name y py) X.env))) _ _ s
  have hclos := dj (env := X.env) (scope := scope) fun y hy e => I0.ok.has y.1 (.inl (B.free y hy e))
  refine wX (yr (AK (use := some (assign (.Name y py) X.env)) (Q := fun _ s' => SP X pins DD .next s') rfl hs hclos B.kind B.names (thn (hi pins s σ H _ I0 h) fun v s1 h1 => thn h1 fun itv s2 h2 => ?_)) (fun _ s' hq => w6 (w6 hq)) fun _ _ e => e)
  obtain ⟨it, fp, tn, J, H2, rfl, I, T, st2, f2, W, ⟨m0, w0⟩, turn⟩ := h2
  refine wpAny_newList ?_
  refine wpAny_newFunctionEnv B.nocell (by intro y hy;simp at hy) (fun h₁ hns₁ hsb₁ => ?_) B.kind
  dsimp only at hns₁ hsb₁ ⊢
  generalize hP : s2.heap.push { cls := .type "list", dict := none, data := .seq ([] : List Value).toArray }=P at hns₁ hsb₁ ⊢
  have hC : P.objs.size=s2.heap.objs.size+1 := by rw [← hP, Bb]
  have hDC : s2.heap.objs.size≠P.objs.size := by rw [hC];exact xN (A1 _)
  have hCle : s2.heap.objs.size≤P.objs.size := by rw [hC];exact Nat.le_succ _
  have old : ∀ b o, s2.heap.get? b=some o → h₁.get? b=some o := fun b o e => by
    refine (hsb₁.2 b ?_).trans (w5 _ (hP ▸ w5 _ e))
    exact xN (xw (xm e) hCle)
  have hD : h₁.get? s2.heap.objs.size=some { cls := .type "list", data := .seq ([] : List Value).toArray 0 } := by
    refine (hsb₁.2 _ hDC).trans (w5 _ ?_)
    rw [← hP]
    exact xj _ rfl
  have hfs : ∀ b∈fp, ∃ o, s2.heap.get? b=some o := fun b hb => let ⟨o, e, _⟩ := T.obj _ _ st2 b hb;⟨o, e⟩
  have st4 : tn 0 h₁ := T.keep _ _ _ st2 fun b _ o e => old b o e
  generalize htk : s2.toks+([] : List (Str × Value)).length=tk4
  have I4 := B.start (C := P.objs.size) (tk := tk4) I f2 hfs hCle old hns₁
  have fOk : ∀ {H' : Hp} {b : Addr} {ob : Obj}, b∈fp → H' b=none → jg (cxB X NB own scope P.objs.size fp s2 H2) [(s2.heap.objs.size, ob)] H' b := fun {H' b ob} hb hn => by
    obtain ⟨o, e⟩ := hfs b hb
    refine ⟨hn, (I4.ok.exf b hb).1, I4.ok.exfs b hb, .inl hb, (I4.ok.exf b hb).2, fun p hp => ?_⟩
    have ep : p=(s2.heap.objs.size, ob) := xf.mp (show p∈[(s2.heap.objs.size, ob)] from hp)
    rw [ep]
    exact fun z => absurd (xm e) (by rw [← z];exact xU _)
  have dnf : s2.heap.objs.size∉frs X.stack := fun z => by
    rcases xr.mp (I.stkSub _ z) with z | z
    · exact absurd I.lt (by rw [← z];exact xU _)
    · exact I.nofs (wZ _) z
  have I3D : ∀ {σ3 : St} {H3 : Hp} {s3 : Shared} {its : List Value} {k : Nat}, Inv (cxB X NB own scope P.objs.size fp s2 H2) [] σ3 H3 s3 → s3.heap.get? s2.heap.objs.size=some { cls := .type "list", data := .seq its.toArray k } → H3 s2.heap.objs.size=none →
      Inv (cxB X NB own scope P.objs.size fp s2 H2) [(s2.heap.objs.size, { cls := .type "list", data := .seq its.toArray k })] σ3 H3 s3 := fun I3 e n => I3.pins_of fun p hp => by
    have ep := xf.mp hp
    subst ep
    exact ⟨e, n, hDC, dnf, fun v z => by cases z⟩
  have ndf : s2.heap.objs.size∉fp := fun z => by
    obtain ⟨o, e⟩ := hfs _ z
    exact absurd (xm e) (xU _)
  have nCD : ∀ x c, (cxB X NB own scope P.objs.size fp s2 H2).env.cells.lookup x=some c → c≠s2.heap.objs.size := fun x c e z => by
    obtain ⟨v, o, ho, _⟩ := I.cell x c (B.cells I.ok e).1
    rw [z] at ho
    exact absurd (xm ho) (xU _)
  have loop : ∀ s₃ : Shared, s₃ = { s2 with heap := h₁, toks := tk4 } → codeAny (model X.prog X.w) X.A (.compLoop (.ListComp elt [⟨tg, iter, ifs, 0⟩] scope pos) 0 (.ref it) (.ref s2.heap.objs.size) (cxB X NB own scope P.objs.size fp s2 H2).env)
      (compPost (model X.prog X.w) X.A X.xe (some (assign (.Name y py) X.env)) (fun _ s' => SP X pins DD .next s') (.ref s2.heap.objs.size) P.objs.size) s₃ := by
    rintro s₃ rfl
    refine gT (fun n s' => ∃ i σB H' ys its k, Inv (cxB X NB own scope P.objs.size fp s2 H2) [] σB H' s' ∧ tn i s'.heap ∧ (∀ b∈fp, H' b=none) ∧ s'.heap.get? s2.heap.objs.size=some { cls := .type "list", data := .seq (its : List Value).toArray k } ∧ aZ ys its ∧ H' s2.heap.objs.size=none ∧ W i n ys σB H') ?_ m0
      ⟨0, stB own cap σ, H2, [], [], 0, I4, st4, fun b hb => (f2 b hb).1, hD, .nil, I.hok.fresh (wZ _), w0⟩
    rintro n s3 ⟨i, σ3, H3, ys, its, k, I3, st3, fr3, hD3, rv, hn3, w3⟩
    rcases turn i n ys σ3 H3 w3 with ⟨stop, hz, q⟩ | ⟨go, hz, step⟩
    · refine thn (T.done (cxB X NB own scope P.objs.size fp s2 H2) rfl rfl rfl hc i _ s3 σ3 H3 noE (I3D I3 hD3 hn3) (fun b hb => fOk hb (fr3 b hb)) st3 stop) fun r s4 zq1 => ?_
      obtain ⟨hr, I4'⟩ := zq1
      subst hr
      have hD4 : s4.heap.get? s2.heap.objs.size=some { cls := .type "list", data := .seq (its : List Value).toArray k } := (I4'.pin (s2.heap.objs.size, _) (xl _ (xf.mpr rfl))).1
      have I5 : Inv (cxB X NB own scope P.objs.size fp s2 H2) [] σ3 H3 s4 := I4'.pins_of fun p hp => absurd (show p∈([] : List (Addr × Obj)) from hp) (by simp)
      obtain ⟨mC, hnC, _⟩ := I5.loc
      have I6 : Inv X pins σ (upd H3 s2.heap.objs.size (.lst ys)) s4 := B.done (h'' := s4.heap) I f2 hCle (wZ _) hDC I5 hn3 hD4 rv hz ⟨rfl, fun _ _ => rfl⟩
      obtain ⟨oC, es, ep, hoC, hdC, rC⟩ := hnC
      have hCn : (upd H3 s2.heap.objs.size (.lst ys)) P.objs.size=none := by rw [ay hDC.symm];exact I5.free
      have nL : P.objs.size≠X.env.locals := fun z => absurd I.lt (by rw [← z];exact Nat.not_lt.mpr hCle)
      have I7 : Inv X (pins++[(P.objs.size, oC)]) σ (upd H3 s2.heap.objs.size (.lst ys)) s4 := I6.pins_of fun p hp => by
        rcases xF.mp hp with z | z
        · exact I6.pin p (xl _ z)
        · have ep := xf.mp z
          subst ep
          exact ⟨hoC, hCn, nL, I.nofs hCle, fun v z => by rw [hdC] at z;cases z⟩
      refine thn (aA (pos := py) hN hi0 hx hf (pins++[(P.objs.size, oC)]) s4 σ _ (.ref s2.heap.objs.size) (.ref s2.heap.objs.size) (fun σ' H' => DD.nx σ' H' ∧ H'=upd H3 s2.heap.objs.size (.lst ys)) I7 rfl ⟨q _ hn3, rfl⟩) fun _ s5 zq2 => ?_
      obtain ⟨σ5, H5, I8, q5, e5⟩ := zq2
      subst e5
      have pC := (I8.pin (P.objs.size, oC) (xl _ (xl _ (xf.mpr rfl)))).1
      refine ⟨mC, ⟨oC, es, ep, pC, hdC, rC⟩, fun h'' sb => ⟨σ5, _, ?_, q5⟩⟩
      have I9 : Inv X pins σ5 (upd H3 s2.heap.objs.size (.lst ys)) s5 := I8.pins_of fun p hp => I8.pin p (xl _ (xY _ hp))
      refine I9.turned (t' := s5.toks) (it := P.objs.size) (fun b o hb e => (sb.2 b hb).trans e) hCn nL (.inr (xH I.sz hCle)) (fun x c e z => ?_) fun p hp z => ?_
      · obtain ⟨v, o, ho, _⟩ := I.cell x c e
        exact absurd (xm ho) (by rw [z];exact Nat.not_lt.mpr hCle)
      · exact absurd (xm (I.pin p hp).1) (by rw [z];exact Nat.not_lt.mpr hCle)
    · refine thn (T.item (cxB X NB own scope P.objs.size fp s2 H2) rfl rfl rfl hc i _ s3 σ3 H3 noE (I3D I3 hD3 hn3) (fun b hb => fOk hb (fr3 b hb)) st3 go) fun r s4 zq3 => ?_
      obtain ⟨u, hr, h4⟩ := zq3
      subst hr
      refine thn h4 fun _ s5 zq4 => ?_
      obtain ⟨x, H5, I5, r5, y5, st5, fr5⟩ := zq4
      have I5' := I5.pinned (fun b hb => fOk hb (fr5 b hb)) (T.obj _ _ st5)
      refine thn (hg _ fp s2 H2 _ s5 σ3 H5 x u _ I5' r5 (step x H5 y5)) fun _ s6 zq5 => ?_
      obtain ⟨σ6, H6, I6, q6⟩ := zq5
      refine thn (ht _ fp s2 H2 _ s6 σ6 H6 _ I6 q6) fun b s7 zq6 => ?_
      obtain ⟨H7, I7, q7⟩ := zq6
      have pinned : ∀ {σ8 : St} {H8 : Hp} {s8 : Shared}, Inv (cxB X NB own scope P.objs.size fp s2 H2) ([(s2.heap.objs.size, { cls := .type "list", data := .seq (its : List Value).toArray k })]++fo fp s5.heap) σ8 H8 s8 →
          tn (i+1) s8.heap ∧ (∀ b∈fp, H8 b=none) ∧ s8.heap.get? s2.heap.objs.size=some { cls := .type "list", data := .seq (its : List Value).toArray k } ∧ H8 s2.heap.objs.size=none := fun {σ8 H8 s8} I8 => by
        refine ⟨T.keep _ _ _ st5 fun b hb o e => (I8.pin (b, o) (xl _ (xl _ (bO hb e)))).1, fun b hb => ?_, ?_, ?_⟩
        · obtain ⟨o, e, d⟩ := T.obj _ _ st5 b hb
          exact (I8.pin (b, o) (xl _ (xl _ (bO hb e)))).2.1
        · exact (I8.pin (s2.heap.objs.size, _) (xl _ (xY _ (xf.mpr rfl)))).1
        · exact (I8.pin (s2.heap.objs.size, _) (xl _ (xY _ (xf.mpr rfl)))).2.1
      have nopin : ∀ {pp : List (Addr × Obj)} {σ8 : St} {H8 : Hp} {s8 : Shared}, Inv (cxB X NB own scope P.objs.size fp s2 H2) pp σ8 H8 s8 → Inv (cxB X NB own scope P.objs.size fp s2 H2) [] σ8 H8 s8 := fun I8 => I8.pins_of fun p hp => absurd (show p∈([] : List (Addr × Obj)) from hp) (by simp)
      cases b with
      | false =>
        rw [if_neg xu] at q7 ⊢
        obtain ⟨m', hm, w7⟩ := q7
        obtain ⟨p1, p2, p3, p4⟩ := pinned I7
        exact ⟨m', hm, i+1, σ6, H7, ys, its, k, nopin I7, p1, p2, p3, rv, p4, w7⟩
      | true =>
        rw [if_pos rfl] at q7 ⊢
        refine thn (he _ fp s2 H2 _ s7 σ6 H7 _ I7 q7) fun yv s8 zq7 => ?_
        obtain ⟨y, H8, I8, r8, m', hm, w8⟩ := zq7
        obtain ⟨p1, p2, p3, p4⟩ := pinned I8
        refine yV yn ⟨_, p3, rfl⟩ Am (Ad _ _) (AJ s2.heap.objs.size its.toArray k yv (by rw [xa, ← rv.length];omega)) ⟨p3, ?_⟩
        have q := A0 p3 fun a => a.push yv
        have ea : its.toArray.push yv=(its++[yv]).toArray := by simp
        rw [ea] at q
        have I9 : Inv (cxB X NB own scope P.objs.size fp s2 H2) [] σ6 H8 { s8 with heap := s8.heap.update s2.heap.objs.size (Obj.mapSeq fun a => a.push yv), toks := s8.toks } :=
          (nopin I8).turned (it := s2.heap.objs.size) (fun b o hb e => (xZ s8.heap _ (Ne.symm hb)).trans e) p4 hDC (.inr (wZ _)) (fun x c e => nCD x c e) fun p hp => absurd (show p∈([] : List (Addr × Obj)) from hp) (by simp)
        refine ⟨m', hm, i+1, σ6, H8, ys++[y], its++[yv], _, I9, ?_, p2, q, rv.append (.cons r8 .nil), p4, w8⟩
        refine T.keep _ _ _ p1 fun b hb o e => (xZ s8.heap _ ?_).trans e
        intro z
        rw [z] at ndf
        exact ndf hb
  exact codeAny_compStart_list (loop _ rfl) (T.self X.A 0 _ _ _ st4 (loop _ rfl))
end L2
namespace L2
open PySem PySem.Spec PyProof.Rows Wd
end L2
namespace L2
open PySem PySem.Spec PyProof.Rows Wd
section
variable {X : Cx}
inductive lC (x : V)(vs : List V)(H : Hp)(Q : VK) : Prop
  | mk : ∀ l xs i y, (x = .ref l) → (vs=[.int i, y]) → (H l=some (.lst xs)) → (0≤i) → (i≤xs.length) → (xs.length < sizeLine) → (Q .non (upd H l (.lst (xs.take i.toNat++y::xs.drop i.toNat)))) → lC x vs H Q
theorem hV : MtM X "list.insert" lC := by
  intro pins s σ H x vs v us Q I rx rv h
  obtain ⟨l, xs, i, y, rfl, rfl, hH, h0, h1, hz, q⟩ := h
  cases rx
  obtain ⟨u1, u2, rfl, ⟨t1, rfl⟩, r2⟩ := sm rv
  obtain ⟨z, its, n, r, hl, e⟩ := I.lstM hH
  have hn := c_
  have hfit : Builtin.List.listFitsIndex i=true := by
    unfold Builtin.List.listFitsIndex
    rw [xp, xK, xK]
    constructor <;> omega
  refine yV zq ⟨_, e, rfl⟩ PySem.F.entry_list_insert (PySem.F.args_list_insert_3 _ _ _) (PySem.AutoSeq1.list_insert_list_int_val_1 l its.toArray n i t1 u2 (by simp [hfit]) (by rw [xa];omega)) ⟨e, ?_⟩
  refine ⟨.non, _, I.lset (its' := its.take i.toNat++u2::its.drop i.toNat) hH e ?_ ((r.take _).append (.cons r2 (r.drop _))) ?_, rfl, q⟩
  · have hm : min i.toNat its.length=i.toNat := by omega
    simp only [xa, if_neg (show ¬ i < 0 by omega), hm]
    apply Array.toList_inj.mp
    simp
    exact xR (by rw [xX];exact wZ _)
  · rw [w4, xM, xo, xX]
    omega
def sY (z : Str) : Str := Txt.sliceBy z none none (-1, 0)
def u7 (te ts : TE) : TE := fun σ H Q => te σ H fun x H1 => ts σ H1 fun k H2 => ∃ z, x = .str z ∧ k = .int (-1) ∧ z.length≤sizeLine ∧ Q (.str (sY z)) H2
theorem qH {e st : Expr}{te ts : TE}{pos p2 : Pos}(he : PE X e te)(hs : PE X st ts) : PE X (.Subscript e (.Slice none none (some st) p2) pos) (u7 te ts) := by
  intro pins s σ H Q I h
  refine AH (thn (he pins s σ H _ I h) fun v s1 zq1 => ?_)
  obtain ⟨x, H1, I1, r1, q1⟩ := zq1
  refine wpAny_Slice ?_
  rw [AQ]
  refine w6 ?_
  refine w6 ?_
  rw [evalPart_some]
  refine thn (hs pins s1 σ H1 _ I1 q1) fun vs s3 zq2 => ?_
  obtain ⟨k, H3, I3, r3, z, ez, ek, hz, q3⟩ := zq2
  subst ez ek
  obtain ⟨t, rfl⟩ := r1
  obtain ⟨tk, rfl⟩ := r3
  have I4 : Inv X pins σ H3 { s3 with heap := s3.heap.push { cls := .type "slice", data := .fields #[.none, .none, .int (-1) tk] } } := I3.kept (t' := s3.toks) fun b ob q => w5 _ q
  show wpAny (model X.prog X.w) X.A (subscriptTail e (.Slice none none (some st) p2) (.str z t) (.ref s3.heap.objs.size)) (EP X pins σ Q) X.xe { s3 with heap := s3.heap.push { cls := .type "slice", data := .fields #[.none, .none, .int (-1) tk] } }
  refine tail_any (ops := [.ref s3.heap.objs.size, .str z t]) (Ah _ _ _) F.slot_str_getitem.lookup ?_ (by with_unfolding_all rfl)
  exact yt (l := none) (u := none) (st := some (-1, tk)) ⟨_, xj _ rfl, rfl, rfl⟩ rfl (zB ⟨xH (Txt.sliceBy_le z none none (-1, tk) (by show (-1 : Int)≠0;decide)) hz, fun t' k => ⟨.str _, H3, I4.tok _, ⟨_, rfl⟩, q3⟩⟩)
theorem n5 (u : List L) : sY (toS u)=toS u.reverse := by
  have h : (sY (toS u)).cps.toList=(toS u.reverse).cps.toList := by
    unfold sY
    rw [step_rev_list, cM, ah]
    apply List.ext_getElem?
    intro i
    rw [w_]
    by_cases hi : i < u.length
    · rw [List.getElem?_range hi, w_, zb hi]
      have e : (toS u).cps.getD (u.length - 1 - i) 0=cp u[u.length - 1 - i] := by
        simp [toS, Array.getD, show u.length - 1 - i < u.length by omega]
      rw [wY (show u.length - 1 - i < u.length by omega)]
      exact xA some e
    · rw [zc (by simpa using hi), zc (by simp;omega)]
      rfl
  cases hr : sY (toS u) with
  | mk c => 
    rw [hr] at h
    have : c=(toS u.reverse).cps := Array.toList_inj.mp h
    rw [this]
end
end L2
namespace Wd
structure Srf (u : List L) : Prop where
  ne : u≠[]
  nd : u.Nodup
  iv : ∀ x∈u, inv x∈u
  le : u.length≤12
def fam (k : Nat) : List L := (List.range k).flatMap fun j => if h : j < 6 then [⟨j, by omega⟩, ⟨j+6, by omega⟩] else []
theorem hX : ∀ k : Fin 7, (fam k.val).Nodup ∧ (∀ x∈fam k.val, inv x∈fam k.val) ∧ (fam k.val).length=2*k.val := by decide
theorem jz {k : Nat}(h : k < 6) : fam (k+1)=fam k++[⟨k, by omega⟩, ⟨k+6, by omega⟩] := by
  unfold fam
  rw [zd, zm]
  simp [h]
theorem n6 {u v : List L}(x : L)(i : Nat)(p : u.Perm v) : (u.take i++x::u.drop i).Perm (v++[x]) := by
  refine List.perm_middle.trans ?_
  rw [zZ]
  exact ((List.Perm.cons x p).trans (List.perm_append_singleton x v).symm)
end Wd
namespace Kx
open PySem PySem.Spec PyProof.Rows L2 Wd
theorem lD (u : List L)(x : L)(i : Nat) : StrLaws.At (toS u) (toS [x]) (toS u).length i ↔ u[i]? = some x := by
  unfold StrLaws.At
  rw [ah, ah, StrLaws.subAt_eq, ah, cM, cM, beq_iff_eq, ← AR, ← Ae]
  simp only [zW]
  constructor
  · rintro ⟨h1, h2⟩
    have h2 := dJ h2
    have : (u.drop i).take 1=[u[i]] := by rw [zj (by omega)];rfl
    rw [this] at h2
    rw [wY (by omega)]
    exact xA some (AS h2).1
  · intro h
    obtain ⟨hl, e⟩ := xh.mp h
    refine ⟨by omega, ?_⟩
    rw [zj hl, e]
    rfl
theorem sZ {u : List L}{x : L}(h : x∈u) : ∃ rest, Builtin.Str.occurrences (toS u) (toS [x]) 0 (toS u).length 1=u.idxOf x::rest := by
  have hlt := xQ h
  have hx : u[u.idxOf x]? = some x := by rw [wY hlt];exact xA some (y7 hlt)
  rcases StrLaws.occ_head (toS u) (toS [x]) 1 (wZ 1) with ⟨h0, hn⟩ | ⟨i, r, h0, hi, hn⟩
  · exact absurd ((lD u x _).mpr hx) (hn _)
  · refine ⟨r, ?_⟩
    rw [h0]
    have hi := (lD u x i).mp hi
    have : i=u.idxOf x := by
      rcases Nat.lt_trichotomy i (u.idxOf x) with h1 | h1 | h1
      · have q := List.not_of_lt_findIdx (p := (· == x)) h1
        obtain ⟨hl, e⟩ := xh.mp hi
        exact absurd (beq_iff_eq.mpr e) (by simpa using q)
      · exact h1
      · exact absurd ((lD u x _).mpr hx) (hn _ h1)
    rw [this]
theorem pL (x : L) : (!(Builtin.Str.occurrences ("ABCDEF" : Str) (toS [x]) 0 ("ABCDEF" : Str).length 1).isEmpty)=decide (¬ x.val < 6) := by
  have q : ∀ x : L, decide (cp x∈("ABCDEF" : Str).cps.toList)=decide (¬ x.val < 6) := by decide +kernel
  have h := StrLaws.found_one ("ABCDEF" : Str) (cp x)
  rw [q] at h
  exact h
structure Tp (H : Hp) (d c : Addr) : Prop where
  ex : ∃ (i l t : Int) (ns : List Int), H d=some (.lst [.ref c, .int i, .int l, .int t]) ∧ H c=some (.lst (ns.map V.int)) ∧ c≠d ∧ ns.length≤63
theorem Tp.same {H H' : Hp}{d c : Addr}(F : Tp H d c)(s : au H H') : Tp H' d c := by
  obtain ⟨i, l, t, ns, h1, h2, h3, h4⟩ := F.ex
  exact ⟨i, l, t, ns, s _ _ h1, s _ _ h2, h3, h4⟩
theorem Tp.new {H : Hp}{d c a : Addr}{o : HO}(F : Tp H d c)(h : H a=none) : Tp (upd H a o) d c := F.same (au.new h)
theorem Tp.ne {H : Hp}{d c a : Addr}(F : Tp H d c)(h : H a=none) : a≠d := by
  obtain ⟨i, l, t, ns, h1, h2, h3, h4⟩ := F.ex
  exact (ak h1 h).symm
theorem Tp.nec {H : Hp}{d c a : Addr}(F : Tp H d c)(h : H a=none) : a≠c := by
  obtain ⟨i, l, t, ns, h1, h2, h3, h4⟩ := F.ex
  exact (ak h2 h).symm
theorem Tp.but {H H' : Hp}{d c a : Addr}(F : Tp H d c)(h1 : a≠d)(h2 : a≠c)(s : aU a H H') : Tp H' d c := by
  obtain ⟨i, l, t, ns, g1, g2, g3, g4⟩ := F.ex
  exact ⟨i, l, t, ns, s _ _ h1.symm g1, s _ _ h2.symm g2, g3, g4⟩
theorem none_of {H H' : Hp}{a : Addr}(s : au H H')(h : H' a=none) : H a=none := by
  cases e : H a with
  | none => rfl
  | some o => exact absurd (s _ _ e) (by rw [h];intro z;cases z)
inductive cg (vs : List V)(H : Hp)(Q : VK)(u3_ : XK) : Prop
  | mk : ∀ (d c : Addr) (m : Int), (vs=[.ref d, .int m]) → (Tp H d c) → (0 < m) → (m < 1000000) → (∀ (r : Int) (H' : Hp), 0≤r → r < m → Tp H' d c → aU d H H' → Q (.int r) H') → cg vs H Q u3_
inductive lE (K : PySem.W.Frag)(vs : List V)(H : Hp)(Q : VK)(u3_ : XK) : Prop
  | mk : ∀ (a : Addr) (ns : List Int), (vs=[.ref a]) → (SqL K H a (ns.map V.int)) → (ns.length≤63) → (∀ (d c : Addr) (H' : Hp), H d=none → H c=none → Tp H' d c → au H H' → Q (.ref d) H') → lE K vs H Q u3_
theorem bg6 : ∀ j : Fin 6, ([6, 7, 8, 9, 10, 11] : List L)[j.val]? = some ⟨j.val+6, by omega⟩ := by decide
theorem sm_at {i : Nat}(h : i < 6) : atI ("abcdef" : Str).cps.toList (i : Int)=some (cp ⟨i, by omega⟩) := by
  rw [← qx]
  exact dM (k := i) rfl (sm6 ⟨i, h⟩)
theorem u9 {i : Nat}(h : i < 6) : atI ("ABCDEF" : Str).cps.toList (i : Int)=some (cp ⟨i+6, by omega⟩) := by
  rw [← big]
  exact dM (k := i) rfl (bg6 ⟨i, h⟩)
theorem n8 (W : List L)(x : L)(n : Nat) : (bI W).take n++tx [x]::(bI W).drop n=bI (W.take n++x::W.drop n) := by
  unfold bI
  simp
end Kx
namespace Wd
section
variable {α : Type}
def Adj : List α → α → α → Prop
  | a::b::t, x, y => (x=a ∧ y=b) ∨ Adj (b::t) x y
  | _, _, _ => False
theorem dN {a b : α}{t : List α}{x y : α} : Adj (a::b::t) x y ↔ (x=a ∧ y=b) ∨ Adj (b::t) x y := Iff.rfl
theorem iK {a x y : α} : Adj [a] x y ↔ False := Iff.rfl
theorem fW : ∀ (l : List α) (c : α) (m : List α) (x y : α), Adj (l++c::m) x y ↔ Adj (l++[c]) x y ∨ Adj (c::m) x y
  | [], c, m, x, y => by simp [iK]
  | [a], c, m, x, y => by
    show Adj (a::c::m) x y ↔ Adj [a, c] x y ∨ _
    rw [dN, dN, iK]
    simp
  | a::b::l, c, m, x, y => by
    have ih := fW (b::l) c m x y
    show Adj (a::b::(l++c::m)) x y ↔ Adj (a::b::(l++[c])) x y ∨ _
    rw [dN, dN]
    have ih : Adj (b::(l++c::m)) x y ↔ Adj (b::(l++[c])) x y ∨ Adj (c::m) x y := ih
    rw [ih, or_assoc]
theorem lF : ∀ {l : List α} {x y : α}, Adj l x y → x∈l ∧ y∈l
  | [], _, _, h => h.elim
  | [a], _, _, h => h.elim
  | a::b::t, x, y, h => by
    rcases h with ⟨rfl, rfl⟩ | h
    · simp
    · have := lF h
      exact ⟨xk _ this.1, xk _ this.2⟩
theorem eV : ∀ {l : List α} {x y : α}, Adj l x y → ∃ s t, l=s++x::y::t
  | [], _, _, h => h.elim
  | [a], _, _, h => h.elim
  | a::b::t, x, y, h => by
    rcases h with ⟨rfl, rfl⟩ | h
    · exact ⟨[], t, rfl⟩
    · obtain ⟨s, t', e⟩ := eV h
      exact ⟨a::s, t', by rw [e];rfl⟩
theorem s_ {s t : List α}{x y : α} : Adj (s++x::y::t) x y := by
  rw [fW]
  exact .inr (.inl ⟨rfl, rfl⟩)
theorem qI {l : List α}{a b : α}(h : Adj l a b) : Adj l.reverse b a := by
  obtain ⟨s, t, rfl⟩ := eV h
  have : (s++a::b::t).reverse=t.reverse++b::a::s.reverse := by simp
  rw [this]
  exact s_
def Nx : List α → α → α → Prop
  | [], _, _ => False
  | h::t, x, y => Adj (h::t++[h]) x y
theorem fA : ∀ (A B : List α) (x y : α), Nx (A++B) x y ↔ Nx (B++A) x y
  | [], B, x, y => by simp
  | a::A, [], x, y => by simp
  | a::A, b::B, x, y => by
    show Adj (a::(A++b::B)++[a]) x y ↔ Adj (b::(B++a::A)++[b]) x y
    have e1 : a::(A++b::B)++[a]=(a::A)++b::(B++[a]) := by simp
    have e2 : b::(B++a::A)++[b]=(b::B)++a::(A++[b]) := by simp
    rw [e1, e2, fW (a::A) b, fW (b::B) a, or_comm]
    rfl
theorem pM {w : List α}{x y : α}(h : Nx w x y) : x∈w ∧ y∈w := by
  cases w with
  | nil => exact h.elim
  | cons a t =>
    have := lF h
    simp at this ⊢
    exact ⟨by rcases this.1 with h | h | h <;> simp [h], by rcases this.2 with h | h | h <;> simp [h]⟩
theorem lG {w : List α}{x : α}(h : x∈w) : ∃ A B, w=A++x::B := by
  obtain ⟨A, B, e⟩ := List.append_of_mem h
  exact ⟨A, B, e⟩
theorem fX {x y : α}{t : List α}(nd : (x::t).Nodup) : Nx (x::t) x y ↔ (t++[x]).head? = some y := by
  cases t with
  | nil =>
    show Adj [x, x] x y ↔ _
    rw [dN, iK]
    simp [eq_comm]
  | cons b r =>
    show Adj (x::b::(r++[x])) x y ↔ _
    rw [dN]
    constructor
    · rintro (⟨_, e⟩ | h)
      · simp [e]
      · exfalso
        have hx : x∉b::r := (ym.mp nd).1
        obtain ⟨s, t, e⟩ := eV h
        have e : (b::r)++[x]=s++x::y::t := e
        have h2 : (s++x::y::t)=(s++[x])++(y::t) := by simp
        rcases List.append_eq_append_iff.mp e with ⟨a', e1, e2⟩ | ⟨c', e1, e2⟩
        · have := xA List.length e2
          simp only [w4, xM, zx] at this
          omega
        · cases c' with
          | nil => simp at e2
          | cons c c' =>
            have : c=x := by
              have := (AS e2).1
              exact this.symm
            subst this
            exact hx (by rw [e1];simp)
    · intro h
      simp at h
      exact .inl ⟨rfl, h.symm⟩
theorem lH {A B : List α}(nd : (A++B).Nodup) : (B++A).Nodup := (List.perm_append_comm.nodup_iff).mp nd
theorem tf {w : List α}{x y z : α}(nd : w.Nodup)(h1 : Nx w x y)(h2 : Nx w x z) : y=z := by
  obtain ⟨A, B, rfl⟩ := lG (pM h1).1
  have h1 := (fA _ _ _ _).mp h1
  have h2 := (fA _ _ _ _).mp h2
  have nd : (x::(B++A)).Nodup := lH nd
  have h1 := (fX nd).mp h1
  have h2 := (fX nd).mp h2
  exact xb (h1.symm.trans h2)
theorem pN {w : List α}{x y : α}(h : Nx w x y) : Nx w.reverse y x := by
  cases w with
  | nil => exact h.elim
  | cons a t =>
    have h := qI (show Adj (a::t++[a]) x y from h)
    have e : (a::t++[a]).reverse=a::t.reverse++[a] := by simp
    rw [e] at h
    have e2 : (a::t).reverse=t.reverse++[a] := by simp
    rw [e2, fA]
    exact h
theorem nx_inj {w : List α}{x y z : α}(nd : w.Nodup)(h1 : Nx w y x)(h2 : Nx w z x) : y=z := tf ((List.reverse_perm w).nodup_iff.mpr nd) (pN h1) (pN h2)
end
end Wd
namespace Wd
section
variable {α : Type}
end
def Rh (u : List L) : L → L → Prop := fun x y => Nx u (inv x) y
end Wd
namespace Wd
end Wd
namespace Wd
def J (u v : List L) : Prop := ∀ x y, u.getLast? = some x → v.head? = some y → y≠inv x
end Wd
namespace L2
open PySem PySem.Spec PyProof.Rows Wd
end L2
namespace Wd
end Wd
namespace L2
open PySem PySem.Spec PyProof.Rows Wd
end L2
namespace Wd
end Wd
namespace Wd
section
variable {α : Type}
end
end Wd
namespace Wd
section
variable {α : Type}
def Pt (R : α → α → Prop)(a : α)(P : List α)(b : α) : Prop := ∀ c d, Adj (a::P++[b]) c d → R c d
end
end Wd
namespace Wd
theorem two_of {u : List L}(U : Srf u){x : L}(h1 : Rh u x x)(h2 : Rh u (inv x) (inv x)) : u.length≤2 := by
  unfold Rh at h1 h2
  rw [fU] at h2
  have hx := (pM h2).1
  obtain ⟨A, B, rfl⟩ := lG hx
  have h1 := (fA _ _ _ _).mp h1
  have h2 := (fA _ _ _ _).mp h2
  have nd : (x::(B++A)).Nodup := lH U.nd
  have h2 := (fX nd).mp h2
  cases e : B++A with
  | nil =>
    obtain ⟨rfl, rfl⟩ := List.append_eq_nil_iff.mp e
    simp
  | cons c t =>
    rw [e] at h2
    simp at h2
    have h1 : Nx (x::(B++A)) (inv x) x := h1
    rw [e, h2] at h1 nd
    have h1 := (fA [x] (inv x::t) _ _).mp h1
    have nd' : (inv x::(t++[x])).Nodup := lH (A := [x]) nd
    have h1 := (fX nd').mp h1
    cases t with
    | nil =>
      have := xA List.length e
      simp only [w4, xM, zx] at this ⊢
      omega
    | cons d t =>
      simp at h1
      subst h1
      simp at nd
end Wd
namespace Wd
end Wd
namespace PySem
open Sem (wp)
open AutoSeq1 (wpAny_loadPart')
set_option maxHeartbeats 1000000 in
theorem lI (tp : Addr)(its : Array Value)(m : Nat)(dc : Option Addr)(sls : Array (Option Value)) :
    Meets (Builtin.«enumerate.__new__» ⟨[.type "enumerate", .ref tp], []⟩) (fun _ R s => s.heap.get? tp=some { cls := .type "tuple", dict := dc, data := .seq its m, slots := sls } ∧
      R (.ok (.ret (.ref (s.heap.push { cls := .type "tuple_iterator", data := .fields #[.ref tp, .int 0 0] }).objs.size)))
        { s with heap := (s.heap.push { cls := .type "tuple_iterator", data := .fields #[.ref tp, .int 0 0] }).push { cls := .type "enumerate", data := .fields #[.none, .bool false, .ref s.heap.objs.size, rawInt 0, .none, .none] } }) :=
  .of_wp fun prog w A R s h => by
    obtain ⟨hp, gg, dd, tk, os⟩ := s;obtain ⟨ht, h⟩ := h
    have hsub := sub_enumerate
    have hT : Heap.IsTuple (Shared.heap ⟨hp, gg, dd, tk, os⟩) tp its := ⟨_, ht, rfl, m, rfl⟩
    wp_walk using wpAny_loadPart' ht
    refine wpAny_stack_any fun stk => w6 ?_
    split
    · rename_i cc _ _ _ _ _
      cases (cc == Value.type "enumerate")
      · (wp_walk using wpAny_loadPart' ht, y6 hT);exact ⟨_, rfl, h⟩
      · (wp_walk using wpAny_loadPart' ht, y6 hT);exact ⟨_, rfl, h⟩
    · (wp_walk using wpAny_loadPart' ht, y6 hT);exact ⟨_, rfl, h⟩
section
variable {prog : Program} {w : World} {A : Around} {E : Value → Shared → Prop} {s : Shared}
theorem n9 {tp : Addr}{its : Array Value}{Q : Value → Shared → Prop}(hT : s.heap.IsTuple tp its)
    (h : ∀ h', IsEnum h' (s.heap.objs.size+1) s.heap.objs.size 0 .none → h'.IsTupleIter s.heap.objs.size tp 0 → (∀ b o, s.heap.get? b=some o → h'.get? b=some o) → Q (.ref (s.heap.objs.size+1)) { s with heap := h' }) :
    wpAny (model prog w) A (call (.type "enumerate") [.ref tp]) Q E s := by
  obtain ⟨⟨c, dc, dt, sls⟩, ht, hc, m, hd⟩ := hT
  obtain rfl : c = .type "tuple" := hc
  obtain rfl : dt = .seq its m := hd
  refine callType_new F.called_enumerate (by decide) (F.typeCall_enumerate_1 _) (F.newCall_enumerate_1 _) (fun ob => F.args_object_init_2 ob _) F.entry_enumerate_new (lI tp its m dc sls) ⟨ht, ?_⟩
  have hz : (s.heap.push { cls := .type "tuple_iterator", data := .fields #[.ref tp, .int 0 0] }).objs.size=s.heap.objs.size+1 := Bb ..
  show _ ∧ _
  rw [hz]
  have he := xj (s.heap.push { cls := .type "tuple_iterator", data := .fields #[.ref tp, .int 0 0] }) (o := { cls := .type "enumerate", data := .fields #[.none, .bool false, .ref s.heap.objs.size, rawInt 0, .none, .none] }) rfl
  rw [hz] at he
  exact ⟨⟨_, he, rfl⟩, h _ he ⟨_, w5 _ (xj _ rfl), rfl, rfl⟩ fun b o q => w5 _ (w5 _ q)⟩
theorem j6 {it tp : Addr}{k : Nat}{its : Array Value}{v : Value}{Q : Value → Shared → Prop}(hit : s.heap.IsTupleIter it tp k)(ht : s.heap.IsTuple tp its)(hv : its[k]? = some v)
    (hQ : ∀ h', h'.IsTupleIter it tp (k+1) → Heap.SameBut it s.heap h' → Q v { s with heap := h' }) : wpAny (model prog w) A (Builtin.SmallTypes.nextOf (.ref it)) Q E s := by
  obtain ⟨oi, gi, ci, di⟩ := id hit
  obtain ⟨ot, gt, _, nt, dt⟩ := ht
  unfold Builtin.SmallTypes.nextOf
  refine wX (xJ (name := Str.ofString "__next__") hit.typeIs yC (xS yC hit.typeIs Ar ?_ (Af _)))
  show wpAny _ _ (field (.ref it) 0 >>= _) _ _ s
  refine wX (x_ gi di (x := .ref tp) rfl ?_)
  show wpAny _ _ (if (Value.ref tp == Value.none)=true then _ else _) _ _ s
  rw [if_neg (show ¬ ((Value.ref tp == Value.none)=true) from xu)]
  show wpAny _ _ (field (.ref it) 1 >>= _) _ _ s
  refine wX (x_ gi di (x := .int k 0) rfl ?_)
  show wpAny _ _ (seqItems? (.ref tp) >>= _) _ _ s
  refine wX (Bd gt dt ?_)
  simp only [xB, hv]
  refine wX (yW gi di (by simp) (w6 ⟨v, rfl, w6 (hQ _ ?_ (yR ..))⟩))
  exact ⟨_, yE _ gi (y_ (yf di _)), (AL ..).trans ci, by rw [yf di];simp [rawInt]⟩
theorem h_ {it tp : Addr}{k : Nat}{its : Array Value}{Q : Value → Shared → Prop}(hh : A.handled=none)(hit : s.heap.IsTupleIter it tp k)(ht : s.heap.IsTuple tp its)(hv : its[k]? = none)
    (hE : ∀ h' e, Heap.ExtBut it s.heap h' → (∃ o, h'.get? e=some o ∧ o.cls = .type "StopIteration") → E (.ref e) { s with heap := h' }) : wpAny (model prog w) A (Builtin.SmallTypes.nextOf (.ref it)) Q E s := by
  obtain ⟨oi, gi, ci, di⟩ := id hit
  obtain ⟨ot, gt, _, nt, dt⟩ := ht
  unfold Builtin.SmallTypes.nextOf
  refine wX (xJ (name := Str.ofString "__next__") hit.typeIs yC (xS yC hit.typeIs Ar ?_ (Af _)))
  show wpAny _ _ (field (.ref it) 0 >>= _) _ _ s
  refine wX (x_ gi di (x := .ref tp) rfl ?_)
  show wpAny _ _ (if (Value.ref tp == Value.none)=true then _ else _) _ _ s
  rw [if_neg (show ¬ ((Value.ref tp == Value.none)=true) from xu)]
  show wpAny _ _ (field (.ref it) 1 >>= _) _ _ s
  refine wX (x_ gi di (x := .int k 0) rfl ?_)
  show wpAny _ _ (seqItems? (.ref tp) >>= _) _ _ s
  refine wX (Bd gt dt ?_)
  simp only [xB, hv]
  refine wX (Bi (wX (yW gi di (by simp) ?_)))
  show wpAny _ _ (newExc (.type "StopIteration") [] >>= _) _ _ _
  refine wX ?_
  simp only [newExc, newTuple]
  refine wX (xO ?_ (by size_fits))
  refine wX (m := firstArgMember _ _) (zP (a := Value.none) (by first | rfl | (simp only [firstArgMember];rfl)) (xO ?_ (by size_fits)))
  simp only [raiseNew]
  refine wX (wpAny_handled ?_)
  first | rw [show A.in1.handled=none from hh] | rw [hh]
  exact wX (w6 (wpAny_throw (hE _ _ (((yR ..).extBut.push _).push _) ⟨_, xj _ rfl, rfl⟩)))
theorem tj {prog : Program}{w : World}{A : Around}(hh : A.handled=none)(it tp : Addr)(hne : tp≠it)(its : Array Value) :
    Draws prog w A it [it, tp] its.size (fun i x => its[i]? = some x) (fun i h => h.IsTupleIter it tp i ∧ h.IsTuple tp its) where
  live := fun i h st => let ⟨⟨o, e, _⟩, _⟩ := st;⟨o, e⟩
  frame := fun i h h' st kk => ⟨st.1.at fun o e => kk it (by simp) o e, let ⟨o, e, r⟩ := st.2;⟨o, kk tp (by simp) o e, r⟩⟩
  item := fun i s Q E hi st hQ => j6 st.1 st.2 (yk hi) fun h' st' sb => hQ _ h' s.toks (yk hi) ⟨st', let ⟨o, e, r⟩ := st.2;⟨o, (sb.2 tp hne).trans e, r⟩⟩ sb
  done := fun s Q E st hE => h_ hh st.1 st.2 (A4 (wZ _)) hE
end
end PySem
namespace L2
open PySem PySem.Spec PyProof.Rows Wd
def rQ (K : PySem.W.Frag)(a : Addr) : It := ⟨fun i H => ∃ xs x, SqL K H a xs ∧ xs[i]? = some x,
  fun i H v H' => ∃ (T : Addr) (x : V), H T=none ∧ v = .ref T ∧ (∀ xs, SqL K H a xs → xs[i]? = some x) ∧ H'=upd H T (.tup [.int i, x]), fun i H => ∃ xs, SqL K H a xs ∧ xs.length≤i⟩
def qJ (K : PySem.W.Frag)(a : Addr) : It := ⟨fun i H => ∃ xs x, SqT K H a xs ∧ xs[i]? = some x,
  fun i H v H' => ∃ (T : Addr) (x : V), H T=none ∧ v = .ref T ∧ (∀ xs, SqT K H a xs → xs[i]? = some x) ∧ H'=upd H T (.tup [.int i, x]), fun i H => ∃ xs, SqT K H a xs ∧ xs.length≤i⟩
theorem ia {X : Cx}{pins : List (Addr × Obj)}{σ : St}{H : Hp}{s : Shared}{E : Value → Shared → Prop}{elts : List Expr}{k : Nat}{pos : Pos}{e it : Addr}{fp : List Addr}{n i : Nat}{Pv : Nat → Value → Prop}{St' : Nat → Heap → Prop}{old : Value}{tn : Nat → Heap → Prop}{Y : V → Hp → Prop}{x : V}
    (D : Draws X.prog X.w X.A.in1 it fp n Pv St') (I : Inv X pins σ H s) (hf : ∀ b∈[e, it], jg X pins H b) (he : IsEnum s.heap e it i old) (hst : St' i s.heap) (hi : i < n) (hne : e≠it) (hef : e∉fp) (hrel : ∀ u, Pv i u → bz x u) (hit : ∃ o, s.heap.get? it=some o)
    (hY : ∀ T, H T=none → Y (.ref T) (upd H T (.tup [.int i, x]))) (htn : ∀ h', St' (i+1) h' → (∃ old, IsEnum h' e it ((i : Int)+1) old) → tn (i+1) h') :
    wpAny (model X.prog X.w) X.A (pyNext (.ref e)) (fun r s1 => ∃ u, r=some u ∧
      wpAny (model X.prog X.w) X.A (letOwnedTupleGo (.Tuple elts k pos) (.ref e) u) (fun _ s2 => ∃ y H', Inv X pins σ H' s2 ∧ bz y u ∧ Y y H' ∧ tn (i+1) s2.heap ∧ ∀ b∈[e, it], H' b=none) E s1) E s := by
  refine wpAny_pyNext_enum_itemD D he hst hi hne hef fun u h' tk hu b1 b2 b3 b4 b5 => ⟨_, rfl, wpAny_letOwnedTupleGo_enum b1 fun h2 c1 e2 => ?_⟩
  have hTe : s.heap.objs.size≠e := Nat.ne_of_gt (xm he)
  have kk : ∀ b o, b∉[e, it] → s.heap.get? b=some o → h2.get? b=some o := fun b o hb q => by
    simp only [xr, xE, yF, not_or] at hb
    exact e2.extBut _ _ hb.1 (b5 b o hb.1 hb.2 q)
  have there : ∀ b∈[e, it], ∃ o, s.heap.get? b=some o := fun b hb => by
    simp only [xr, xE, yF] at hb
    rcases hb with rfl | rfl
    · exact ⟨_, he⟩
    · exact hit
  have I2 : Inv X pins σ (upd H s.heap.objs.size (.tup [.int i, x])) { s with heap := h2, toks := tk+1 } :=
    I.stepT (ch := [e, it]) (its := [.int i tk, u]) hf kk (wZ _) (by show 2≤sizeLine;decide) (.cons ⟨_, rfl⟩ (.cons (hrel u hu) .nil)) ⟨_, e2.extBut _ _ hTe b3, rfl, _, rfl⟩ ⟨_, e2.extBut _ _ hTe b3, rfl⟩ there
  have hn : H s.heap.objs.size=none := I.hok.fresh (wZ _)
  refine ⟨.ref s.heap.objs.size, _, I2, rfl, hY _ hn, htn h2 (D.frame _ _ _ b2 fun b hb o q => e2.extBut _ _ (fun z => hef (z ▸ hb)) q) ⟨_, c1⟩, fun b hb => ?_⟩
  obtain ⟨o, q⟩ := there b hb
  rw [ay (xN (xm q))]
  exact (hf b hb).1
theorem n_ {P : Program}{w : World}{K : PySem.W.Frag}{elts : List Expr}{k : Nat}{pos : Pos}{e it a : Addr}(hne : e≠it) :
    pe P w K (.Tuple elts k pos) (rQ K a) [e, it] e (fun i h => (∃ old, IsEnum h e it i old) ∧ h.IsListIter it a i) where
  mem := by simp
  obj := fun i h st b hb => by
    obtain ⟨⟨old, s1⟩, ⟨o, s2, _, d2⟩⟩ := st
    simp only [xr, xE, yF] at hb
    rcases hb with rfl | rfl
    · exact ⟨_, s1, fun v q => by cases q⟩
    · exact ⟨_, s2, fun v q => by rw [d2] at q;cases q⟩
  keep := fun i h h' st kk => by
    obtain ⟨⟨old, s1⟩, s2⟩ := st
    exact ⟨⟨old, kk e (by simp) _ s1⟩, s2.at fun o q => kk it (by simp) o q⟩
  item := by
    intro X hP hw hK hc i pins s σ H E I hf st hg
    subst hP hw hK
    obtain ⟨xs, x, hq, hx⟩ := hg
    obtain ⟨its, rv, p, hz⟩ := I.list hq
    obtain ⟨u, hu, ru⟩ := rv.get hx
    obtain ⟨⟨old, s1⟩, s2⟩ := st
    have hu' : its.toArray[i]? = some u := by simpa using hu
    have ha : a≠e := fun z => by obtain ⟨o, q, c, _⟩ := p.isList;rw [z, s1] at q;cases q;simp at c
    have hb : a≠it := fun z => by obtain ⟨o, q, c, _⟩ := p.isList;obtain ⟨o2, q2, c2, _⟩ := s2;rw [z, q2] at q;cases q;rw [c2] at c;simp at c
    refine ia (tn := fun i h => (∃ old, IsEnum h e it i old) ∧ h.IsListIter it a i) (Draws.list (by exact I.ok.hd hc) it a hb its.toArray) I hf s1 ⟨s2, p.isList⟩ (yB.mp hu').1 hne (by simp only [xr, xE, yF, not_or];exact ⟨hne, fun z => ha z.symm⟩)
      (fun u2 h2 => by rw [show its.toArray[i]? = some u2 from h2] at hu';cases hu';exact ru) (let ⟨o, q, _⟩ := s2;⟨o, q⟩) (fun T hT => ⟨T, x, hT, rfl, fun ys hy => by rw [I.list_inj hy hq];exact hx, rfl⟩) fun h' st' ho => ⟨by simpa using ho, st'.1⟩
  done := by
    intro X hP hw hK hc i pins s σ H E I hf st hg
    subst hP hw hK
    obtain ⟨xs, hq, hx⟩ := hg
    obtain ⟨its, rv, p, hz⟩ := I.list hq
    obtain ⟨⟨old, s1⟩, s2⟩ := st
    obtain ⟨f0, f1, f2, f3, f4, f5⟩ := hf it (by simp)
    have hl := rv.length
    exact wpAny_pyNext_enum_end (I.ok.hd hc) s1 s2 p.isList (by simp;omega) fun h' eb => ⟨rfl, I.turned (t' := s.toks) (fun b o hb q => eb b o hb q) f0 f1 f3 f4 f5⟩
  self := fun _ _ _ _ _ st h => let ⟨⟨_, s1⟩, _⟩ := st;zQ s1 h
theorem oa {P : Program}{w : World}{K : PySem.W.Frag}{elts : List Expr}{k : Nat}{pos : Pos}{e it a : Addr}(hne : e≠it) :
    pe P w K (.Tuple elts k pos) (qJ K a) [e, it] e (fun i h => (∃ old, IsEnum h e it i old) ∧ h.IsTupleIter it a i) where
  mem := by simp
  obj := fun i h st b hb => by
    obtain ⟨⟨old, s1⟩, ⟨o, s2, _, d2⟩⟩ := st
    simp only [xr, xE, yF] at hb
    rcases hb with rfl | rfl
    · exact ⟨_, s1, fun v q => by cases q⟩
    · exact ⟨_, s2, fun v q => by rw [d2] at q;cases q⟩
  keep := fun i h h' st kk => by
    obtain ⟨⟨old, s1⟩, s2⟩ := st
    exact ⟨⟨old, kk e (by simp) _ s1⟩, s2.at fun o q => kk it (by simp) o q⟩
  item := by
    intro X hP hw hK hc i pins s σ H E I hf st hg
    subst hP hw hK
    obtain ⟨xs, x, hq, hx⟩ := hg
    obtain ⟨its, rv, p, hz⟩ := I.tuple hq
    obtain ⟨u, hu, ru⟩ := rv.get hx
    obtain ⟨⟨old, s1⟩, s2⟩ := st
    have hu' : its.toArray[i]? = some u := by simpa using hu
    have ha : a≠e := fun z => by obtain ⟨o, q, c, _⟩ := p;rw [z, s1] at q;cases q;simp at c
    have hb : a≠it := fun z => by obtain ⟨o, q, c, _⟩ := p;obtain ⟨o2, q2, c2, _⟩ := s2;rw [z, q2] at q;cases q;rw [c2] at c;simp at c
    refine ia (tn := fun i h => (∃ old, IsEnum h e it i old) ∧ h.IsTupleIter it a i) (tj (by exact I.ok.hd hc) it a hb its.toArray) I hf s1 ⟨s2, p⟩ (yB.mp hu').1 hne (by simp only [xr, xE, yF, not_or];exact ⟨hne, fun z => ha z.symm⟩)
      (fun u2 h2 => by rw [show its.toArray[i]? = some u2 from h2] at hu';cases hu';exact ru) (let ⟨o, q, _⟩ := s2;⟨o, q⟩) (fun T hT => ⟨T, x, hT, rfl, fun ys hy => by rw [I.tuple_inj hy hq];exact hx, rfl⟩) fun h' st' ho => ⟨by simpa using ho, st'.1⟩
  done := by
    intro X hP hw hK hc i pins s σ H E I hf st hg
    subst hP hw hK
    obtain ⟨xs, hq, hx⟩ := hg
    obtain ⟨its, rv, p, hz⟩ := I.tuple hq
    obtain ⟨⟨old, s1⟩, s2⟩ := st
    obtain ⟨f0, f1, f2, f3, f4, f5⟩ := hf it (by simp)
    have hl := rv.length
    have hb : a≠it := fun z => by obtain ⟨o, q, c, _⟩ := p;obtain ⟨o2, q2, c2, _⟩ := s2;rw [z, q2] at q;cases q;rw [c2] at c;simp at c
    have T : wpAny (model X.prog X.w) X.A (pyNext (.ref e)) (fun r s1 => r=none ∧ Inv X pins σ H s1) E s := by
      have hT : s.TypeIs (.ref e) "enumerate" := ⟨_, s1, rfl⟩
      unfold pyNext
      refine wX (zC (xJ (name := Str.ofString "__next__") hT F.slot_enumerate_next (xS F.slot_enumerate_next hT F.entry_enumerate_next ?_ (F.args_enumerate_next_1 _))))
      show wpAny _ _ (field (.ref e) 2 >>= _) _ _ _
      refine wX (x_ s1 rfl (x := .ref it) rfl (wX (h_ (by exact I.ok.hd hc) s2 p (by simp;omega) fun h' ex eb hx' => ?_)))
      obtain ⟨o, ho, hcl⟩ := hx'
      exact wX (Ab (T := "StopIteration") (b := true) ⟨o, ho, hcl⟩ Bc (w6 ⟨rfl, I.turned (t' := s.toks) (fun b o hb q => eb b o hb q) f0 f1 f3 f4 f5⟩))
    exact T
  self := fun _ _ _ _ _ st h => let ⟨⟨_, s1⟩, _⟩ := st;zQ s1 h
section
variable {X : Cx}
def wK (K : PySem.W.Frag)(ta : TA) : TI := fun σ H R => ta σ H fun vs H1 => ∃ a, vs=[.ref a] ∧ (∃ xs, SqL K H1 a xs) ∧ R (rQ K a) H1
def wL (K : PySem.W.Frag)(ta : TA) : TI := fun σ H R => ta σ H fun vs H1 => ∃ a, vs=[.ref a] ∧ (∃ xs, SqT K H1 a xs) ∧ R (qJ K a) H1
theorem fp2 {pins : List (Addr × Obj)}{σ : St}{H : Hp}{s : Shared}(I : Inv X pins σ H s) : ∀ b∈[s.heap.objs.size+1, s.heap.objs.size], jg X pins H b := fun b hb => by
  have hge : s.heap.objs.size≤b := by
    simp only [xr, xE, yF] at hb
    rcases hb with rfl | rfl <;> omega
  exact I.fpOk hge (I.hok.fresh hge)
theorem tm {K : PySem.W.Frag}(hK : X.K=K){a : Expr}{ta : TA}{p pos tp : Pos}{elts : List Expr}{k : Nat}(hg : Gl X "enumerate")(hm : X.mg "enumerate" = none)(hb : bootBuiltins "enumerate" = some (.type "enumerate"))(ha : PA X [a] ta)(hs : starEach [a] X.env=[(false, eval a X.env)] := by rfl) :
    PI X (.Tuple elts k tp) (.Call (.Name "enumerate" p) [a] [] pos) (wK K ta) := by
  subst hK
  intro pins s σ H R I h
  refine Call_ (dS I hg hm hb (x4 (thn (ha pos pins s σ H _ I h) fun us s1 zq1 => ?_) hs rfl))
  obtain ⟨vs, H1, I1, r1, q1⟩ := zq1
  obtain ⟨l, rfl, ⟨xs, hq⟩, q⟩ := q1
  obtain ⟨u1, rfl, ru⟩ := cw r1
  cases ru
  obtain ⟨its, rv, pl, hz⟩ := I1.list hq
  refine call_enumerate_list pl.isList fun h' b1 b2 b3 b4 => ?_
  have I2 : Inv X pins σ H1 { s1 with heap := h', toks := s1.toks } := I1.kept b4
  exact zQ (s := { s1 with heap := h', toks := s1.toks }) b1 ⟨s1.heap.objs.size+1, [s1.heap.objs.size+1, s1.heap.objs.size], _, rQ X.K l, H1, rfl, I2, n_ (Nat.succ_ne_self _), ⟨⟨_, b1⟩, b2⟩, fp2 I1, q⟩
theorem pO {K : PySem.W.Frag}(hK : X.K=K){a : Expr}{ta : TA}{p pos tp : Pos}{elts : List Expr}{k : Nat}(hg : Gl X "enumerate")(hm : X.mg "enumerate" = none)(hb : bootBuiltins "enumerate" = some (.type "enumerate"))(ha : PA X [a] ta)(hs : starEach [a] X.env=[(false, eval a X.env)] := by rfl) :
    PI X (.Tuple elts k tp) (.Call (.Name "enumerate" p) [a] [] pos) (wL K ta) := by
  subst hK
  intro pins s σ H R I h
  refine Call_ (dS I hg hm hb (x4 (thn (ha pos pins s σ H _ I h) fun us s1 zq2 => ?_) hs rfl))
  obtain ⟨vs, H1, I1, r1, q1⟩ := zq2
  obtain ⟨l, rfl, ⟨xs, hq⟩, q⟩ := q1
  obtain ⟨u1, rfl, ru⟩ := cw r1
  cases ru
  obtain ⟨its, rv, pl, hz⟩ := I1.tuple hq
  refine n9 pl fun h' b1 b2 b4 => ?_
  have I2 : Inv X pins σ H1 { s1 with heap := h', toks := s1.toks } := I1.kept b4
  exact zQ (s := { s1 with heap := h', toks := s1.toks }) b1 ⟨s1.heap.objs.size+1, [s1.heap.objs.size+1, s1.heap.objs.size], _, qJ X.K l, H1, rfl, I2, oa (Nat.succ_ne_self _), ⟨⟨_, b1⟩, b2⟩, fp2 I1, q⟩
end
theorem qK {K : PySem.W.Frag}{a : Addr}{xs : List V}{g : TG}{tb : TS}{D : fm}{σ : St}{H : Hp}(Pv : Nat → St → Hp → Prop)(h0 : Pv 0 σ H)(hl : ∀ i σ H, i≤xs.length → Pv i σ H → SqL K H a xs)
    (hs : ∀ i x σ H T, xs[i]? = some x → Pv i σ H → H T=none → g (.ref T) σ (upd H T (.tup [.int i, x])) fun σ2 H2 => tb { D with nx := Pv (i+1), ct := Pv (i+1), bk := D.nx } σ2 H2) (hd : ∀ σ H, Pv xs.length σ H → D.nx σ H) :
    ∃ W : Nat → Nat → St → Hp → Prop, (∃ m, W 0 m σ H) ∧ ∀ i m σ H, W i m σ H →
      ((rQ K a).stop i H ∧ D.nx σ H) ∨ ((rQ K a).go i H ∧ ∃ N : St → Hp → Prop, (∀ σ' H', N σ' H' → ∃ m', m' < m ∧ W (i+1) m' σ' H') ∧ ∀ x H', (rQ K a).yld i H x H' → g x σ H' fun σ2 H2 => tb { D with nx := N, ct := N, bk := D.nx } σ2 H2) := by
  refine ⟨fun i m σ H => m=xs.length - i ∧ i≤xs.length ∧ Pv i σ H, ⟨xs.length, by simp, xV _, h0⟩, ?_⟩
  rintro i m σ H ⟨rfl, hi, p⟩
  have q := hl i σ H hi p
  by_cases hlt : i < xs.length
  · refine .inr ⟨⟨xs, xs[i], q, by simp [hlt]⟩, Pv (i+1), fun σ' H' p' => ⟨xs.length - (i+1), by omega, rfl, hlt, p'⟩, ?_⟩
    rintro v H' ⟨T, x, hT, rfl, hx, rfl⟩
    exact hs i x σ _ T (hx xs q) p hT
  · obtain rfl : i=xs.length := by omega
    exact .inl ⟨⟨xs, q, wZ _⟩, hd σ H p⟩
theorem qL {K : PySem.W.Frag}{a : Addr}{xs : List V}{g : TG}{tb : TS}{D : fm}{σ : St}{H : Hp}(Pv : Nat → St → Hp → Prop)(h0 : Pv 0 σ H)(hl : ∀ i σ H, i≤xs.length → Pv i σ H → SqT K H a xs)
    (hs : ∀ i x σ H T, xs[i]? = some x → Pv i σ H → H T=none → g (.ref T) σ (upd H T (.tup [.int i, x])) fun σ2 H2 => tb { D with nx := Pv (i+1), ct := Pv (i+1), bk := D.nx } σ2 H2) (hd : ∀ σ H, Pv xs.length σ H → D.nx σ H) :
    ∃ W : Nat → Nat → St → Hp → Prop, (∃ m, W 0 m σ H) ∧ ∀ i m σ H, W i m σ H →
      ((qJ K a).stop i H ∧ D.nx σ H) ∨ ((qJ K a).go i H ∧ ∃ N : St → Hp → Prop, (∀ σ' H', N σ' H' → ∃ m', m' < m ∧ W (i+1) m' σ' H') ∧ ∀ x H', (qJ K a).yld i H x H' → g x σ H' fun σ2 H2 => tb { D with nx := N, ct := N, bk := D.nx } σ2 H2) := by
  refine ⟨fun i m σ H => m=xs.length - i ∧ i≤xs.length ∧ Pv i σ H, ⟨xs.length, by simp, xV _, h0⟩, ?_⟩
  rintro i m σ H ⟨rfl, hi, p⟩
  have q := hl i σ H hi p
  by_cases hlt : i < xs.length
  · refine .inr ⟨⟨xs, xs[i], q, by simp [hlt]⟩, Pv (i+1), fun σ' H' p' => ⟨xs.length - (i+1), by omega, rfl, hlt, p'⟩, ?_⟩
    rintro v H' ⟨T, x, hT, rfl, hx, rfl⟩
    exact hs i x σ _ T (hx xs q) p hT
  · obtain rfl : i=xs.length := by omega
    exact .inl ⟨⟨xs, q, wZ _⟩, hd σ H p⟩
end L2
namespace PySem
open Sem (wp)
section
variable {prog : Program} {w : World} {A : Around} {E : Value → Shared → Prop} {s : Shared} {z TI TO i1 i2 : Addr} {k n1 n2 : Nat} {a b : Value} {fp1 fp2 : List Addr} {P1 P2 : Nat → Value → Prop} {S1 S2 : Nat → Heap → Prop}
end
end PySem
namespace PySem
end PySem
namespace L2
open PySem PySem.Spec PyProof.Rows Wd
section
variable {X : Cx}
end
end L2
namespace PySem
end PySem
namespace L2
open PySem PySem.Spec PyProof.Rows Wd
section
variable {X : Cx}
end
end L2
namespace L2
open PySem PySem.Spec PyProof.Rows Wd
section
variable {X : Cx}
end
end L2
namespace Wd
def img (ws : List (List L))(x : L) : List L := if x.val < 6 then ws.getD x.val [] else bk (ws.getD (x.val - 6) [])
def sub (ws : List (List L))(u : List L) : List L := u.flatMap (img ws)
theorem lJ (x : L) : (inv x).val=if x.val < 6 then x.val+6 else x.val - 6 := by unfold inv; split <;> rfl
def fB (n : Nat) : List (List L) := (([0, 1, 2, 3, 4, 5] : List L).take n).map fun x => [x]
def InM (n : Nat)(u : List L) : Prop := ∀ x∈u, x.val % 6 < n
theorem InM.bk {n : Nat}{u : List L}(h : InM n u) : InM n (bk u) := by
  intro x hx
  unfold Wd.bk at hx
  rw [yT, xC] at hx
  obtain ⟨y, hy, rfl⟩ := hx
  have h1 := h y hy
  have := y.isLt
  rw [lJ]
  split <;> omega
structure v_ (n b : Nat) (ws : List (List L)) : Prop where
  len : ws.length=n
  rd : ∀ w∈ws, red w=w
  ins : ∀ w∈ws, InM n w
  le : ∀ w∈ws, w.length≤b
theorem ib {n : Nat}(h : n≤6) : v_ n 1 (fB n) := by
  have q : ∀ w∈fB n, ∃ x : L, w=[x] ∧ x.val < n := by
    intro w hw
    have : ∀ (n : Fin 7), ∀ w∈fB n.val, ∃ x : L, w=[x] ∧ x.val < n.val := by decide
    exact this ⟨n, by omega⟩ w hw
  refine ⟨by unfold fB;rw [fu, xo];simp;omega, ?_, ?_, ?_⟩
  all_goals
    intro w hw
    obtain ⟨x, rfl, hx⟩ := q w hw
  · rfl
  · intro y hy
    rw [xf] at hy
    subst hy
    omega
  · exact wZ _
end Wd
namespace PySem
section
variable {prog : Program} {w : World} {A : Around} {E : Value → Shared → Prop}
end
end PySem
namespace L2
open PySem PySem.Spec PyProof.Rows Wd
section
variable {X : Cx} {pos : Pos}
end
end L2
namespace L2
open PySem PySem.Spec PyProof.Rows Wd
section
variable {X : Cx}
theorem qM {K : PySem.W.Frag}(hK : X.K=K) : IxR X (uQ K) := by subst hK; exact aY
inductive jA (x : V)(vs : List V)(H : Hp)(Q : VK) : Prop
  | mk : ∀ z, (x = .str z) → (vs=[]) → (Q (.bl (Txt.islower z)) H) → jA x vs H Q
theorem j7 : MtR X "str.islower" jA := by
  intro pins s σ H x vs v us Q I rx rv h
  obtain ⟨z, rfl, rfl, q⟩ := h
  obtain ⟨t, rfl⟩ := rx
  cases rv
  exact SC.islower ⟨.bl _, H, I, rfl, q⟩
end
theorem lK : ∀ x : L, Txt.islower (toS [x])=decide (x.val < 6) := by decide +kernel
theorem tq : ∀ i : _root_.Fin 6, ("abcdef" : Str).cps[i.val]? = some (cp ⟨i.val, by omega⟩) := by decide +kernel
theorem sm_at {i c : Nat}(h : ("abcdef" : Str).cps[i]? = some c) : ∃ x : L, x.val=i ∧ i < 6 ∧ c=cp x := by
  have hl : i < 6 := by
    obtain ⟨h1, _⟩ := yB.mp h
    have : ("abcdef" : Str).cps.size=6 := by decide +kernel
    omega
  have := tq ⟨i, hl⟩
  rw [this] at h
  exact ⟨⟨i, by omega⟩, rfl, hl, (xb h).symm⟩
theorem lL : ∀ ws : List (List L), Txt.join ("" : Str) (ws.map toS)=toS ws.flatten := by
  intro ws
  have e0 : ("" : Str)=Str.empty := by decide +kernel
  unfold Txt.join
  rw [StrLaws.glued_eq_join, e0]
  induction ws with
  | nil => rfl
  | cons x r ih =>
    cases r with
    | nil =>
      show toS x=_
      simp
    | cons y r =>
      show toS x++Str.empty++Str.join Str.empty ((y::r).map toS)=_
      rw [ih, Str.append_empty, dI]
      rfl
end L2
namespace Kx
open PySem PySem.Spec PyProof.Rows L2 Wd
end Kx
namespace Wd
def ux (n : Nat)(e o : L) : List (List L) := (fB n).set (e.val % 6) (if e.val < 6 then [o, e] else bk [o, e])
theorem qN {n : Nat}(h : n≤6)(e o : L) : (ux n e o).length=n := by unfold ux; rw [ye, (ib h).len]
theorem put_map {n : Nat}(h : n≤6){e o : L}(he : e.val % 6 < n)(ho : o.val % 6 < n)(hn : o.val % 6≠e.val % 6) : v_ n 2 (ux n e o) := by
  have P := ib h
  have hi : e≠inv o := fun z => hn (by rw [z, lJ];split <;> omega)
  have r1 : red [o, e]=[o, e] := by
    show (act [e] [o]).reverse=_
    show (push [o] e).reverse=_
    show (if o=inv e then [] else [e, o]).reverse=_
    rw [if_neg (fun z => hi (by rw [z, fU]))]
    rfl
  have r2 : red (bk [o, e])=bk [o, e] := by
    show (push [inv e] (inv o)).reverse=[inv e, inv o]
    show (if inv e=inv (inv o) then [] else [inv o, inv e]).reverse=_
    rw [if_neg (fun z => hi (by rw [fU] at z;rw [← z, fU]))]
    rfl
  have i1 : InM n [o, e] := fun y hy => by
    simp only [xr, xE, yF] at hy
    rcases hy with rfl | rfl
    · exact ho
    · exact he
  have all : ∀ w∈ux n e o, w∈fB n ∨ w=[o, e] ∨ w=bk [o, e] := by
    intro w hw
    rcases AE hw with hw | hw
    · exact .inl hw
    · rw [hw]
      split
      · exact .inr (.inl rfl)
      · exact .inr (.inr rfl)
  refine ⟨qN h e o, fun w hw => ?_, fun w hw => ?_, fun w hw => ?_⟩
  all_goals rcases all w hw with hw | rfl | rfl
  · exact P.rd w hw
  · exact r1
  · exact r2
  · exact P.ins w hw
  · exact i1
  · exact i1.bk
  · have := P.le w hw;omega
  · exact wZ _
  · exact wZ _
end Wd
namespace L2
open PySem PySem.Spec PyProof.Rows Wd
section
variable {X : Cx}
end
end L2
namespace Kx
open PySem PySem.Spec PyProof.Rows L2 Wd
end Kx
namespace L2
open PySem PySem.Spec PyProof.Rows Wd
section
variable {X : Cx}
end
end L2
namespace L2
open PySem PySem.Spec PyProof.Rows
section
variable {X : Cx}
end
end L2
namespace L2
open PySem PySem.Spec PyProof.Rows
section
variable {prog : Program} {w : World} {A : Around} {E : Value → Shared → Prop} {s : Shared}
end
section
variable {X : Cx}
inductive pP (K : PySem.W.Frag)(x : V)(vs : List V)(H : Hp)(Q : VK) : Prop
  | mk : ∀ z p ys, (x = .str z) → (vs=[.ref p]) → (SqT K H p (ys.map V.str)) → ((ys.map (·.length)).sum+ys.length*z.length≤16777216) → (Q (.str (Txt.join z ys)) H) → pP K x vs H Q
theorem og : MtR X "str.join" (pP X.K) := by
  intro pins s σ H x vs v us Q I rx rv h
  obtain ⟨z, p, ys, rfl, rfl, hq, hz, q⟩ := h
  obtain ⟨t, rfl⟩ := rx
  obtain ⟨u, rfl, ru⟩ := cw rv
  cases ru
  obtain ⟨its, r, ht, _⟩ := I.tuple hq
  exact join_tuple ht (by simpa using dH r) hz fun t' k => ⟨.str _, H, I.tok _, ⟨_, rfl⟩, q⟩
def wM (ta tb : TE) : TE := fun σ H Q => ta σ H fun x H1 => ∃ z, x = .str z ∧ z.length≤sizeLine ∧ (if ((z.length : Int) != 0)=true then Q (.str z) H1 else tb σ H1 Q)
theorem tu {a b : Expr}{rest : List Expr}{ta tb : TE}{pos : Pos}(ha : PE X a ta)(hb : PE X (.BoolOp .Or (b::rest) pos) tb) : PE X (.BoolOp .Or (a::b::rest) pos) (wM ta tb) := by
  intro pins s σ H Q I h
  refine BoolOp_or (thn (ha pins s σ H _ I h) fun v s1 zq1 => ?_)
  obtain ⟨x, H1, I1, r1, z, ez, hz, q1⟩ := zq1
  subst ez
  refine thn (kE pins s1 σ H1 (.str z) v (fun c H' => if c=true then Q (.str z) H' else tb σ H' Q) I1 r1 ⟨_, ⟨hz, rfl⟩, q1⟩) fun c s2 zq2 => ?_
  obtain ⟨H2, I2, q2⟩ := zq2
  cases c with
  | false => exact hb pins s2 σ H2 Q I2 (by simpa using q2)
  | true => exact ⟨.str z, H2, I2, r1, by simpa using q2⟩
end
end L2
namespace L2
open PySem PySem.Spec PyProof.Rows Wd
section
variable {X : Cx}
end
end L2
namespace Kx
open PySem PySem.Spec PyProof.Rows L2 Wd
end Kx
namespace L2
open PySem PySem.Spec PyProof.Rows Wd
section
variable {X : Cx} {tg : Expr}
end
end L2
namespace Kx
open PySem PySem.Spec PyProof.Rows L2 Wd
def dV : V → PyData
  | .int i => .int i
  | .str z => .str z
  | _ => .none
end Kx
namespace Wd
structure SK (u : List L) (k : Nat) : Prop where
  pm : u.Perm (fam k)
  lo : 1≤k
  hi : k≤6
theorem qO {k : Nat}(h : k≤6) : (fam k).length=2*k := (hX ⟨k, by omega⟩).2.2
theorem SK.len {u : List L}{k : Nat}(h : SK u k) : u.length=2*k := by rw [h.pm.length_eq, qO h.hi]
theorem qP : ∀ (k : Fin 7) (x : L), x∈fam k.val ↔ x.val % 6 < k.val := by decide
theorem SK.mem {u : List L}{k : Nat}(h : SK u k)(x : L) : x∈u ↔ x.val % 6 < k := by
  rw [h.pm.mem_iff]
  exact qP ⟨k, by have := h.hi;omega⟩ x
theorem lM : ∀ x : L, (inv x).val % 6=x.val % 6 := by decide
theorem lN {u : List L}{x : L}(h : x∈u) : u[u.idxOf x]? = some x := by
  have hlt := xQ h
  rw [wY hlt]
  exact xA some (y7 hlt)
theorem idx_inj {u : List L}{x y : L}(hx : x∈u)(hy : y∈u)(h : u.idxOf x=u.idxOf y) : x=y := by
  have h1 := lN hx
  have h2 := lN hy
  rw [h, h2] at h1
  exact (xb h1).symm
def lt6 (j : Nat) : L := if h : j < 12 then ⟨j, h⟩ else 0
end Wd
namespace L2
open PySem PySem.Spec PyProof.Rows
section
variable {X : Cx}
end
end L2
namespace Kx
open PySem PySem.Spec PyProof.Rows L2 Wd
def wW (k : Nat) : List L := (List.range k).map lt6++bk ((List.range k).map lt6)
end Kx
namespace L2
open PySem PySem.Spec PyProof.Rows
section
variable {prog : Program} {w : World} {A : Around} {E : Value → Shared → Prop} {s : Shared}
theorem oh {t b : Addr}{ws : List Value}{Q : Value → Shared → Prop}(ht : IsTup s.heap t ([] : List Value).toArray)(hb : IsTup s.heap b ws.toArray)(h1 : Q (.ref b) s) : wpAny (model prog w) A (binaryOp .Add (.ref t) (.ref b)) Q E s := by
  obtain ⟨⟨c1, d1, o1, l1⟩, e1, g1, n, k1⟩ := id ht
  obtain ⟨⟨c2, d2, o2, l2⟩, e2, g2, n2, k2⟩ := id hb
  simp only at g1 k1 g2 k2
  subst g1 k1 g2 k2
  exact concat_meets ⟨_, e1, rfl⟩ ⟨_, e2, rfl⟩ AZ seq_tuple_add zG zu (zp _ _) (tuple_addW0 t b _ ws.toArray n n2 d1 d2 l1 l2 rfl) ⟨e1, e2, h1⟩
end
section
variable {X : Cx}
end
end L2
namespace HT
open PySem PySem.Spec PyProof.Rows
section
variable {prog : Program} {w : World} {A : Around} {E : Value → Shared → Prop} {s : Shared}
theorem lO {t sl : Addr}{its : Array Value}{vl vu : Value}{lo hi : Option Int}{Q : Value → Shared → Prop}(ht : IsTup s.heap t its)(hs : s.heap.IsSliceOf sl vl vu .none)(pl : IsPart vl lo)(pu : IsPart vu hi)
    (hw : sIx its.size 0 lo=0 ∧ sIx its.size its.size hi=its.size) (h : Q (.ref t) s) : wpAny (model prog w) A (getItem (.ref t) (.ref sl)) Q E s := by
  obtain ⟨os, hos, hcs, hds⟩ := id hs
  have hTs : s.TypeIs (.ref sl) "slice" := ⟨os, hos, hcs⟩
  unfold getItem
  try with_reducible refine yQ ?_
  first | refine wX (w6 ?_) | skip
  refine wX (AG ht.typeIs (by decide) ?_)
  refine wX (xJ (name := Str.ofString "__getitem__") ht.typeIs xT (xS xT ht.typeIs Al ?_ (Av _ _)))
  show wpAny _ _ (Builtin.Tuple.tupleItemsOf (.ref t) >>= _) _ _ s
  refine wX (tupleItemsOf_ ht (wX (A8 hTs ?_)))
  rw [if_pos (by decide)]
  refine wX (cE hs pl pu ?_)
  show wpAny _ _ (if (((sIx its.size 0 lo : Nat) : Int) == 0 && (1 : Int) == 1 && (sIx its.size its.size hi - sIx its.size 0 lo) == its.size)=true then _ else _) _ _ s
  rw [if_pos (by rw [hw.1, hw.2];simp)]
  refine wX ?_
  unfold Builtin.Tuple.tupleIsExact
  refine wX (A8 ht.typeIs (w6 ?_))
  rw [if_pos (by decide)]
  refine wX (Bi ?_)
  first
    | exact w6 ⟨_, rfl, w6 h⟩
    | exact wX (w6 (w6 ⟨_, rfl, w6 h⟩))
end
end HT
namespace L2
open PySem PySem.Spec PyProof.Rows Wd
inductive tw (K : PySem.W.Frag)(x : V)(lo : Option Int)(hi : Option Int)(H : Hp)(Q : VK) : Prop
  | mk : ∀ a xs, (x = .ref a) → (SqT K H a xs) → ((d3 xs lo hi=xs → Q (.ref a) H)) → (∀ p, H p=none → Q (.ref p) (upd H p (.tup (d3 xs lo hi)))) → tw K x lo hi H Q
theorem qQ {X : Cx} : SlR X (tw X.K) := by
  intro pins s σ H x v vl vu lo hi sl Q I rx hs pl pu h
  obtain ⟨a, xs, rfl, hx, hw, q⟩ := h
  by_cases hh : HT.sIx xs.length 0 lo=0 ∧ HT.sIx xs.length xs.length hi=xs.length
  · cases rx
    obtain ⟨its, r, ht, hz⟩ := I.tuple hx
    have hlen : its.toArray.size=xs.length := by rw [xa];exact r.length.symm
    have e : d3 xs lo hi=xs := by unfold d3;rw [hh.1, hh.2, AD, Bl, xI]
    exact ⟨"tuple", _, xT.lookup, ht.typeIs, HT.lO ht hs pl pu (by rw [hlen];exact hh) ⟨.ref a, H, I, rfl, hw e⟩⟩
  · exact sC pins s σ H (.ref a) v vl vu lo hi sl Q I rx hs pl pu ⟨a, xs, rfl, hx, hh, q⟩
end L2
namespace L2
open PySem PySem.Spec PyProof.Rows Wd
section
variable {X : Cx}
inductive tB (x : V)(y : V)(H : Hp)(Q : VK) : Prop
  | mk : ∀ a b xs ys, (x = .ref a) → (y = .ref b) → (H a=some (.tup xs)) → (H b=some (.tup ys)) → (xs.length+ys.length≤sizeLine) → (∀ p H', au H H' → H' p=some (.tup (xs++ys)) → Q (.ref p) H') → tB x y H Q
theorem cO : OpR X (binaryOp .Add) tB := by
  intro pins s σ H x y v u Q I rx ry h
  obtain ⟨a, b, xs, ys, ex, ey, ha, hb, hz, q⟩ := h
  by_cases hx : xs=[]
  · subst ex ey hx
    cases rx
    cases ry
    obtain ⟨its, r1, p1, _⟩ := I.tuple (SqT.of ha)
    obtain ⟨its2, r2, p2, _⟩ := I.tuple (SqT.of hb)
    cases r1
    exact oh p1 p2 ⟨.ref b, H, I, rfl, q b H (au.refl _) hb⟩
  · exact qo pins s σ H x y v u Q I rx ry ⟨a, b, xs, ys, ex, ey, SqT.of ha, SqT.of hb, hx, hz, fun e => q a H (au.refl _) (by rw [e, yL];exact ha), fun _ p hp => q p _ (au.new hp) ab⟩
end
inductive wa (x : V)(lo : Option Int)(hi : Option Int)(H : Hp)(Q : VK) : Prop
  | mk : ∀ a xs, (x = .ref a) → (H a=some (.tup xs)) → (∀ p H', au H H' → H' p=some (.tup (d3 xs lo hi)) → Q (.ref p) H') → wa x lo hi H Q
theorem cA {X : Cx} : SlR X wa := by
  intro pins s σ H x v vl vu lo hi sl Q I rx hs pl pu h
  obtain ⟨a, xs, rfl, hx, q⟩ := h
  exact qQ pins s σ H _ v vl vu lo hi sl Q I rx hs pl pu ⟨a, xs, rfl, SqT.of hx, fun e => q a H (au.refl _) (by rw [e];exact hx), fun p hp => q p _ (au.new hp) ab⟩
theorem tD {d : PyData}(h : d.leavesShort 40=true)(hw : d.weight≤2 ^ 18) : d.shown.length≤sizeLine := by
  have := PyData.shown_le 40 (by decide) d h
  have e : sizeLine=16777216 := zN
  rw [e]
  omega
end L2
namespace Kx
open PySem PySem.Spec PyProof.Rows L2 Wd
end Kx
namespace Kx
open PySem PySem.Spec PyProof.Rows L2 Wd
theorem pQ : bootBuiltins "bool" = some (.type "bool") := by kernel_rfl
end Kx
namespace L2
open PySem PySem.Spec PyProof.Rows Wd
section
variable {X : Cx}
inductive jB  (x : V)(y : V)(H : Hp)(Q : VK) : Prop
  | mk : ∀ a b, (x = .bl a) → (y = .bl b) → (Q (.bl (a == b)) H) → jB x y H Q
theorem tE : OpR X (compareOp .Is) jB := by
  intro pins s σ H x y v u Q I rx ry h
  obtain ⟨a, b, rfl, rfl, q⟩ := h
  cases rx
  cases ry
  refine wpAny_is_plain (by cases a <;> cases b <;> rfl) ⟨.bl _, H, I, ?_, q⟩
  cases a <;> cases b <;> rfl
end
end L2
namespace Wd
def nm (N : List L)(x : L) : L := if x.val < 6 then N.getD x.val 0 else inv (N.getD (x.val - 6) 0)
end Wd
namespace L2
open PySem PySem.Spec PyProof.Rows Wd
section
variable {X : Cx}
end
end L2
namespace Kx
open PySem PySem.Spec PyProof.Rows L2 Wd
end Kx
namespace PySem
open Sem (wp)
section
variable {prog : Program} {w : World} {A : Around} {E : Value → Shared → Prop} {s : Shared}
section
variable {R : Result → Shared → Prop} {I : Addr} {fp wr : List Addr} {G : Array GenState → Array GenState → Prop} {n : Nat} {P : Nat → Value → Prop} {St : Nat → Shared → Prop}
end
end
end PySem
namespace PySem
open Sem (wp)
section
variable {prog : Program} {w : World} {A : Around} {E : Value → Shared → Prop} {s : Shared}
end
end PySem
namespace PySem
open Sem (wp)
section
variable {prog : Program} {w : World} {A : Around} {E : Value → Shared → Prop} {s : Shared}
section
variable {R : Result → Shared → Prop} {I : Addr} {fp wr : List Addr} {G : Array GenState → Array GenState → Prop} {n : Nat} {P : Nat → Value → Prop} {St : Nat → Shared → Prop}
end
end
end PySem
namespace PySem
open Sem (wp)
section
variable {prog : Program} {w : World} {A : Around} {E : Value → Shared → Prop} {s : Shared}
end
end PySem
namespace PySem
open Sem (wp)
section
variable {prog : Program} {w : World} {A : Around} {E : Value → Shared → Prop} {s : Shared}
end
end PySem
namespace PySem
open Sem (wp)
section
variable {prog : Program} {w : World} {A : Around} {E : Value → Shared → Prop} {s : Shared}
end
end PySem
namespace Ts
open PySem PyProof.Rows
section
variable {prog : Program} {w : World} {A : Around} {E : Value → Shared → Prop} {s : Shared} {κ : KeyKind}
end
end Ts
namespace Ts
open PySem PyProof.Rows
end Ts
namespace Ts
open PySem PyProof.Rows
variable {κ : KeyKind}
end Ts
namespace Ts
open PySem PyProof.Rows
section
variable {prog : Program} {w : World} {A : Around} {E : Value → Shared → Prop} {s : Shared} {κ : KeyKind}
end
end Ts
namespace Ts
open PySem PyProof.Rows
variable {κ : KeyKind}
section
variable {prog : Program} {w : World} {A : Around} {E : Value → Shared → Prop} {s : Shared}
end
end Ts
namespace Ts
open PySem PyProof.Rows
variable {κ : KeyKind}
section
variable {prog : Program} {w : World} {A : Around} {E : Value → Shared → Prop} {s : Shared}
end
end Ts
namespace Ts
open PySem PyProof.Rows
variable {κ : KeyKind}
section
variable {prog : Program} {w : World} {A : Around} {E : Value → Shared → Prop} {s : Shared}
end
end Ts
namespace Ts
open PySem PyProof.Rows
variable {κ : KeyKind}
section
variable {prog : Program} {w : World} {A : Around} {E : Value → Shared → Prop} {s : Shared}
end
end Ts
namespace Ts
open PySem PyProof.Rows
variable {κ : KeyKind}
section
variable {prog : Program} {w : World} {A : Around} {E : Value → Shared → Prop} {s : Shared}
end
end Ts
namespace Ts
open PySem PyProof.Rows
variable {κ : KeyKind}
section
variable {prog : Program} {w : World} {A : Around} {E : Value → Shared → Prop} {s : Shared}
end
end Ts
namespace L2
open PySem PySem.Spec PyProof.Rows
section
variable {prog : Program} {w : World} {A : Around} {E : Value → Shared → Prop} {s : Shared}
end
section
variable {X : Cx}
end
section
variable {prog : Program} {w : World} {A : Around} {E : Value → Shared → Prop} {s : Shared}
end
section
variable {X : Cx}
end
end L2
namespace Tv
open PySem PyProof.Rows
section
variable {prog : Program} {w : World} {A : Around} {E : Value → Shared → Prop} {s : Shared}
end
end Tv
namespace Ts
open PySem PyProof.Rows
end Ts
namespace L2
open PySem PySem.Spec PyProof.Rows Wd Ts
section
variable {prog : Program} {w : World} {A : Around} {E : Value → Shared → Prop} {s : Shared}
end
section
variable {X : Cx}
end
end L2
namespace Tv
open PySem PyProof.Rows
section
variable {prog : Program} {w : World} {A : Around} {E : Value → Shared → Prop} {s : Shared}
end
end Tv
namespace L2
open PySem PySem.Spec PyProof.Rows Wd Tv
section
variable {X : Cx}
end
end L2
namespace PySem
end PySem
namespace L2
open PySem PySem.Spec PyProof.Rows Wd
section
variable {X : Cx}
end
end L2
namespace HT
open PySem PySem.Spec PyProof.Rows
section
variable {prog : Program} {w : World} {A : Around} {E : Value → Shared → Prop} {s : Shared}
theorem ed {sl : Addr}{tk : Tok}{n : Nat}{Q : Int × Int × Nat → Shared → Prop}(hs : s.heap.IsSliceOf sl .none .none (.int (-1) tk))
    (h : Q ((n : Int) - 1, -1, n) s) : wpAny (model prog w) A (Builtin.Slice.sliceApplied (.ref sl) (pure (n : Int))) Q E s := by
  obtain ⟨os, hos, hcs, hds⟩ := id hs
  unfold Builtin.Slice.sliceApplied Builtin.Slice.sliceFields
  refine wX (wX (x_ hos hds (x := .none) rfl (wX (x_ hos hds (x := .none) rfl (wX (x_ hos hds (x := .int (-1) tk) rfl (w6 ?_)))))))
  refine wX (slicePart_int ?_)
  show wpAny _ _ (if ((-1 : Int) == 0)=true then _ else _) _ _ s
  rw [if_neg (by decide)]
  refine wX (AA (wX (AA (wX (w6 ?_)))))
  have e : Builtin.Slice.slicePlaces ((n : Int) - 1) (-1) (-1)=n := by
    unfold Builtin.Slice.slicePlaces
    rw [if_neg (by decide)]
    by_cases hn : n=0
    · subst hn;decide
    · rw [if_pos (by omega), show (-(-1) : Int)=1 from rfl, Int.ediv_one];omega
  show wpAny _ _ (pure ((n : Int) - 1, (-1 : Int), Builtin.Slice.slicePlaces ((n : Int) - 1) (-1) (-1))) _ _ s
  rw [e]
  exact w6 h
theorem c3 {α β : Type}{f : α → Option β}{g : α → β} : ∀ {l : List α}, (∀ m∈l, f m=some (g m)) → l.filterMap f=l.map g
  | [], _ => rfl
  | a::r, h => by rw [List.filterMap_cons_some (h a xt), xv, c3 fun m hm => h m (xk _ hm)]
theorem oj (xs : Array Value) : ((List.range xs.size).filterMap fun (m : Nat) => xs[((xs.size : Int) - 1+(m : Int)*(-1)).toNat]?).toArray=xs.toList.reverse.toArray := by
  congr 1
  have e : ∀ m∈List.range xs.size, xs[((xs.size : Int) - 1+(m : Int)*(-1)).toNat]? = some ((fun m => xs.toList.getD (xs.size - 1 - m) .none) m) := by
    intro m hm
    have hm := yw.mp hm
    have : ((xs.size : Int) - 1+(m : Int)*(-1)).toNat=xs.size - 1 - m := by omega
    rw [this]
    have hlt : xs.size - 1 - m < xs.size := by omega
    simp [List.getD, hlt]
  rw [c3 e]
  apply List.ext_getElem?
  intro i
  rw [w_]
  by_cases hi : i < xs.size
  · rw [List.getElem?_range hi, zb (by simpa using hi)]
    have hlt : xs.size - 1 - i < xs.size := by omega
    simp [List.getD, hlt]
  · rw [zc (by simpa using hi), zc (by simp;omega)]
    rfl
theorem dO {t sl : Addr}{items : Array Value}{tk : Tok}{Q : Value → Shared → Prop}(ht : IsTup s.heap t items)(hs : s.heap.IsSliceOf sl .none .none (.int (-1) tk))
    (h : Q (.ref s.heap.objs.size) { s with heap := s.heap.push { cls := .type "tuple", data := .seq items.toList.reverse.toArray } })
    (hsz : items.size≤sizeLine) : wpAny (model prog w) A (getItem (.ref t) (.ref sl)) Q E s := by
  have htake : sizeOk (.seq items.toList.reverse.toArray) := by
    show items.toList.reverse.toArray.size≤sizeLine
    rw [xa, xW, yh]
    exact hsz
  obtain ⟨os, hos, hcs, hds⟩ := id hs
  have hTs : s.TypeIs (.ref sl) "slice" := ⟨os, hos, hcs⟩
  unfold getItem
  try with_reducible refine yQ ?_
  first | refine wX (w6 ?_) | skip
  refine wX (AG ht.typeIs (by decide) ?_)
  refine wX (xJ (name := Str.ofString "__getitem__") ht.typeIs xT
    (xS xT ht.typeIs Al ?_ (Av _ _)))
  show wpAny _ _ (Builtin.Tuple.tupleItemsOf (.ref t) >>= _) _ _ s
  refine wX (tupleItemsOf_ ht ?_)
  refine wX (A8 hTs ?_)
  rw [if_pos (by decide)]
  refine wX (ed hs ?_)
  show wpAny _ _ (if ((((items.size : Nat) : Int) - 1 == 0 && (-1 : Int) == 1 && items.size == items.size)=true) then _ else _) _ _ s
  rw [if_neg (by simp), oj]
  first
    | exact wX (m := Builtin.Tuple.tupleExact _) (xO (w6 ⟨_, rfl, w6 h⟩) htake)
    | exact wX (m := Builtin.Tuple.tupleExact _) (xO (wX (w6 (w6 ⟨_, rfl, w6 h⟩))) htake)
    | exact wX (wX (m := Builtin.Tuple.tupleExact _) (xO (w6 (w6 ⟨_, rfl, w6 h⟩)) htake))
    | exact wX (wX (m := Builtin.Tuple.tupleExact _) (xO (w6 ⟨_, rfl, w6 h⟩) htake))
end
end HT
namespace L2
open PySem PySem.Spec PyProof.Rows Wd
section
variable {X : Cx}
def u_ (te ts : TE) : TE := fun σ H Q => te σ H fun x H1 => ts σ H1 fun k H2 => ∃ a xs, x = .ref a ∧ k = .int (-1) ∧ H2 a=some (.tup xs) ∧ ∀ p, H2 p=none → Q (.ref p) (upd H2 p (.tup xs.reverse))
theorem lP {e st : Expr}{te ts : TE}{pos p2 : Pos}(he : PE X e te)(hs : PE X st ts) : PE X (.Subscript e (.Slice none none (some st) p2) pos) (u_ te ts) := by
  intro pins s σ H Q I h
  refine AH (thn (he pins s σ H _ I h) fun v s1 zq1 => ?_)
  obtain ⟨x, H1, I1, r1, q1⟩ := zq1
  refine wpAny_Slice ?_
  rw [AQ]
  refine w6 ?_
  refine w6 ?_
  rw [evalPart_some]
  refine thn (hs pins s1 σ H1 _ I1 q1) fun vs s3 zq2 => ?_
  obtain ⟨k, H3, I3, r3, a, xs, ez, ek, hx, q3⟩ := zq2
  subst ez ek
  cases r1
  obtain ⟨tk, rfl⟩ := r3
  have I4 : Inv X pins σ H3 { s3 with heap := s3.heap.push { cls := .type "slice", data := .fields #[.none, .none, .int (-1) tk] } } := I3.kept (t' := s3.toks) fun b ob q => w5 _ q
  obtain ⟨its, r, ht, hz⟩ := I4.tuple (SqT.of (K := X.K) hx)
  show wpAny (model X.prog X.w) X.A (subscriptTail e (.Slice none none (some st) p2) (.ref a) (.ref s3.heap.objs.size)) (EP X pins σ Q) X.xe { s3 with heap := s3.heap.push { cls := .type "slice", data := .fields #[.none, .none, .int (-1) tk] } }
  refine tail_any (ops := [.ref a, .ref s3.heap.objs.size]) ht.typeIs xT.lookup ?_ (by with_unfolding_all rfl)
  refine HT.dO (tk := tk) ht ⟨_, xj _ rfl, rfl, rfl⟩ ?_ (by rw [xa, ← r.length];exact hz)
  refine ⟨.ref _, _, I4.laid (t' := s3.toks) (o := .tup xs.reverse) (fun b ob q => w5 _ q) (wZ _) ?_, rfl, q3 _ (I4.hok.fresh (wZ _))⟩
  refine ⟨by rw [xW];exact hz, _, ?_, IsTup.new _ _, .new _ _ rfl⟩
  exact r.reverse
end
theorem dq {X : Cx}{K : PySem.W.Frag}(hK : X.K=K) : cG X (.builtin "len") (b9 K) := by
  subst hK
  exact az
end L2
namespace Kx
open PySem PySem.Spec PyProof.Rows L2 Wd
def whV : V → Bool
  | .int _ => true
  | _ => false
inductive Wh (K : PySem.W.Frag)(H : Hp) : V → Prop
  | mk {x : V} {n : String} {b1 b2 : Bool} (ty : ft K H x (.type n)) (e1 : PySem.W.kitOne K (.type n) (.type "int")=some b1) (e2 : PySem.W.kitOne K (.type n) (.type "bool")=some b2) (h : whV x=(b1 && !b2)) : Wh K H x
theorem tF {K : PySem.W.Frag} : PySem.W.kitOne K (.type "int") (.type "int")=some true := by unfold PySem.W.kitOne; rw [if_pos (by rfl)]
theorem tG {K : PySem.W.Frag} : PySem.W.kitOne K (.type "int") (.type "bool")=some false := by kernel_rfl
theorem va {K : PySem.W.Frag} : PySem.W.kitOne K (.type "bool") (.type "int")=some true := by kernel_rfl
theorem vb {K : PySem.W.Frag} : PySem.W.kitOne K (.type "bool") (.type "bool")=some true := by unfold PySem.W.kitOne; rw [if_pos (by rfl)]
theorem vc {K : PySem.W.Frag} : PySem.W.kitOne K (.type "NoneType") (.type "int")=some false := by kernel_rfl
theorem vd {K : PySem.W.Frag} : PySem.W.kitOne K (.type "NoneType") (.type "bool")=some false := by kernel_rfl
theorem ve {K : PySem.W.Frag} : PySem.W.kitOne K (.type "str") (.type "int")=some false := by kernel_rfl
theorem vf {K : PySem.W.Frag} : PySem.W.kitOne K (.type "str") (.type "bool")=some false := by kernel_rfl
theorem vg {K : PySem.W.Frag} : PySem.W.kitOne K (.type "list") (.type "int")=some false := by kernel_rfl
theorem vh {K : PySem.W.Frag} : PySem.W.kitOne K (.type "list") (.type "bool")=some false := by kernel_rfl
theorem vi {K : PySem.W.Frag} : PySem.W.kitOne K (.type "tuple") (.type "int")=some false := by kernel_rfl
theorem vj {K : PySem.W.Frag} : PySem.W.kitOne K (.type "tuple") (.type "bool")=some false := by kernel_rfl
theorem Wh.same {K : PySem.W.Frag}{H H' : Hp}{x : V}(s : au H H')(h : Wh K H x) : Wh K H' x := by
  obtain ⟨ty, e1, e2, h⟩ := h
  exact .mk (ty.same s fun C => by intro z;cases z) e1 e2 h
inductive fY (K : PySem.W.Frag)(vs : List V)(H : Hp)(Q : VK)(u3_ : XK) : Prop
  | mk : ∀ x, (vs=[x]) → (Wh K H x) → (Q (.bl (whV x)) H) → fY K vs H Q u3_
def fst (c : Option (Int × Int)) : Int := match c with | some (i, _) => i | none => 0
end Kx
namespace Kx
open PySem PySem.Spec PyProof.Rows L2 Wd
end Kx
namespace L2
open PySem PySem.Spec PyProof.Rows Wd
section
variable {X : Cx}
inductive eW  (xs : List V)(H : Hp)(Q : VK) : Prop
  | mk : ∀ (j : Int), (xs=[.int j]) → (∀ p, H p=none → Q (.ref p) (upd H p (.rng 0 j))) → eW xs H Q
theorem lQ : cG X (.type "range") eW := by
  intro pins s σ H xs us Q I r h
  obtain ⟨j, rfl, q⟩ := h
  obtain ⟨u, rfl, t, rfl⟩ := cw r
  refine call_range_1 ⟨.ref s.heap.objs.size, _, I.laid (o := .rng 0 j) (fun b ob q => w5 _ q) (wZ _) ⟨_, _, _, xj _ rfl⟩, rfl, q _ (I.hok.fresh (wZ _))⟩
inductive cP  (xs : List V)(H : Hp)(Q : VK) : Prop
  | mk : ∀ (p : Addr) (n : Nat), (xs=[.ref p]) → (H p=some (.rng 0 (n : Int))) → (n≤16777216) → (∀ l, H l=none → Q (.ref l) (upd H l (.lst ((List.range n).map fun i : Nat => V.int (i : Int))))) → cP xs H Q
theorem fZ (hc : X.calm=true) : cG X (.type "list") cP := by
  intro pins s σ H xs us Q I r h
  obtain ⟨p, n, rfl, hp, hn, q⟩ := h
  obtain ⟨u, rfl, rx⟩ := cw r
  cases rx
  obtain ⟨t, u, v, e⟩ := (show bg X.prog X.w H s.heap p (.rng 0 (n : Int)) from I.hok p _ hp)
  refine call_list_range (n := n) (I.ok.hd hc) e (small_one (by omega) (by omega) (by omega) (by omega)) (by rw [rangeSize_one];split <;> omega) (by omega) fun h' tk acc' c' kp e hI => ?_
  have hv : aZ ((List.range n).map fun i : Nat => V.int (i : Int)) acc'.toList := by
    have all : ∀ (m : Nat) (us : List Value) (k : Nat), us.length=m → (∀ (j : Nat) (v : Value), us[j]? = some v → ∃ t, v = .int ((k : Int)+(j : Int)) t) → aZ ((List.range' k m).map fun i : Nat => V.int (i : Int)) us := by
      intro m
      induction m with
      | zero =>
        intro us k hl _
        have : us=[] := yS hl
        subst this
        exact .nil
      | succ m ih =>
        intro us k hl hj
        cases us with
        | nil => cases hl
        | cons a us =>
          rw [List.range'_succ, xv]
          obtain ⟨t, rfl⟩ := hj 0 a rfl
          refine .cons ⟨t, by simp⟩ (ih us (k+1) (by simpa using hl) fun j v e => ?_)
          obtain ⟨t, rfl⟩ := hj (j+1) v (by simpa using e)
          exact ⟨t, by congr 1;omega⟩
    rw [List.range_eq_range']
    refine all n acc'.toList 0 (by rw [yh];exact hI.1) fun j v e => ?_
    obtain ⟨t, rfl⟩ := hI.2 j v (by simpa using e)
    exact ⟨t, by congr 1;omega⟩
  refine ⟨.ref s.heap.objs.size, _, I.laid kp (wZ _) (show bg X.prog X.w _ h' _ (.lst _) from ⟨?_, acc'.toList, c', hv, by simpa using e⟩), rfl, q _ (I.hok.fresh (wZ _))⟩
  rw [fu, x8, zN]
  exact hn
end
end L2
namespace HT
open PySem PySem.Spec PyProof.Rows PySem.SeqAt
end HT
namespace L2
open PySem PySem.Spec PyProof.Rows Wd
section
variable {X : Cx}
end
theorem lR : bootBuiltins "enumerate" = some (.type "enumerate") := by kernel_rfl
theorem ixN_nat {n k : Nat}(h : k < n) : ixN n (k : Int)=some k := by
  unfold ixN
  rw [if_pos (by omega), if_pos (by omega), xB]
end L2
namespace L2
open PySem PySem.Spec PyProof.Rows
section
variable {M : Model} {A : Around} {E : Value → Shared → Prop} {s : Shared}
end
end L2
namespace L2
open PySem PySem.Spec PyProof.Rows
def exo (a C : Addr)(d : Option Addr)(b : Bool) : Heap → Prop := fun h =>
  ∃ oe vs, h.get? a=some oe ∧ oe.cls = .ref C ∧ oe.dict=d ∧ oe.data = .fields vs ∧ vs.size=6 ∧ (b=true → vs[1]? = some .none)
abbrev Exo (a C : Addr)(d : Option Addr)(b : Bool) : HO := .ext (exo a C d b)
section
variable {P : Program} {w : World} {H : Hp} {h h' : Heap} {fs : List Addr} {e C : Addr} {d : Option Addr} {b : Bool} {fl : Value}
end
section
variable {P : Program} {w : World} {K : PySem.W.Frag} {mg : Str → Option Value} {base : Heap} {N : List Str} {qual : Str} {scope : Scope} {f : Addr} {cd : Value} {A : Around} {outer : List Env} {s : Shared} {H : Hp} {E : XK}
end
end L2
namespace L2
open PySem PySem.Spec PyProof.Rows
section
variable {prog : Program} {w : World} {A : Around} {E : Value → Shared → Prop} {h : Heap} {g : Array GenState} {d : Drawn} {t : Nat} {os : OsState} {K : PySem.W.Frag} {C fI : Addr} {bm : List Value}
end
section
variable {X : Cx} {k : Nat} {f C : Addr} {fd : FuncData} {ps : List Str} {sp : Sp} {x : Str} {p pos : Pos} {e : Expr} {es : List Expr} {t : TA} {bm : List Value}
end
end L2
namespace L2
open PySem PySem.Spec PyProof.Rows Builtin Builtin.ObjectAttr
section
variable {prog : Program} {w : World} {A : Around} {E : Value → Shared → Prop} {h : Heap} {g : Array GenState} {d : Drawn} {t : Nat} {os : OsState} {K : PySem.W.Frag} {C e : Addr} {bm : List Value} {oe : Obj} {vs : Array Value}
section
variable {name : Str} {v : Value} {mA : Str → Option Value}
end
end
end L2
namespace L2
open PySem PySem.Spec PyProof.Rows
def xdt (d : Addr)(fs : List (Str × V)) : Heap → Prop := fun h => ∃ mA, h.Ns1 d mA ∧ (∀ f, p9 (fs.lookup f) (mA f)) ∧ PySem.Within mA (fs.map (·.1))
abbrev Xdt (d : Addr)(fs : List (Str × V)) : HO := .ext (xdt d fs)
section
variable {X : Cx} {pins : List (Addr × Obj)} {σ : St} {H : Hp} {s : Shared} {A : Around} {E : Value → Shared → Prop} {a C : Addr} {b : Bool} {f : Str} {y : V} {u : Value} {Q : Unit → Shared → Prop}
end
section
variable {X : Cx} {o e value : Expr} {es : List Expr} {f x : Str} {p pos pos' apos : Pos} {ta tv te : TE} {t : TA} {R : Addr} {E : XK}
end
end L2
namespace L2
open PySem PySem.Spec PyProof.Rows
section
variable {prog : Program} {w : World} {A : Around} {E : Value → Shared → Prop} {s : Shared} {K : PySem.W.Frag} {C a : Addr} {bm : List Value} {oe : Obj} {od : Option Obj} {name : Str} {fill expr : Bool} {tk : Tok}
end
section
variable {X : Cx} {pins : List (Addr × Obj)} {σ : St} {H : Hp} {s : Shared} {A : Around} {E : Value → Shared → Prop} {a C dx : Addr} {b : Bool} {fs : List (Str × V)} {f : Str} {v : V}
end
section
variable {X : Cx} {e : Expr} {f : Str} {pos : Pos} {ta : TE}
end
end L2
namespace L2
open PySem PySem.Spec PyProof.Rows
section
variable {X : Cx} {pins : List (Addr × Obj)} {σ : St} {H : Hp} {s : Shared}
end
section
variable {M : Model} {A : Around} {E : Value → Shared → Prop} {s : Shared}
end
end L2
namespace L2
open PySem PySem.Spec PyProof.Rows
section
variable {X : Cx} {E : XK} {x : Str} {ps : List Str} {k j : Nat} {sp : Sp} {e a b : Expr} {es : List Expr} {t : TA} {te tb : TE} {tt : TT} {p pos pos' : Pos}
end
end L2
namespace L2
open PySem PySem.Spec PyProof.Rows
section
variable {K : PySem.W.Frag} {C R N : Addr} {dd d0 : Option Addr} {c0 oc : Value} {cd cdR : ClassData} {k0 k1 k2 k3 k5 : Option Value} {sl sl' : Array (Option Value)} {es : Array DictEntry} {n : Nat} {bm bm' : List Value}
end
end L2
namespace L2
open PySem PySem.Spec PyProof.Rows
section
variable {X : Cx} {x : Str} {C : Addr} {names : List Str} {k j : Nat} {e : Expr} {es : List Expr} {t : TA} {p pos : Pos}
end
section
variable {K : PySem.W.Frag} {C dx a : Addr} {b : Bool} {H : Hp}
end
section
variable {X : Cx} {K : PySem.W.Frag} {e : Expr} {f : Str} {pos : Pos} {ta : TE}
end
end L2
namespace L2
open PySem PySem.Spec PyProof.Rows
section
variable {X : Cx} {E : XK} {e a b c : Expr} {te ta tb : TE} {tA : TT} {pos : Pos}
end
end L2
namespace L2
open PySem PySem.Spec PyProof.Rows
section
variable {X : Cx} {x : Str} {ps : List Str} {k j : Nat} {sp : Sp} {e : Expr} {es : List Expr} {t : TA} {p pos : Pos}
end
section
variable {prog : Program} {w : World} {A : Around} {E : Value → Shared → Prop} {h : Heap} {g : Array GenState} {d : Drawn} {t : Nat} {os : OsState} {K : PySem.W.Frag} {C : Addr} {bm : List Value}
end
end L2
namespace Kx
open PySem PySem.Spec PyProof.Rows L2 Wd
end Kx
namespace Kx
open PySem PySem.Spec PyProof.Rows L2 Wd
theorem dec_int (j n : Nat) : decide (V.int (0+(j : Int))=V.int (n : Int))=decide (n=j) := by
  by_cases e : n=j
  · subst e;simp
  · rw [xg e, xg]
    intro z
    have := V.int.inj z
    omega
end Kx
namespace L2
open PySem PySem.Spec PyProof.Rows
open Builtin
section
variable {X : Cx}
end
end L2
namespace Wd
def ba (W : List (List L)) : List (Int × Int) := (List.range W.length).flatMap fun i => (List.range (W.getD i []).length).map fun p : Nat => ((i : Int), (p : Int))
def ltS (W : List (List L))(p : Int × Int) : Nat := ((W.getD p.1.toNat []).getD p.2.toNat 0).val % 6
def okS (W : List (List L))(p : Int × Int) : Bool := decide (0≤p.1) && decide (p.1 < W.length) && (decide (0≤p.2) && decide (p.2 < (W.getD p.1.toNat []).length))
theorem bT {W : List (List L)}{p : Int × Int} : p∈ba W ↔ okS W p=true := by
  unfold ba okS
  rw [yD]
  simp only [xp, xK]
  constructor
  · rintro ⟨i, hi, h⟩
    obtain ⟨q, hq, rfl⟩ := xC.mp h
    rw [yw] at hi hq
    simp only [xB]
    omega
  · rintro ⟨⟨h1, h2⟩, h3, h4⟩
    refine ⟨p.1.toNat, yw.mpr (by omega), xC.mpr ⟨p.2.toNat, yw.mpr (by omega), ?_⟩⟩
    exact Bn (by show ((p.1.toNat : Nat) : Int)=p.1;omega) (by show ((p.2.toNat : Nat) : Int)=p.2;omega)
def ltp (p q : Int × Int) : Prop := p.1 < q.1 ∨ (p.1=q.1 ∧ p.2 < q.2)
theorem om (i : Nat)(n : Nat) : ((List.range n).map fun p : Nat => ((i : Int), (p : Int))).Pairwise ltp := by
  rw [zR]
  refine yN ?_ A5
  intro a b h
  exact .inr ⟨rfl, by show ((a : Nat) : Int) < (b : Nat);omega⟩
theorem eh (W : List (List L)) : (ba W).Pairwise ltp := by
  unfold ba
  rw [z1]
  refine ⟨fun i _ => om i _, ?_⟩
  refine yN ?_ A5
  intro a b h x hx y hy
  obtain ⟨p, _, rfl⟩ := xC.mp hx
  obtain ⟨q, _, rfl⟩ := xC.mp hy
  exact .inl (by show ((a : Nat) : Int) < (b : Nat);omega)
theorem f_ {l : List (Int × Int)}(h : l.Pairwise ltp) : l.Nodup := by
  refine yN ?_ h
  rintro a b h rfl
  unfold ltp at h
  omega
def rR (W : List (List L))(l : Nat) : List (Int × Int) := (ba W).filter fun p => decide (ltS W p=l)
theorem oo (W : List (List L))(l : Nat) : (rR W l).Pairwise ltp := (eh W).filter _
end Wd
namespace L2
open PySem PySem.Spec PyProof.Rows
theorem fk {X : Cx}{K : PySem.W.Frag}(hK : X.K=K) : cG X (.type "tuple") (bR K) := by subst hK; exact aP
end L2
namespace Kx
open PySem PySem.Spec PyProof.Rows L2 Wd
theorem fC {t u : TS}{D : fm}{σ : L2.St}{H : Hp}(h : t D σ H) : iE t u D σ true H := kg h
theorem pR {t u : TS}{D : fm}{σ : L2.St}{H : Hp}(h : u D σ H) : iE t u D σ false H := iz h
theorem oq {u : TT}{σ : L2.St}{Q : Bool → Hp → Prop}{H : Hp}(h : Q true H) : jd u σ Q true H := kg h
theorem m8 {u : TT}{σ : L2.St}{Q : Bool → Hp → Prop}{H : Hp}(h : u σ H Q) : jd u σ Q false H := iz h
theorem nkF {Q : Bool → Hp → Prop}{H : Hp}(h : Q true H) : iD Q false H := h
theorem nkT {Q : Bool → Hp → Prop}{H : Hp}(h : Q false H) : iD Q true H := h
theorem aD {n : Nat}(h : n≤16777216) : n≤sizeLine := by rw [a8]; exact h
inductive Pl (d e : Addr)(H : Hp)(b : Nat) : Nat → V → Prop
  | flat {n : Nat} {x : V} (h : qp x=true) : Pl d e H b n x
  | tup {n : Nat} {a : Addr} {xs : List V} (h : H a=some (.tup xs)) (hl : xs.length≤b) (hx : ∀ y∈xs, Pl d e H b n y) : Pl d e H b (n+1) (.ref a)
  | lst {n : Nat} {a : Addr} {xs : List V} (h : H a=some (.lst xs)) (ne : a≠d) (ne2 : a≠e) (hl : xs.length≤b) (hx : ∀ y∈xs, Pl d e H b n y) : Pl d e H b (n+1) (.ref a)
theorem Pl.to {d e : Addr}{H H' : Hp}{b b' : Nat}(hb : b≤b')(k1 : ∀ a xs, H a=some (.tup xs) → H' a=some (.tup xs))(k2 : ∀ a xs, a≠d → a≠e → H a=some (.lst xs) → H' a=some (.lst xs)) : ∀ {n m : Nat} {x : V}, Pl d e H b n x → n≤m → Pl d e H' b' m x := by
  intro n m x h
  induction h generalizing m with
  | flat h => exact fun _ => .flat h
  | tup h hl hx ih =>
    intro hm
    obtain ⟨m, rfl⟩ : ∃ k, m=k+1 := ⟨m - 1, by omega⟩
    exact .tup (k1 _ _ h) (xH hl hb) fun y hy => ih y hy (by omega)
  | lst h ne ne2 hl hx ih =>
    intro hm
    obtain ⟨m, rfl⟩ : ∃ k, m=k+1 := ⟨m - 1, by omega⟩
    exact .lst (k2 _ _ ne ne2 h) ne ne2 (xH hl hb) fun y hy => ih y hy (by omega)
theorem Pl.same {d e : Addr}{H H' : Hp}{b n : Nat}{x : V}(h : Pl d e H b n x)(s : au H H') : Pl d e H' b n x := h.to (wZ _) (fun _ _ q => s _ _ q) (fun _ _ _ _ q => s _ _ q) (wZ _)
theorem Tp.nt {H : Hp}{d c a : Addr}{xs : List V}(F : Tp H d c)(h : H a=some (.tup xs)) : a≠d := by
  obtain ⟨i, l, t, ns, h1, _⟩ := F.ex
  exact cH h h1 (by intro z;cases z)
theorem Pl.sb {d c e : Addr}{H H' : Hp}{b n : Nat}{x : V}(h : Pl d e H b n x)(F : Tp H d c)(s : aU d H H') : Pl d e H' b n x := h.to (wZ _) (fun _ _ q => s _ _ (F.nt q) q) (fun _ _ ne _ q => s _ _ ne q) (wZ _)
theorem Pl.up {d e : Addr}{H : Hp}{b b' n m : Nat}{x : V}(h : Pl d e H b n x)(hb : b≤b')(hn : n≤m) : Pl d e H b' m x := h.to hb (fun _ _ q => q) (fun _ _ _ _ q => q) hn
theorem tH {H : Hp}{a e : Addr}(h : ∃ o, H e=some o)(hn : H a=none) : a≠e := by
  rintro rfl
  obtain ⟨o, h⟩ := h
  rw [hn] at h
  cases h
theorem uy {H H' : Hp}{d c e : Addr}(h : ∃ o, H e=some o)(F : Tp H' d c)(s : aU d H H') : ∃ o, H' e=some o := by
  by_cases q : e=d
  · subst q
    obtain ⟨i, l, t, ns, h1, _⟩ := F.ex
    exact ⟨_, h1⟩
  · obtain ⟨o, h⟩ := h
    exact ⟨o, s _ _ q h⟩
theorem lS {K : PySem.W.Frag}{H : Hp}{x : V}(h : qp x=true) : ∃ n, ft K H x (.type n) ∧ PySem.W.kitOne K (.type n) (.type "tuple")=some false := by
  cases x with
  | non => exact ⟨_, .non, nW⟩
  | bl b => exact ⟨_, .bl b, lz⟩
  | int i => exact ⟨_, .int i, nX⟩
  | str z => exact ⟨_, .str z, nY⟩
  | _ => cases h
theorem vk {K : PySem.W.Frag}{d e : Addr}{H : Hp}{b n : Nat}{x : V}(h : Pl d e H b n x) : Wh K H x := by
  cases h with
  | flat h =>
    cases x with
    | non => exact .mk .non vc vd rfl
    | bl b => exact .mk (.bl b) va vb rfl
    | int i => exact .mk (.int i) tF tG rfl
    | str z => exact .mk (.str z) ve vf rfl
    | _ => cases h
  | tup h _ _ => exact .mk (.tup h) vi vj rfl
  | lst h _ _ _ _ => exact .mk (.lst h) vg vh rfl
structure Wy4 (n : Nat) (W : List (List L)) (H : Hp) (a : Addr) : Prop where
  at_ : H a=some (.tup (W.map tx))
  le : W.length≤4
  lo : 1≤W.length
  ws : ∀ w∈W, w≠[] ∧ w.length≤15 ∧ InM n w
theorem Wy4.same {n : Nat}{W : List (List L)}{H H' : Hp}{a : Addr}(h : Wy4 n W H a)(s : au H H') : Wy4 n W H' a := ⟨s _ _ h.at_, h.le, h.lo, h.ws⟩
theorem Wy4.sb {n : Nat}{W : List (List L)}{H H' : Hp}{a d c : Addr}(h : Wy4 n W H a)(F : Tp H d c)(s : aU d H H') : Wy4 n W H' a := ⟨s _ _ (F.nt h.at_) h.at_, h.le, h.lo, h.ws⟩
def StA (H : Hp)(zs : List (Addr × Int × Int)) : Prop := ∀ z∈zs, H z.1=some (.tup [.int z.2.1, .int z.2.2])
theorem StA.same {H H' : Hp}{zs : List (Addr × Int × Int)}(h : StA H zs)(s : au H H') : StA H' zs := fun z hz => s _ _ (h z hz)
theorem StA.app {H : Hp}{zs ys : List (Addr × Int × Int)}(h : StA H zs)(g : StA H ys) : StA H (zs++ys) := fun z hz => (xF.mp hz).elim (h z) (g z)
inductive j8 (vs : List V)(H : Hp)(Q : VK)(u3_ : XK) : Prop
  | mk : ∀ (a : Addr) (n : Nat) (W : List (List L)), (vs=[.ref a]) → (Wy4 n W H a) → (∀ (l : Addr) (zs : List (Addr × Int × Int)) (H' : Hp), H l=none → au H H' → H' l=some (.lst ((zs.map (·.1)).map V.ref)) → StA H' zs → zs.map (·.2)=ba W → Q (.ref l) H') → j8 vs H Q u3_
inductive qR (vs : List V)(H : Hp)(Q : VK)(u3_ : XK) : Prop
  | mk : ∀ (a p : Addr) (n : Nat) (W : List (List L)) (i j : Int), (vs=[.ref a, .ref p]) → (Wy4 n W H a) → (H p=some (.tup [.int i, .int j])) → (okS W (i, j)=true) → (Q (tx [(W.getD i.toNat []).getD j.toNat 0]) H) → qR vs H Q u3_
inductive gb (vs : List V)(H : Hp)(Q : VK)(u3_ : XK) : Prop
  | mk : ∀ u, (vs=[tx u]) → (u.length≤60) → (∀ (v : List L) (H' : Hp), v.length≤u.length → (∀ x∈v, x∈u) → au H H' → Q (tx v) H') → gb vs H Q u3_
inductive gf (vs : List V)(H : Hp)(Q : VK)(u3_ : XK) : Prop
  | mk : ∀ u, (vs=[tx u]) → (u.length≤60) → (∀ (v : List L), v.length≤u.length → (∀ x∈v, x∈u) → Q (tx v) H) → gf vs H Q u3_
inductive iL (vs : List V)(H : Hp)(Q : VK)(u3_ : XK) : Prop
  | mk : ∀ (d c : Addr) (m : Nat) (n : Int), (vs=[.ref d, .int (m : Int), .int n]) → (Tp H d c) → (1≤m) → (m≤6) → (1≤n) → (n≤15) → (∀ (v : List L) (H' : Hp), v≠[] → v.length≤15 → InM m v → Tp H' d c → aU d H H' → Q (tx v) H') → iL vs H Q u3_
inductive iM (vs : List V)(H : Hp)(Q : VK)(u3_ : XK) : Prop
  | mk : ∀ (d c : Addr) (m : Nat) (n : Int), (vs=[.ref d, .int (m : Int), .int 4, .int n]) → (Tp H d c) → (1≤m) → (m≤6) → (1≤n) → (n≤15) → (∀ (a : Addr) (W : List (List L)) (H' : Hp), Tp H' d c → aU d H H' → Wy4 m W H' a → Q (.ref a) H') → iM vs H Q u3_
end Kx
namespace PySem
open Sem (wp)
section
variable {prog : Program} {w : World}
def bB (prog : Program)(w : World)(h : Heap)(k : Str × List Int)(a : Addr) : Prop :=
  ∃ o t b n, h.get? a=some o ∧ o.cls = .type "tuple" ∧ o.data = .seq #[.str k.1 t, .ref b] n ∧ IsTupleKey (intKind prog w) h k.2 b ∧ PyData.strOk k.1=true
def jC (prog : Program)(w : World)(k : Str × List Int) : Int := reduceHash (Builtin.Tuple.tupleHashOf [hashStr w k.1, tupleKeyHash (intKind prog w) k.2])
theorem bB.typeIs {s : Shared}{k : Str × List Int}{a : Addr}(x : bB prog w s.heap k a) : s.TypeIs (.ref a) "tuple" := let ⟨o, _, _, _, ho, hc, _⟩ := x; ⟨o, ho, hc⟩
theorem bB.inj {h : Heap}{a : Addr}{x y : Str × List Int}(hx : bB prog w h x a)(hy : bB prog w h y a) : x=y := by
  obtain ⟨o, t, b, n, ho, _, hd, hi, _⟩ := hx
  obtain ⟨o', t', b', n', ho', _, hd', hi', _⟩ := hy
  obtain rfl : o=o' := xb (ho.symm.trans ho')
  rw [hd] at hd'
  have e := hd'
  injection e with h1 _
  have h2 := xA Array.toList h1
  simp only [List.cons.injEq, Value.str.injEq, Value.ref.injEq, and_true] at h2
  obtain ⟨⟨e1, _⟩, e2⟩ := h2
  subst e2
  exact Bn e1 (hi.inj hi')
theorem bB.keeps {h h' : Heap}{k : Str × List Int}{a d : Addr}{o : Obj}{es ep}(x : bB prog w h k a)(ho : h.get? d=some o)(hd : o.data = .dict es ep)(hs : Heap.SameBut d h h') : bB prog w h' k a := by
  obtain ⟨o', t, b, n, ho', hc, hd', hi, ok⟩ := x
  have hne : a≠d := by
    rintro rfl
    obtain rfl : o'=o := xb (ho'.symm.trans ho)
    rw [hd] at hd';exact nomatch hd'
  exact ⟨o', t, b, n, (hs.2 a hne).trans ho', hc, hd', hi.keeps ho hd hs, ok⟩
variable {A : Around} {E : Value → Shared → Prop} {s : Shared}
theorem dP {k : Str × List Int}{a : Addr}{Q : Int → Shared → Prop}(hu : A.units+8 < cLine)(hk : bB prog w s.heap k a)(h : Q (jC prog w k) { s with toks := s.toks+(k.2.length+3) }) :
    wpAny (model prog w) A (pyHash (.ref a)) Q E s := by
  have ty := hk.typeIs
  have sl := F.slot_tuple_hash
  obtain ⟨o, t, b, n, at_, _, dat, inner, _⟩ := hk
  have room : A.units < cLine := by omega
  generalize hm : Builtin.Tuple.tupleHashOf [hashStr w k.1, tupleKeyHash (intKind prog w) k.2]=m
  have h : Q (reduceHash m) { s with toks := s.toks+1+(k.2.length+1)+1 } := by
    rw [← hm, show s.toks+1+(k.2.length+1)+1=s.toks+(k.2.length+3) by omega]
    exact h
  unfold pyHash pyHashByItsType
  refine wX (wpAny_cRoomFor_or (.inr room) (wX (y8 ty sl.lookup ?_)))
  rw [show (some (Value.builtin "tuple.__hash__") == some Value.none)=false from beq_builtin_none ..]
  refine wX (y8 ty sl.lookup (wX (wpAny_callSpecialIfBoundUnlessNone?_slot ty sl (xS sl ty F.entry_tuple_hash (show wpAny _ A.in1 (Builtin.Tuple.tupleItemsOf (Value.ref a) >>= _) _ E s from wX (wpAny_tupleItemsOf at_ dat (wX ?_))) (F.args_tuple_hash_1 _)))))
  rw [← Array.forIn_toList]
  show wpAny _ _ (forIn [Value.str k.1 t, Value.ref b] _ _) _ _ _
  rw [Ao]
  refine wX (wX (wpAny_pyHash_str (w6 ?_)))
  dsimp only
  rw [Ao]
  refine wX (wX (wpAny_pyHash_tuple (knd := intKind prog w) (s := { s with toks := s.toks+1 }) (by show A.units+1 < cLine;omega) inner (w6 ?_)))
  dsimp only
  rw [List.forIn_nil]
  refine w6 (wpAny_ret_mkInt ?_)
  dsimp only
  rw [show Builtin.Tuple.tupleHashOf ((#[].push (hashStr w k.1)).push (tupleKeyHash (intKind prog w) k.2)).toList=m from hm]
  unfold reduceHash at h
  unfold pyHashByItsType.reduced
  split at h
  · rename_i c
    rw [if_pos c]
    exact w6 h
  · rename_i c
    rw [if_neg c]
    exact wX (Bi (w6 h))
def du (k : Str × List Int) : PyData := .tuple [.str k.1, .tuple (k.2.map .int)]
theorem ic {h : Heap} : ∀ {ks : List Int} {vs : List Value}, ItemsAre (intKind prog w) ks vs → ReadsAll h vs (ks.map .int) []
  | _, _, .nil => .nil
  | _, _, .cons q r => by
    obtain ⟨t, rfl⟩ := Value.isInt_shape q
    exact .cons (as := []) (bs := []) (.int _ _) (ic r)
theorem bB.reads {h : Heap}{k : Str × List Int}{a : Addr}(q : bB prog w h k a) : Reads h (.ref a) (du k) [] := by
  obtain ⟨o, t, b, n, h1, h2, h3, ⟨o2, its, n2, g1, g2, g3, g4⟩, _⟩ := q
  exact .tuple h1 h2 h3 (.cons (as := []) (bs := []) (.str _ _) (.cons (as := []) (bs := []) (.tuple g1 g2 g3 (ic g4)) .nil))
theorem jD : ∀ x y : List Int, PyData.eqvAll (x.map .int) (y.map .int)=decide (x=y)
  | [], [] => rfl
  | [], _::_ => rfl
  | _::_, [] => rfl
  | a::x, b::y => by
    show ((a == b) && PyData.eqvAll (x.map .int) (y.map .int))=_
    rw [jD x y, yd]
    simp
theorem jE (x y : Str × List Int) : PyData.eqv (du x) (du y)=decide (x=y) := by
  show ((x.1 == y.1) && (PyData.eqvAll (x.2.map .int) (y.2.map .int) && true))=_
  rw [jD, yd]
  simp [Prod.ext_iff]
theorem jF : ∀ x : List Int, PyData.canLayAll0 (x.map .int)=true
  | [] => rfl
  | a::x => by
    rw [xv, PyData.canLayAll0, jF x]
    rfl
theorem bB.ok {h : Heap}{k : Str × List Int}{a : Addr}(q : bB prog w h k a) : PyData.strOk k.1=true := let ⟨_, _, _, _, _, _, _, _, ok⟩ := q; ok
theorem eA {x : Str × List Int}(ok : PyData.strOk x.1=true) : (du x).canLay0=true := by
  unfold du PyData.canLay0
  rw [PyData.canLayAll0, PyData.canLayAll0, PyData.canLayAll0]
  have : (PyData.tuple (x.2.map .int)).canLay0=true := by unfold PyData.canLay0;exact jF x.2
  rw [this]
  simp [PyData.canLay0, ok]
theorem ie : ∀ x : List Int, PyData.depthAll (x.map .int)=0
  | [] => rfl
  | a::x => by
    show max 0 (PyData.depthAll (x.map .int))=0
    rw [ie x]
    rfl
theorem ig (x : Str × List Int) : (du x).depth≤2 := by
  show max 0 (max (PyData.depthAll (x.2.map .int)+1) 0)+1≤2
  rw [ie]
  decide
theorem dQ {x y : Str × List Int}{a b : Addr}{Q : Bool → Shared → Prop}(hu : A.units+8 < cLine)(hx : bB prog w s.heap x a)(hy : bB prog w s.heap y b)(h : Q (decide (x=y)) s) :
    wpAny (model prog w) A (eqBool (.ref a) (.ref b)) Q E s := by
  have d := ig x
  refine SeqAt.eqAt_reads _ _ A s _ _ _ _ hx.reads hy.reads (eA hx.ok) (eA hy.ok) (by omega) prog w E Q ?_
  rw [jE]
  exact h
theorem eX {m : Nat}{a : Addr}{o : Obj}{its : Array Value}{n : Nat}{Q : Bool → Shared → Prop}(g : s.heap.get? a=some o)(c : o.cls = .type "tuple")(dt : o.data = .seq its n)(all : ∀ v∈its.toList, ∀ R : Bool → Shared → Prop, R true s → wpAny (model prog w) A (eqIsQuiet m v) R E s)
    (fin : Q true s) : wpAny (model prog w) A (eqIsQuiet (m+1) (.ref a)) Q E s := by
  have ty : s.TypeIs (.ref a) "tuple" := ⟨o, g, c⟩
  unfold eqIsQuiet
  refine wX (y8 ty F.slot_tuple_eq.lookup (show wpAny _ A (isInstance (Value.ref a) (Value.type "tuple") >>= _) Q E s from wX (Ab ty isSubtype_tuple_tuple ?_)))
  simp only [Bool.not_true, zA, ↓reduceIte]
  refine wX (Bd g dt (wX (show wpAny _ A (forIn its _ _) _ E s from ?_)))
  rw [← Array.forIn_toList]
  generalize its.toList=vs at all
  induction vs with
  | nil => rw [List.forIn_nil];exact w6 (w6 fin)
  | cons v r ih =>
    rw [Ao]
    refine wX (wX (all v xt _ ?_))
    simp only [Bool.not_true, zA, ↓reduceIte]
    exact w6 (ih fun u hu => all u (xk _ hu))
theorem eY {m : Nat}{v : Value}{R : Bool → Shared → Prop}(c : carriedByValue v=true)(r : R true s) : wpAny (model prog w) A (eqIsQuiet m v) R E s := by
  rw [eqIsQuiet_byValue m c]
  exact w6 r
theorem cT {k : Str × List Int}{a : Addr}{Q : Bool → Shared → Prop}(hk : bB prog w s.heap k a)(h : Q true s) : wpAny (model prog w) A (eqIsQuiet 8 (.ref a)) Q E s := by
  obtain ⟨o, t, b, n, h1, h2, h3, ⟨o2, its, n2, g1, g2, g3, g4⟩, _⟩ := hk
  refine eX h1 h2 h3 (fun v hv R r => ?_) h
  simp only [xr, xE, yF] at hv
  rcases hv with rfl | rfl
  · exact eY rfl r
  · exact eX g1 g2 g3 (fun u hu R r => eY (g4.byValue u hu) r) r
end
def eB (prog : Program)(w : World) : HeapKind prog w (Str × List Int) where
  is := bB prog w
  hash := jC prog w
  draws := fun k => k.2.length+3
  room := fun A => A.units+8 < cLine
  inj := fun hx hy => hx.inj hy
  keeps := fun x ho hd hs => x.keeps ho hd hs
  pyHash := fun hu hk h => dP hu hk h
  eqBool := fun hu hx hy h => dQ hu hx hy h
  quiet := fun hk h => cT hk h
end PySem
namespace L2
open PySem PySem.Spec PyProof.Rows
abbrev NE := (Str × List Int) × Addr × Int
inductive NEs : List NE → List ((Str × List Int) × Addr × Value) → Prop
  | nil : NEs [] []
  | cons {k : Str × List Int} {a : Addr} {i : Int} {t : Tok} {es : List NE} {xs : List ((Str × List Int) × Addr × Value)} (h : NEs es xs) : NEs ((k, a, i)::es) ((k, a, .int i t)::xs)
def nd (P : Program)(w : World)(d : Addr)(es : List NE) : Heap → Prop := fun h =>
  es.length≤sizeLine ∧ (d == sysModules)=false ∧ (es.map (·.1)).Nodup ∧ ∃ xs, NEs es xs ∧ ∃ o en ep, h.get? d=some o ∧ o.ExactDict ∧ o.data = .dict en ep ∧ en.toList=xs.map (entryOfKey (eB P w))
abbrev Nd (P : Program)(w : World)(d : Addr)(es : List NE) : HO := .ext (nd P w d es)
theorem tI {P : Program}{w : World}{H : Hp}{h : Heap}{d : Addr}{es : List NE}(x : nd P w d es h) : bg P w H h d (Nd P w d es) := by
  refine ⟨x, ?_, fun h1 h2 y k => ?_⟩
  · obtain ⟨_, _, _, xs, _, o, _, _, ho, _⟩ := x
    exact ⟨o, ho⟩
  · obtain ⟨y1, y2, y3, xs, y4, o, en, ep, ho, y5⟩ := y
    exact ⟨y1, y2, y3, xs, y4, o, en, ep, k _ ho, y5⟩
theorem NEs.keys {es : List NE}{xs : List ((Str × List Int) × Addr × Value)}(h : NEs es xs) : xs.map (·.1)=es.map (·.1) := by
  induction h with
  | nil => rfl
  | cons _ ih => rw [xv, xv, ih]
theorem NEs.length {es : List NE}{xs : List ((Str × List Int) × Addr × Value)}(h : NEs es xs) : xs.length=es.length := by
  have := xA List.length h.keys
  rwa [fu, fu] at this
theorem NEs.mem {es : List NE}{xs : List ((Str × List Int) × Addr × Value)}(h : NEs es xs){x : (Str × List Int) × Addr × Value}(hx : x∈xs) : ∃ i, (x.1, x.2.1, i)∈es := by
  induction h with
  | nil => cases hx
  | cons _ ih =>
    rcases xr.mp hx with rfl | hx
    · exact ⟨_, xt⟩
    · obtain ⟨i, hi⟩ := ih hx
      exact ⟨i, xk _ hi⟩
def qS (es : List NE)(k : Str × List Int) : Option Int := (es.find? fun e => decide (e.1=k)).map (·.2.2)
theorem NEs.val {es : List NE}{xs : List ((Str × List Int) × Addr × Value)}(h : NEs es xs){k : Str × List Int}{i : Int}(e : qS es k=some i) : ∃ p t, atKey xs k=some p ∧ p.2 = .int i t := by
  induction h with
  | nil => cases e
  | @cons k' a' i' t' es' xs' h ih =>
    unfold qS at e
    unfold atKey
    by_cases c : k'=k
    · rw [zI (by simpa using c)] at e ⊢
      have e : i'=i := xb e
      exact ⟨(a', .int i' t'), t', rfl, by rw [e]⟩
    · rw [zJ (by simpa using c)] at e ⊢
      exact ih e
def ou (es : List NE)(k : Str × List Int)(a : Addr)(i : Int) : List NE := if k∈es.map (·.1) then es.map fun e => if e.1=k then (e.1, e.2.1, i) else e else es++[(k, a, i)]
structure kh (H : Hp) (k : Str × List Int) (a : Addr) : Prop where
  ex : ∃ b, H a=some (.tup [.str k.1, .ref b]) ∧ H b=some (.tup (k.2.map V.int))
  ok : PyData.strOk k.1=true
theorem jG {P : Program}{w : World} : ∀ {ks : List Int} {us : List Value}, aZ (ks.map V.int) us → ItemsAre (intKind P w) ks us
  | [], _, r => by rw [Aw] at r;cases r;exact .nil
  | k::ks, _, r => by
    rw [xv] at r
    cases r with
    | cons h t =>
      obtain ⟨u, rfl⟩ := h
      exact .cons (by simp [intKind, Value.isInt]) (jG t)
theorem iN {P : Program}{w : World}{H : Hp}{h : Heap}{k : Str × List Int}{a : Addr}(ok : HOk P w H h)(q : kh H k a) : bB P w h k a := by
  obtain ⟨b, e, eb⟩ := q.ex
  obtain ⟨_, its, r, ⟨o, h1, h2, n, h3⟩, _⟩ := (show bg P w H h a (.tup [.str k.1, .ref b]) from ok a _ e)
  obtain ⟨_, its2, r2, ⟨o2, g1, g2, n2, g3⟩, _⟩ := (show bg P w H h b (.tup (k.2.map V.int)) from ok b _ eb)
  cases r with
  | cons r1 r =>
    cases r with
    | cons r3 r =>
      cases r
      obtain ⟨t, rfl⟩ := r1
      cases r3
      exact ⟨o, t, b, n, h1, h2, h3, ⟨o2, its2.toArray, n2, g1, g2, g3, by simpa using jG r2⟩, q.ok⟩
theorem tJ {P : Program}{w : World}{H : Hp}{h : Heap}{d : Addr}{es : List NE}(ok : HOk P w H h)(e : H d=some (Nd P w d es))(hk : ∀ x∈es, kh H x.1 x.2.1) :
    es.length≤sizeLine ∧ (d == sysModules)=false ∧ ∃ xs, NEs es xs ∧ h.DictOfH (eB P w) d xs := by
  obtain ⟨z, y, nk, xs, r, o, en, ep, h1, h2, h3, h4⟩ : nd P w d es h := (ok d _ e).1
  refine ⟨z, y, xs, r, o, en, ep, h1, h2, h3, h4, fun x hx => ?_, by rw [r.keys];exact nk⟩
  obtain ⟨i, hi⟩ := r.mem hx
  exact iN ok (hk _ hi)
theorem j9 {es : List NE}{xs : List ((Str × List Int) × Addr × Value)}(h : NEs es xs)(k : Str × List Int)(a : Addr)(i : Int)(t : Tok) : NEs (ou es k a i) (storedH xs k a (.int i t)) := by
  have hk : (atKey xs k).isSome=true ↔ k∈es.map (·.1) := by
    unfold atKey
    rw [Option.isSome_map, List.find?_isSome, ← h.keys, xC]
    constructor
    · rintro ⟨x, hx, e⟩
      exact ⟨x, hx, by simpa using e⟩
    · rintro ⟨x, hx, e⟩
      exact ⟨x, hx, by simpa using e⟩
  have mp : ∀ {es : List NE} {xs : List ((Str × List Int) × Addr × Value)}, NEs es xs → NEs (es.map fun e => if e.1=k then (e.1, e.2.1, i) else e) (xs.map (putAt k (.int i t))) := by
    intro es xs h
    induction h with
    | nil => exact .nil
    | @cons k' a' i' t' es' xs' h ih =>
      rw [xv, xv]
      unfold putAt
      by_cases c : k'=k
      · rw [if_pos c, if_pos c]
        exact .cons ih
      · rw [if_neg c, if_neg c]
        exact .cons ih
  have ap : ∀ {es : List NE} {xs : List ((Str × List Int) × Addr × Value)}, NEs es xs → NEs (es++[(k, a, i)]) (xs++[(k, a, .int i t)]) := by
    intro es xs h
    induction h with
    | nil => exact .cons .nil
    | cons _ ih => exact .cons ih
  unfold ou storedH
  by_cases c : k∈es.map (·.1)
  · rw [if_pos c, if_pos (hk.mpr c)]
    exact mp h
  · rw [if_neg c, if_neg fun q => c (hk.mp q)]
    exact ap h
section
variable {X : Cx} {pins : List (Addr × Obj)} {σ : St} {H : Hp} {s : Shared} {d b : Addr} {es : List NE} {k : Str × List Int} {A : Around} {E : Value → Shared → Prop}
theorem lT {i : Int}{Q : Value → Shared → Prop}(hu : A.units+9 < cLine)(I : Inv X pins σ H s)(e : H d=some (Nd X.prog X.w d es))(hk : ∀ x∈es, kh H x.1 x.2.1)(eb : kh H k b)(hv : qS es k=some i)(h : ∀ w' s', Inv X pins σ H s' → bz (.int i) w' → Q w' s') :
    wpAny (model X.prog X.w) A (getItem (.ref d) (.ref b)) Q E s := by
  obtain ⟨z, hd, xs, rel, dd⟩ := tJ I.hok e hk
  obtain ⟨p, t, hp, hp2⟩ := rel.val hv
  refine wpAny_getItem_heap (knd := eB X.prog X.w) (by show A.units+1+8 < cLine;omega) (iN I.hok eb) dd hp ?_
  rw [hp2]
  exact h _ _ (I.tok _) ⟨t, rfl⟩
theorem ow (es : List NE)(k : Str × List Int)(a : Addr)(i : Int) : (ou es k a i).length≤es.length+1 := by
  unfold ou
  split
  · rw [fu];omega
  · rw [w4];exact wZ _
theorem lU {i : Int}{r : Value}{Q : Unit → Shared → Prop}(hu : A.units+9 < cLine)(I : Inv X pins σ H s)(e : H d=some (Nd X.prog X.w d es))(hk : ∀ x∈es, kh H x.1 x.2.1)(eb : kh H k b)(hl : es.length < sizeLine)(rv : bz (.int i) r)
    (h : ∀ s', Inv X pins σ (upd H d (Nd X.prog X.w d (ou es k b i))) s' → Q () s') : wpAny (model X.prog X.w) A (setItem (.ref d) (.ref b) r) Q E s := by
  obtain ⟨z, hd, xs, rel, dd⟩ := tJ I.hok e hk
  obtain ⟨t, rfl⟩ := rv
  refine wpAny_setItem_heap (knd := eB X.prog X.w) (hsz := by rw [rel.length];exact z) (by show A.units+1+8 < cLine;omega) (iN I.hok eb) dd fun h' dd' hs => h _ ?_
  obtain ⟨q, en, ep, hq, h2, h3, h4, _, h5⟩ := dd'
  have st := j9 rel k b i t
  have := ow es k b i
  exact fM I (by rw [e];exact True.intro) hs ⟨q, hq⟩ (tI ⟨by omega, hd, by rw [← st.keys];exact h5, _, st, q, en, ep, hq, h2, h3, h4⟩)
theorem lV (I : Inv X pins σ H s)(e : H d=some (Nd X.prog X.w d es)) : s.TypeIs (.ref d) "dict" := by
  obtain ⟨_, _, _, xs, _, o, en, ep, h1, h2, _⟩ : nd X.prog X.w d es s.heap := (I.hok d _ e).1
  exact ⟨o, h1, h2.1⟩
end
theorem ox {P : Program}{w : World}{H : Hp}(h : Heap)(hb : sysModules < h.objs.size) : bg P w H (h.push { cls := .type "dict", data := .dict #[] }) h.objs.size (Nd P w h.objs.size []) :=
  tI ⟨xV _, zk.mpr (Ne.symm (xN hb)), zV, [], .nil, _, #[], 0, xj _ rfl, ⟨rfl, rfl, rfl⟩, rfl, rfl⟩
inductive pS (P : Program)(w : World)(σ : St)(H : Hp)(Q : VK) : Prop
  | mk : (∀ p, H p=none → Q (.ref p) (upd H p (Nd P w p []))) → pS P w σ H Q
inductive qT (P : Program)(w : World)(x y : V)(H : Hp)(Q : VK) : Prop
  | mk : ∀ (d b : Addr) (es : List NE) (k : Str × List Int) (i : Int), (x = .ref d) → (y = .ref b) → (H d=some (Nd P w d es)) → (∀ x∈es, kh H x.1 x.2.1) → (kh H k b) → (qS es k=some i) → (Q (.int i) H) → qT P w x y H Q
inductive tK (P : Program)(w : World)(x y v : V)(H : Hp)(R : Hp → Prop) : Prop
  | mk : ∀ (d b : Addr) (es : List NE) (k : Str × List Int) (i : Int), (x = .ref d) → (y = .ref b) → (v = .int i) → (H d=some (Nd P w d es)) → (∀ x∈es, kh H x.1 x.2.1) → (kh H k b) → (es.length < sizeLine) → (R (upd H d (Nd P w d (ou es k b i)))) → tK P w x y v H R
def vm (P : Program)(w : World)(td ty : TE) : TE := fun σ H Q => td σ H fun x H1 => ty σ H1 fun y H2 => qT P w x y H2 Q
def vn (P : Program)(w : World)(td ty tv : TE) : TS := fun D σ H => tv σ H fun v H1 => td σ H1 fun x H2 => ty σ H2 fun y H3 => tK P w x y v H3 (D.nx σ)
section
variable {X : Cx} {pos pos' : Pos} {o i value : Expr} {td ty tv : TE}
theorem oy {P : Program}{w : World}(hP : X.prog=P)(hw : X.w=w) : PE X (.Dict [] [] pos) (pS P w) := by
  subst hP hw
  exact fun pins s σ H Q I ⟨h⟩ =>
    wpAny_Dict_empty ⟨.ref s.heap.objs.size, _, I.laid (a := s.heap.objs.size) (o := Nd X.prog X.w s.heap.objs.size []) (t' := s.toks) (fun _ _ q => w5 _ q) (wZ _) (ox s.heap I.big), rfl, h _ (I.hok.fresh (wZ _))⟩
theorem jH {P : Program}{w : World}(hP : X.prog=P)(hw : X.w=w)(hu : X.A.units+9 < cLine)(ho : PE X o td)(hi : PE X i ty)(hs : vX i) : PE X (.Subscript o i pos) (vm P w td ty) := by
  subst hP hw
  intro pins s σ H Q I h
  refine qt PySem.F.slot_dict_getitem.lookup hs (thn (ho pins s σ H _ I h) fun u s1 ⟨x, H1, I1, rx, q1⟩ => thn (hi pins s1 σ H1 _ I1 q1) fun iv s2 zq68 => ?_)
  obtain ⟨y, H2, I2, ry, d, b, es, k, j, ex, ey, e, hk, eb, hv, q2⟩ := zq68
  subst ex ey
  obtain rfl : u=Value.ref d := rx
  obtain rfl : iv=Value.ref b := ry
  exact ⟨lV I2 e, lT hu I2 e hk eb hv fun w' s3 I3 rw' => ⟨.int j, H2, I3, rw', q2⟩⟩
theorem oz {P : Program}{w : World}(hP : X.prog=P)(hw : X.w=w)(hu : X.A.units+9 < cLine)(ho : PE X o td)(hi : PE X i ty)(hv : PE X value tv)(hs : swapsWith value (some (.Subscript o i pos')) pos.line X.env=pure false) :
    PS X (.Assign [.Subscript o i pos'] value pos) (vn P w td ty tv) := by
  subst hP hw
  intro pins s σ H D I h
  refine wpAny_Assign_Subscript (thn (hv pins s σ H _ I h) fun r s1 ⟨v, H1, I1, rv, q1⟩ => thn (ho pins s1 σ H1 _ I1 q1) fun u s2 ⟨x, H2, I2, rx, q2⟩ => thn (hi pins s2 σ H2 _ I2 q2) fun iv s3 zq71 => ?_) hs
  obtain ⟨y, H3, I3, ry, d, b, es, k, j, ex, ey, ev, e, hk, eb, hl, q3⟩ := zq71
  subst ex ey ev
  obtain rfl : u=Value.ref d := rx
  obtain rfl : iv=Value.ref b := ry
  exact lU hu I3 e hk eb hl rv fun s4 I4 => ⟨σ, _, I4, q3⟩
end
end L2
namespace L2
open PySem PySem.Spec PyProof.Rows
section
variable {X : Cx}
inductive tL (x : V)(vs : List V)(H : Hp)(Q : VK) : Prop
  | mk : ∀ (l : Addr) (xs : List V) (y : V) (ds : List PyData) (dy : PyData) (j : Nat), (x = .ref l) → (vs=[y]) → (H l=some (.lst xs)) → (Dts H xs ds) → (Dt H y dy) → (PyData.canLayAll0 ds=true) → (dy.canLay0=true) → (PyData.depthAll ds≤9) → (xs.length≤100000) →
      ((ds[j]?).map (fun d => PyData.eqv d dy)=some true) → (∀ i, i < j → (ds[i]?).map (fun d => PyData.eqv d dy)=some false) → (Q (.int (j : Int)) H) → tL x vs H Q
theorem lX {H : Hp}{h : Heap}{P : Program}{w : World}(ok : HOk P w H h) : ∀ {xs : List V} {ds : List PyData} {us : List Value}, Dts H xs ds → aZ xs us → ds.length=us.length ∧ ∀ (i : Nat) (u : Value), us[i]? = some u → ∃ d as, ds[i]? = some d ∧ Reads h u d as
  | _, _, _, .nil, r => by cases r;exact ⟨rfl, fun i u e => by simp at e⟩
  | _, _, _, .cons a q, r => by
    cases r with
    | cons r1 r2 =>
      obtain ⟨hl, hg⟩ := lX ok q r2
      refine ⟨by rw [xM, xM, hl], fun i u e => ?_⟩
      cases i with
      | zero =>
        simp only [List.getElem?_cons_zero, Option.some.injEq] at e
        subst e
        obtain ⟨as, ra⟩ := a.reads ok r1
        exact ⟨_, as, rfl, ra⟩
      | succ i =>
        obtain ⟨d, as, h1, h2⟩ := hg i u (by simpa using e)
        exact ⟨d, as, by simpa using h1, h2⟩
theorem lY : ∀ {ds : List PyData}, PyData.canLayAll0 ds=true → ∀ d∈ds, d.canLay0=true
  | [], _, d, h => by cases h
  | e::r, h, d, hd => by
    have h : (e.canLay0 && PyData.canLayAll0 r)=true := by rw [PyData.canLayAll0] at h;exact h
    rw [xp] at h
    rcases xr.mp hd with rfl | hd
    · exact h.1
    · exact lY h.2 d hd
theorem lZ : ∀ {ds : List PyData}, ∀ d∈ds, d.depth≤PyData.depthAll ds
  | e::r, d, hd => by
    show _≤max e.depth (PyData.depthAll r)
    rcases xr.mp hd with rfl | hd
    · omega
    · have := lZ (ds := r) d hd
      omega
open Classical in
def rS (h : Heap)(dy : PyData)(v : Value) : Bool := if ∃ d as, Reads h v d as ∧ PyData.eqv d dy=true then true else false
theorem l0 {h : Heap}{dy d : PyData}{v : Value}{as : List Addr}(r : Reads h v d as) : rS h dy v=PyData.eqv d dy := by
  unfold rS
  split
  · rename_i q
    obtain ⟨d', as', r', e⟩ := q
    rw [(r.unique _ _ r').1, e]
  · rename_i q
    cases e : PyData.eqv d dy with
    | false => rfl
    | true => exact absurd ⟨d, as, r, e⟩ q
theorem fD (hu : X.A.units+64 < cLine) : MtR X "list.index" tL := by
  intro pins s σ H x vs v us Q I rx rv h
  obtain ⟨l, xs, y, ds, dy, j, rfl, rfl, hH, hd, hy, ld, ly, dp, hn, hit, hno, q⟩ := h
  cases rx
  obtain ⟨u, rfl, ru⟩ := cw rv
  obtain ⟨its, n, r, e, _⟩ := I.lst hH
  obtain ⟨bs, rb⟩ := hy.reads I.hok ru
  obtain ⟨hl, hg⟩ := lX I.hok hd r
  have ev : ∀ (i : Nat) (w : Value), its[i]? = some w → ∃ d, ds[i]? = some d ∧ rS s.heap dy w=PyData.eqv d dy := fun i w ei => by
    obtain ⟨d, as, h1, h2⟩ := hg i w ei
    exact ⟨d, h1, l0 h2⟩
  have hj : j < its.length := by
    cases hq : ds[j]? with
    | none => rw [hq] at hit;cases hit
    | some d => rw [← hl];exact (xh.mp hq).1
  have hxl : its.length=xs.length := r.length.symm
  refine yV F.slot_list_index ⟨_, e, rfl⟩ F.entry_list_index (F.args_list_index_2 _ _) (SeqAt.list_indexAt l _ _ _ _ u (rS s.heap dy) j (by simpa using hj) (by omega) ?_ ?_) ⟨e, fun w hw => ?_, ?_⟩
  · obtain ⟨d, h1, h2⟩ := ev j its[j] (wY hj)
    rw [h1] at hit
    have hit := xb hit
    show rS s.heap dy its.toArray[j]=true
    rw [List.getElem_toArray, h2]
    exact hit
  · intro m hm hmj
    have hm' : m < its.length := by simpa using hm
    obtain ⟨d, h1, h2⟩ := ev m its[m] (wY hm')
    have q := hno m hmj
    rw [h1] at q
    show rS s.heap dy its.toArray[m]=false
    rw [List.getElem_toArray, h2]
    exact xb q
  · have hw : w∈its := by rw [← List.mem_toArray];exact hw
    obtain ⟨i, hi, ei⟩ := yI.mp hw
    obtain ⟨d, as, h1, h2⟩ := hg i w (by rw [wY hi, ei])
    rw [l0 h2]
    have dm := xc h1
    have dd := lZ d dm
    refine SeqAt.eqAt_reads _ _ _ _ _ _ _ _ h2 rb (lY ld d dm) ly ?_
    show X.A.units+1+min d.depth dy.depth < cLine
    omega
  · exact ⟨.int _, H, I.tok _, ⟨_, rfl⟩, q⟩
end
end L2
namespace Wd
open PySem L2
def lcp : List L → List L → List L
  | x::u, y::v => if x=y then x::lcp u v else []
  | _, _ => []
def wN (t o : List L) : Bool := decide (o≠t) && decide (t.length≤6*(lcp t o).length)
end Wd
namespace Kx
open PySem PySem.Spec PyProof.Rows L2 Wd
theorem nl : ¬ ("letter" : Str) = "number" := by decide +kernel
theorem nt : ¬ ("turn" : Str) = "number" := by decide +kernel
theorem tl : ¬ ("turn" : Str) = "letter" := by decide +kernel
end Kx
namespace Kx
open PySem PySem.Spec PyProof.Rows L2 Wd
end Kx
namespace Wd
open PySem L2
end Wd
namespace Kx
open PySem L2 Wd
end Kx
namespace PySem
open Sem (wp)
section
variable {prog : Program} {w : World} {A : Around} {E : Value → Shared → Prop} {s : Shared} {z TI TO i1 i2 : Addr} {x y : Str} {t u : Tok} {k c d : Nat} {a b : Value}
end
end PySem
namespace L2
open PySem PySem.Spec PyProof.Rows
section
variable {X : Cx}
end
end L2
namespace Wd
end Wd
namespace Kx
open PySem PySem.Spec PyProof.Rows L2 Wd
def iv (r : List Nat) : List V := r.map fun i : Nat => V.int (i : Int)
end Kx
namespace Kx
open PySem PySem.Spec PyProof.Rows L2 Wd
end Kx
namespace L2
open PySem PySem.Spec PyProof.Rows Wd
section
variable {X : Cx}
end
end L2
namespace Kx
open PySem PySem.Spec PyProof.Rows L2 Wd
def oL (o : Option (List L)) : List V := o.toList.map tx
end Kx
namespace L2
open PySem PySem.Spec PyProof.Rows Wd
end L2
namespace Kx
open PySem PySem.Spec PyProof.Rows L2 Wd
def XP (C : Addr)(H : Hp)(a : Addr)(z : Str)(k : Nat) : Prop := ∃ dx, H a=some (Exo a C (some dx) false) ∧ H dx=some (Xdt dx [("word", .str z), ("at", .int (k : Nat))])
end Kx
namespace L2
open PySem PySem.Spec PyProof.Rows
theorem fE {α β : Type}{R : α → β → Prop} : ∀ {xs : List α} {ys : List β}, Paired R xs ys → ∀ {i : Nat} {x : α}, xs[i]? = some x → ∃ y, ys[i]? = some y ∧ R x y
  | _, _, .nil, i, x, h => by simp at h
  | _, _, .cons r q, 0, x, h => by cases h;exact ⟨_, rfl, r⟩
  | _, _, .cons r q, i+1, x, h => fE q (i := i) (by simpa using h)
section
variable {X : Cx} {tg : Expr}
end
end L2
namespace PySem
open Sem (wp)
section
variable {prog : Program} {w : World} {A : Around} {E : Value → Shared → Prop} {s : Shared}
end
end PySem
namespace L2
open PySem PySem.Spec PyProof.Rows
theorem l5 {P : Program}{w : World}{H : Hp}{h : Heap}{d : Addr}{o : Obj}{kvs : List (List Key × V)}{es : Array DictEntry}{ep : Nat}(hok : HOk P w H h)(e : H d=some (.frz o (.dT kvs)))(he : o.data = .dict es ep) :
    h.get? d=some o ∧ ∃ xs, KT H kvs xs ∧ es.toList=xs.map (entryOfKey (tupleKind (bo P w))) := by
  obtain ⟨g, z, hd, xs, rel, o', es', ep', g', ex, dt, r, _⟩ := hok d _ e
  rw [g] at g'
  cases g'
  rw [he] at dt
  cases dt
  exact ⟨g, xs, rel, r⟩
section
variable {X : Cx} {tg : Expr}
end
end L2
namespace PySem
open Sem (wp)
namespace F
end F
section
variable {prog : Program} {w : World} {A : Around} {E : Value → Shared → Prop} {s : Shared} {a : Addr} {its : Array Value} {n : Nat} {sl : Array (Option Value)}
end
end PySem
namespace L2
open PySem PySem.Spec PyProof.Rows Wd
theorem iO : ∀ {ns : List Int} {us : List Value}, aZ (ns.map V.int) us → ∃ ps : List (Int × Tok), us=ps.map (fun p => Value.int p.1 p.2) ∧ ps.map Prod.fst=ns
  | [], _, .nil => ⟨[], rfl, rfl⟩
  | n::ns, _, .cons r q => by
    obtain ⟨ps, rfl, e⟩ := iO q
    obtain ⟨t, rfl⟩ := r
    exact ⟨(n, t)::ps, rfl, by rw [xv, e]⟩
section
variable {X : Cx}
inductive fF (K : PySem.W.Frag)(xs : List V)(H : Hp)(Q : VK) : Prop
  | mk : ∀ (l : Addr) (ns : List Int), xs=[.ref l] → SqL K H l (ns.map V.int) → Q (.int ns.sum) H → fF K xs H Q
theorem oA (hc : X.calm=true) : cG X (.builtin "sum") (fF X.K) := by
  intro pins s σ H xs us Q I r h
  obtain ⟨l, ns, rfl, hq, q⟩ := h
  obtain ⟨u, rfl, ru⟩ := cw r
  cases ru
  obtain ⟨its, rv, pl, _⟩ := I.list hq
  obtain ⟨ps, rfl, e⟩ := iO rv
  have hl : s.heap.IsList l (intItems ps.toArray) := by
    have := pl.isList
    unfold intItems
    simpa using this
  refine sum_intListG (I.ok.hd hc) hl fun h' tk t' hk => ?_
  refine ⟨.int ns.sum, H, I.kept hk, ⟨t', ?_⟩, q⟩
  rw [preSum_eq, xR (by simp)]
  have : (ps.toArray.toList.map Prod.fst)=ns := by simpa using e
  exact xA (fun l : List Int => Value.int l.sum t') this
end
section
variable {P : Program} {w : World} {A : Around} {E : Value → Shared → Prop} {I : Addr} {fp wr : List Addr} {G : Array GenState → Array GenState → Prop} {n : Nat} {Pv : Nat → Value → Prop} {St' : Nat → Shared → Prop}
end
end L2
namespace L2
open PySem PySem.Spec PyProof.Rows Wd
section
variable {X : Cx}
end
end L2
namespace L2
open PySem PySem.Spec PyProof.Rows Wd
section
variable {X : Cx}
end
end L2
namespace L2
open PySem PySem.Spec PyProof.Rows Wd
section
variable {X : Cx}
end
end L2
namespace Kx
open PySem PySem.Spec PyProof.Rows L2 Wd
theorem l6 : bootBuiltins "sum" = some (.builtin "sum") := by kernel_rfl
end Kx
namespace L2
open PySem PySem.Spec PyProof.Rows
end L2
namespace Kx
open PySem PySem.Spec PyProof.Rows L2 Wd
theorem lt9 {n c : Nat}(h : n+64 < c) : n+9 < c := by omega
end Kx
namespace L2
open PySem PySem.Spec PyProof.Rows Wd
def VwO (v d : Addr) : HO := .ext fun h => h.IsValuesView v d
theorem VwO.lay {P : Program}{w : World}{H : Hp}{h : Heap}{v d : Addr}(x : h.IsValuesView v d) : bg P w H h v (VwO v d) := by
  refine ⟨x, ?_, fun h1 h2 y k => ?_⟩
  · obtain ⟨o, e, _⟩ := x
    exact ⟨o, e⟩
  · obtain ⟨o, e, r⟩ := y
    exact ⟨o, k _ e, r⟩
section
variable {X : Cx} {o : Expr} {apos cpos : Pos} {to : TE}
end
end L2
namespace PySem
open Sem (wp)
section
variable {prog : Program} {w : World} {A : Around} {E : Value → Shared → Prop} {s : Shared}
theorem oB {it d : Addr}{i ep : Nat}{od : Obj}{es : Array DictEntry}{Q : Option Value → Shared → Prop}(st : s.heap.IsValIter it d i es.size ep)(g : s.heap.get? d=some od)(dt : od.data = .dict es ep)(hi : i < es.size)
    (fin : ∀ h', h'.IsValIter it d (i+1) es.size ep → Heap.SameBut it s.heap h' → Q (some es[i].val) { s with heap := h' }) : wpAny (model prog w) A (pyNext (.ref it)) Q E s := by
  have ty := st.typeIs
  have sl := z5
  obtain ⟨o, ho, hc, hd⟩ := id st
  unfold pyNext
  refine wX (zC (xJ (name := Str.ofString "__next__") ty sl (xS sl ty zS ?_ (zF _))))
  obtain ⟨hp, gn, dr, tk, os⟩ := s
  repeat (first | with_reducible refine zT ho ?_ | with_reducible refine zT g ?_ | wp_step)
  have own : Builtin.Dict_items.ownsTuple ((Manifest.find? "dict_valueiterator").elim "dict_valueiterator" fun x => x.tpName)=false := by kernel_rfl
  have fl : wpAny (model prog w) A.in1 (match o.data with | Data.fields vs => pure vs | x => unsupported "internal:no-fields") (fun a s' => a=#[Value.ref d, Value.int (↑i) 0, Value.int (↑es.size) 0, Value.int (↑ep) 0] ∧ s'=⟨hp, gn, dr, tk, os⟩) (fun _ _ => False) ⟨hp, gn, dr, tk, os⟩ := by
    rw [hd]
    exact w6 ⟨rfl, rfl⟩
  refine yr fl (fun a s' q => ?_) fun _ _ q => q.elim
  obtain ⟨rfl, rfl⟩ := q
  rw [own]
  show wpAny _ _ (if (Value.ref d == Value.none)=true then _ else _) _ _ _
  rw [if_neg (by intro z;cases z)]
  refine wX (w6 (wX (zU g dt ?_)))
  dsimp only
  rw [if_neg (by simp)]
  refine wX (w6 (wX (A_ g dt ?_)))
  rw [if_neg (by simp)]
  refine w6 ?_
  dsimp only
  rw [if_neg (by omega), xB, yk hi]
  dsimp only
  let up := fun x : Array Value => x.setIfInBounds 1 (rawInt ((i : Int)+1))
  have st2 : (hp.update it (Obj.mapFields up)).IsValIter it d (i+1) es.size ep := by
    refine ⟨_, yE _ ho (y_ (yf hd _)), ?_, ?_⟩
    · rw [AL];exact hc
    · rw [yf hd];simp [up, rawInt]
  refine wX (wX (Ac ty (w6 (wX (z6 ty (show wpAny _ _ (setField (Value.ref it) 1 (rawInt ((i : Int)+1)) >>= _) _ _ _ from wX (yW ho hd (by simp) ?_)))))))
  refine wX (yQ (wX (z6 (s := ⟨hp.update it (Obj.mapFields up), gn, dr, tk, os⟩) st2.typeIs ?_)))
  rw [if_neg (by decide)]
  refine wX (z6 (s := ⟨hp.update it (Obj.mapFields up), gn, dr, tk, os⟩) st2.typeIs ?_)
  rw [if_pos (by decide)]
  exact w6 (w6 ⟨_, rfl, w6 (fin _ st2 (yR ..))⟩)
theorem qU {it d : Addr}{i ep : Nat}{od : Obj}{es : Array DictEntry}{Q : Option Value → Shared → Prop}(hh : A.handled=none)(st : s.heap.IsValIter it d i es.size ep)(g : s.heap.get? d=some od)(dt : od.data = .dict es ep)(hi : es.size≤i)
    (fin : ∀ h', Heap.ExtBut it s.heap h' → Q none { s with heap := h' }) : wpAny (model prog w) A (pyNext (.ref it)) Q E s := by
  have ty := st.typeIs
  have sl := z5
  obtain ⟨o, ho, hc, hd⟩ := id st
  unfold pyNext
  refine wX (zC (xJ (name := Str.ofString "__next__") ty sl (xS sl ty zS ?_ (zF _))))
  obtain ⟨hp, gn, dr, tk, os⟩ := s
  repeat (first | with_reducible refine zT ho ?_ | with_reducible refine zT g ?_ | wp_step)
  have own : Builtin.Dict_items.ownsTuple ((Manifest.find? "dict_valueiterator").elim "dict_valueiterator" fun x => x.tpName)=false := by kernel_rfl
  have fl : wpAny (model prog w) A.in1 (match o.data with | Data.fields vs => pure vs | x => unsupported "internal:no-fields") (fun a s' => a=#[Value.ref d, Value.int (↑i) 0, Value.int (↑es.size) 0, Value.int (↑ep) 0] ∧ s'=⟨hp, gn, dr, tk, os⟩) (fun _ _ => False) ⟨hp, gn, dr, tk, os⟩ := by
    rw [hd]
    exact w6 ⟨rfl, rfl⟩
  refine yr fl (fun a s' q => ?_) fun _ _ q => q.elim
  obtain ⟨rfl, rfl⟩ := q
  rw [own]
  show wpAny _ _ (if (Value.ref d == Value.none)=true then _ else _) _ _ _
  rw [if_neg (by intro z;cases z)]
  refine wX (w6 (wX (zU g dt ?_)))
  dsimp only
  rw [if_neg (by simp)]
  refine wX (w6 (wX (A_ g dt ?_)))
  rw [if_neg (by simp)]
  refine w6 ?_
  dsimp only
  rw [if_neg (by omega), xB, A4 hi]
  dsimp only
  refine wX (wX (Ac ty (w6 (show wpAny _ _ (setField (Value.ref it) 0 Value.none >>= _) _ _ _ from wX (yW ho hd (by simp) ?_)))))
  have hh1 : A.in1.handled=none := hh
  simp only [newExc, newTuple, raiseNew]
  refine wX (wX (xO (wX (m := firstArgMember _ _) (zP (a := Value.none) rfl (xO (wX (wpAny_handled ?_)) (by size_fits)))) (by size_fits)))
  rw [hh1]
  exact wpAny_throw (wX (Ab (T := "StopIteration") (b := true) ⟨_, xj _ rfl, rfl⟩ Bc (w6 (fin _ (((yR ..).extBut.push _).push _)))))
theorem l7 {v d : Addr}{ep : Nat}{od : Obj}{es : Array DictEntry}{Q : Value → Shared → Prop}(hv : s.heap.IsValuesView v d)(g : s.heap.get? d=some od)(dt : od.data = .dict es ep)
    (fin : Q (.ref s.heap.objs.size) { s with heap := s.heap.push { cls := .type "dict_valueiterator", data := .fields #[.ref d, .int 0 0, .int es.size 0, .int ep 0] } }) : wpAny (model prog w) A (pyIter (.ref v)) Q E s := by
  obtain ⟨ov, hov, hcv, hdv⟩ := id hv
  refine wpAny_pyIter_slot hv.typeIs F.slot_dict_values_iter (xS F.slot_dict_values_iter hv.typeIs F.entry_dict_values_iter ?_ (F.args_dict_values_iter_1 _))
  unfold Builtin.«dict_values.__iter__»
  refine wX (w6 ?_)
  refine wX ?_
  unfold Builtin.Dict_items.dictOf
  refine wX (x_ hov hdv (x := .ref d) rfl (w6 ?_))
  refine wX ?_
  unfold Builtin.Dict_items.newIterator
  refine wX (zU g dt ?_)
  refine wX (A_ g dt ?_)
  have hown : Builtin.Dict_items.ownsTuple "dict_valueiterator" = false := by decide
  simp only [hown, zA, Be]
  refine xO (w6 ⟨_, rfl, "dict_valueiterator", _, ⟨_, xj _ rfl, rfl⟩, z5.lookup, ?_⟩)
  simpa [rawInt] using fin
end
end PySem
namespace L2
open PySem PySem.Spec PyProof.Rows
theorem eZ (d : Addr)(hd : (d == sysModules)=false){prog : Program}{w : World} :
    MeetsIn prog w (Builtin.«dict.values» ⟨[.ref d], []⟩) (fun _ R s => s.TypeIs (.ref d) "dict" ∧ R (.ok (.ret (.ref s.heap.objs.size))) { s with heap := s.heap.push { cls := .type "dict_values", data := .fields #[.ref d] } }) :=
  .of_wp fun A R s ⟨hm, h⟩ => by
    refine wX ?_
    unfold Builtin.Dict.noArgs
    refine wX (wpAny_notOrdered_dict hm ?_)
    show wpAny _ _ (pure d) _ _ s
    refine w6 ?_
    show wpAny _ _ (Builtin.Dict.showsAll d >>= _) _ _ s
    unfold Builtin.Dict.showsAll
    rw [if_neg (by rw [hd];exact xu)]
    refine wX (w6 ?_)
    exact wX (xO (w6 ⟨_, rfl, h⟩))
def rT (d : Addr)(o : Obj)(kvs : List (List Key × V)) : It := ⟨fun i H => i < kvs.length ∧ H d=some (.frz o (.dT kvs)), fun i H x H' => H'=H ∧ ∃ k, kvs[i]? = some (k, x), fun i H => i=kvs.length ∧ H d=some (.frz o (.dT kvs))⟩
theorem j_ {P : Program}{w : World}{K : PySem.W.Frag}{tg : Expr}{d it : Addr}{o : Obj}{es : Array DictEntry}{ep : Nat}{kvs : List (List Key × V)}(he : o.data = .dict es ep)(hz : es.size=kvs.length) : pe P w K tg (rT d o kvs) [it] it (fun i h => h.IsValIter it d i es.size ep) where
  mem := by simp
  obj := fun i h st b hb => by
    have e : b=it := by simpa using hb
    subst e
    obtain ⟨o, e, c, dd⟩ := st
    exact ⟨o, e, fun v z => by rw [dd] at z;cases z⟩
  keep := fun i h h' st kk => let ⟨o, ho, r⟩ := st;⟨o, kk it (by simp) _ ho, r⟩
  item := by
    intro X hP hw hK hc i pins s σ H E I hf st hg
    subst hP hw hK
    obtain ⟨hi, e⟩ := hg
    obtain ⟨f0, f1, f2, f3, f4, f5⟩ := hf it (by simp)
    obtain ⟨g, xs, rel, r⟩ := l5 I.hok e he
    obtain ⟨p, hp⟩ : ∃ p, kvs[i]? = some p := ⟨_, wY hi⟩
    obtain ⟨p', hp', ek, eb, rv⟩ := fE rel hp
    have hi2 : i < es.size := by omega
    have key : es[i].val=p'.2.2 := by
      have q : es.toList[i]? = some (entryOfKey (tupleKind (bo X.prog X.w)) p') := by rw [r, w_, hp'];rfl
      have q2 : es.toList[i]? = some es[i] := by rw [zX, yk hi2]
      rw [q2] at q
      rw [xb q]
      rfl
    refine oB st g he hi2 fun h' st' hsb => ⟨_, rfl, ?_⟩
    refine letGo_valiter (s' := { s with heap := h' }) st' ⟨p.2, H, ?_, by rw [key];exact rv, ⟨rfl, p.1, hp⟩, st', fun b hb => (hf b hb).1⟩
    exact I.turned (t' := s.toks) (fun b o hb e => by rw [hsb.2 b hb];exact e) f0 f1 f3 f4 f5
  done := by
    intro X hP hw hK hc i pins s σ H E I hf st hg
    subst hP hw hK
    obtain ⟨hi, e⟩ := hg
    obtain ⟨f0, f1, f2, f3, f4, f5⟩ := hf it (by simp)
    obtain ⟨g, xs, rel, r⟩ := l5 I.hok e he
    refine qU (I.ok.hd hc) st g he (by omega) fun h' hx => ⟨rfl, ?_⟩
    exact I.turned (t' := s.toks) (fun b o hb e => hx b o hb e) f0 f1 f3 f4 f5
  self := fun A i s Q E st h => wpAny_pyIter_valiter st h
section
variable {X : Cx} {tg o : Expr} {apos cpos : Pos} {to : TE}
inductive jI (R : It → Hp → Prop)(x : V)(H1 : Hp) : Prop
  | mk : ∀ d kvs, (x = .ref d) → (H1 d=some (.dT kvs)) → (∀ o v H2, H1 v=none → H2 d=some (.frz o (.dT kvs)) → (∀ b, b≠d → b≠v → H2 b=H1 b) → R (rT d o kvs) H2) → jI R x H1
def tN (to : TE) : TI := fun σ H R => to σ H (jI R)
theorem oD (ho : PE X o to)(hbase : attributeBase o "values" X.env (eval o X.env)=eval o X.env := by rfl)(hline : (apos.endLine == cpos.line)=true := by rfl) : PI X tg (.Call (.Attribute o "values" apos) [] [] cpos) (tN to) := by
  intro pins s σ H R I h
  refine wpAny_Call_method0_late hbase hline (thn (ho pins s σ H _ I h) fun v s1 zq65 => ?_)
  obtain ⟨x, H1, I1, r1, d, kvs, rfl, e, q⟩ := zq65
  cases r1
  obtain ⟨t1, t2, hd⟩ := sP I1 (.inr ⟨kvs, .inl e⟩)
  refine ⟨"dict", "dict.values", PySem.F.plainAttrs_dict, AM, PySem.F.type_dict_values, t1, t2, zH rfl (PySem.evalArgs_none ?_)⟩
  refine call_meetsIn AM t1 PySem.F.entry_dict_values (PySem.F.args_dict_values_1 _) (eZ d hd) ⟨t1, ?_⟩
  have hv : H1 s1.heap.objs.size=none := I1.hok.fresh (wZ _)
  have I2 : Inv X pins σ (upd H1 s1.heap.objs.size (VwO s1.heap.objs.size d)) { s1 with heap := s1.heap.push { cls := .type "dict_values", data := .fields #[.ref d] }, toks := s1.toks } := I1.laid (t' := s1.toks) (fun b o e => w5 _ e) (wZ _) (VwO.lay ⟨_, xj _ rfl, rfl, rfl⟩)
  have nv : d≠s1.heap.objs.size := ak e hv
  have e2 : (upd H1 s1.heap.objs.size (VwO s1.heap.objs.size d)) d=some (.dT kvs) := by rw [ay nv];exact e
  have view : Heap.IsValuesView (s1.heap.push { cls := .type "dict_values", data := .fields #[.ref d] }) s1.heap.objs.size d := ⟨_, xj _ rfl, rfl, rfl⟩
  have k2 : ∀ b, b≠d → b≠s1.heap.objs.size → (upd H1 s1.heap.objs.size (VwO s1.heap.objs.size d)) b=H1 b := fun b _ nb => ay nb
  generalize hs2 : ({ s1 with heap := s1.heap.push { cls := .type "dict_values", data := .fields #[.ref d] }, toks := s1.toks } : Shared)=s2 at I2
  generalize upd H1 s1.heap.objs.size (VwO s1.heap.objs.size d)=H2 at I2 e2 k2
  have view2 : s2.heap.IsValuesView s1.heap.objs.size d := by rw [← hs2];exact view
  show wpAny _ _ (pyIter (.ref s1.heap.objs.size)) _ _ _
  obtain ⟨z, hd, xs, rel, o, es, ep, g, ex, he, r, nd⟩ := (show bg X.prog X.w H2 s2.heap d (.dT kvs) from I2.hok d _ e2)
  have hz : es.size=kvs.length := by rw [← yh, r, fu];exact (zt rel).symm
  have I3 : Inv X pins σ (upd H2 d (.frz o (.dT kvs))) s2 := by
    refine fM (t' := s2.toks) I2 (by rw [e2];exact True.intro) ⟨rfl, fun _ _ => rfl⟩ ⟨o, g⟩ ⟨g, z, hd, xs, KT.keeps rel fun c ys ec => ?_, o, es, ep, g, ex, he, r, nd⟩
    rw [ay (cH ec e2 (fun z => nomatch z))]
    exact ec
  refine l7 view2 g he ?_
  refine ⟨s2.heap.objs.size, [s2.heap.objs.size], _, rT d o kvs, _, rfl, I3.kept (t' := s2.toks) fun b o e => w5 _ e, j_ he hz, ⟨_, xj _ rfl, rfl, rfl⟩, fun b hb => ?_, q o s1.heap.objs.size _ hv ab fun b nb nv => by rw [ay nb];exact k2 b nb nv⟩
  have e : b=s2.heap.objs.size := by simpa using hb
  subst e
  exact I3.fpOk (wZ _) (I3.hok.fresh (wZ _))
end
end L2
namespace L2
open PySem PySem.Spec PyProof.Rows Wd
section
variable {X : Cx}
inductive e6 (K : PySem.W.Frag)(xs : List V)(H : Hp)(Q : VK) : Prop
  | mk : ∀ (l : Addr) (ns : List Int), xs=[.ref l] → SqT K H l (ns.map V.int) → Q (.int ns.sum) H → e6 K xs H Q
theorem dz (hc : X.calm=true) : cG X (.builtin "sum") (e6 X.K) := by
  intro pins s σ H xs us Q I r h
  obtain ⟨l, ns, rfl, hq, q⟩ := h
  obtain ⟨u, rfl, ru⟩ := cw r
  cases ru
  obtain ⟨its, rv, pl, _⟩ := I.tuple hq
  obtain ⟨ps, rfl, e⟩ := iO rv
  have hl : s.heap.IsTuple l (intItems ps.toArray) := by
    obtain ⟨o, h1, h2, n, h3⟩ := pl
    refine ⟨o, h1, h2, n, ?_⟩
    rw [h3]
    unfold intItems
    simp
  have hlt : l < s.heap.objs.size := by
    obtain ⟨o, h1, _⟩ := hl
    exact xm h1
  refine call_sum_walkG (y6 hl ?_)
  refine ⟨_, _, _, _, _, _, numAt ps.toArray, rfl, Walks.tuple (A := X.A.in1) (I.ok.hd hc) _ l (xN hlt) (intItems ps.toArray), ⟨⟨_, xj _ rfl, rfl, rfl⟩, hl.at fun o e => w5 _ e⟩, fun b hb => ?_, (fun _ _ => intItems_at), fun h' tk t' hk => ?_⟩
  · have hb : b=s.heap.objs.size ∨ b=l := by simpa using hb
    have e : (s.heap.push { cls := .type "tuple_iterator", data := .fields #[.ref l, .int 0 0] }).objs.size=s.heap.objs.size+1 := Array.size_push ..
    show b < (s.heap.push _).objs.size
    rw [e]
    rcases hb with rfl | rfl
    · exact A1 _
    · exact Nat.lt_succ_of_lt hlt
  · have old : ∀ b o, s.heap.get? b=some o → h'.get? b=some o := fun b o e => hk b o (fun z => by rw [xf.mp z] at e;exact absurd (xm e) (xU _)) (w5 _ e)
    refine ⟨.int ns.sum, H, I.kept old, ⟨t', ?_⟩, q⟩
    have e2 : (intItems ps.toArray).size=ps.toArray.size := by unfold intItems;simp
    rw [e2, preSum_eq, xR (by simp)]
    have : (ps.toArray.toList.map Prod.fst)=ns := by simpa using e
    exact xA (fun l : List Int => Value.int l.sum t') this
theorem ij {prog : Program}{w : World}{d : Addr}(hd : (d == sysModules)=false) :
    MeetsIn prog w (Builtin.«dict.__len__» ⟨[.ref d], []⟩) (fun _ R s => ∃ (o : Obj) (es : Array DictEntry) (ep : Nat), s.heap.get? d=some o ∧ o.data = .dict es ep ∧ R (.ok (.ret (.int es.size s.toks))) { s with toks := s.toks+1 }) :=
  .of_wp fun A R s ⟨o, es, ep, ho, hdat, h⟩ => by
    show wpAny _ _ (dictSize d >>= _) _ _ s
    unfold dictSize
    refine wX (wX (zU ho hdat (w6 ?_)))
    show wpAny _ _ (Builtin.Dict.pendingCount d >>= _) _ _ s
    refine wX (wpAny_pendingCount_other hd ?_)
    refine wpAny_ret_mkInt ?_
    rw [Nat.add_zero];exact h
theorem iP {prog : Program}{w : World}{A : Around}{E : Value → Shared → Prop}{s : Shared}{d : Addr}{o : Obj}{es : Array DictEntry}{ep : Nat}{Q : Value → Shared → Prop}(hd : (d == sysModules)=false)(ho : s.heap.get? d=some o)(ex : o.ExactDict)(hdat : o.data = .dict es ep)(hfit : (es.size : Int) < 2 ^ 63)
    (h : Q (.int es.size (s.toks+1)) { s with toks := s.toks+1+1 }) : wpAny (model prog w) A (Builtin.«len» ⟨[.ref d], []⟩) (fun fin s' => ∃ r, fin = .done (.ret r) ∧ Q r s') E s := by
  have ty : s.TypeIs (.ref d) "dict" := ⟨o, ho, ex.1⟩
  unfold Builtin.«len»
  refine wX (m := oneArg "len" _) (w6 ?_)
  refine wX (m := callSpecial? (.ref d) (Str.ofString "__len__")) (xJ (name := Str.ofString "__len__") ty F.slot_dict_len
    (call_meetsIn F.slot_dict_len ty F.entry_dict_len (F.args_dict_len_1 _) (ij hd) ⟨o, es, ep, ho, hdat, ?_⟩))
  show wpAny _ _ _ _ _ { s with toks := s.toks+1 }
  refine wX (yQ (w6 ?_))
  refine wX (wpAny_letGo ?_)
  show wpAny _ _ (if ((es.size : Nat) : Int) < 0 then _ else _) _ _ _
  rw [if_neg (by omega)]
  show wpAny _ _ (if ((es.size : Nat) : Int)≥2 ^ 63 then _ else _) _ _ _
  rw [if_neg (by omega)]
  exact wX (wpAny_mkInt (w6 ⟨_, rfl, h⟩))
inductive d9 (xs : List V)(H : Hp)(Q : VK) : Prop
  | mk : ∀ a kvs, (xs=[V.ref a]) → (H a=some (.dT kvs)) → (Q (.int kvs.length) H) → d9 xs H Q
theorem ka : cG X (.builtin "len") d9 := by
  intro pins s σ H xs us Q I r h
  obtain ⟨a, kvs, rfl, ha, q⟩ := h
  obtain ⟨u, rfl, ru⟩ := cw r
  cases ru
  obtain ⟨z, hd, ys, rel, o, es, ep, g, ex, he, r, nd⟩ := (show bg X.prog X.w H s.heap a (.dT kvs) from I.hok a _ ha)
  have hz : es.size=kvs.length := by rw [← yh, r, fu];exact (zt rel).symm
  have e16 : sizeLine=16777216 := zN
  refine Calls.call_function_entry kind_len plain_len entry_len (args_len1 _) (iP hd g ex he (by rw [hz];omega) ?_)
  rw [hz]
  exact ⟨.int kvs.length, H, I.tok _, ⟨_, rfl⟩, q⟩
end
end L2
namespace Kx
open PySem PySem.Spec PyProof.Rows L2 Wd
def e8 : V → Int
  | .int i => i
  | _ => 0
theorem fG {x : V}(h : whV x=true) : x = .int (e8 x) := by
  cases x with
  | int i => rfl
  | _ => cases h
def nnV (x : V) : Bool := whV x && decide (0≤e8 x)
def fj (xs : List V) : Int := (xs.map e8).sum
theorem jJ : ∀ {xs : List V}, xs.all whV=true → xs=(xs.map e8).map V.int
  | [], _ => rfl
  | x::r, h => by
    rw [Bh, xp] at h
    rw [xv, xv, ← jJ h.2, ← fG h.1]
theorem l8 {xs : List V}(h : xs.all nnV=true) : xs.all whV=true := by
  rw [xP] at h ⊢
  intro x hx
  have := h x hx
  unfold nnV at this
  exact (xp _ _ ▸ this).1
inductive Rw (K : PySem.W.Frag)(H : Hp) : V → Option (List V) → Prop
  | tup {a : Addr} {xs : List V} (h : H a=some (.tup xs)) (hx : ∀ y∈xs, Wh K H y) (hl : xs.length≤400) : Rw K H (.ref a) (some xs)
  | oth {x : V} {n : String} (ty : ft K H x (.type n)) (e : PySem.W.kitOne K (.type n) (.type "tuple")=some false) : Rw K H x none
theorem Rw.same {K : PySem.W.Frag}{H H' : Hp}{x : V}{c : Option (List V)}(s : au H H')(h : Rw K H x c) : Rw K H' x c := by
  cases h with
  | tup h hx hl => exact .tup (s _ _ h) (fun y hy => (hx y hy).same s) hl
  | oth ty e => exact .oth (ty.same s fun C => by intro z;cases z) e
inductive Pc (K : PySem.W.Frag)(H : Hp) : V → Option (Option (List V) × Option (List V)) → Prop
  | two {a : Addr} {x y : V} {c d : Option (List V)} (h : H a=some (.tup [x, y])) (hx : Rw K H x c) (hy : Rw K H y d) : Pc K H (.ref a) (some (c, d))
  | tup {a : Addr} {xs : List V} (h : H a=some (.tup xs)) (ne : xs.length≠2) (hl : xs.length≤400) : Pc K H (.ref a) none
  | oth {x : V} {n : String} (ty : ft K H x (.type n)) (e : PySem.W.kitOne K (.type n) (.type "tuple")=some false) : Pc K H x none
theorem Pc.same {K : PySem.W.Frag}{H H' : Hp}{x : V}{c : Option (Option (List V) × Option (List V))}(s : au H H')(h : Pc K H x c) : Pc K H' x c := by
  cases h with
  | two h hx hy => exact .two (s _ _ h) (hx.same s) (hy.same s)
  | tup h ne hl => exact .tup (s _ _ h) ne hl
  | oth ty e => exact .oth (ty.same s fun C => by intro z;cases z) e
def rV (n : Nat) : Option (List V) → Bool
  | some xs => decide (xs.length=n) && (xs.all nnV && decide (fj xs≤60))
  | none => false
def inR (size : Int)(x : V) : Bool := whV x && (decide (0≤e8 x) && decide (e8 x < size))
def joK (xs : List V)(k : Nat) : Bool := !decide (e8 (xs.getD k .non)=(k : Int)) && decide (e8 (xs.getD (e8 (xs.getD k .non)).toNat .non)=(k : Int))
def rW (size : Int) : Option (List V) → Bool
  | some xs => decide ((xs.length : Int)=size) && (xs.all (inR size) && (List.range xs.length).all (joK xs))
  | none => false
def uz : Option (List V) → Int
  | some xs => fj xs
  | none => 0
def wb (n : Nat) : Option (Option (List V) × Option (List V)) → Bool
  | some (c, d) => rV n c && rW (2*uz c) d
  | none => false
inductive l9 (K : PySem.W.Frag)(vs : List V)(H : Hp)(Q : VK)(u3_ : XK) : Prop
  | mk : ∀ (u : List L) (n : Nat) (x : V) (c : Option (List V)), (vs=[tx u, x]) → (SK u n) → (Rw K H x c) → (∀ (H' : Hp), au H H' → Q (.bl (rV n c)) H') → l9 K vs H Q u3_
inductive iQ (K : PySem.W.Frag)(vs : List V)(H : Hp)(Q : VK)(u3_ : XK) : Prop
  | mk : ∀ (size : Int) (x : V) (c : Option (List V)), (vs=[.int size, x]) → (Rw K H x c) → (∀ (H' : Hp), au H H' → Q (.bl (rW size c)) H') → iQ K vs H Q u3_
inductive dR (K : PySem.W.Frag)(vs : List V)(H : Hp)(Q : VK)(u3_ : XK) : Prop
  | mk : ∀ (u : List L) (n : Nat) (x : V) (c : Option (Option (List V) × Option (List V))), (vs=[tx u, x]) → (SK u n) → (Pc K H x c) → (∀ (H' : Hp), au H H' → Q (.bl (wb n c)) H') → dR K vs H Q u3_
inductive gh (K : PySem.W.Frag)(vs : List V)(H : Hp)(Q : VK)(u3_ : XK) : Prop
  | mk : ∀ x, (vs=[x]) → (Wh K H x) → (Q (.bl (nnV x)) H) → gh K vs H Q u3_
theorem tO {K : PySem.W.Frag}{d e : Addr}{H : Hp}{b n : Nat}{x : V}(h : Pl d e H b n x)(hb : b≤400) : ∃ c, Rw K H x c := by
  cases h with
  | flat h => obtain ⟨n, h1, h2⟩ := lS (K := K) (H := H) h;exact ⟨_, .oth h1 h2⟩
  | tup h hl hx => exact ⟨_, .tup h (fun y hy => vk (hx y hy)) (by omega)⟩
  | lst h _ _ _ _ => exact ⟨_, .oth (.lst h) hG⟩
theorem vo {K : PySem.W.Frag}{d e : Addr}{H : Hp}{b n : Nat}{x : V}(h : Pl d e H b n x)(hb : b≤400) : ∃ c, Pc K H x c := by
  cases h with
  | flat h => obtain ⟨n, h1, h2⟩ := lS (K := K) (H := H) h;exact ⟨_, .oth h1 h2⟩
  | @tup _ a xs h hl hx =>
    by_cases e : xs.length=2
    · match xs, e with
      | [x, y], _ =>
        obtain ⟨c, hc⟩ := tO (K := K) (hx x (by simp)) hb
        obtain ⟨c', hc'⟩ := tO (K := K) (hx y (by simp)) hb
        exact ⟨_, .two h hc hc'⟩
    · exact ⟨_, .tup h e (by omega)⟩
  | lst h _ _ _ _ => exact ⟨_, .oth (.lst h) hG⟩
theorem ik {α : Type}(f : α → Bool){xs : List α}{i : Nat}{x : α}(h : xs[i]? = some x) : (xs.take (i+1)).map f=(xs.take i).map f++[f x] := by
  rw [yM, h, Ax, w9]
  rfl
end Kx
namespace Kx
open PySem PySem.Spec PyProof.Rows L2 Wd
def top (i : Nat) : Stmt := PySem.Challenge.pw_ringwords_k36_pictures_by_kind.main.body.getD i (.Pass ⟨0, 0, 0, 0⟩)
theorem m9 {α : Type}{us : List α}(h : us.length=1) : ∃ a0, us=[a0] := by
  cases us with
  | nil => cases h
  | cons a0 us =>
    cases us with
    | nil => exact ⟨a0, rfl⟩
    | cons b us => cases h
theorem jK {α : Type}{us : List α}(h : us.length=2) : ∃ a0 a1, us=[a0, a1] := by
  cases us with
  | nil => cases h
  | cons a0 us =>
    cases us with
    | nil => cases h
    | cons a1 us =>
      cases us with
      | nil => exact ⟨a0, a1, rfl⟩
      | cons b us => cases h
theorem qV {α : Type}{us : List α}(h : us.length=3) : ∃ a0 a1 a2, us=[a0, a1, a2] := by
  cases us with
  | nil => cases h
  | cons a0 us =>
    cases us with
    | nil => cases h
    | cons a1 us =>
      cases us with
      | nil => cases h
      | cons a2 us =>
        cases us with
        | nil => exact ⟨a0, a1, a2, rfl⟩
        | cons b us => cases h
theorem wO {α : Type}{us : List α}(h : us.length=4) : ∃ a0 a1 a2 a3, us=[a0, a1, a2, a3] := by
  cases us with
  | nil => cases h
  | cons a0 us =>
    cases us with
    | nil => cases h
    | cons a1 us =>
      cases us with
      | nil => cases h
      | cons a2 us =>
        cases us with
        | nil => cases h
        | cons a3 us =>
          cases us with
          | nil => exact ⟨a0, a1, a2, a3, rfl⟩
          | cons b us => cases h
end Kx
namespace Kx
open PySem PySem.Spec PyProof.Rows L2 Wd
section
variable {P : Program} {w : World} {K : PySem.W.Frag} {mg : Str → Option Value} {base : Heap} {aB : Addr}
abbrev l_ : Stmt := top 23
theorem qW : aF ["_law_script"] ["_law_script"] (av l_) := ⟨rfl, rfl, rfl, by decide +kernel, rfl, by decide +kernel, by decide +kernel⟩
theorem tP (D : Df K mg "_law_tape" l_)(T : Bt K w mg aB) : Fnc P w K mg base "_law_tape" ["_law_script"] 1 (lE K) := by
  have sc := qW
  refine D.ok sc (fun _ _ _ _ _ _ us hl => by obtain ⟨_, rfl⟩ := m9 hl;rfl) (fun vs H Q E h => ?_) (fun f cdv A outer s H vs Q E hr h => ?_)
  · obtain ⟨a, ns, rfl, _⟩ := h
    rfl
  · obtain ⟨a, ns, rfl, hS, hlen, k⟩ := h
    refine ⟨_, (@aq _ _ _ (@aE _ _ _ _ (@bj _ _ _ _ (@aa _ _ _ _ _ (@aX _ _ _ _ _ _ _ _ _ cK (by rfl) T.list jv (@aa _ _ _ _ _ (@aN _ _ _ _ _ _ _ _ _ _ kN (pv 0) bf (@aV _ _ _ ao)) ae (by rfl)) (by decide) (by decide) (by rfl) (by rfl)) (@aa _ _ _ _ _ ao (@aa _ _ _ _ _ ao (@aa _ _ _ _ _ ao ae (by rfl)) (by rfl)) (by rfl)) (by rfl))))), ?_⟩
    refine ⟨_, rfl, _, rfl, a, _, rfl, hS, fun q1 hq1 => ?_⟩
    rw [u4 hlen]
    have s2 : au H (upd H q1 (.lst (ns.map V.int))) := au.new hq1
    have l2 : (upd H q1 (.lst (ns.map V.int))) q1=some (.lst (ns.map V.int)) := ab
    generalize upd H q1 (.lst (ns.map V.int))=H2 at s2 l2 ⊢
    refine ⟨q1, _, rfl, .inl (SqL.of l2), fun q2 hq2 => ?_⟩
    have s3 : au H2 (upd H2 q2 (.lst (ns.map V.int))) := au.new hq2
    have l3 : (upd H2 q2 (.lst (ns.map V.int))) q2=some (.lst (ns.map V.int)) := ab
    generalize upd H2 q2 (.lst (ns.map V.int))=H3 at s3 l3 ⊢
    refine ⟨(by show 4≤sizeLine;decide), fun d hd => ?_⟩
    have n1 := none_of s2 hq2
    have n0 := none_of s2 (none_of s3 hd)
    exact k d q2 _ n0 n1 ⟨0, 0, 0, ns, ab, (au.new hd) _ _ l3, ak l3 hd, hlen⟩ ((s2.trans s3).trans (au.new hd))
abbrev ma : Stmt := top 24
theorem qX : aF ["_law_tape_here", "_law_many", "_law_spot", "_law_cell", "_law_mixed", "_law_found"] ["_law_tape_here", "_law_many"] (av ma) := ⟨rfl, rfl, rfl, by decide +kernel, rfl, by decide +kernel, by decide +kernel⟩
theorem tQ (D : Df K mg "_law_draw" ma)(T : Bt K w mg aB) : Fnc P w K mg base "_law_draw" ["_law_tape_here", "_law_many"] 1 cg := by
  have sc := qX
  refine D.ok sc (fun _ _ _ _ _ _ us hl => by obtain ⟨_, _, rfl⟩ := jK hl;rfl) (fun vs H Q E h => ?_) (fun f cdv A outer s H vs Q E hr h => ?_)
  · obtain ⟨d, c, m, rfl, _⟩ := h
    rfl
  · obtain ⟨d, c, m, rfl, F, m0, m1, k⟩ := h
    have hu := sQ hr
    refine ⟨_, (@ag _ _ _ _ _ (@cD _ _ _ _ _ _ (@aG _ _ _ _ _ _ _ _ bt (@aL _ _ _ _ _ _ _ a_ (pv 0) ao (fun _ _ => rfl)) ao) (@cV _ _ _ _ _ _ _ (pv 0) ao bD (by intro _ ;rfl)) (by rfl) (by rfl) (by rfl)) (@ag _ _ _ _ _ (@bN _ _ _ _ _ _ _ _ (@aH _ _ _ _ _ _ _ _ cS (@aL _ _ _ _ _ _ _ a_ (pv 0) ao (fun _ _ => rfl)) ao (aK _)) (@ag _ _ _ _ _ (@aC _ _ (2) _ _ _ _ sc.nd rfl (Or.inl rfl) (@aL _ _ _ _ _ _ _ a_ (pv 0) ao (fun _ _ => rfl)) (by rfl) (by first | exact .inl rfl | exact .inr rfl | assumption)) (@ag _ _ _ _ _ (@cD _ _ _ _ _ _ (@aG _ _ _ _ _ _ _ _ bt (pv 2) ao) (@cV _ _ _ _ _ _ _ (pv 0) ao bD (by intro _ ;rfl)) (by rfl) (by rfl) (by rfl)) (@ag _ _ _ _ _ (@aC _ _ (3) _ _ _ _ sc.nd rfl (Or.inl rfl) ao (by rfl) (by first | exact .inl rfl | exact .inr rfl | assumption)) (@ag _ _ _ _ _ (@bN _ _ _ _ _ _ _ _ (@aH _ _ _ _ _ _ _ _ nu (@ar _ _ _ _ _ _ _ _ _ az (by rfl) T.len xn (@aa _ _ _ _ _ (@aL _ _ _ _ _ _ _ a_ (pv 0) ao (fun _ _ => rfl)) ae (by rfl)) (by decide) (by decide) (by rfl) (by rfl)) ao (aK _)) (@aq _ _ _ (@aC _ _ (3) _ _ _ _ sc.nd rfl (Or.inl rfl) (@aL _ _ _ _ _ _ _ a_ (@aL _ _ _ _ _ _ _ a_ (pv 0) ao (fun _ _ => rfl)) (@aG _ _ _ _ _ _ _ _ dY (pv 2) (@ar _ _ _ _ _ _ _ _ _ az (by rfl) T.len xn (@aa _ _ _ _ _ (@aL _ _ _ _ _ _ _ a_ (pv 0) ao (fun _ _ => rfl)) ae (by rfl)) (by decide) (by decide) (by rfl) (by rfl))) (fun _ _ => rfl)) (by rfl) (by first | exact .inl rfl | exact .inr rfl | assumption))) aR) (@ag _ _ _ _ _ (@bN _ _ _ _ _ _ _ _ (@PW.pt _ _ _ (@dE _ _ _ _ _ _ _ (@aH _ _ _ _ _ _ _ _ qc (pv 3) (@aG _ _ _ _ _ _ _ _ ph ao ao) (aK _)) (@c8 _ _ _ _ (@aH _ _ _ _ _ _ _ _ ny (pv 2) (@ar _ _ _ _ _ _ _ _ _ az (by rfl) T.len xn (@aa _ _ _ _ _ (@aL _ _ _ _ _ _ _ a_ (pv 0) ao (fun _ _ => rfl)) ae (by rfl)) (by decide) (by decide) (by rfl) (by rfl)) (aK _))))) (@ag _ _ _ _ _ (@aC _ _ (4) _ _ _ _ sc.nd rfl (Or.inl rfl) (@aG _ _ _ _ _ _ _ _ dY (@aG _ _ _ _ _ _ _ _ cW (@aG _ _ _ _ _ _ _ _ bt (@aG _ _ _ _ _ _ _ _ dY (pv 3) ao) (@aG _ _ _ _ _ _ _ _ cW ao (@aL _ _ _ _ _ _ _ a_ (pv 0) ao (fun _ _ => rfl)))) ao) ao) (by rfl) (by first | exact .inl rfl | exact .inr rfl | assumption)) (@ag _ _ _ _ _ (@aC _ _ (4) _ _ _ _ sc.nd rfl (Or.inl rfl) (@aG _ _ _ _ _ _ _ _ dY (@aG _ _ _ _ _ _ _ _ cW (@aG _ _ _ _ _ _ _ _ bt (@aG _ _ _ _ _ _ _ _ cv (pv 4) ao) (@aG _ _ _ _ _ _ _ _ cW ao (@aL _ _ _ _ _ _ _ a_ (pv 0) ao (fun _ _ => rfl)))) ao) ao) (by rfl) (by first | exact .inl rfl | exact .inr rfl | assumption)) (@aq _ _ _ (@aE _ _ _ _ (@aG _ _ _ _ _ _ _ _ dY (@aG _ _ _ _ _ _ _ _ cv (pv 4) ao) (pv 1)))))) aR) (@aq _ _ _ (@cD _ _ _ _ _ _ (pv 3) (@cV _ _ _ _ _ _ _ (pv 0) ao bD (by intro _ ;rfl)) (by rfl) (by rfl) (by rfl)))))))) aR) (@ag _ _ _ _ _ (@aC _ _ (5) _ _ _ _ sc.nd rfl (Or.inl rfl) (@aG _ _ _ _ _ _ _ _ dY (@aL _ _ _ _ _ _ _ a_ (pv 0) ao (fun _ _ => rfl)) (pv 1)) (by rfl) (by first | exact .inl rfl | exact .inr rfl | assumption)) (@ag _ _ _ _ _ (@cD _ _ _ _ _ _ (@aG _ _ _ _ _ _ _ _ cv (@aL _ _ _ _ _ _ _ a_ (pv 0) ao (fun _ _ => rfl)) (pv 1)) (@cV _ _ _ _ _ _ _ (pv 0) ao bD (by intro _ ;rfl)) (by rfl) (by rfl) (by rfl)) (@aq _ _ _ (@aE _ _ _ _ (pv 5))))))), ?_⟩
    obtain ⟨i, l, t, ns, hd, hc, dc, h63⟩ := F.ex
    have fin : ∀ (r i' l' t' : Int), 0≤r → r < m → Q (.int r) (upd H d (.lst [.ref c, .int i', .int l', .int t'])) := fun r i' l' t' h0 h1 =>
      k r _ h0 h1 ⟨i', l', t', ns, ab, by rw [ay dc];exact hc, dc, h63⟩ aU.upd
    have c1 : ∀ o, (upd H d o) c=some (.lst (ns.map V.int)) := fun o => by rw [ay dc];exact hc
    refine ⟨_, rfl, d, _, _, _, rfl, rfl, SqL.of hd, rfl, _, _, rfl, rfl, _, rfl, d, _, _, _, rfl, rfl, hd, rfl, ?_⟩
    refine ⟨_, rfl, d, _, _, _, rfl, rfl, SqL.of ab, rfl, rfl, _, rfl, ?_⟩
    refine gF (fun _ => ?_) (fun _ => ?_)
    rotate_left
    · refine ⟨_, rfl, d, _, _, _, rfl, rfl, SqL.of ab, rfl, _, rfl, _, _, rfl, rfl, m0, ?_⟩
      refine ⟨_, rfl, d, _, _, _, rfl, rfl, SqL.of ab, rfl, _, rfl, _, _, rfl, rfl, ⟨m0, by omega⟩, _, rfl, d, _, _, _, rfl, rfl, ab, rfl, ?_⟩
      refine ⟨_, rfl, ?_⟩
      rw [dD]
      exact fin _ _ _ _ (yg _ (by omega)) (x3 _ m0)
    refine ⟨_, rfl, d, _, _, _, rfl, rfl, SqL.of ab, rfl, ?_⟩
    refine ⟨_, rfl, _, _, rfl, rfl, _, rfl, d, _, _, _, rfl, rfl, ab, rfl, ?_⟩
    rw [dD]
    refine ⟨_, rfl, d, _, _, _, rfl, rfl, SqL.of ab, rfl, c, _, rfl, .inl (SqL.of (c1 _)), _, _, rfl, rfl, _, rfl, ?_⟩
    refine gF (fun h0 => ?_) (fun h0 => ?_)
    · have hne : ns≠[] := by
        intro e
        subst e
        simp at h0
      have hl0 : (0 : Int) < ((ns.map V.int).length : Int) := by
        rw [fu]
        have := Aq.mpr hne
        omega
      obtain ⟨n, hn⟩ := qB hne i
      refine ⟨_, rfl, d, _, _, _, rfl, rfl, SqL.of ab, rfl, _, rfl, _, rfl, d, _, _, _, rfl, rfl, SqL.of ab, rfl, c, _, rfl, .inl (SqL.of (c1 _)), _, _, rfl, rfl, hl0, c, _, _, _, rfl, rfl, SqL.of (c1 _), hn, ?_⟩
      refine ⟨_, rfl, _, _, rfl, rfl, ⟨by decide, by decide, by decide⟩, _, _, rfl, rfl, _, rfl, ?_⟩
      refine gF (fun h1 => ?_) (fun h1 => ?_)
      · refine ⟨_, rfl, _, _, rfl, rfl, (by show (0 : Int) < 1000003;decide), _, rfl, d, _, _, _, rfl, rfl, SqL.of ab, rfl, _, _, rfl, rfl, .inl ⟨by decide, by decide⟩, _, _, rfl, rfl, _, _, rfl, rfl, .inr ⟨by decide, by decide⟩, _, _, rfl, rfl, (by show (0 : Int) < 2147483647;decide), ?_⟩
        refine ⟨_, rfl, _, _, rfl, rfl, ⟨by decide, by decide⟩, _, rfl, d, _, _, _, rfl, rfl, SqL.of ab, rfl, _, _, rfl, rfl, .inl ⟨by decide, by decide⟩, _, _, rfl, rfl, _, _, rfl, rfl, .inr ⟨by decide, by decide⟩, _, _, rfl, rfl, (by show (0 : Int) < 2147483587;decide), ?_⟩
        refine ⟨_, rfl, _, _, rfl, rfl, ⟨by decide, by decide⟩, _, rfl, _, _, rfl, rfl, m0, ?_⟩
        exact fin _ _ _ _ (yg _ (by omega)) (x3 _ m0)
      · refine ⟨_, rfl, _, rfl, d, _, _, _, rfl, rfl, SqL.of ab, rfl, c, _, rfl, .inl (SqL.of (c1 _)), _, _, rfl, rfl, _, rfl, ?_⟩
        refine gF (fun h2 => ?_) (fun h2 => ?_)
        · refine ⟨_, rfl, _, _, rfl, rfl, (by show (0 : Int) < 1000003;decide), _, rfl, d, _, _, _, rfl, rfl, SqL.of ab, rfl, _, _, rfl, rfl, .inl ⟨by decide, by decide⟩, _, _, rfl, rfl, _, _, rfl, rfl, .inr ⟨by decide, by decide⟩, _, _, rfl, rfl, (by show (0 : Int) < 2147483647;decide), ?_⟩
          refine ⟨_, rfl, _, _, rfl, rfl, ⟨by decide, by decide⟩, _, rfl, d, _, _, _, rfl, rfl, SqL.of ab, rfl, _, _, rfl, rfl, .inl ⟨by decide, by decide⟩, _, _, rfl, rfl, _, _, rfl, rfl, .inr ⟨by decide, by decide⟩, _, _, rfl, rfl, (by show (0 : Int) < 2147483587;decide), ?_⟩
          refine ⟨_, rfl, _, _, rfl, rfl, ⟨by decide, by decide⟩, _, rfl, _, _, rfl, rfl, m0, ?_⟩
          exact fin _ _ _ _ (yg _ (by omega)) (x3 _ m0)
        · refine ⟨_, rfl, _, rfl, d, _, _, _, rfl, rfl, ab, rfl, ?_⟩
          rw [dD]
          refine ⟨_, rfl, d, _, _, _, rfl, rfl, SqL.of ab, rfl, _, rfl, _, _, rfl, rfl, m0, ?_⟩
          refine ⟨_, rfl, d, _, _, _, rfl, rfl, SqL.of ab, rfl, _, rfl, _, _, rfl, rfl, ⟨m0, by omega⟩, _, rfl, d, _, _, _, rfl, rfl, ab, rfl, ?_⟩
          refine ⟨_, rfl, ?_⟩
          rw [dD]
          exact fin _ _ _ _ (yg _ (by omega)) (x3 _ m0)
    · refine ⟨_, rfl, _, _, rfl, rfl, ⟨by decide, by decide, by decide⟩, _, _, rfl, rfl, _, rfl, ?_⟩
      refine gF (fun h1 => ?_) (fun h1 => ?_)
      · refine ⟨_, rfl, _, _, rfl, rfl, (by show (0 : Int) < 1000003;decide), _, rfl, d, _, _, _, rfl, rfl, SqL.of ab, rfl, _, _, rfl, rfl, .inl ⟨by decide, by decide⟩, _, _, rfl, rfl, _, _, rfl, rfl, .inr ⟨by decide, by decide⟩, _, _, rfl, rfl, (by show (0 : Int) < 2147483647;decide), ?_⟩
        refine ⟨_, rfl, _, _, rfl, rfl, ⟨by decide, by decide⟩, _, rfl, d, _, _, _, rfl, rfl, SqL.of ab, rfl, _, _, rfl, rfl, .inl ⟨by decide, by decide⟩, _, _, rfl, rfl, _, _, rfl, rfl, .inr ⟨by decide, by decide⟩, _, _, rfl, rfl, (by show (0 : Int) < 2147483587;decide), ?_⟩
        refine ⟨_, rfl, _, _, rfl, rfl, ⟨by decide, by decide⟩, _, rfl, _, _, rfl, rfl, m0, ?_⟩
        exact fin _ _ _ _ (yg _ (by omega)) (x3 _ m0)
      · refine ⟨_, rfl, _, rfl, d, _, _, _, rfl, rfl, SqL.of ab, rfl, c, _, rfl, .inl (SqL.of (c1 _)), _, _, rfl, rfl, _, rfl, ?_⟩
        refine gF (fun h2 => ?_) (fun h2 => ?_)
        · refine ⟨_, rfl, _, _, rfl, rfl, (by show (0 : Int) < 1000003;decide), _, rfl, d, _, _, _, rfl, rfl, SqL.of ab, rfl, _, _, rfl, rfl, .inl ⟨by decide, by decide⟩, _, _, rfl, rfl, _, _, rfl, rfl, .inr ⟨by decide, by decide⟩, _, _, rfl, rfl, (by show (0 : Int) < 2147483647;decide), ?_⟩
          refine ⟨_, rfl, _, _, rfl, rfl, ⟨by decide, by decide⟩, _, rfl, d, _, _, _, rfl, rfl, SqL.of ab, rfl, _, _, rfl, rfl, .inl ⟨by decide, by decide⟩, _, _, rfl, rfl, _, _, rfl, rfl, .inr ⟨by decide, by decide⟩, _, _, rfl, rfl, (by show (0 : Int) < 2147483587;decide), ?_⟩
          refine ⟨_, rfl, _, _, rfl, rfl, ⟨by decide, by decide⟩, _, rfl, _, _, rfl, rfl, m0, ?_⟩
          exact fin _ _ _ _ (yg _ (by omega)) (x3 _ m0)
        · refine ⟨_, rfl, _, rfl, d, _, _, _, rfl, rfl, ab, rfl, ?_⟩
          rw [dD]
          refine ⟨_, rfl, d, _, _, _, rfl, rfl, SqL.of ab, rfl, _, rfl, _, _, rfl, rfl, m0, ?_⟩
          refine ⟨_, rfl, d, _, _, _, rfl, rfl, SqL.of ab, rfl, _, rfl, _, _, rfl, rfl, ⟨m0, by omega⟩, _, rfl, d, _, _, _, rfl, rfl, ab, rfl, ?_⟩
          refine ⟨_, rfl, ?_⟩
          rw [dD]
          exact fin _ _ _ _ (yg _ (by omega)) (x3 _ m0)
end
end Kx
namespace Kx
open PySem PySem.Spec PyProof.Rows L2 Wd
section
variable {P : Program} {w : World} {K : PySem.W.Frag} {mg : Str → Option Value} {base : Heap} {aB : Addr}
abbrev md : Stmt := top 4
theorem qY : aF ["word"] ["word"] (av md) := ⟨rfl, rfl, rfl, by decide +kernel, rfl, by decide +kernel, by decide +kernel⟩
theorem tR (D : Df K mg "back" md)(T : Bt K w mg aB) : Fnc P w K mg base "back" ["word"] 1 qD := by
  have sc := qY
  refine D.ok sc (fun _ _ _ _ _ _ us hl => by obtain ⟨_, rfl⟩ := m9 hl;rfl) (fun vs H Q E h => ?_) (fun f cdv A outer s H vs Q E hr h => ?_)
  · obtain ⟨u, rfl, _⟩ := h
    rfl
  · obtain ⟨u, rfl, hu, k⟩ := h
    have l16 := a8
    refine ⟨_, (@aq _ _ _ (@aE _ _ _ _ (@bV _ _ _ _ _ _ _ _ _ _ _ _ xy yo yq eS bP (@aa _ _ _ _ _ (@bp _ _ _ _ _ _ _ (["letter"]) (["letter"]) ([]) _ _ _ _ (@bH _ _ _ _ _ _ rfl (by kernel_rfl)) rfl (@qv _ _ _ _ _ _ rfl T.reversed j5 (@aa _ _ _ _ _ (pv 0) ae (by rfl)) (by rfl)) (fun _ _ _ _ => @aA _ _ (0) _ (show (["letter"] : List Str).Nodup from by decide +kernel) rfl (Or.inl rfl) (by first | exact .inl rfl | exact .inr rfl | assumption)) (fun _ _ _ _ => a9) (fun _ _ _ _ => by (exact (@qw _ _ _ _ _ _ _ _ _ T.dB rfl rfl rfl T.mgB (pv 0) (fun _ _ => rfl) (by decide)))) (by intro _ ;rfl)) ae (by rfl)) (by rfl) (by rfl) (by rfl) (by rfl) (by rfl)))), ?_⟩
    refine ⟨rfl, _, rfl, _, rfl, (by rw [ah];omega), ?_⟩
    refine bS (own := ["letter"]) (cap := []) (J := uW (toS u)) u.length (fun i ys σ H' => H'=H ∧ ys=bI ((bk u).take i) ∧ ∃ v, σ = [v]) ⟨rfl, rfl, none, rfl⟩ (fun i ys σ H' hi ⟨_, e, _⟩ => ?_) (by omega) (fun i ys σ H' hi _ => ?_) (fun ys σ H' _ => ?_) ?_ ?_
    · rw [e, bc, xo];omega
    · show i < (toS u).cps.size;rw [bW];exact hi
    · show _=(toS u).cps.size;rw [bW]
    · rintro i ys σ H1 x H2 N hi ⟨rfl, rfl, v, rfl⟩ ⟨rfl, c, hc, rfl⟩ hN
      rw [bW] at hc
      obtain ⟨y, hy, e⟩ := eT hc
      obtain ⟨t, ht⟩ := T.gB y
      refine ⟨_, rfl, toS [y], toS [inv y], t, by rw [e], ht, hN _ _ _ ⟨rfl, ?_, _, rfl⟩⟩
      rw [cu (pH u hi hy), ← cm]
      rfl
    · rintro ys σ H1 l ⟨rfl, rfl, v, rfl⟩ hl
      rw [xR (by rw [ck];exact wZ _)]
      refine ⟨_, l, (bk u).map fun x => toS [x], rfl, rfl, SqL.of (by rw [ab, cQ]), cq _ (by rw [ck];omega), ?_⟩
      rw [cn]
      exact k _ (au.new hl)
abbrev iR : Stmt := top 25
theorem oE : aF ["_law_word"] ["_law_word"] (av iR) := ⟨rfl, rfl, rfl, by decide +kernel, rfl, by decide +kernel, by decide +kernel⟩
theorem qZ (D : Df K mg "_law_back" iR) : Fnc P w K mg base "_law_back" ["_law_word"] 1 qD := by
  have sc := oE
  refine D.ok sc (fun _ _ _ _ _ _ us hl => by obtain ⟨_, rfl⟩ := m9 hl;rfl) (fun vs H Q E h => ?_) (fun f cdv A outer s H vs Q E hr h => ?_)
  · obtain ⟨u, rfl, _⟩ := h
    rfl
  · obtain ⟨u, rfl, hu, k⟩ := h
    have l16 := a8
    refine ⟨_, (@aq _ _ _ (@aE _ _ _ _ (@bV _ _ _ _ _ _ _ _ _ _ _ _ xy yo yq eS bP (@aa _ _ _ _ _ (@bp _ _ _ _ _ _ _ (["_law_sign"]) (["_law_sign"]) ([]) _ _ _ _ (@bH _ _ _ _ _ _ rfl (by kernel_rfl)) rfl (@js _ _ _ _ (@qH _ _ _ _ _ _ _ (pv 0) (@iG _ _ _ _ _ _ eI ao))) (fun _ _ _ _ => @aA _ _ (0) _ (show (["_law_sign"] : List Str).Nodup from by decide +kernel) rfl (Or.inl rfl) (by first | exact .inl rfl | exact .inr rfl | assumption)) (fun _ _ _ _ => a9) (fun _ _ _ _ => by (exact (@fJ _ _ _ _ _ _ _ _ (@aH _ _ _ _ _ _ _ _ gG (pv 0) bP rfl) (@lu _ _ _ _ _ _ _ _ _ (K) rfl xy yY yZ eg (pv 0) (by rfl) (by rfl)) (@lu _ _ _ _ _ _ _ _ _ (K) rfl xy PySem.F.slot_str_upper PySem.F.type_str_upper nP (pv 0) (by rfl) (by rfl))))) (by intro _ ;rfl)) ae (by rfl)) (by rfl) (by rfl) (by rfl) (by rfl) (by rfl)))), ?_⟩
    refine ⟨rfl, _, rfl, _, rfl, toS u, rfl, rfl, (by rw [ah];omega), ?_⟩
    rw [n5]
    refine ⟨_, rfl, ?_⟩
    refine bS (own := ["_law_sign"]) (cap := []) (J := Its (toS u.reverse)) u.length (fun i ys σ H' => H'=H ∧ ys=bI ((bk u).take i) ∧ ∃ v, σ = [v]) ⟨rfl, rfl, none, rfl⟩ (fun i ys σ H' hi ⟨_, e, _⟩ => ?_) (by omega) (fun i ys σ H' hi _ => ?_) (fun ys σ H' _ => ?_) ?_ ?_
    · rw [e, bc, xo];omega
    · show i < (toS u.reverse).cps.size;rw [bW, xW];exact hi
    · show _=(toS u.reverse).cps.size;rw [bW, xW]
    · rintro i ys σ H1 x H2 N hi ⟨rfl, rfl, v, rfl⟩ ⟨rfl, c, hc, rfl⟩ hN
      obtain ⟨y, hy, e⟩ := eT hc
      have hb : (bk u)[i]? = some (inv y) := pH u hi (by rw [zb hi] at hy;exact hy)
      refine ⟨_, rfl, _, _, rfl, rfl, _, rfl, ?_⟩
      rw [e, pL]
      refine gF (fun h => ?_) (fun h => ?_)
      · have h : ¬ y.val < 6 := by simpa using h
        exact ⟨_, rfl, rfl, _, rfl, rfl, (by rw [ah];show 1≤5592405;decide), hN _ _ _ ⟨rfl, by rw [la h, cu hb, ← cm];rfl, _, rfl⟩⟩
      · have h : y.val < 6 := by simpa using h
        exact ⟨_, rfl, rfl, _, rfl, rfl, (by rw [ah];show 1≤5592405;decide), hN _ _ _ ⟨rfl, by rw [k_ h, cu hb, ← cm];rfl, _, rfl⟩⟩
    · rintro ys σ H1 l ⟨rfl, rfl, v, rfl⟩ hl
      rw [xR (by rw [ck];exact wZ _)]
      refine ⟨_, l, (bk u).map fun x => toS [x], rfl, rfl, SqL.of (by rw [ab, cQ]), cq _ (by rw [ck];omega), ?_⟩
      rw [cn]
      exact k _ (au.new hl)
end
end Kx
namespace Kx
open PySem PySem.Spec PyProof.Rows L2 Wd
inductive mf (vs : List V)(H : Hp)(Q : VK)(u3_ : XK) : Prop
  | mk : ∀ (d c : Addr) (m : Int), (vs=[.ref d, .int m]) → (Tp H d c) → (1≤m) → (m≤6) → (∀ (u : List L) (k : Nat) (H' : Hp), SK u k → (k : Int)≤m → Tp H' d c → aU d H H' → Q (tx u) H') → mf vs H Q u3_
theorem mh {F : List L}{x : L}(h : F.head? = some x) : atI (bI F) 0=some (tx [x]) := by
  cases F with
  | nil => simp at h
  | cons z r =>
    have : z=x := xb h
    subst this
    unfold atI ixN bI
    rw [if_pos (by decide), if_pos (by simp)]
    rfl
def ki (W : List (List L))(i : Nat) : List (Int × Int) := (List.range i).flatMap fun i => (List.range (W.getD i []).length).map fun p : Nat => ((i : Int), (p : Int))
theorem e9 (W : List (List L))(i : Nat) : ki W (i+1)=ki W i++(List.range (W.getD i []).length).map fun p : Nat => ((i : Int), (p : Int)) := by
  unfold ki
  rw [zd, zm, yz, A2, yL]
theorem cB {W : List (List L)}(h : ∀ w∈W, w.length≤15) : ∀ i, (ki W i).length≤15*i
  | 0 => wZ _
  | i+1 => by
    rw [e9, w4, fu, x8]
    have := cB h i
    have g : (W.getD i []).length≤15 := by
      rw [xi]
      cases e : W[i]? with
      | none => exact xV _
      | some w => exact h w (xc e)
    omega
theorem mi {W : List (List L)}{i : Nat}{w : List L}(h : W[i]? = some w) : W.getD i []=w := by rw [xi, h]; rfl
theorem d_ {W : List (List L)}{i : Nat}{w : List L}{zs ys : List (Addr × Int × Int)}(hw : W[i]? = some w)(h1 : zs.map (·.2)=ki W i)(h2 : ys.map (·.2)=(List.range w.length).map fun p : Nat => ((i : Int), (p : Int))) : (zs++ys).map (·.2)=ki W (i+1) := by
  rw [w9, h1, h2, e9, mi hw]
end Kx
namespace Kx
open PySem PySem.Spec PyProof.Rows L2 Wd
section
variable {P : Program} {w : World} {K : PySem.W.Frag} {mg : Str → Option Value} {base : Heap} {aB : Addr}
abbrev q8 : Stmt := top 3
theorem tT : aF ["letter"] ["letter"] (av q8) := ⟨rfl, rfl, rfl, by decide +kernel, rfl, by decide +kernel, by decide +kernel⟩
theorem vp (D : Df K mg "number_of" q8)(T : Bt K w mg aB)(S : ∃ t, mg "SMALL" = some (.str "abcdef" t)) : Fnc P w K mg base "number_of" ["letter"] 1 qG := by
  have sc := tT
  refine D.ok sc (fun _ _ _ _ _ _ us hl => by obtain ⟨_, rfl⟩ := m9 hl;rfl) (fun vs H Q E h => ?_) (fun f cdv A outer s H vs Q E hr h => ?_)
  · obtain ⟨x, rfl, _⟩ := h
    rfl
  · obtain ⟨x, rfl, k⟩ := h
    obtain ⟨tS, mgS⟩ := S
    refine ⟨_, (@aq _ _ _ (@aE _ _ _ _ (@bV _ _ _ _ _ _ _ _ _ _ _ _ xy zK zL fV (@kr _ _ (.str "abcdef") _ _ rfl mgS ⟨_, rfl⟩ (by decide)) (@aa _ _ _ _ _ (@eM _ _ _ _ _ _ _ _ _ xy yY yZ eg (pv 0) (by rfl) (by rfl)) ae (by rfl)) (by rfl) (by rfl) (by rfl) (by rfl) (by rfl)))), ?_⟩
    exact ⟨rfl, _, rfl, rfl, _, rfl, rfl, (by rw [ah];show 1≤5592405;decide), _, _, _, _, rfl, rfl, sX x, k⟩
end
end Kx
namespace Kx
open PySem PySem.Spec PyProof.Rows L2 Wd
section
variable {P : Program} {w : World} {K : PySem.W.Frag} {mg : Str → Option Value} {base : Heap} {aB : Addr}
abbrev q9 : Stmt := top 8
theorem tU : aF ["ways", "found", "number", "way"] ["ways"] (av q9) := ⟨rfl, rfl, rfl, by decide +kernel, rfl, by decide +kernel, by decide +kernel⟩
theorem vq (D : Df K mg "strands_of" q9)(T : Bt K w mg aB)(Te : mg "enumerate" = none) : Fnc P w K mg base "strands_of" ["ways"] 1 j8 := by
  have sc := tU
  refine D.ok sc (fun _ _ _ _ _ _ us hl => by obtain ⟨_, rfl⟩ := m9 hl;rfl) (fun vs H Q E h => ?_) (fun f cdv A outer s H vs Q E hr h => ?_)
  · obtain ⟨a, n, W, rfl, _⟩ := h
    rfl
  · obtain ⟨a, n, W, rfl, hW, k⟩ := h
    have l16 := a8
    have w15 : ∀ w∈W, w.length≤15 := fun w hw => (hW.ws w hw).2.1
    refine ⟨_, (@ag _ _ _ _ _ (@aC _ _ (1) _ _ _ _ sc.nd rfl (Or.inl rfl) (@bj _ _ _ _ ae) (by rfl) (by first | exact .inl rfl | exact .inr rfl | assumption)) (@ag _ _ _ _ _ (@bA _ _ _ _ _ _ _ _ xG rfl (@pO _ _ rfl _ _ _ _ _ _ _ rfl Te lR (@aa _ _ _ _ _ (pv 0) ae (by rfl)) (by rfl)) (@dX _ _ _ _ _ _ rfl (@aW _ _ _ _ _ (@aA _ _ (2) _ sc.nd rfl (Or.inr rfl) (by first | exact .inl rfl | exact .inr rfl | assumption)) (@aW _ _ _ _ _ (@aA _ _ (3) _ sc.nd rfl (Or.inl rfl) (by first | exact .inl rfl | exact .inr rfl | assumption)) cI (by rfl)) (by rfl)) (by rfl) (by rfl)) (@aq _ _ _ (@bQ _ _ _ _ (@bV _ _ _ _ _ _ _ _ _ _ _ _ xx yO yP de (pv 1) (@aa _ _ _ _ _ (@bp _ _ _ _ _ _ _ (["place", "number"]) (["place"]) ([2]) _ _ _ _ (@bH _ _ _ _ _ _ rfl (by kernel_rfl)) rfl (@bh _ _ _ _ _ _ rfl T.range (@aa _ _ _ _ _ (@ar _ _ _ _ _ _ _ _ _ aI (by rfl) T.len xn (@aa _ _ _ _ _ (pv 3) ae (by rfl)) (by decide) (by decide) (by rfl) (by rfl)) ae (by rfl)) (by rfl)) (fun _ _ _ _ => @aA _ _ (0) _ (show (["place", "number"] : List Str).Nodup from by decide +kernel) rfl (Or.inl rfl) (by first | exact .inl rfl | exact .inr rfl | assumption)) (fun _ _ _ _ => a9) (fun _ _ _ _ => by (exact (@a4 _ _ _ _ _ (@aa _ _ _ _ _ (pv 1) (@aa _ _ _ _ _ (pv 0) ae (by rfl)) (by rfl))))) (by intro _ ;rfl)) ae (by rfl)) (by rfl) (by rfl) (by rfl) (by rfl) (by rfl)) (by rfl))) (by intro _ ;rfl)) (@aq _ _ _ (@aE _ _ _ _ (pv 1))))), ?_⟩
    refine ⟨(by show 0≤sizeLine;decide), fun l hl => ?_⟩
    have s1 : au H (upd H l (.lst [])) := au.new hl
    have f1 : (upd H l (.lst [])) l=some (.lst ((([] : List (Addr × Int × Int)).map (·.1)).map V.ref)) := ab
    generalize upd H l (.lst [])=H1 at s1 f1 ⊢
    refine ⟨_, rfl, a, rfl, ⟨_, SqT.of (s1 _ _ hW.at_)⟩, ?_⟩
    refine qL (xs := W.map tx) (fun i σ H' => ∃ (v2 v3 : Option V) (zs : List (Addr × Int × Int)), σ = [some (.ref a), some (.ref l), v2, v3] ∧ H' l=some (.lst ((zs.map (·.1)).map V.ref)) ∧ StA H' zs ∧ zs.map (·.2)=ki W i ∧ au H H') ⟨none, none, [], rfl, f1, (fun z hz => by cases hz), rfl, s1⟩ (fun i σ H' _ ⟨_, _, _, _, _, _, _, q⟩ => SqT.of (q _ _ hW.at_)) ?_ ?_
    · rintro i x σ H2 t hx ⟨v2, v3, zs, rfl, f2, hz, ez, s2⟩ ht
      rw [w_] at hx
      cases hw : W[i]? with
      | none => rw [hw] at hx;cases hx
      | some w' =>
        rw [hw] at hx
        obtain rfl := xb hx
        have hwl := w15 w' (xc hw)
        have hil : i < W.length := (xh.mp hw).1
        have hle := hW.le
        have zl : zs.length≤60 := by
          have := cB w15 i
          rw [← ez, fu] at this
          omega
        have s3 := s2.then (o := .tup [.int i, tx w']) ht
        have f3 := (au.new (o := .tup [.int i, tx w']) ht) _ _ f2
        have hz3 := hz.same (au.new (o := .tup [.int i, tx w']) ht)
        refine ⟨t, _, rfl, SqT.of ab, rfl, _, _, rfl, _, _, rfl, rfl, ?_⟩
        generalize upd H2 t (.tup [.int i, tx w'])=H3 at s3 f3 hz3 ⊢
        refine ⟨_, rfl, .inl ⟨rfl, _, SqL.of f3⟩, _, rfl, _, rfl, (by rw [ah];omega), _, rfl, (by rw [ah];omega), (by rw [ah];omega), ?_⟩
        rw [ah, xB]
        refine bS (own := ["place"]) (cap := [2]) (J := Itr 0 w'.length) w'.length (fun j ys σ H' => ∃ (b : Option V) (ps : List (Addr × Int × Int)), σ = [b, some (.int (i : Int))] ∧ ys=(ps.map (·.1)).map V.ref ∧ StA H' ps ∧ ps.map (·.2)=(List.range j).map (fun p : Nat => ((i : Int), (p : Int))) ∧ au H3 H') ⟨none, [], rfl, rfl, (fun z hz => by cases hz), rfl, au.refl _⟩
          (fun j ys σ H' hj ⟨_, ps, _, e, _, e2, _⟩ => ?_) (by omega) (fun j ys σ H' hj _ => hj) (fun ys σ H' _ => wZ _) ?_ ?_
        · have := xA List.length e2
          rw [fu, fu, x8] at this
          rw [e, fu, fu]
          omega
        · rintro j ys σ H4 x H5 N hj ⟨b, ps, rfl, rfl, hp, e2, s4⟩ ⟨rfl, rfl⟩ hN
          refine ⟨_, rfl, _, rfl, (aD (n := 2) (by decide)), fun q hq => hN _ _ _ ⟨_, ps++[(q, (i : Int), (j : Int))], rfl, ?_, ?_, ?_, s4.then hq⟩⟩
          · rw [w9, w9];rfl
          · rw [Ay]
            exact (hp.same (au.new hq)).app fun z hz => by
              rw [xf] at hz
              subst hz
              exact ab
          · rw [w9, e2, zd, w9];rfl
        · rintro ys σ H4 q ⟨b, ps, rfl, rfl, hp, e2, s4⟩ hq
          have s5 : au H4 (upd H4 q (.lst ((ps.map (·.1)).map V.ref))) := au.new hq
          have g5 : (upd H4 q (.lst ((ps.map (·.1)).map V.ref))) q=some (.lst ((ps.map (·.1)).map V.ref)) := ab
          have f5 := s5 _ _ (s4 _ _ f3)
          have hp5 := hp.same s5
          have hz5 := (hz3.same s4).same s5
          have s6 := (s3.trans s4).trans s5
          generalize upd H4 q (.lst ((ps.map (·.1)).map V.ref))=H5 at g5 f5 hp5 hz5 s6 ⊢
          have pl : ps.length=w'.length := by
            have := xA List.length e2
            rwa [fu, fu, x8] at this
          refine ⟨l, q, _, _, rfl, rfl, f5, g5, by rw [fu, fu, fu, fu];omega, ?_⟩
          have keepT : ∀ b xs, H5 b=some (.tup xs) → (upd H5 l (.lst ((zs.map (·.1)).map V.ref++(ps.map (·.1)).map V.ref))) b=some (.tup xs) := fun b xs e => by
            rw [ay (cH e f5 (by intro z;cases z))];exact e
          refine ⟨_, _, zs++ps, rfl, ?_, fun z hz => keepT _ _ ((hz5.app hp5) z hz), d_ hw ez e2, fun b o e => ?_⟩
          · rw [ab, w9, w9]
          · rw [ay (ak e hl)];exact s6 _ _ e
    · rintro σ H2 ⟨v2, v3, zs, rfl, f2, hz, ez, s2⟩
      rw [fu] at ez
      exact ⟨_, rfl, k l zs _ hl s2 f2 hz ez⟩
end
end Kx
namespace Kx
open PySem PySem.Spec PyProof.Rows L2 Wd
section
variable {P : Program} {w : World} {K : PySem.W.Frag} {mg : Str → Option Value} {base : Heap} {aB : Addr}
theorem e_ {W : List (List L)}{i : Int}(h0 : 0≤i)(h1 : i < W.length) : atI (W.map tx) i=some (tx (W.getD i.toNat [])) := by
  have hi : i.toNat < W.length := by omega
  have := bZ (xs := W.map tx) (j := i.toNat) (v := tx (W.getD i.toNat [])) (by rw [w_, wY hi, xi, wY hi];rfl)
  rwa [show ((i.toNat : Nat) : Int)=i by omega] at this
theorem jL {w : List L}{j : Int}(h0 : 0≤j)(h1 : j < w.length) : atI (toS w).cps.toList j=some (cp (w.getD j.toNat 0)) := by
  have hj : j.toNat < w.length := by omega
  refine dM (k := j.toNat) (by omega) ?_
  rw [xi, wY hj]
  rfl
theorem eC {n : Nat}{W : List (List L)}{H : Hp}{a : Addr}(hW : Wy4 n W H a)(i : Nat) : (W.getD i []).length≤15 := by
  rw [xi]
  cases e : W[i]? with
  | none => exact xV _
  | some w => exact (hW.ws w (xc e)).2.1
theorem pT (x : L) : Txt.lower (toS [x])=toS [⟨x.val % 6, by omega⟩] := by
  have : ∀ x : L, Txt.lower (toS [x])=toS [⟨x.val % 6, by omega⟩] := by decide +kernel
  exact this x
abbrev q_ : Stmt := top 9
theorem tV : aF ["ways", "strand"] ["ways", "strand"] (av q_) := ⟨rfl, rfl, rfl, by decide +kernel, rfl, by decide +kernel, by decide +kernel⟩
theorem vt (D : Df K mg "letter_of" q_)(T : Bt K w mg aB) : Fnc P w K mg base "letter_of" ["ways", "strand"] 1 qR := by
  have sc := tV
  refine D.ok sc (fun _ _ _ _ _ _ us hl => by obtain ⟨_, _, rfl⟩ := jK hl;rfl) (fun vs H Q E h => ?_) (fun f cdv A outer s H vs Q E hr h => ?_)
  · obtain ⟨a, p, n, W, i, j, rfl, _⟩ := h
    rfl
  · obtain ⟨a, p, n, W, i, j, rfl, hW, hp, ok, k⟩ := h
    have l16 := a8
    unfold okS at ok
    simp only [xp, xK] at ok
    obtain ⟨⟨o1, o2⟩, o3, o4⟩ := ok
    have hl := eC hW i.toNat
    refine ⟨_, (@aq _ _ _ (@aE _ _ _ _ (@aL _ _ _ _ _ _ _ d5 (@aL _ _ _ _ _ _ _ aY (pv 0) (@aL _ _ _ _ _ _ _ aY (pv 1) ao (fun _ _ => rfl)) (fun _ _ => rfl)) (@aL _ _ _ _ _ _ _ aY (pv 1) ao (fun _ _ => rfl)) (fun _ _ => rfl)))), ?_⟩
    exact ⟨_, rfl, _, rfl, p, _, _, _, rfl, rfl, SqT.of hp, rfl, a, _, _, _, rfl, rfl, SqT.of hW.at_, e_ o1 o2, _, rfl, p, _, _, _, rfl, rfl, SqT.of hp, rfl, _, _, _, rfl, rfl, by rw [ah];omega, jL o3 o4, k⟩
end
end Kx
namespace Kx
open PySem PySem.Spec PyProof.Rows L2 Wd
section
variable {P : Program} {w : World} {K : PySem.W.Frag} {mg : Str → Option Value} {base : Heap} {aB : Addr}
abbrev rf : Stmt := top 26
theorem tW : aF ["_law_tape_here", "_law_most", "_law_row", "_law_k", "_law_sign"] ["_law_tape_here", "_law_most"] (av rf) := ⟨rfl, rfl, rfl, by decide +kernel, rfl, by decide +kernel, by decide +kernel⟩
theorem vw (D : Df K mg "_law_any_row" rf)(T : Bt K w mg aB)(F_draw : Fnc P w K mg base "_law_draw" ["_law_tape_here", "_law_many"] 1 cg) : Fnc P w K mg base "_law_any_row" ["_law_tape_here", "_law_most"] 2 mf := by
  have sc := tW
  refine D.ok sc (fun _ _ _ _ _ _ us hl => by obtain ⟨_, _, rfl⟩ := jK hl;rfl) (fun vs H Q E h => ?_) (fun f cdv A outer s H vs Q E hr h => ?_)
  · obtain ⟨d, c, m, rfl, _⟩ := h
    rfl
  · obtain ⟨d, c, m, rfl, F, m1, m6, k⟩ := h
    have l16 := a8
    refine ⟨_, (@ag _ _ _ _ _ (@aC _ _ (2) _ _ _ _ sc.nd rfl (Or.inl rfl) (@bj _ _ _ _ ae) (by rfl) (by first | exact .inl rfl | exact .inr rfl | assumption)) (@ag _ _ _ _ _ (@bA _ _ _ _ _ _ _ _ xG rfl (@bh _ _ _ _ _ _ rfl T.range (@aa _ _ _ _ _ (@aG _ _ _ _ _ _ _ _ bt ao (@aJ _ _ _ _ _ _ _ _ _ _ _ F_draw hr (by decide) rfl (@aa _ _ _ _ _ (pv 0) (@aa _ _ _ _ _ (pv 1) ae (by rfl)) (by rfl)) (by decide) (by rfl) (by rfl))) ae (by rfl)) (by rfl)) (@aA _ _ (3) _ sc.nd rfl (Or.inl rfl) (by first | exact .inl rfl | exact .inr rfl | assumption)) (@aq _ _ _ (@bA _ _ _ _ _ _ _ _ xG rfl (@eG _ _ _ _ (@a4 _ _ _ _ _ (@aa _ _ _ _ _ (@aL _ _ _ _ _ _ _ d5 bP (pv 3) (fun _ _ => rfl)) (@aa _ _ _ _ _ (@aL _ _ _ _ _ _ _ d5 bP (pv 3) (fun _ _ => rfl)) ae (by rfl)) (by rfl)))) (@aA _ _ (4) _ sc.nd rfl (Or.inl rfl) (by first | exact .inl rfl | exact .inr rfl | assumption)) (@aq _ _ _ (@bQ _ _ _ _ (@bV _ _ _ _ _ _ _ _ _ _ _ _ xx zq AN hV (pv 2) (@aa _ _ _ _ _ (@aJ _ _ _ _ _ _ _ _ _ _ _ F_draw hr (by decide) rfl (@aa _ _ _ _ _ (pv 0) (@aa _ _ _ _ _ (@aG _ _ _ _ _ _ _ _ bt (@ar _ _ _ _ _ _ _ _ _ az (by rfl) T.len xn (@aa _ _ _ _ _ (pv 2) ae (by rfl)) (by decide) (by decide) (by rfl) (by rfl)) ao) ae (by rfl)) (by rfl)) (by decide) (by rfl) (by rfl)) (@aa _ _ _ _ _ (pv 4) ae (by rfl)) (by rfl)) (by rfl) (by rfl) (by rfl) (by rfl) (by rfl)) (by rfl))) (by intro _ ;rfl))) (by intro _ ;rfl)) (@aq _ _ _ (@aE _ _ _ _ (@bV _ _ _ _ _ _ _ _ _ _ _ _ xy yo yq eS bP (@aa _ _ _ _ _ (pv 2) ae (by rfl)) (by rfl) (by rfl) (by rfl) (by rfl) (by rfl)))))), ?_⟩
    refine ⟨(by show 0≤sizeLine;decide), fun p hp => ?_⟩
    have hpd := F.ne hp
    have hpc := F.nec hp
    refine ⟨_, rfl, _, rfl, d, c, m, rfl, F.new hp, by omega, by omega, fun r H1 r0 r1 F1 sb1 => ?_⟩
    have f1 := sb1 _ _ hpd ab
    have sb1 := ((au.new (o := .lst []) hp).b (d := d)).trans sb1
    refine ⟨_, _, rfl, rfl, _, rfl, by omega, by omega, ?_⟩
    refine cj (lo := 0) (n := (1+r).toNat) (fun i σ H' => ∃ (a b : Option V) (W : List L), σ = [some (.ref d), some (.int m), some (.ref p), a, b] ∧ H' p=some (.lst (bI W)) ∧ W.Perm (fam i) ∧ Tp H' d c ∧ aU d H H') ⟨none, none, [], rfl, f1, List.Perm.refl _, F1, sb1⟩ ?_ ?_
    · rintro i σ H2 hi ⟨a, b, W, rfl, hW, pW, F2, sb2⟩
      have hi : i < 6 := by omega
      rw [Ay]
      have lW : (bI W).length≤12 := by
        obtain ⟨_, _, c⟩ := hX ⟨i, by omega⟩
        have c : (fam i).length=2*i := c
        have := pW.length_eq
        rw [bc]
        omega
      refine ⟨_, rfl, _, _, _, rfl, rfl, (by rw [lj];omega), sm_at hi, _, rfl, _, _, _, rfl, rfl, (by rw [lp];omega), u9 hi, ?_⟩
      refine ⟨(aD (n := 2) (by decide)), fun t ht => ?_⟩
      generalize ex : (⟨i, by omega⟩ : L)=x
      generalize ey : (⟨i+6, by omega⟩ : L)=y
      have htp : t≠p := (ak hW ht).symm
      have htd : t≠d := F2.ne ht
      refine ⟨t, rfl, ⟨_, SqT.of ab⟩, qb (xs := [tx [x], tx [y]]) (fun j σ H' => ∃ (b : Option V) (W : List L), σ = [some (.ref d), some (.int m), some (.ref p), some (.int (i : Int)), b] ∧ H' p=some (.lst (bI W)) ∧ W.Perm (fam i++[x, y].take j) ∧ Tp H' d c ∧ aU d H H' ∧ H' t=some (.tup [tx [x], tx [y]])) ⟨b, W, rfl, (au.new ht) _ _ hW, by rw [List.take_zero, yL];exact pW, F2.new ht, sb2.trans (au.new ht).b, ab⟩ (fun j σ H' hj ⟨_, _, _, _, _, _, _, q⟩ => SqT.of q) ?_ ?_⟩
      · rintro j z σ H3 hz ⟨b, W, rfl, hW, pW, F3, sb3, h3⟩
        have hj : j < 2 := by
          have := (xh.mp hz).1
          exact this
        have lW : (bI W).length≤14 := by
          obtain ⟨_, _, c⟩ := hX ⟨i, by omega⟩
          have c : (fam i).length=2*i := c
          have := pW.length_eq
          rw [w4, xo, c] at this
          rw [bc, this]
          simp only [xM, zx]
          omega
        obtain ⟨z', ez, hz'⟩ : ∃ z', z=tx [z'] ∧ [x, y][j]? = some z' := by
          have : j=0 ∨ j=1 := by omega
          rcases this with rfl | rfl
          · exact ⟨x, (xb hz).symm, rfl⟩
          · exact ⟨y, (xb hz).symm, rfl⟩
        subst ez
        refine ⟨_, rfl, .inl ⟨rfl, _, SqL.of hW⟩, _, rfl, _, rfl, p, _, rfl, .inl (SqL.of hW), _, _, rfl, rfl, d, c, _, rfl, F3, by omega, by omega, fun q H4 q0 q1 F4 sb4 => ?_⟩
        have h4 := sb4 _ _ hpd hW
        refine ⟨_, rfl, p, _, q, _, rfl, rfl, h4, q0, by omega, by omega, ?_⟩
        rw [n8]
        have s5 : aU p H4 (upd H4 p (.lst (bI (W.take q.toNat++z'::W.drop q.toNat)))) := aU.upd
        refine ⟨_, _, rfl, ab, ?_, F4.but hpd hpc s5, fun b o n e => s5 _ _ (ak e hp) (sb4 _ _ n (sb3 _ _ n e)), s5 _ _ htp (sb4 _ _ htd h3)⟩
        have e : [x, y].take (j+1)=[x, y].take j++[z'] := cu hz'
        rw [e, ← AI]
        exact n6 z' q.toNat pW
      · rintro σ H3 ⟨b, W, rfl, hW, pW, F3, sb3, h3⟩
        refine ⟨_, _, W, rfl, hW, ?_, F3, sb3⟩
        rw [jz hi, ex, ey]
        exact pW
    · rintro σ H2 ⟨a, b, W, rfl, hW, pW, F2, sb2⟩
      have hl := pW.length_eq
      obtain ⟨_, _, c⟩ := hX ⟨(1+r).toNat, by omega⟩
      have c : (fam (1+r).toNat).length=2*(1+r).toNat := c
      refine ⟨rfl, _, rfl, _, p, W.map fun x => toS [x], rfl, rfl, SqL.of (by rw [hW, cQ]), cq _ (by omega), ?_⟩
      rw [cn]
      exact k _ _ _ ⟨pW, by omega, by omega⟩ (by omega) F2 sb2
end
end Kx
namespace Kx
open PySem PySem.Spec PyProof.Rows L2 Wd
theorem tX (V0 : List L)(y : L) : (bI (V0++[y]))[(bI (V0++[y])).length - 1]? = some (tx [y]) := by
  unfold bI
  simp
theorem oF (V0 : List L)(y : L) : some (HO.lst (bI (V0++[y])).dropLast)=some (HO.lst (bI V0)) := by
  unfold bI
  simp
theorem oG (x y : L)(mid : List L) : d3 (bI (x::(mid++[y]))) (some 1) (some (-1))=bI mid := by
  unfold d3
  have hl : (bI (x::(mid++[y]))).length=mid.length+2 := by rw [bc];simp
  have e1 : HT.sIx (bI (x::(mid++[y]))).length 0 (some 1)=1 := by
    have q := HT.cJ (bI (x::(mid++[y]))).length 0 1
    rw [show ((1 : Nat) : Int)=1 from rfl] at q
    rw [q, hl]
    omega
  have e2 : HT.sIx (bI (x::(mid++[y]))).length (bI (x::(mid++[y]))).length (some (-1))=mid.length+1 := by
    show (if (-1 : Int) < 0 then ((-1 : Int)+((bI (x::(mid++[y]))).length : Int)).toNat else min (-1 : Int).toNat (bI (x::(mid++[y]))).length)=_
    rw [if_pos (by decide), hl]
    omega
  rw [e1, e2]
  unfold bI
  simp
section
variable {P : Program} {w : World} {K : PySem.W.Frag} {mg : Str → Option Value} {base : Heap} {aB : Addr}
abbrev fb : Stmt := top 28
theorem kc : aF ["_law_word", "_law_size"] ["_law_word"] (av fb) := ⟨rfl, rfl, rfl, by decide +kernel, rfl, by decide +kernel, by decide +kernel⟩
theorem mj (D : Df K mg "_law_rooted" fb)(T : Bt K w mg aB) : Fnc P w K mg base "_law_rooted" ["_law_word"] 1 gf := by
  have sc := kc
  refine D.ok sc (fun _ _ _ _ _ _ us hl => by obtain ⟨_, rfl⟩ := m9 hl;rfl) (fun vs H Q E h => ?_) (fun f cdv A outer s H vs Q E hr h => ?_)
  · obtain ⟨u, rfl, _⟩ := h
    rfl
  · obtain ⟨u, rfl, hu, k⟩ := h
    have l16 := a8
    have hll : (toS u).length≤sizeLine := by rw [ah];omega
    refine ⟨_, (@ag _ _ _ _ _ (@bA _ _ _ _ _ _ _ _ xG rfl (@kz _ _ _ _ _ _ _ rfl T.range (@aa _ _ _ _ _ ao (@aa _ _ _ _ _ (@ar _ _ _ _ _ _ _ _ _ aI (by rfl) T.len xn (@aa _ _ _ _ _ (pv 0) ae (by rfl)) (by decide) (by decide) (by rfl) (by rfl)) ae (by rfl)) (by rfl)) (by rfl) (by rfl)) (@aA _ _ (1) _ sc.nd rfl (Or.inl rfl) (by first | exact .inl rfl | exact .inr rfl | assumption)) (@aq _ _ _ (@bN _ _ _ _ _ _ _ _ (@aH _ _ _ _ _ _ _ _ cS (@aG _ _ _ _ _ _ _ _ fx (@aN _ _ _ _ _ _ _ _ _ _ dk (pv 0) bf (@aV _ _ _ (pv 1))) (@aG _ _ _ _ _ _ _ _ cv (@ar _ _ _ _ _ _ _ _ _ aI (by rfl) T.len xn (@aa _ _ _ _ _ (pv 0) ae (by rfl)) (by decide) (by decide) (by rfl) (by rfl)) (pv 1))) (pv 0) (aK _)) (@aq _ _ _ (@aE _ _ _ _ (@aN _ _ _ _ _ _ _ _ _ _ dk (pv 0) bf (@aV _ _ _ (pv 1))))) aR)) (by intro _ ;rfl)) (@aq _ _ _ (@aE _ _ _ _ (pv 0)))), ?_⟩
    refine ⟨_, rfl, _, rfl, hll, _, _, rfl, (by first | omega | (rw [ah];omega)), ?_⟩
    rw [ah]
    refine cj (lo := 1) (n := ((u.length : Int) - 1).toNat) (fun i σ H' => ∃ v : Option V, σ = [some (tx u), v] ∧ H'=H) ⟨none, rfl, rfl⟩ ?_ ?_
    · rintro i σ H1 hi ⟨v, rfl, rfl⟩
      have hi : i+1 < u.length := by omega
      have e1 : (1 : Int)+(i : Int)=((i+1 : Nat) : Int) := by omega
      rw [e1]
      have c1 : Txt.slice (toS u) none (some ((i+1 : Nat) : Int))=toS (u.take (i+1)) := by rw [bu, eU _ (by omega)];rfl
      have dv : ((toS u).length : Int) / ((i+1 : Nat) : Int)=((u.length / (i+1) : Nat) : Int) := by rw [ah];rfl
      have db : u.length / (i+1)≤u.length := Nat.div_le_self _ _
      refine ⟨_, rfl, _, rfl, _, rfl, _, rfl, hll, ?_⟩
      rw [c1]
      refine ⟨_, rfl, _, rfl, hll, _, rfl, _, _, rfl, rfl, ⟨by omega, by omega⟩, ?_⟩
      refine ⟨_, ((u.length / (i+1) : Nat) : Int), rfl, xA V.int dv, gZ _ (Int.le_trans (by decide) (Int.natCast_nonneg _)) (Int.ofNat_le.mpr (show u.length / (i+1)≤1000 by omega)) (by rw [xo];omega), ?_⟩
      refine ⟨_, rfl, rfl, _, rfl, gF (fun _ => ?_) (fun _ => ⟨_, rfl, rfl⟩)⟩
      refine ⟨_, rfl, _, rfl, _, rfl, _, rfl, hll, ?_⟩
      rw [c1]
      exact k _ (by rw [xo];omega) fun x hx => ya hx
    · rintro σ H1 ⟨v, rfl, rfl⟩
      exact ⟨_, rfl, k u (wZ _) fun x hx => hx⟩
abbrev iS : Stmt := top 27
theorem oH : aF ["_law_word", "_law_left", "_law_sign"] ["_law_word"] (av iS) := ⟨rfl, rfl, rfl, by decide +kernel, rfl, by decide +kernel, by decide +kernel⟩
theorem rg (D : Df K mg "_law_inner" iS)(T : Bt K w mg aB)(F_lback : Fnc P w K mg base "_law_back" ["_law_word"] 1 qD) : Fnc P w K mg base "_law_inner" ["_law_word"] 2 gb := by
  have sc := oH
  refine D.ok sc (fun _ _ _ _ _ _ us hl => by obtain ⟨_, rfl⟩ := m9 hl;rfl) (fun vs H Q E h => ?_) (fun f cdv A outer s H vs Q E hr h => ?_)
  · obtain ⟨u, rfl, _⟩ := h
    rfl
  · obtain ⟨u, rfl, hu, k⟩ := h
    have l16 := a8
    refine ⟨_, (@ag _ _ _ _ _ (@aC _ _ (1) _ _ _ _ sc.nd rfl (Or.inl rfl) (@bj _ _ _ _ ae) (by rfl) (by first | exact .inl rfl | exact .inr rfl | assumption)) (@ag _ _ _ _ _ (@bA _ _ _ _ _ _ _ _ xG rfl (@js _ _ _ _ (pv 0)) (@aA _ _ (2) _ sc.nd rfl (Or.inl rfl) (by first | exact .inl rfl | exact .inr rfl | assumption)) (@aq _ _ _ (@bN _ _ _ _ _ _ _ _ (@PW.pt _ _ _ (@o_ _ _ _ _ _ _ _ (@aH _ _ _ _ _ _ _ _ nu (@ar _ _ _ _ _ _ _ _ _ az (by rfl) T.len xn (@aa _ _ _ _ _ (pv 1) ae (by rfl)) (by decide) (by decide) (by rfl) (by rfl)) ao (aK _)) (@ku _ _ _ _ (@aH _ _ _ _ _ _ _ _ cS (@aL _ _ _ _ _ _ _ a_ (pv 1) (@iG _ _ _ _ _ _ eI ao) (fun _ _ => rfl)) (@aJ _ _ _ _ _ _ _ _ _ _ _ F_lback hr (by decide) rfl (@aa _ _ _ _ _ (pv 2) ae (by rfl)) (by decide) (by rfl) (by rfl)) (aK _))))) (@aq _ _ _ (@bQ _ _ _ _ (@eM _ _ _ _ _ _ _ _ _ xx z7 z8 sH (pv 1) (by rfl) (by rfl)) (by rfl))) (@aq _ _ _ (@bQ _ _ _ _ (@bV _ _ _ _ _ _ _ _ _ _ _ _ xx yn zr eN (pv 1) (@aa _ _ _ _ _ (pv 2) ae (by rfl)) (by rfl) (by rfl) (by rfl) (by rfl) (by rfl)) (by rfl))))) (by intro _ ;rfl)) (@ag _ _ _ _ _ (@je _ _ _ _ _ _ xG (@PW.pt _ _ _ (@o_ _ _ _ _ _ _ _ (@aH _ _ _ _ _ _ _ _ nu (@ar _ _ _ _ _ _ _ _ _ az (by rfl) T.len xn (@aa _ _ _ _ _ (pv 1) ae (by rfl)) (by decide) (by decide) (by rfl) (by rfl)) ao (aK _)) (@ku _ _ _ _ (@aH _ _ _ _ _ _ _ _ cS (@aL _ _ _ _ _ _ _ a_ (pv 1) ao (fun _ _ => rfl)) (@aJ _ _ _ _ _ _ _ _ _ _ _ F_lback hr (by decide) rfl (@aa _ _ _ _ _ (@aL _ _ _ _ _ _ _ a_ (pv 1) (@iG _ _ _ _ _ _ eI ao) (fun _ _ => rfl)) ae (by rfl)) (by decide) (by rfl) (by rfl)) (aK _))))) (@aq _ _ _ (@aC _ _ (1) _ _ _ _ sc.nd rfl (Or.inl rfl) (@aN _ _ _ _ _ _ _ _ _ _ kN (pv 1) (@aV _ _ _ ao) (@aV _ _ _ (@iG _ _ _ _ _ _ eI ao))) (by rfl) (by first | exact .inl rfl | exact .inr rfl | assumption)))) (@aq _ _ _ (@aE _ _ _ _ (@bV _ _ _ _ _ _ _ _ _ _ _ _ xy yo yq eS bP (@aa _ _ _ _ _ (pv 1) ae (by rfl)) (by rfl) (by rfl) (by rfl) (by rfl) (by rfl))))))), ?_⟩
    refine ⟨(by show 0≤sizeLine;decide), fun l hl => ?_⟩
    refine ⟨_, rfl, _, rfl, iI (z := toS u) (fun i σ H' => ∃ (v : Option V) (W : List L), σ = [some (tx u), some (.ref l), v] ∧ H' l=some (.lst (bI W)) ∧ W.length≤i ∧ (∀ x∈W, x∈u) ∧ au H H') ⟨none, [], rfl, ab, wZ _, (fun x hx => by cases hx), au.new hl⟩ ?_ ?_⟩
    · rintro i cc σ H1 hc ⟨v, W, rfl, h1, hW, mW, s1⟩
      obtain ⟨x, hx, ex⟩ := eT hc
      rw [ex]
      have hi : i < u.length := (xh.mp hx).1
      have push : ∀ H2, au H1 H2 → ∃ (v : Option V) (W' : List L), [some (tx u), some (V.ref l), some (V.str (toS [x]))]=[some (tx u), some (V.ref l), v] ∧ (upd H2 l (.lst (bI W++[V.str (toS [x])]))) l=some (.lst (bI W')) ∧ W'.length≤i+1 ∧ (∀ x∈W', x∈u) ∧ au H (upd H2 l (.lst (bI W++[V.str (toS [x])]))) := fun H2 s2 => by
        refine ⟨_, W++[x], rfl, ?_, by rw [w4];simp;omega, fun y hy => ?_, fun b o e => ?_⟩
        · rw [ab, ← cm]
          rfl
        · rcases xF.mp hy with hy | hy
          · exact mW y hy
          · rw [xf.mp hy]
            exact xc hx
        · rw [ay (ak e hl)]
          exact s2 _ _ (s1 _ _ e)
      refine ⟨_, rfl, l, _, rfl, .inl (SqL.of h1), _, _, rfl, rfl, _, rfl, ?_⟩
      by_cases h0 : W=[]
      · subst h0
        refine pI (xg (by simp [bI])) (iz ?_)
        refine ⟨_, rfl, .inl ⟨rfl, _, SqL.of h1⟩, _, rfl, l, _, _, rfl, rfl, h1, (by rw [bc];simp;omega), ?_⟩
        exact push H1 (au.refl _)
      · obtain ⟨V0, y, rfl⟩ : ∃ V0 y, W=V0++[y] := ⟨W.dropLast, W.getLast h0, (Ag h0).symm⟩
        have hl1 : (bI (V0++[y])).length=V0.length+1 := by rw [bc];simp
        have al : atI (bI (V0++[y])) (-1)=some (tx [y]) := by
          unfold bI
          rw [w9]
          exact jj _ _
        refine lq (xq (by rw [hl1];omega)) ?_
        refine ⟨_, rfl, _, rfl, l, _, _, _, rfl, rfl, SqL.of h1, al, _, rfl, [x], rfl, (by show 1≤5000;decide), fun H2 s2 => ?_⟩
        refine ⟨rfl, _, rfl, ?_⟩
        rw [pF]
        by_cases hyx : y=inv x
        · refine lq (by rw [hyx];exact xq rfl) ?_
          have h2 := s2 _ _ h1
          refine ⟨_, rfl, .inl ⟨rfl, _, SqL.of h2⟩, l, _, _, rfl, rfl, h2, tX _ _, _, V0, rfl, ?_, by simp at hW;omega, fun z hz => mW z (xY _ hz), fun b o e => ?_⟩
          · rw [ab, oF]
          · rw [ay (ak e hl)]
            exact s2 _ _ (s1 _ _ e)
        · refine pI (xg fun e => hyx (AS (pG e)).1) ?_
          refine ⟨_, rfl, .inl ⟨rfl, _, SqL.of (s2 _ _ h1)⟩, _, rfl, l, _, _, rfl, rfl, s2 _ _ h1, (by rw [hl1];simp at hW;omega), ?_⟩
          exact push H2 s2
    · rintro σ H1 ⟨v, W, rfl, h1, hW, mW, s1⟩
      rw [bW] at hW
      refine ⟨fun m σ H' => ∃ (v : Option V) (W : List L) (l2 : Addr), σ = [some (tx u), some (.ref l2), v] ∧ H' l2=some (.lst (bI W)) ∧ W.length≤u.length ∧ (∀ x∈W, x∈u) ∧ au H H' ∧ m=W.length, ⟨_, v, W, l, rfl, h1, hW, mW, s1, rfl⟩, ?_⟩
      rintro m σ H2 ⟨v, W, l2, rfl, h2, hW2, mW2, s2, rfl⟩
      have fin : ∀ H3, au H2 H3 → Q (tx W) H3 := fun H3 s3 => k W H3 hW2 mW2 (s2.trans s3)
      refine ⟨_, rfl, l2, _, rfl, .inl (SqL.of h2), _, _, rfl, rfl, _, rfl, ?_⟩
      rw [bc]
      by_cases g1 : 1 < W.length
      · refine lq (xq (by omega)) ?_
        obtain ⟨x, mid, y, rfl⟩ : ∃ x mid y, W=x::(mid++[y]) := by
          cases W with
          | nil => simp at g1
          | cons x r =>
            have hr : r≠[] := by
              intro e
              subst e
              simp at g1
            exact ⟨x, r.dropLast, r.getLast hr, by rw [Ag]⟩
        have a0 : atI (bI (x::(mid++[y]))) 0=some (tx [x]) := mh rfl
        have al : atI (bI (x::(mid++[y]))) (-1)=some (tx [y]) := by
          have e : bI (x::(mid++[y]))=bI (x::mid)++[tx [y]] := by rw [cm];rfl
          rw [e]
          exact jj _ _
        refine ⟨_, rfl, l2, _, _, _, rfl, rfl, SqL.of h2, a0, _, rfl, _, rfl, l2, _, _, _, rfl, rfl, SqL.of h2, al, [y], rfl, (by show 1≤5000;decide), fun H3 s3 => ?_⟩
        refine ⟨rfl, _, rfl, ?_⟩
        rw [pF]
        by_cases hxy : x=inv y
        · refine lq (by rw [hxy];exact xq rfl) ⟨_, fun σ' H' q => q, ?_⟩
          refine ⟨_, rfl, _, rfl, _, rfl, _, rfl, l2, _, rfl, SqL.of (s3 _ _ h2), fun l3 hl3 => ?_⟩
          rw [oG]
          refine ⟨mid.length, by simp;omega, v, mid, l3, rfl, ab, by simp at hW2;omega, fun z hz => mW2 z (xk _ (xY _ hz)), (s2.trans s3).then hl3, rfl⟩
        · refine pI (xg fun e => hxy (AS (pG e)).1) ?_
          exact ⟨rfl, _, rfl, _, l2, (_ : List L).map fun x => toS [x], rfl, rfl, SqL.of (by rw [s3 _ _ h2, cQ]), cq _ (by omega), by rw [cn];exact fin H3 s3⟩
      · refine pI (xg (by omega)) (iz ?_)
        exact ⟨rfl, _, rfl, _, l2, (_ : List L).map fun x => toS [x], rfl, rfl, SqL.of (by rw [(au.refl _) _ _ h2, cQ]), cq _ (by omega), by rw [cn];exact fin H2 (au.refl _)⟩
end
end Kx
namespace Kx
open PySem PySem.Spec PyProof.Rows L2 Wd
theorem tY {m : Nat}(h : m≤6){x : L}(hx : x∈sg (m : Int)) : x.val % 6 < m := by
  have q : ∀ (m : Fin 7) (x : L), x∈([0, 1, 2, 3, 4, 5] : List L).take m.val++([6, 7, 8, 9, 10, 11] : List L).take m.val → x.val % 6 < m.val := by decide
  exact q ⟨m, by omega⟩ x hx
theorem mm {u : List L}{x : L} : ∀ {n : Nat}, x∈rep n u → x∈u
  | 0, h => by cases h
  | n+1, h => by
    have h : x∈rep n u++u := h
    rcases xF.mp h with h | h
    · exact mm h
    · exact h
section
variable {P : Program} {w : World} {K : PySem.W.Frag} {mg : Str → Option Value} {base : Heap} {aB : Addr}
abbrev vx : Stmt := top 29
theorem vy : aF ["_law_tape_here", "_law_many", "_law_long", "_law_signs", "_law_word", "_law_at"] ["_law_tape_here", "_law_many", "_law_long"] (av vx) := ⟨rfl, rfl, rfl, by decide +kernel, rfl, by decide +kernel, by decide +kernel⟩
theorem wQ (D : Df K mg "_law_any_way" vx)(T : Bt K w mg aB)(F_draw : Fnc P w K mg base "_law_draw" ["_law_tape_here", "_law_many"] 1 cg)(F_inner : Fnc P w K mg base "_law_inner" ["_law_word"] 2 gb)(F_lrooted : Fnc P w K mg base "_law_rooted" ["_law_word"] 1 gf) : Fnc P w K mg base "_law_any_way" ["_law_tape_here", "_law_many", "_law_long"] 3 iL := by
  have sc := vy
  refine D.ok sc (fun _ _ _ _ _ _ us hl => by obtain ⟨_, _, _, rfl⟩ := qV hl;rfl) (fun vs H Q E h => ?_) (fun f cdv A outer s H vs Q E hr h => ?_)
  · obtain ⟨d, c, m, n, rfl, _⟩ := h
    rfl
  · obtain ⟨d, c, m0, n, rfl, F, m1, m2, n1, n2, k⟩ := h
    have m1 : (1 : Int)≤(m0 : Int) := by omega
    have m2 : (m0 : Int)≤6 := by omega
    have k : ∀ (v : List L) (H2 : Hp), v≠[] → v.length≤15 → (∀ x∈v, x∈sg (m0 : Int)) → Tp H2 d c → aU d H H2 → Q (tx v) H2 := fun v H2 a1 a2 a3 => k v H2 a1 a2 fun x hx => tY (by omega) (a3 x hx)
    generalize (m0 : Int)=m at m1 m2 k ⊢
    have l16 := a8
    refine ⟨_, (@ag _ _ _ _ _ (@aC _ _ (3) _ _ _ _ sc.nd rfl (Or.inr rfl) (@aG _ _ _ _ _ _ _ _ dF (@aN _ _ _ _ _ _ _ _ _ _ dk bP bf (@aV _ _ _ (pv 1))) (@aN _ _ _ _ _ _ _ _ _ _ dk bP bf (@aV _ _ _ (pv 1)))) (by rfl) (by first | exact .inl rfl | exact .inr rfl | assumption)) (@ag _ _ _ _ _ (@aC _ _ (4) _ _ _ _ sc.nd rfl (Or.inl rfl) (@bV _ _ _ _ _ _ _ _ _ _ _ _ xy yo yq eS bP (@aa _ _ _ _ _ (@bp _ _ _ _ _ _ _ (["_law_k", "_law_signs", "_law_tape_here", "_law_many"]) (["_law_k"]) ([3, 0, 1]) _ _ _ _ (@bH _ _ _ _ _ _ rfl (by kernel_rfl)) rfl (@bh _ _ _ _ _ _ rfl T.range (@aa _ _ _ _ _ (@aG _ _ _ _ _ _ _ _ bt ao (@aJ _ _ _ _ _ _ _ _ _ _ _ F_draw hr (by decide) rfl (@aa _ _ _ _ _ (pv 0) (@aa _ _ _ _ _ (pv 2) ae (by rfl)) (by rfl)) (by decide) (by rfl) (by rfl))) ae (by rfl)) (by rfl)) (fun _ _ _ _ => @aA _ _ (0) _ (show (["_law_k", "_law_signs", "_law_tape_here", "_law_many"] : List Str).Nodup from by decide +kernel) rfl (Or.inl rfl) (by first | exact .inl rfl | exact .inr rfl | assumption)) (fun _ _ _ _ => a9) (fun _ _ _ _ => by (exact (@aL _ _ _ _ _ _ _ d5 (pv 1) (@aJ _ _ _ _ _ _ _ _ _ _ _ F_draw hr (by decide) rfl (@aa _ _ _ _ _ (pv 2) (@aa _ _ _ _ _ (@aG _ _ _ _ _ _ _ _ cW ao (pv 3)) ae (by rfl)) (by rfl)) (by decide) (by rfl) (by rfl)) (fun _ _ => rfl)))) (by intro _ ;rfl)) ae (by rfl)) (by rfl) (by rfl) (by rfl) (by rfl) (by rfl)) (by rfl) (by first | exact .inl rfl | exact .inr rfl | assumption)) (@ag _ _ _ _ _ (@bN _ _ _ _ _ _ _ _ (@aH _ _ _ _ _ _ _ _ cS (@aJ _ _ _ _ _ _ _ _ _ _ _ F_draw hr (by decide) rfl (@aa _ _ _ _ _ (pv 0) (@aa _ _ _ _ _ ao ae (by rfl)) (by rfl)) (by decide) (by rfl) (by rfl)) ao (aK _)) (@ag _ _ _ _ _ (@aC _ _ (5) _ _ _ _ sc.nd rfl (Or.inl rfl) (@aG _ _ _ _ _ _ _ _ bt ao (@aJ _ _ _ _ _ _ _ _ _ _ _ F_draw hr (by decide) rfl (@aa _ _ _ _ _ (pv 0) (@aa _ _ _ _ _ ao ae (by rfl)) (by rfl)) (by decide) (by rfl) (by rfl))) (by rfl) (by first | exact .inl rfl | exact .inr rfl | assumption)) (@aq _ _ _ (@aC _ _ (4) _ _ _ _ sc.nd rfl (Or.inl rfl) (@aG _ _ _ _ _ _ _ _ dF (@aG _ _ _ _ _ _ _ _ fx (@aN _ _ _ _ _ _ _ _ _ _ dk (pv 4) bf (@aV _ _ _ (pv 5))) (@aG _ _ _ _ _ _ _ _ bt ao (@aJ _ _ _ _ _ _ _ _ _ _ _ F_draw hr (by decide) rfl (@aa _ _ _ _ _ (pv 0) (@aa _ _ _ _ _ ao ae (by rfl)) (by rfl)) (by decide) (by rfl) (by rfl)))) (@aN _ _ _ _ _ _ _ _ _ _ dk (pv 4) (@aV _ _ _ (pv 5)) bf)) (by rfl) (by first | exact .inl rfl | exact .inr rfl | assumption)))) aR) (@aq _ _ _ (@aE _ _ _ _ (@tu _ _ _ _ _ _ _ (@aJ _ _ _ _ _ _ _ _ _ _ _ F_lrooted hr (by decide) rfl (@aa _ _ _ _ _ (@aJ _ _ _ _ _ _ _ _ _ _ _ F_inner hr (by decide) rfl (@aa _ _ _ _ _ (@aN _ _ _ _ _ _ _ _ _ _ dk (pv 4) bf (@aV _ _ _ (pv 2))) ae (by rfl)) (by decide) (by rfl) (by rfl)) ae (by rfl)) (by decide) (by rfl) (by rfl)) (@dU _ _ _ _ _ (@aL _ _ _ _ _ _ _ d5 (pv 3) ao (fun _ _ => rfl))))))))), ?_⟩
    refine ⟨_, rfl, _, rfl, _, rfl, (by rw [lj];omega), _, rfl, _, rfl, _, rfl, (by rw [lp];omega), _, _, rfl, rfl, ?_, ?_⟩
    · have h1 := zY ("abcdef" : Str) none (some m)
      have h2 := zY ("ABCDEF" : Str) none (some m)
      rw [lj] at h1
      rw [lp] at h2
      omega
    rw [nV m1]
    have hsg := lh m1 m2
    refine ⟨rfl, _, rfl, _, rfl, d, c, _, rfl, F, by omega, by omega, fun r H1 r0 r1 F1 sb1 => ?_⟩
    refine ⟨_, _, rfl, rfl, _, rfl, by omega, by omega, ?_⟩
    refine bS (own := ["_law_k"]) (cap := [3, 0, 1]) (J := Itr 0 (1+r).toNat) (1+r).toNat (fun i ys σ H' => ∃ (v : Option V) (W : List L), σ = [v, some (tx (sg m)), some (.ref d), some (.int m)] ∧ ys=bI W ∧ W.length=i ∧ (∀ x∈W, x∈sg m) ∧ Tp H' d c ∧ aU d H H')
      ⟨none, [], rfl, rfl, rfl, (fun x hx => by cases hx), F1, sb1⟩ (fun i ys σ H' hi ⟨v, W, _, e, e2, _⟩ => by rw [e, bc, e2];exact wZ _) (by omega) (fun i ys σ H' hi _ => hi) (fun ys σ H' _ => wZ _) ?_ ?_
    · rintro i ys σ H2 x H3 N hi ⟨v, W, rfl, rfl, hW, mW, F2, sb2⟩ ⟨rfl, rfl⟩ hN
      refine ⟨_, rfl, _, rfl, _, rfl, _, _, rfl, rfl, .inl ⟨by decide, by decide⟩, d, c, _, rfl, F2, by omega, by omega, fun q H4 q0 q1 F4 sb4 => ?_⟩
      have hq : q.toNat < (sg m).length := by omega
      refine ⟨_, _, cp (sg m)[q.toNat], rfl, rfl, (by rw [ah];omega), dM (k := q.toNat) (by omega) (wY hq), hN _ _ _ ⟨_, W++[(sg m)[q.toNat]], rfl, (cm _ _), by rw [w4, hW];rfl, fun x hx => (xF.mp hx).elim (mW x) (fun hx => by rw [xf.mp hx];exact yc hq), F4, sb2.trans sb4⟩⟩
    rintro ys σ H2 l ⟨v, W, rfl, rfl, hW, mW, F2, sb2⟩ hl
    refine ⟨_, l, W.map fun x => toS [x], rfl, rfl, SqL.of (by rw [ab, cQ]), cq _ (by omega), ?_⟩
    rw [cn]
    have F3 := F2.new (o := .lst (bI W)) hl
    have sb3 := sb2.trans (au.new (o := .lst (bI W)) hl).b
    generalize upd H2 l (.lst (bI W))=H3 at F3 sb3 ⊢
    have hW15 : W.length≤15 := by omega
    -- what comes behind
    have hs0 : ∃ x, (sg m)[0]? = some x := ⟨(sg m)[0]'(by omega), wY (by omega)⟩
    obtain ⟨x0, hx0⟩ := hs0
    refine ⟨_, rfl, d, c, _, rfl, F3, by decide, by decide, fun q H4 q0 q1 F4 sb4 => ?_⟩
    refine ⟨rfl, _, rfl, ?_⟩
    have end_ : ∀ (Z : List L) (H5 : Hp), Z.length≤60 → Tp H5 d c → aU d H H5 → (∀ (v : List L) (H6 : Hp), v≠[] → v.length≤15 → (∀ x∈v, x∈sg m) → au H5 H6 → Q (tx v) H6) := fun Z H5 _ F5 sb5 v H6 ne hv mv s6 => k v H6 ne hv mv (F5.same s6) (sb5.trans s6.b)
    refine gF (fun _ => ?_) (fun _ => ?_)
    · refine ⟨_, rfl, d, c, _, rfl, F4, by decide, by decide, fun a H5 a0 a1 F5 sb5 => ⟨_, _, rfl, rfl, ?_⟩⟩
      have c1 : Txt.slice (toS W) none (some (1+a))=toS (W.take (1+a).toNat) := by rw [bu, eU _ (by omega)]
      have c2 : Txt.slice (toS W) (some (1+a)) none=toS (W.drop (1+a).toNat) := by rw [bu, ju _ (by omega)]
      refine ⟨_, rfl, _, rfl, _, rfl, _, rfl, (by rw [ah];omega), ?_⟩
      rw [c1]
      refine ⟨_, rfl, d, c, _, rfl, F5, by decide, by decide, fun b H6 b0 b1 F6 sb6 => ⟨_, _, rfl, rfl, ?_⟩⟩
      refine ⟨_, _, rfl, rfl, gZ _ (by omega) (by omega) (by rw [xo];omega), ?_⟩
      rw [qA]
      have hrl : (rep (2+b).toNat (W.take (1+a).toNat)).length≤12 := by
        rw [fy, xo]
        exact xH (Nat.mul_le_mul (show (2+b).toNat≤4 by omega) (show min (1+a).toNat W.length≤3 by omega)) (by decide)
      have hrm : ∀ x∈rep (2+b).toNat (W.take (1+a).toNat), x∈sg m := fun x hx => mW x (ya (mm hx))
      generalize rep (2+b).toNat (W.take (1+a).toNat)=R1 at hrl hrm ⊢
      refine ⟨_, rfl, _, rfl, _, rfl, _, rfl, (by rw [ah];omega), ?_⟩
      rw [c2]
      refine ⟨_, _, rfl, rfl, (by rw [ah, ah, xX];omega), ?_⟩
      rw [lg]
      have hZ : (R1++W.drop (1+a).toNat).length≤60 := by rw [w4, xX];omega
      have hZm : ∀ x∈R1++W.drop (1+a).toNat, x∈sg m := fun x hx => (xF.mp hx).elim (hrm x) fun hx => mW x (zi hx)
      have sb06 := sb3.trans (sb4.trans (sb5.trans sb6))
      generalize R1++W.drop (1+a).toNat=Z at hZ hZm ⊢
      have cz : Txt.slice (toS Z) none (some n)=toS (Z.take n.toNat) := by rw [bu, eU _ (by omega)]
      refine ⟨_, rfl, _, rfl, _, rfl, _, rfl, (by rw [ah];omega), ?_⟩
      rw [cz]
      have hzl : (Z.take n.toNat).length≤15 := by rw [xo];omega
      refine ⟨Z.take n.toNat, rfl, by omega, fun v1 H7 hv1 mv1 s7 => ⟨v1, rfl, by omega, fun v2 hv2 mv2 => ?_⟩⟩
      refine ⟨_, rfl, (by rw [ah];omega), gF (fun e2 => end_ Z _ hZ F6 sb06 v2 H7 (by rintro rfl;exact absurd e2 (by decide)) (by omega) (fun x hx => hZm x (ya (mv1 x (mv2 x hx)))) s7) (fun _ => ?_)⟩
      refine ⟨_, rfl, _, _, cp x0, rfl, rfl, (by rw [ah];omega), dM (k := 0) rfl hx0, ?_⟩
      exact end_ Z _ hZ F6 sb06 [x0] H7 (by intro z;cases z) (by show 1≤15;decide) (fun x hx => by rw [xf.mp hx];exact xc hx0) s7
    · have hZ : W.length≤60 := by omega
      have sb06 := sb3.trans sb4
      have hZm := mW
      generalize W=Z at hZ hZm ⊢
      have cz : Txt.slice (toS Z) none (some n)=toS (Z.take n.toNat) := by rw [bu, eU _ (by omega)]
      refine ⟨_, rfl, _, rfl, _, rfl, _, rfl, (by rw [ah];omega), ?_⟩
      rw [cz]
      have hzl : (Z.take n.toNat).length≤15 := by rw [xo];omega
      refine ⟨Z.take n.toNat, rfl, by omega, fun v1 H7 hv1 mv1 s7 => ⟨v1, rfl, by omega, fun v2 hv2 mv2 => ?_⟩⟩
      refine ⟨_, rfl, (by rw [ah];omega), gF (fun e2 => end_ Z _ hZ F4 sb06 v2 H7 (by rintro rfl;exact absurd e2 (by decide)) (by omega) (fun x hx => hZm x (ya (mv1 x (mv2 x hx)))) s7) (fun _ => ?_)⟩
      refine ⟨_, rfl, _, _, cp x0, rfl, rfl, (by rw [ah];omega), dM (k := 0) rfl hx0, ?_⟩
      exact end_ Z _ hZ F4 sb06 [x0] H7 (by intro z;cases z) (by show 1≤15;decide) (fun x hx => by rw [xf.mp hx];exact xc hx0) s7
end
end Kx
namespace Kx
open PySem PySem.Spec PyProof.Rows L2 Wd
def GW (n : Nat)(w : List L) : Prop := w≠[] ∧ w.length≤15 ∧ InM n w
theorem GW.bk {n : Nat}{w : List L}(h : GW n w) : GW n (bk w) := ⟨fun e => h.1 (AU.mp (by rw [← ck, e]; rfl)), by rw [ck]; exact h.2.1, InM.bk h.2.2⟩
theorem GW.turn {n : Nat}{w : List L}(h : GW n w)(a : Nat) : GW n (w.drop a++w.take a) := by
  have hl : (w.drop a++w.take a).length=w.length := by rw [w4, xX, xo];omega
  refine ⟨fun e => h.1 (AU.mp (by rw [← hl, e];rfl)), by rw [hl];exact h.2.1, fun x hx => ?_⟩
  rcases xF.mp hx with hx | hx
  · exact h.2.2 x (zi hx)
  · exact h.2.2 x (ya hx)
theorem mn {α : Type}{xs : List α}{j : Int}(h0 : 0≤j)(h1 : j < xs.length) : ∃ v, v∈xs ∧ atI xs j=some v := by
  have hj : j.toNat < xs.length := by omega
  refine ⟨xs[j.toNat], yc hj, ?_⟩
  unfold atI ixN
  rw [if_pos h0, if_pos (by omega)]
  exact wY hj
section
variable {P : Program} {w : World} {K : PySem.W.Frag} {mg : Str → Option Value} {base : Heap} {aB : Addr}
abbrev iT : Stmt := top 30
theorem oI : aF ["_law_tape_here", "_law_many", "_law_most", "_law_long", "_law_ways", "_law_k", "_law_word", "_law_at"] ["_law_tape_here", "_law_many", "_law_most", "_law_long"] (av iT) := ⟨rfl, rfl, rfl, by decide +kernel, rfl, by decide +kernel, by decide +kernel⟩
theorem rh (D : Df K mg "_law_some_ways" iT)(T : Bt K w mg aB)(F_draw : Fnc P w K mg base "_law_draw" ["_law_tape_here", "_law_many"] 1 cg)(F_lback : Fnc P w K mg base "_law_back" ["_law_word"] 1 qD)(F_aw : Fnc P w K mg base "_law_any_way" ["_law_tape_here", "_law_many", "_law_long"] 3 iL) : Fnc P w K mg base "_law_some_ways" ["_law_tape_here", "_law_many", "_law_most", "_law_long"] 4 iM := by
  have sc := oI
  refine D.ok sc (fun _ _ _ _ _ _ us hl => by obtain ⟨_, _, _, _, rfl⟩ := wO hl;rfl) (fun vs H Q E h => ?_) (fun f cdv A outer s H vs Q E hr h => ?_)
  · obtain ⟨d, c, m, n, rfl, _⟩ := h
    rfl
  · obtain ⟨d, c, m, n, rfl, F, m1, m2, n1, n2, k⟩ := h
    have l16 := a8
    refine ⟨_, (@ag _ _ _ _ _ (@aC _ _ (4) _ _ _ _ sc.nd rfl (Or.inl rfl) (@bj _ _ _ _ (@aa _ _ _ _ _ (@aJ _ _ _ _ _ _ _ _ _ _ _ F_aw hr (by decide) rfl (@aa _ _ _ _ _ (pv 0) (@aa _ _ _ _ _ (pv 1) (@aa _ _ _ _ _ (pv 3) ae (by rfl)) (by rfl)) (by rfl)) (by decide) (by rfl) (by rfl)) ae (by rfl))) (by rfl) (by first | exact .inl rfl | exact .inr rfl | assumption)) (@ag _ _ _ _ _ (@bA _ _ _ _ _ _ _ _ xG rfl (@bh _ _ _ _ _ _ rfl T.range (@aa _ _ _ _ _ (@aJ _ _ _ _ _ _ _ _ _ _ _ F_draw hr (by decide) rfl (@aa _ _ _ _ _ (pv 0) (@aa _ _ _ _ _ (pv 2) ae (by rfl)) (by rfl)) (by decide) (by rfl) (by rfl)) ae (by rfl)) (by rfl)) (@aA _ _ (5) _ sc.nd rfl (Or.inl rfl) (by first | exact .inl rfl | exact .inr rfl | assumption)) (@ag _ _ _ _ _ (@aC _ _ (6) _ _ _ _ sc.nd rfl (Or.inl rfl) (@aJ _ _ _ _ _ _ _ _ _ _ _ F_aw hr (by decide) rfl (@aa _ _ _ _ _ (pv 0) (@aa _ _ _ _ _ (pv 1) (@aa _ _ _ _ _ (pv 3) ae (by rfl)) (by rfl)) (by rfl)) (by decide) (by rfl) (by rfl)) (by rfl) (by first | exact .inl rfl | exact .inr rfl | assumption)) (@ag _ _ _ _ _ (@bN _ _ _ _ _ _ _ _ (@aH _ _ _ _ _ _ _ _ cS (@aJ _ _ _ _ _ _ _ _ _ _ _ F_draw hr (by decide) rfl (@aa _ _ _ _ _ (pv 0) (@aa _ _ _ _ _ ao ae (by rfl)) (by rfl)) (by decide) (by rfl) (by rfl)) ao (aK _)) (@ag _ _ _ _ _ (@aC _ _ (6) _ _ _ _ sc.nd rfl (Or.inl rfl) (@aL _ _ _ _ _ _ _ a_ (pv 4) (@aJ _ _ _ _ _ _ _ _ _ _ _ F_draw hr (by decide) rfl (@aa _ _ _ _ _ (pv 0) (@aa _ _ _ _ _ (@ar _ _ _ _ _ _ _ _ _ az (by rfl) T.len xn (@aa _ _ _ _ _ (pv 4) ae (by rfl)) (by decide) (by decide) (by rfl) (by rfl)) ae (by rfl)) (by rfl)) (by decide) (by rfl) (by rfl)) (fun _ _ => rfl)) (by rfl) (by first | exact .inl rfl | exact .inr rfl | assumption)) (@ag _ _ _ _ _ (@aC _ _ (7) _ _ _ _ sc.nd rfl (Or.inl rfl) (@aJ _ _ _ _ _ _ _ _ _ _ _ F_draw hr (by decide) rfl (@aa _ _ _ _ _ (pv 0) (@aa _ _ _ _ _ (@ar _ _ _ _ _ _ _ _ _ aI (by rfl) T.len xn (@aa _ _ _ _ _ (pv 6) ae (by rfl)) (by decide) (by decide) (by rfl) (by rfl)) ae (by rfl)) (by rfl)) (by decide) (by rfl) (by rfl)) (by rfl) (by first | exact .inl rfl | exact .inr rfl | assumption)) (@ag _ _ _ _ _ (@aC _ _ (6) _ _ _ _ sc.nd rfl (Or.inl rfl) (@aL _ _ _ _ _ _ _ a_ (@bj _ _ _ _ (@aa _ _ _ _ _ (pv 6) (@aa _ _ _ _ _ (@aJ _ _ _ _ _ _ _ _ _ _ _ F_lback hr (by decide) rfl (@aa _ _ _ _ _ (pv 6) ae (by rfl)) (by decide) (by rfl) (by rfl)) ae (by rfl)) (by rfl))) (@aJ _ _ _ _ _ _ _ _ _ _ _ F_draw hr (by decide) rfl (@aa _ _ _ _ _ (pv 0) (@aa _ _ _ _ _ ao ae (by rfl)) (by rfl)) (by decide) (by rfl) (by rfl)) (fun _ _ => rfl)) (by rfl) (by first | exact .inl rfl | exact .inr rfl | assumption)) (@aq _ _ _ (@aC _ _ (6) _ _ _ _ sc.nd rfl (Or.inl rfl) (@aG _ _ _ _ _ _ _ _ dF (@aN _ _ _ _ _ _ _ _ _ _ dk (pv 6) (@aV _ _ _ (pv 7)) bf) (@aN _ _ _ _ _ _ _ _ _ _ dk (pv 6) bf (@aV _ _ _ (pv 7)))) (by rfl) (by first | exact .inl rfl | exact .inr rfl | assumption)))))) aR) (@aq _ _ _ (@bQ _ _ _ _ (@bV _ _ _ _ _ _ _ _ _ _ _ _ xx yn zr eN (pv 4) (@aa _ _ _ _ _ (pv 6) ae (by rfl)) (by rfl) (by rfl) (by rfl) (by rfl) (by rfl)) (by rfl))))) (by intro _ ;rfl)) (@aq _ _ _ (@aE _ _ _ _ (@aX _ _ _ _ _ _ _ _ _ aP (by rfl) T.tuple bq (@aa _ _ _ _ _ (pv 4) ae (by rfl)) (by decide) (by decide) (by rfl) (by rfl)))))), ?_⟩
    refine ⟨_, rfl, _, rfl, _, rfl, d, c, m, n, rfl, F, m1, m2, n1, n2, fun v0 H1 ne0 hv0 iv0 F1 sb1 => ⟨(aD (n := 1) (by decide)), fun l hl => ?_⟩⟩
    have hld := F1.ne hl
    have hlc := F1.nec hl
    have hlH : H l=none := by
      cases e : H l with
      | none => rfl
      | some o =>
        have := sb1 _ _ hld e
        rw [hl] at this
        cases this
    refine ⟨_, rfl, _, rfl, d, c, 4, rfl, F1.new hl, by decide, by decide, fun r H2 r0 r1 F2 sb2 => ?_⟩
    have f2 := sb2 _ _ hld (ab (o := .lst [tx v0]))
    have sb2 := (sb1.trans ((au.new (o := .lst [tx v0]) hl).b (d := d))).trans sb2
    refine ⟨_, rfl, by omega, by omega, ?_⟩
    refine cj (lo := 0) (n := r.toNat) (fun i σ H' => ∃ (a5 a6 a7 : Option V) (W : List (List L)), σ = [some (.ref d), some (.int (m : Int)), some (.int 4), some (.int n), some (.ref l), a5, a6, a7] ∧ H' l=some (.lst (W.map tx)) ∧ W.length=i+1 ∧ (∀ w∈W, GW m w) ∧ Tp H' d c ∧ aU d H H') ⟨none, none, none, [v0], rfl, f2, rfl, (fun w hw => by rw [xf.mp hw];exact ⟨ne0, hv0, iv0⟩), F2, sb2⟩ ?_ ?_
    · rintro i σ H3 hi ⟨a5, a6, a7, W, rfl, f3, hW, gW, F3, sb3⟩
      refine ⟨_, rfl, _, rfl, _, rfl, d, c, m, n, rfl, F3, m1, m2, n1, n2, fun v H4 ne hv iv F4 sb4 => ?_⟩
      have f4 := sb4 _ _ hld f3
      have sb4 := sb3.trans sb4
      have fin : ∀ (w : List L) (a7 : Option V) (H' : Hp), GW m w → H' l=some (.lst (W.map tx)) → Tp H' d c → aU d H H' → ∃ (a5 a6 a7' : Option V) (W' : List (List L)), [some (V.ref d), some (.int (m : Int)), some (.int 4), some (.int n), some (.ref l), some (.int (0+(i : Int))), some (tx w), a7]=[some (V.ref d), some (.int (m : Int)), some (.int 4), some (.int n), some (.ref l), a5, a6, a7'] ∧ (upd H' l (.lst (W.map tx++[tx w]))) l=some (.lst (W'.map tx)) ∧ W'.length=i+1+1 ∧ (∀ w∈W', GW m w) ∧ Tp (upd H' l (.lst (W.map tx++[tx w]))) d c ∧ aU d H (upd H' l (.lst (W.map tx++[tx w]))) := by
        intro w a7 H' hw f' F' sb'
        refine ⟨_, _, _, W++[w], rfl, by rw [ab, w9];rfl, by rw [w4, hW];rfl, fun x hx => ?_, F'.but hld hlc aU.upd, fun b o nb e => ?_⟩
        · rcases xF.mp hx with hx | hx
          · exact gW x hx
          · rw [xf.mp hx];exact hw
        · rw [ay (ak e hlH)];exact sb' _ _ nb e
      refine ⟨_, rfl, d, c, _, rfl, F4, by decide, by decide, fun q H5 q0 q1 F5 sb5 => ⟨rfl, _, rfl, ?_⟩⟩
      have f5 := sb5 _ _ hld f4
      have sb5 := sb4.trans sb5
      refine gF (fun _ => ?_) (fun _ => ?_)
      · refine ⟨_, rfl, _, rfl, _, rfl, l, _, rfl, .inl (SqL.of f5), d, c, _, rfl, F5, by rw [fu];omega, by rw [fu];omega, fun j H6 j0 j1 F6 sb6 => ?_⟩
        have f6 := sb6 _ _ hld f5
        have sb6 := sb5.trans sb6
        obtain ⟨x, hx, ax⟩ := mn j0 j1
        obtain ⟨w0, hw0, rfl⟩ := xC.mp hx
        have gw := gW w0 hw0
        have wl := gw.2.1
        have wp : 0 < w0.length := Aq.mpr gw.1
        refine ⟨l, _, _, _, rfl, rfl, SqL.of f6, ax, ?_⟩
        refine ⟨_, rfl, _, rfl, _, rfl, (by rw [ah];omega), d, c, _, rfl, F6, by rw [ah];omega, by rw [ah];omega, fun a H7 a0 a1 F7 sb7 => ?_⟩
        have f7 := sb7 _ _ hld f6
        have sb7 := sb6.trans sb7
        refine ⟨_, rfl, _, rfl, w0, rfl, by omega, fun H8 s8 => ⟨(aD (n := 2) (by decide)), fun p hp => ?_⟩⟩
        have s9 := s8.then (o := .lst [tx w0, tx (bk w0)]) hp
        have f9 := s9 _ _ f7
        have F9 := F7.same s9
        have sb9 := sb7.trans s9.b
        have hpd := (F7.same s8).ne hp
        refine ⟨_, rfl, d, c, _, rfl, F9, by decide, by decide, fun b H10 b0 b1 F10 sb10 => ?_⟩
        have f10 := sb10 _ _ hld f9
        have g10 := sb10 _ _ hpd (ab (o := .lst [tx w0, tx (bk w0)]))
        have sb10 := sb9.trans sb10
        obtain ⟨x, hx, ax⟩ := mn (xs := [tx w0, tx (bk w0)]) b0 b1
        obtain ⟨w1, g1, rfl⟩ : ∃ w1, GW m w1 ∧ x=tx w1 := by
          rcases xr.mp hx with rfl | hx
          · exact ⟨w0, gw, rfl⟩
          · rw [xf.mp hx]
            exact ⟨_, gw.bk, rfl⟩
        have w1l := g1.2.1
        refine ⟨p, _, _, _, rfl, rfl, SqL.of g10, ax, ?_⟩
        have c1 : Txt.slice (toS w1) none (some a)=toS (w1.take a.toNat) := by rw [bu, eU _ (by omega)]
        have c2 : Txt.slice (toS w1) (some a) none=toS (w1.drop a.toNat) := by rw [bu, ju _ (by omega)]
        refine ⟨_, rfl, _, rfl, _, rfl, _, rfl, (by rw [ah];omega), ?_⟩
        rw [c2]
        refine ⟨_, rfl, _, rfl, _, rfl, _, rfl, (by rw [ah];omega), ?_⟩
        rw [c1]
        refine ⟨_, _, rfl, rfl, (by rw [ah, ah, xX, xo];omega), ?_⟩
        rw [lg]
        refine ⟨_, rfl, .inl ⟨rfl, _, SqL.of f10⟩, _, rfl, l, _, _, rfl, rfl, f10, by rw [fu];omega, ?_⟩
        exact fin _ _ _ (g1.turn _) f10 F10 sb10
      · refine ⟨_, rfl, .inl ⟨rfl, _, SqL.of f5⟩, _, rfl, l, _, _, rfl, rfl, f5, by rw [fu];omega, ?_⟩
        exact fin _ _ _ ⟨ne, hv, iv⟩ f5 F5 sb5
    · rintro σ H3 ⟨a5, a6, a7, W, rfl, f3, hW, gW, F3, sb3⟩
      refine ⟨_, rfl, l, _, rfl, .inl ⟨SqL.of f3, fun p hp => ?_⟩⟩
      exact k p W _ (F3.new hp) (sb3.trans (au.new hp).b) ⟨ab, by omega, by omega, gW⟩
end
end Kx
namespace Kx
open PySem PySem.Spec PyProof.Rows L2 Wd
section
variable {P : Program} {w : World} {K : PySem.W.Frag} {mg : Str → Option Value} {base : Heap} {aB : Addr}
abbrev mq : Stmt := top 31
theorem rj : aF ["_law_ways", "_law_found", "_law_i"] ["_law_ways"] (av mq) := ⟨rfl, rfl, rfl, by decide +kernel, rfl, by decide +kernel, by decide +kernel⟩
theorem tZ (D : Df K mg "_law_all_strands" mq)(T : Bt K w mg aB) : Fnc P w K mg base "_law_all_strands" ["_law_ways"] 1 j8 := by
  have sc := rj
  refine D.ok sc (fun _ _ _ _ _ _ us hl => by obtain ⟨_, rfl⟩ := m9 hl;rfl) (fun vs H Q E h => ?_) (fun f cdv A outer s H vs Q E hr h => ?_)
  · obtain ⟨a, n, W, rfl, _⟩ := h
    rfl
  · obtain ⟨a, n, W, rfl, hW, k⟩ := h
    have l16 := a8
    have w15 : ∀ w∈W, w.length≤15 := fun w hw => (hW.ws w hw).2.1
    have hle := hW.le
    refine ⟨_, (@ag _ _ _ _ _ (@aC _ _ (1) _ _ _ _ sc.nd rfl (Or.inl rfl) (@bj _ _ _ _ ae) (by rfl) (by first | exact .inl rfl | exact .inr rfl | assumption)) (@ag _ _ _ _ _ (@bA _ _ _ _ _ _ _ _ xG rfl (@bh _ _ _ _ _ _ rfl T.range (@aa _ _ _ _ _ (@ar _ _ _ _ _ _ _ _ _ az (by rfl) T.len xn (@aa _ _ _ _ _ (pv 0) ae (by rfl)) (by decide) (by decide) (by rfl) (by rfl)) ae (by rfl)) (by rfl)) (@aA _ _ (2) _ sc.nd rfl (Or.inr rfl) (by first | exact .inl rfl | exact .inr rfl | assumption)) (@aq _ _ _ (@bQ _ _ _ _ (@bV _ _ _ _ _ _ _ _ _ _ _ _ xx yO yP de (pv 1) (@aa _ _ _ _ _ (@bp _ _ _ _ _ _ _ (["_law_p", "_law_i"]) (["_law_p"]) ([2]) _ _ _ _ (@bH _ _ _ _ _ _ rfl (by kernel_rfl)) rfl (@bh _ _ _ _ _ _ rfl T.range (@aa _ _ _ _ _ (@ar _ _ _ _ _ _ _ _ _ aI (by rfl) T.len xn (@aa _ _ _ _ _ (@aL _ _ _ _ _ _ _ aY (pv 0) (pv 2) (fun _ _ => rfl)) ae (by rfl)) (by decide) (by decide) (by rfl) (by rfl)) ae (by rfl)) (by rfl)) (fun _ _ _ _ => @aA _ _ (0) _ (show (["_law_p", "_law_i"] : List Str).Nodup from by decide +kernel) rfl (Or.inl rfl) (by first | exact .inl rfl | exact .inr rfl | assumption)) (fun _ _ _ _ => a9) (fun _ _ _ _ => by (exact (@a4 _ _ _ _ _ (@aa _ _ _ _ _ (pv 1) (@aa _ _ _ _ _ (pv 0) ae (by rfl)) (by rfl))))) (by intro _ ;rfl)) ae (by rfl)) (by rfl) (by rfl) (by rfl) (by rfl) (by rfl)) (by rfl))) (by intro _ ;rfl)) (@aq _ _ _ (@aE _ _ _ _ (pv 1))))), ?_⟩
    refine ⟨(by show 0≤sizeLine;decide), fun l hl => ?_⟩
    have s1 : au H (upd H l (.lst [])) := au.new hl
    have f1 : (upd H l (.lst [])) l=some (.lst ((([] : List (Addr × Int × Int)).map (·.1)).map V.ref)) := ab
    generalize upd H l (.lst [])=H1 at s1 f1 ⊢
    refine ⟨_, rfl, a, _, rfl, .inr (SqT.of (s1 _ _ hW.at_)), _, rfl, by rw [fu];omega, by rw [fu];omega, ?_⟩
    rw [fu, xB]
    refine cj (lo := 0) (n := W.length) (fun i σ H' => ∃ (v2 : Option V) (zs : List (Addr × Int × Int)), σ = [some (.ref a), some (.ref l), v2] ∧ H' l=some (.lst ((zs.map (·.1)).map V.ref)) ∧ StA H' zs ∧ zs.map (·.2)=ki W i ∧ au H H') ⟨none, [], rfl, f1, (fun z hz => by cases hz), rfl, s1⟩ ?_ ?_
    · rintro i σ H3 hil ⟨v2, zs, rfl, f3, hz3, ez, s3⟩
      rw [Ay]
      have hw : W[i]? = some (W.getD i []) := by rw [xi, wY hil];rfl
      have aw := e_ (W := W) (i := (i : Int)) (by omega) (by omega)
      rw [xB] at aw
      generalize W.getD i []=w' at hw aw
      have hwl := w15 w' (xc hw)
      have zl : zs.length≤60 := by
        have := cB w15 i
        rw [← ez, fu] at this
        omega
      refine ⟨_, rfl, .inl ⟨rfl, _, SqL.of f3⟩, _, rfl, _, rfl, a, _, _, _, rfl, rfl, SqT.of (s3 _ _ hW.at_), aw, _, rfl, (by rw [ah];omega), _, rfl, (by rw [ah];omega), (by rw [ah];omega), ?_⟩
      rw [ah, xB]
      refine bS (own := ["_law_p"]) (cap := [2]) (J := Itr 0 w'.length) w'.length (fun j ys σ H' => ∃ (b : Option V) (ps : List (Addr × Int × Int)), σ = [b, some (.int (i : Int))] ∧ ys=(ps.map (·.1)).map V.ref ∧ StA H' ps ∧ ps.map (·.2)=(List.range j).map (fun p : Nat => ((i : Int), (p : Int))) ∧ au H3 H') ⟨none, [], rfl, rfl, (fun z hz => by cases hz), rfl, au.refl _⟩
        (fun j ys σ H' hj ⟨_, ps, _, e, _, e2, _⟩ => ?_) (by omega) (fun j ys σ H' hj _ => hj) (fun ys σ H' _ => wZ _) ?_ ?_
      · have := xA List.length e2
        rw [fu, fu, x8] at this
        rw [e, fu, fu]
        omega
      · rintro j ys σ H4 x H5 N hj ⟨b, ps, rfl, rfl, hp, e2, s4⟩ ⟨rfl, rfl⟩ hN
        refine ⟨_, rfl, _, rfl, (aD (n := 2) (by decide)), fun q hq => hN _ _ _ ⟨_, ps++[(q, (i : Int), (j : Int))], rfl, ?_, ?_, ?_, s4.then hq⟩⟩
        · rw [w9, w9];rfl
        · rw [Ay]
          exact (hp.same (au.new hq)).app fun z hz => by
            rw [xf] at hz
            subst hz
            exact ab
        · rw [w9, e2, zd, w9];rfl
      · rintro ys σ H4 q ⟨b, ps, rfl, rfl, hp, e2, s4⟩ hq
        have s5 : au H4 (upd H4 q (.lst ((ps.map (·.1)).map V.ref))) := au.new hq
        have g5 : (upd H4 q (.lst ((ps.map (·.1)).map V.ref))) q=some (.lst ((ps.map (·.1)).map V.ref)) := ab
        have f5 := s5 _ _ (s4 _ _ f3)
        have hp5 := hp.same s5
        have hz5 := (hz3.same s4).same s5
        have s6 := (s3.trans s4).trans s5
        generalize upd H4 q (.lst ((ps.map (·.1)).map V.ref))=H5 at g5 f5 hp5 hz5 s6 ⊢
        have pl : ps.length=w'.length := by
          have := xA List.length e2
          rwa [fu, fu, x8] at this
        refine ⟨l, q, _, _, rfl, rfl, f5, g5, by rw [fu, fu, fu, fu];omega, ?_⟩
        have keepT : ∀ b xs, H5 b=some (.tup xs) → (upd H5 l (.lst ((zs.map (·.1)).map V.ref++(ps.map (·.1)).map V.ref))) b=some (.tup xs) := fun b xs e => by
          rw [ay (cH e f5 (by intro z;cases z))];exact e
        refine ⟨_, zs++ps, rfl, ?_, fun z hz => keepT _ _ ((hz5.app hp5) z hz), d_ hw ez e2, fun b o e => ?_⟩
        · rw [ab, w9, w9]
        · rw [ay (ak e hl)];exact s6 _ _ e
    · rintro σ H2 ⟨v2, zs, rfl, f2, hz, ez, s2⟩
      exact ⟨_, rfl, k l zs _ hl s2 f2 hz ez⟩
end
end Kx
namespace Kx
open PySem PySem.Spec PyProof.Rows L2 Wd
theorem pU {x : L}(h : x.val < 6) : ∃ rest, Builtin.Str.occurrences ("abcdef" : Str) (toS [x]) 0 ("abcdef" : Str).length 1=x.val::rest := by
  have q : ∀ x : L, x.val < 6 → x∈([0, 1, 2, 3, 4, 5] : List L) ∧ ([0, 1, 2, 3, 4, 5] : List L).idxOf x=x.val := by decide
  obtain ⟨h1, h2⟩ := q x h
  obtain ⟨r, e⟩ := sZ h1
  rw [qx, h2] at e
  exact ⟨r, e⟩
def t_ (W : List (List L))(ps : List (Int × Int))(H : Hp)(m : Nat)(q : Addr) : Prop := ∃ row : List (Addr × Int × Int), H q=some (.lst ((row.map (·.1)).map V.ref)) ∧ StA H row ∧ (row.map (·.2)).Perm (ps.filter fun p => decide (ltS W p=m))
theorem t_.to {W : List (List L)}{ps : List (Int × Int)}{H H' : Hp}{m : Nat}{q : Addr}(h : t_ W ps H m q)(k1 : ∀ xs, H q=some (.lst xs) → H' q=some (.lst xs))(k2 : ∀ a xs, H a=some (.tup xs) → H' a=some (.tup xs)) : t_ W ps H' m q := by
  obtain ⟨row, h1, h2, h3⟩ := h
  exact ⟨row, k1 _ h1, fun z hz => k2 _ _ (h2 z hz), h3⟩
structure Dw (n : Nat) (W : List (List L)) (H : Hp) (r : Addr) (rows : List (List (Int × Int))) : Prop where
  ex : ∃ bs : List Addr, H r=some (.tup (bs.map V.ref)) ∧ bs.length=n ∧ ∀ (i : Nat) (b : Addr), bs[i]? = some b → ∃ row : List (Addr × Int × Int), H b=some (.tup ((row.map (·.1)).map V.ref)) ∧ StA H row ∧ rows[i]? = some (row.map (·.2))
  len : rows.length=n
  pm : ∀ (i : Nat) (row : List (Int × Int)), rows[i]? = some row → row.Perm (rR W i)
inductive iU (vs : List V)(H : Hp)(Q : VK)(u3_ : XK) : Prop
  | mk : ∀ (d c : Addr) (u : List L) (n : Nat) (a : Addr) (W : List (List L)), (vs=[.ref d, tx u, .ref a]) → (Tp H d c) → (SK u n) → (Wy4 n W H a) → (∀ (r : Addr) (rows : List (List (Int × Int))) (H' : Hp), Tp H' d c → aU d H H' → Dw n W H' r rows → Q (.ref r) H') → iU vs H Q u3_
theorem mr {n : Nat}{W : List (List L)}(hW : ∀ w∈W, InM n w){p : Int × Int}(o : okS W p=true) : ltS W p < n := by
  unfold okS at o
  simp only [xp, xK] at o
  obtain ⟨⟨o1, o2⟩, o3, o4⟩ := o
  have hi : p.1.toNat < W.length := by omega
  have g : W.getD p.1.toNat []=W[p.1.toNat] := by rw [xi, wY hi];rfl
  unfold ltS
  rw [g] at o4 ⊢
  have hj : p.2.toNat < W[p.1.toNat].length := by omega
  rw [xi, wY hj]
  exact hW _ (yc hi) _ (yc hj)
section
variable {P : Program} {w : World} {K : PySem.W.Frag} {mg : Str → Option Value} {base : Heap} {aB : Addr}
abbrev mw : Stmt := top 32
theorem rk : aF ["_law_tape_here", "_law_surface", "_law_ways", "_law_rows", "_law_i", "_law_p", "_law_row"] ["_law_tape_here", "_law_surface", "_law_ways"] (av mw) := ⟨rfl, rfl, rfl, by decide +kernel, rfl, by decide +kernel, by decide +kernel⟩
theorem ua (D : Df K mg "_law_any_drawing" mw)(T : Bt K w mg aB)(F_draw : Fnc P w K mg base "_law_draw" ["_law_tape_here", "_law_many"] 1 cg)(F_alls : Fnc P w K mg base "_law_all_strands" ["_law_ways"] 1 j8) : Fnc P w K mg base "_law_any_drawing" ["_law_tape_here", "_law_surface", "_law_ways"] 2 iU := by
  have sc := rk
  refine D.ok sc (fun _ _ _ _ _ _ us hl => by obtain ⟨_, _, _, rfl⟩ := qV hl;rfl) (fun vs H Q E h => ?_) (fun f cdv A outer s H vs Q E hr h => ?_)
  · obtain ⟨d, c, u, n, a, W, rfl, _⟩ := h
    rfl
  · obtain ⟨d, c, u, n, a, W, rfl, F, hu, hW, k⟩ := h
    have l16 := a8
    have h6 := hu.hi
    have hul : (toS u).length=2*n := by rw [ah, hu.len]
    have e2 : ((toS u).length : Int) / 2=(n : Int) := by omega
    refine ⟨_, (@ag _ _ _ _ _ (@lA _ (3) _ _ _ _ _ _ _ _ _ (["_law_k"]) (["_law_k"]) ([]) _ _ _ _ sc.nd rfl (Or.inl rfl) (@bH _ _ _ _ _ _ rfl (by kernel_rfl)) rfl (@bh _ _ _ _ _ _ rfl T.range (@aa _ _ _ _ _ (@aG _ _ _ _ _ _ _ _ cv (@ar _ _ _ _ _ _ _ _ _ aI (by rfl) T.len xn (@aa _ _ _ _ _ (pv 1) ae (by rfl)) (by decide) (by decide) (by rfl) (by rfl)) ao) ae (by rfl)) (by rfl)) (fun _ _ _ _ => @aA _ _ (0) _ (show (["_law_k"] : List Str).Nodup from by decide +kernel) rfl (Or.inl rfl) (by first | exact .inl rfl | exact .inr rfl | assumption)) (fun _ _ _ _ => a9) (fun _ _ _ _ => by (exact (@bj _ _ _ _ ae))) (by intro _ ;rfl) (by rfl) (by first | exact .inl rfl | exact .inr rfl | assumption)) (@ag _ _ _ _ _ (@bA _ _ _ _ _ _ _ _ xG rfl (@c5 _ _ _ _ (@aJ _ _ _ _ _ _ _ _ _ _ _ F_alls hr (by decide) rfl (@aa _ _ _ _ _ (pv 2) ae (by rfl)) (by decide) (by rfl) (by rfl))) (@dX _ _ _ _ _ _ rfl (@aW _ _ _ _ _ (@aA _ _ (4) _ sc.nd rfl (Or.inl rfl) (by first | exact .inl rfl | exact .inr rfl | assumption)) (@aW _ _ _ _ _ (@aA _ _ (5) _ sc.nd rfl (Or.inl rfl) (by first | exact .inl rfl | exact .inr rfl | assumption)) cI (by rfl)) (by rfl)) (by rfl) (by rfl)) (@ag _ _ _ _ _ (@aC _ _ (6) _ _ _ _ sc.nd rfl (Or.inl rfl) (@aL _ _ _ _ _ _ _ a_ (pv 3) (@bV _ _ _ _ _ _ _ _ _ _ _ _ xy zK zL fV bP (@aa _ _ _ _ _ (@eM _ _ _ _ _ _ _ _ _ xy yY yZ eg (@aL _ _ _ _ _ _ _ d5 (@aL _ _ _ _ _ _ _ aY (pv 2) (pv 4) (fun _ _ => rfl)) (pv 5) (fun _ _ => rfl)) (by rfl) (by rfl)) ae (by rfl)) (by rfl) (by rfl) (by rfl) (by rfl) (by rfl)) (fun _ _ => rfl)) (by rfl) (by first | exact .inl rfl | exact .inr rfl | assumption)) (@aq _ _ _ (@bQ _ _ _ _ (@bV _ _ _ _ _ _ _ _ _ _ _ _ xx zq AN hV (pv 6) (@aa _ _ _ _ _ (@aJ _ _ _ _ _ _ _ _ _ _ _ F_draw hr (by decide) rfl (@aa _ _ _ _ _ (pv 0) (@aa _ _ _ _ _ (@aG _ _ _ _ _ _ _ _ bt (@ar _ _ _ _ _ _ _ _ _ az (by rfl) T.len xn (@aa _ _ _ _ _ (pv 6) ae (by rfl)) (by decide) (by decide) (by rfl) (by rfl)) ao) ae (by rfl)) (by rfl)) (by decide) (by rfl) (by rfl)) (@aa _ _ _ _ _ (@a4 _ _ _ _ _ (@aa _ _ _ _ _ (pv 4) (@aa _ _ _ _ _ (pv 5) ae (by rfl)) (by rfl))) ae (by rfl)) (by rfl)) (by rfl) (by rfl) (by rfl) (by rfl) (by rfl)) (by rfl)))) (by intro _ ;rfl)) (@aq _ _ _ (@aE _ _ _ _ (@aX _ _ _ _ _ _ _ _ _ aP (by rfl) T.tuple bq (@aa _ _ _ _ _ (@bp _ _ _ _ _ _ _ (["_law_row"]) (["_law_row"]) ([]) _ _ _ _ (@bH _ _ _ _ _ _ rfl (by kernel_rfl)) rfl (@c5 _ _ _ _ (pv 3)) (fun _ _ _ _ => @aA _ _ (0) _ (show (["_law_row"] : List Str).Nodup from by decide +kernel) rfl (Or.inl rfl) (by first | exact .inl rfl | exact .inr rfl | assumption)) (fun _ _ _ _ => a9) (fun _ _ _ _ => by (exact (@aX _ _ _ _ _ _ _ _ _ (@fk _ (K) rfl) (by rfl) T.tuple bq (@aa _ _ _ _ _ (pv 0) ae (by rfl)) (by decide) (by decide) (by rfl) (by rfl)))) (by intro _ ;rfl)) ae (by rfl)) (by decide) (by decide) (by rfl) (by rfl)))))), ?_⟩
    refine ⟨_, rfl, _, rfl, (by omega), _, _, rfl, rfl, ⟨by decide, by decide⟩, _, rfl, by omega, by omega, ?_⟩
    rw [e2, xB]
    refine bS (own := ["_law_k"]) (cap := []) (J := Itr 0 n) n (fun i ys σ H' => ∃ (v : Option V) (ls : List Addr), σ = [v] ∧ ys=ls.map V.ref ∧ ls.length=i ∧ ls.Nodup ∧ (∀ q∈ls, H q=none ∧ H' q=some (.lst [])) ∧ au H H') ⟨none, [], rfl, rfl, rfl, zV, (fun q hq => by cases hq), au.refl _⟩ (fun i ys σ H' hi ⟨_, ls, _, e, e3, _⟩ => by rw [e, fu];omega) (by omega) (fun i ys σ H' hi _ => hi) (fun ys σ H' _ => wZ _) ?_ ?_
    · rintro i ys σ H1 x H2 N hi ⟨v, ls, rfl, rfl, hl, nd, hq, s1⟩ ⟨rfl, rfl⟩ hN
      refine ⟨(by show 0≤sizeLine;decide), fun q hqn => hN _ _ _ ⟨_, ls++[q], rfl, by rw [w9];rfl, by rw [w4, hl];rfl, ?_, ?_, s1.then hqn⟩⟩
      · refine List.nodup_append.mpr ⟨nd, ym.mpr ⟨xE, zV⟩, fun x hx y hy e => ?_⟩
        rw [xf.mp hy] at e
        subst e
        have := (hq x hx).2
        rw [hqn] at this
        cases this
      · intro x hx
        rcases xF.mp hx with hx | hx
        · exact ⟨(hq x hx).1, (au.new hqn) _ _ (hq x hx).2⟩
        · rw [xf.mp hx]
          exact ⟨none_of s1 hqn, ab⟩
    rintro ys σ H1 R ⟨v, ls, rfl, rfl, hl, nd, hq, s1⟩ hR
    have s2 := s1.then (o := .lst (ls.map V.ref)) hR
    have fR : (upd H1 R (.lst (ls.map V.ref))) R=some (.lst (ls.map V.ref)) := ab
    have q2 : ∀ q∈ls, (upd H1 R (.lst (ls.map V.ref))) q=some (.lst []) := fun q hm => (au.new hR) _ _ (hq q hm).2
    have nR : ∀ q∈ls, q≠R := fun q hm => ak (hq q hm).2 hR
    have hRH : H R=none := none_of s1 hR
    generalize upd H1 R (.lst (ls.map V.ref))=H2 at s2 fR q2 ⊢
    have hW2 := hW.same s2
    refine ⟨_, rfl, a, n, W, rfl, hW2, fun l zs H3 hl3 s3 f3 hz ez => ⟨l, rfl, ⟨_, SqL.of f3⟩, ?_⟩⟩
    have s03 := s2.trans s3
    have hlH : H l=none := none_of s2 hl3
    have zl : zs.length≤60 := by
      have := cB (fun w hw => (hW.ws w hw).2.1) W.length
      have e : (ba W).length=(ki W W.length).length := rfl
      have hle := hW.le
      rw [← e, ← ez, fu] at this
      omega
    have zok : ∀ z∈zs, okS W z.2=true := fun z hz' => bT.mp (by rw [← ez];exact xC.mpr ⟨z, hz', rfl⟩)
    have nl : ∀ q∈ls, q≠l := fun q hm => ak (q2 q hm) hl3
    have nRl : R≠l := ak fR hl3
    have nd_ : ∀ q∈ls, q≠d ∧ q≠c := fun q hm => ⟨F.ne (hq q hm).1, F.nec (hq q hm).1⟩
    have hRd := F.ne hRH
    have hld := F.ne hlH
    refine c9 (xs := (zs.map (·.1)).map V.ref) (fun j σ H' => ∃ v4 v5 v6 : Option V, σ = [some (.ref d), some (tx u), some (.ref a), some (.ref R), v4, v5, v6] ∧ H' R=some (.lst (ls.map V.ref)) ∧ H' l=some (.lst ((zs.map (·.1)).map V.ref)) ∧ StA H' zs ∧ Wy4 n W H' a ∧ (∀ (m : Nat) (q : Addr), ls[m]? = some q → t_ W ((zs.map (·.2)).take j) H' m q) ∧ Tp H' d c ∧ aU d H H') ⟨none, none, none, rfl, s3 _ _ fR, f3, hz, hW2.same s3, (fun m q hm => ⟨[], s3 _ _ (q2 q (xc hm)), (fun z hz => by cases hz), .nil⟩), F.same s03, s03.b⟩ (fun j σ H' _ ⟨_, _, _, _, _, q, _⟩ => SqL.of q) ?_ ?_
    · rintro j x σ H4 hx ⟨v4, v5, v6, rfl, gR, gl, hz4, hW4, rw4, F4, sb4⟩
      rw [w_, w_] at hx
      cases hz1 : zs[j]? with
      | none => rw [hz1] at hx;cases hx
      | some z =>
        rw [hz1] at hx
        obtain rfl := xb hx
        have hm := xc hz1
        have hj : j < zs.length := (xh.mp hz1).1
        have ok1 := zok z hm
        have lt := mr (fun w hw => (hW.ws w hw).2.2) ok1
        have hz5 := hz4 z hm
        obtain ⟨z0, p1, p2⟩ := z
        have hz5 : H4 z0=some (.tup [.int p1, .int p2]) := hz5
        have ok1 : okS W (p1, p2)=true := ok1
        have lt : ltS W (p1, p2) < n := lt
        unfold okS at ok1
        simp only [xp, xK] at ok1
        obtain ⟨⟨o1, o2⟩, o3, o4⟩ := ok1
        have hwl := eC hW p1.toNat
        refine ⟨z0, _, rfl, SqT.of hz5, rfl, _, _, rfl, _, _, rfl, rfl, ?_⟩
        refine ⟨_, rfl, rfl, _, rfl, _, rfl, a, _, _, _, rfl, rfl, SqT.of hW4.at_, e_ o1 o2, _, rfl, _, _, _, rfl, rfl, (by rw [ah];omega), jL o3 o4, ?_⟩
        have lt' : ltS W (p1, p2)=((W.getD p1.toNat []).getD p2.toNat 0).val % 6 := rfl
        generalize (W.getD p1.toNat []).getD p2.toNat 0=x1 at lt' ⊢
        refine ⟨rfl, _, rfl, rfl, (by show 1≤5592405;decide), ?_⟩
        rw [show (⟨#[cp x1]⟩ : Str)=toS [x1] from rfl, pT]
        have kx : x1.val % 6 < n := by omega
        obtain ⟨rest, ho⟩ := pU (x := ⟨x1.val % 6, by omega⟩) (by show x1.val % 6 < 6;omega)
        have hk : x1.val % 6 < ls.length := by omega
        obtain ⟨q, hqk⟩ : ∃ q, ls[x1.val % 6]? = some q := ⟨_, wY hk⟩
        have qm := xc hqk
        obtain ⟨row, g1, g2, g3⟩ := rw4 _ q hqk
        have rl : row.length≤60 := by
          have h1 := g3.length_eq
          rw [fu] at h1
          rw [h1]
          refine xH (ze _ _) ?_
          rw [xo, fu]
          omega
        have el : ((row.map (·.1)).map V.ref).length=row.length := by rw [fu, fu]
        obtain ⟨nqd, nqc⟩ := nd_ q qm
        refine ⟨_, _, _, rest, rfl, rfl, ho, R, _, _, _, rfl, rfl, SqL.of gR, bZ (v := .ref q) (by rw [w_, hqk];rfl), ?_⟩
        refine ⟨_, rfl, .inl ⟨rfl, _, SqL.of g1⟩, _, rfl, _, rfl, q, _, rfl, .inl (SqL.of g1), _, _, rfl, rfl, d, c, _, rfl, F4, by omega, by omega, fun b H5 b0 b1 F5 sb5 => ?_⟩
        rw [el] at b1
        have g5 := sb5 _ _ nqd g1
        refine ⟨_, rfl, _, rfl, (aD (n := 2) (by decide)), fun t ht => ?_⟩
        have s6 : au H5 (upd H5 t (.tup [.int p1, .int p2])) := au.new ht
        have g6 := s6 _ _ g5
        have F6 := F5.same s6
        have t6 : (upd H5 t (.tup [.int p1, .int p2])) t=some (.tup [.int p1, .int p2]) := ab
        generalize upd H5 t (.tup [.int p1, .int p2])=H6 at s6 g6 F6 t6 ⊢
        refine ⟨q, _, b, _, rfl, rfl, g6, b0, by omega, by omega, ?_⟩
        have ei : ((row.map (·.1)).map V.ref).take b.toNat++V.ref t::((row.map (·.1)).map V.ref).drop b.toNat=((row.take b.toNat++(t, p1, p2)::row.drop b.toNat).map (·.1)).map V.ref := by
          rw [← Ae, ← Ae, ← AR, ← AR, w9, w9]
          rfl
        rw [ei]
        have keep : ∀ (zz : List V) b o, b≠d → b≠q → H4 b=some o → (upd H6 q (.lst zz)) b=some o := fun zz b o n1 n2 e => by rw [ay n2];exact s6 _ _ (sb5 _ _ n1 e)
        have keepT : ∀ (zz : List V) b xs, H4 b=some (.tup xs) → (upd H6 q (.lst zz)) b=some (.tup xs) := fun zz b xs e => keep zz b _ (F4.nt e) (cH e g1 (by intro z;cases z)) e
        refine ⟨_, _, _, rfl, keep _ _ _ hRd (nR q qm).symm gR, keep _ _ _ hld (nl q qm).symm gl, fun z hz' => keepT _ _ _ (hz4 z hz'), ⟨keepT _ _ _ hW4.at_, hW4.le, hW4.lo, hW4.ws⟩, fun m' q' hq' => ?_, F6.but nqd nqc aU.upd, fun b o nb e => ?_⟩
        · have et : (zs.map (·.2)).take (j+1)=(zs.map (·.2)).take j++[(p1, p2)] := by
            rw [yM, w_, hz1]
            rfl
          by_cases eq : q'=q
          · subst eq
            have em : m'=x1.val % 6 := by
              have a1 := (xh.mp hq').1
              have a2 := (xh.mp hq').2
              have a3 := (xh.mp hqk).2
              have e1 := nd.idxOf_getElem m' a1
              have e3 := nd.idxOf_getElem (x1.val % 6) hk
              rw [a2] at e1
              rw [a3] at e3
              exact e1.symm.trans e3
            subst em
            refine ⟨row.take b.toNat++(t, p1, p2)::row.drop b.toNat, ab, fun z hz' => ?_, ?_⟩
            · have hz' : z=(t, p1, p2) ∨ z∈row := by
                rcases xF.mp hz' with hz' | hz'
                · exact .inr (ya hz')
                · rcases xr.mp hz' with hz' | hz'
                  · exact .inl hz'
                  · exact .inr (zi hz')
              rcases hz' with rfl | hz'
              · show (upd H6 q' _) t=_
                rw [ay (cH t6 g6 (by intro z;cases z))]
                exact t6
              · exact keepT _ _ _ (g2 z hz')
            · rw [et, Az, AV (by show decide (ltS W (p1, p2)=x1.val % 6)=true;exact xq lt')]
              refine List.Perm.trans (List.Perm.map _ (List.perm_middle.trans (List.Perm.cons _ (List.Perm.of_eq (zZ _ _))))) ?_
              exact (List.Perm.cons _ g3).trans (List.perm_append_comm (l₁ := [(p1, p2)]))
          · have ne : ¬ m'=x1.val % 6 := fun e => eq (by rw [e, hqk] at hq';exact (xb hq').symm)
            have := (rw4 m' q' hq').to (H' := upd H6 q (.lst (((row.take b.toNat++(t, p1, p2)::row.drop b.toNat).map (·.1)).map V.ref))) (fun xs e => keep _ _ _ (nd_ q' (xc hq')).1 eq e) (keepT _)
            rw [et]
            obtain ⟨row', h1, h2, h3⟩ := this
            refine ⟨row', h1, h2, ?_⟩
            rw [Az, AW (by show ¬ decide (ltS W (p1, p2)=m')=true;rw [lt'];simpa using fun e => ne e.symm), List.filter_nil, yL]
            exact h3
        · rw [ay (ak e (hq q qm).1)];exact s6 _ _ (sb5 _ _ nb (sb4 _ _ nb e))
    · rintro σ H4 ⟨v4, v5, v6, rfl, gR, gl, hz4, hW4, rw4, F4, sb4⟩
      rw [fu, fu] at rw4
      have rw5 : ∀ (m : Nat) (q : Addr), ls[m]? = some q → t_ W (ba W) H4 m q := fun m q h => by
        have := rw4 m q h
        rwa [xR (by rw [fu];exact wZ _), ez] at this
      refine ⟨_, rfl, R, rfl, ⟨_, SqL.of gR⟩, ?_⟩
      refine hU (xs := ls.map V.ref) (own := ["_law_row"]) (cap := []) (fun i ys σ H' => ∃ (v : Option V) (bs : List Addr) (rows : List (List (Int × Int))), σ = [v] ∧ ys=bs.map V.ref ∧ bs.length=i ∧ rows.length=i ∧ (∀ (m : Nat) (b : Addr), bs[m]? = some b → ∃ row : List (Addr × Int × Int), H' b=some (.tup ((row.map (·.1)).map V.ref)) ∧ StA H' row ∧ rows[m]? = some (row.map (·.2))) ∧ (∀ (m : Nat) (row : List (Int × Int)), rows[m]? = some row → row.Perm (rR W m)) ∧ au H4 H') ⟨none, [], [], rfl, rfl, rfl, rfl, (fun m b e => by simp at e), (fun m b e => by simp at e), au.refl _⟩ (fun i ys σ H' hi ⟨_, bs, _, _, e, e2, _⟩ => by rw [e, fu];omega) (by rw [fu];omega) (fun i ys σ H' ⟨_, _, _, _, _, _, _, _, _, q⟩ => SqL.of (q _ _ gR)) ?_ ?_
      · rintro i ys σ H5 y N hy ⟨v, bs, rows, rfl, rfl, hbl, hrl, hb, hpm, s5⟩ hN
        rw [w_] at hy
        cases hqi : ls[i]? with
        | none => rw [hqi] at hy;cases hy
        | some q =>
          rw [hqi] at hy
          obtain rfl := xb hy
          obtain ⟨row, g1, g2, g3⟩ := rw5 i q hqi
          refine ⟨_, rfl, q, _, rfl, .inl ⟨SqL.of (s5 _ _ g1), fun t ht => hN _ _ _ ⟨_, bs++[t], rows++[row.map (·.2)], rfl, by rw [w9];rfl, by rw [w4, hbl];rfl, by rw [w4, hrl];rfl, fun m b e => ?_, fun m rw e => ?_, s5.then ht⟩⟩⟩
          · by_cases hm : m < bs.length
            · rw [yj hm] at e
              obtain ⟨row', h1, h2, h3⟩ := hb m b e
              exact ⟨row', au.new ht _ _ h1, h2.same (au.new ht), by rw [yj (by omega)];exact h3⟩
            · have em : m=bs.length := by
                have := (xh.mp e).1
                rw [w4] at this
                have : m < bs.length+1 := this
                omega
              subst em
              rw [zf] at e
              obtain rfl := xb e
              exact ⟨row, ab, (g2.same s5).same (au.new ht), by rw [hbl, ← hrl, zf]⟩
          · by_cases hm : m < rows.length
            · rw [yj hm] at e
              exact hpm m rw e
            · have em : m=rows.length := by
                have := (xh.mp e).1
                rw [w4] at this
                have : m < rows.length+1 := this
                omega
              subst em
              rw [zf] at e
              rw [← xb e, hrl]
              exact g3
      · rintro ys σ H5 L5 ⟨v, bs, rows, rfl, rfl, hbl, hrl, hb, hpm, s5⟩ hL
        rw [fu] at hbl hrl
        have s6 := s5.then (o := .lst (bs.map V.ref)) hL
        have s56 : au H5 (upd H5 L5 (.lst (bs.map V.ref))) := au.new hL
        have g6 : (upd H5 L5 (.lst (bs.map V.ref))) L5=some (.lst (bs.map V.ref)) := ab
        generalize upd H5 L5 (.lst (bs.map V.ref))=H6 at s6 s56 g6 ⊢
        refine ⟨L5, _, rfl, .inl ⟨SqL.of g6, fun r hr => ?_⟩⟩
        refine k r rows _ ((F4.same s6).new hr) (sb4.trans (s6.then hr).b) ⟨⟨bs, ab, by omega, fun m b e => ?_⟩, by omega, hpm⟩
        obtain ⟨row', h1, h2, h3⟩ := hb m b e
        have s7 := s56.then (o := .tup (bs.map V.ref)) hr
        exact ⟨row', s7 _ _ h1, h2.same s7, h3⟩
end
end Kx
namespace Kx
open PySem PySem.Spec PyProof.Rows L2 Wd
section
variable {P : Program} {w : World} {K : PySem.W.Frag} {mg : Str → Option Value} {base : Heap} {aB : Addr}
def nxZ (W : List (List L))(p : Int × Int) : Int × Int := (p.1, (p.2+1) % ((W.getD p.1.toNat []).length : Int))
inductive vz (vs : List V)(H : Hp)(Q : VK)(u3_ : XK) : Prop
  | mk : ∀ (a p : Addr) (n : Nat) (W : List (List L)) (i j s : Int), (vs=[.ref a, .ref p, .int s]) → (Wy4 n W H a) → (H p=some (.tup [.int i, .int j])) → (okS W (i, j)=true) → (∀ t, H t=none → Q (.ref t) (upd H t (.tup [.int i, .int ((j+s) % ((W.getD i.toNat []).length : Int))]))) → vz vs H Q u3_
inductive fc (vs : List V)(H : Hp)(Q : VK)(u3_ : XK) : Prop
  | mk : ∀ (a p : Addr) (n : Nat) (W : List (List L)) (i j : Int), (vs=[.ref a, .ref p]) → (Wy4 n W H a) → (H p=some (.tup [.int i, .int j])) → (okS W (i, j)=true) → (∀ t, H t=none → Q (.ref t) (upd H t (.tup [.int (nxZ W (i, j)).1, .int (nxZ W (i, j)).2]))) → fc vs H Q u3_
def il (rows : List (List (Int × Int)))(x : L) : List (Int × Int) := if x.val < 6 then rows.getD (x.val % 6) [] else (rows.getD (x.val % 6) []).reverse
inductive iV (vs : List V)(H : Hp)(Q : VK)(u3_ : XK) : Prop
  | mk : ∀ (r : Addr) (n : Nat) (W : List (List L)) (rows : List (List (Int × Int))) (x : L), (vs=[.ref r, tx [x]]) → (Dw n W H r rows) → (x.val % 6 < n) → (∀ (b : Addr) (row : List (Addr × Int × Int)) (H' : Hp), au H H' → H' b=some (.tup ((row.map (·.1)).map V.ref)) → StA H' row → row.map (·.2)=il rows x → Q (.ref b) H') → iV vs H Q u3_
theorem Dw.same {n : Nat}{W : List (List L)}{H H' : Hp}{r : Addr}{rows : List (List (Int × Int))}(h : Dw n W H r rows)(s : au H H') : Dw n W H' r rows := by
  obtain ⟨⟨bs, h1, h2, h3⟩, h4, h5⟩ := h
  exact ⟨⟨bs, s _ _ h1, h2, fun i b e => let ⟨row, g1, g2, g3⟩ := h3 i b e;⟨row, s _ _ g1, g2.same s, g3⟩⟩, h4, h5⟩
abbrev vA : Stmt := top 11
theorem vB : aF ["ways", "strand", "step"] ["ways", "strand", "step"] (av vA) := ⟨rfl, rfl, rfl, by decide +kernel, rfl, by decide +kernel, by decide +kernel⟩
theorem wR (D : Df K mg "strand_on" vA)(T : Bt K w mg aB) : Fnc P w K mg base "strand_on" ["ways", "strand", "step"] 1 vz := by
  have sc := vB
  refine D.ok sc (fun _ _ _ _ _ _ us hl => by obtain ⟨_, _, _, rfl⟩ := qV hl;rfl) (fun vs H Q E h => ?_) (fun f cdv A outer s H vs Q E hr h => ?_)
  · obtain ⟨a, p, n, W, i, j, s, rfl, _⟩ := h
    rfl
  · obtain ⟨a, p, n, W, i, j, s, rfl, hW, hp, ok, k⟩ := h
    have l16 := a8
    unfold okS at ok
    simp only [xp, xK] at ok
    obtain ⟨⟨o1, o2⟩, o3, o4⟩ := ok
    have hl := eC hW i.toNat
    refine ⟨_, (@aq _ _ _ (@aE _ _ _ _ (@a4 _ _ _ _ _ (@aa _ _ _ _ _ (@aL _ _ _ _ _ _ _ aY (pv 1) ao (fun _ _ => rfl)) (@aa _ _ _ _ _ (@aG _ _ _ _ _ _ _ _ dY (@aG _ _ _ _ _ _ _ _ bt (@aL _ _ _ _ _ _ _ aY (pv 1) ao (fun _ _ => rfl)) (pv 2)) (@ar _ _ _ _ _ _ _ _ _ aI (by rfl) T.len xn (@aa _ _ _ _ _ (@aL _ _ _ _ _ _ _ aY (pv 0) (@aL _ _ _ _ _ _ _ aY (pv 1) ao (fun _ _ => rfl)) (fun _ _ => rfl)) ae (by rfl)) (by decide) (by decide) (by rfl) (by rfl))) ae (by rfl)) (by rfl))))), ?_⟩
    refine ⟨_, rfl, p, _, _, _, rfl, rfl, SqT.of hp, rfl, _, rfl, p, _, _, _, rfl, rfl, SqT.of hp, rfl, _, rfl, _, _, rfl, rfl, _, rfl, _, rfl, p, _, _, _, rfl, rfl, SqT.of hp, rfl, a, _, _, _, rfl, rfl, SqT.of hW.at_, e_ o1 o2, _, rfl, (by rw [ah];omega), _, _, rfl, rfl, (by rw [ah];omega), (aD (n := 2) (by decide)), fun t ht => ?_⟩
    rw [ah]
    exact k t ht
abbrev gk : Stmt := top 10
theorem mx : aF ["ways", "strand"] ["ways", "strand"] (av gk) := ⟨rfl, rfl, rfl, by decide +kernel, rfl, by decide +kernel, by decide +kernel⟩
theorem oJ (D : Df K mg "strand_behind" gk)(T : Bt K w mg aB)(F_on : Fnc P w K mg base "strand_on" ["ways", "strand", "step"] 1 vz) : Fnc P w K mg base "strand_behind" ["ways", "strand"] 2 fc := by
  have sc := mx
  refine D.ok sc (fun _ _ _ _ _ _ us hl => by obtain ⟨_, _, rfl⟩ := jK hl;rfl) (fun vs H Q E h => ?_) (fun f cdv A outer s H vs Q E hr h => ?_)
  · obtain ⟨a, p, n, W, i, j, rfl, _⟩ := h
    rfl
  · obtain ⟨a, p, n, W, i, j, rfl, hW, hp, ok, k⟩ := h
    refine ⟨_, (@aq _ _ _ (@aE _ _ _ _ (@aJ _ _ _ _ _ _ _ _ _ _ _ F_on hr (by decide) rfl (@aa _ _ _ _ _ (pv 0) (@aa _ _ _ _ _ (pv 1) (@aa _ _ _ _ _ ao ae (by rfl)) (by rfl)) (by rfl)) (by decide) (by rfl) (by rfl)))), ?_⟩
    exact ⟨_, rfl, _, rfl, a, p, n, W, i, j, 1, rfl, hW, hp, ok, k⟩
abbrev iW : Stmt := top 14
theorem oK : aF ["drawing", "end", "order"] ["drawing", "end"] (av iW) := ⟨rfl, rfl, rfl, by decide +kernel, rfl, by decide +kernel, by decide +kernel⟩
theorem rm (D : Df K mg "met_at" iW)(T : Bt K w mg aB)(F_num : Fnc P w K mg base "number_of" ["letter"] 1 qG) : Fnc P w K mg base "met_at" ["drawing", "end"] 2 iV := by
  have sc := oK
  refine D.ok sc (fun _ _ _ _ _ _ us hl => by obtain ⟨_, _, rfl⟩ := jK hl;rfl) (fun vs H Q E h => ?_) (fun f cdv A outer s H vs Q E hr h => ?_)
  · obtain ⟨r, n, W, rows, x, rfl, _⟩ := h
    rfl
  · obtain ⟨r, n, W, rows, x, rfl, dw, hx, k⟩ := h
    have l16 := a8
    obtain ⟨bs, h1, h2, h3⟩ := dw.ex
    obtain ⟨b, hb⟩ : ∃ b, bs[x.val % 6]? = some b := ⟨_, wY (by omega)⟩
    obtain ⟨row, g1, g2, g3⟩ := h3 _ b hb
    have er : rows.getD (x.val % 6) []=row.map (·.2) := by rw [xi, g3];rfl
    refine ⟨_, (@ag _ _ _ _ _ (@aC _ _ (2) _ _ _ _ sc.nd rfl (Or.inl rfl) (@aL _ _ _ _ _ _ _ aY (pv 0) (@aJ _ _ _ _ _ _ _ _ _ _ _ F_num hr (by decide) rfl (@aa _ _ _ _ _ (pv 1) ae (by rfl)) (by decide) (by rfl) (by rfl)) (fun _ _ => rfl)) (by rfl) (by first | exact .inl rfl | exact .inr rfl | assumption)) (@aq _ _ _ (@aE _ _ _ _ (@fJ _ _ _ _ _ _ _ _ (@bC _ _ _ (@eM _ _ _ _ _ _ _ _ _ xy PySem.F.slot_str_islower PySem.F.type_str_islower j7 (pv 1) (by rfl) (by rfl)) (fun _ => rfl)) (pv 2) (@lP _ _ _ _ _ _ _ (pv 2) (@iG _ _ _ _ _ _ eI ao)))))), ?_⟩
    refine ⟨_, rfl, _, rfl, x, rfl, r, _, _, _, rfl, rfl, SqT.of h1, bZ (v := .ref b) (by rw [w_, hb];rfl), ?_⟩
    refine ⟨_, rfl, rfl, _, rfl, rfl, _, rfl, ?_⟩
    rw [lK]
    by_cases c : x.val < 6
    · rw [xq c]
      refine kg ⟨_, rfl, k b row H (au.refl _) g1 g2 ?_⟩
      unfold il
      rw [if_pos c, er]
    · rw [xg c]
      refine iz ⟨_, rfl, _, rfl, b, _, rfl, rfl, g1, fun t ht => ?_⟩
      refine k t row.reverse _ (au.new ht) (by rw [ab, yU, yU]) (fun z hz => au.new ht _ _ (g2 z (yT.mp hz))) ?_
      unfold il
      rw [if_neg c, er, yU]
end
end Kx
namespace Kx
open PySem PySem.Spec PyProof.Rows L2 Wd
section
variable {P : Program} {w : World} {K : PySem.W.Frag} {mg : Str → Option Value} {base : Heap} {aB : Addr}
abbrev Pt := Addr × L × Addr × Int × Int
def PtA (H : Hp)(zs : List Pt) : Prop := ∀ z∈zs, H z.1=some (.tup [tx [z.2.1], .ref z.2.2.1]) ∧ H z.2.2.1=some (.tup [.int z.2.2.2.1, .int z.2.2.2.2])
theorem PtA.to {H H' : Hp}{zs : List Pt}(h : PtA H zs)(k : ∀ a xs, H a=some (.tup xs) → H' a=some (.tup xs)) : PtA H' zs := fun z hz => ⟨k _ _ (h z hz).1, k _ _ (h z hz).2⟩
theorem PtA.app {H : Hp}{zs ys : List Pt}(h : PtA H zs)(g : PtA H ys) : PtA H (zs++ys) := fun z hz => (xF.mp hz).elim (h z) (g z)
def ptZ (z : Pt) : L × (Int × Int) := (z.2.1, z.2.2.2)
def aO (rows : List (List (Int × Int)))(u : List L) : List (L × (Int × Int)) := u.flatMap fun x => (il rows x).map fun p => (x, p)
inductive rn (vs : List V)(H : Hp)(Q : VK)(u3_ : XK) : Prop
  | mk : ∀ (u : List L) (a r : Addr) (n : Nat) (W : List (List L)) (rows : List (List (Int × Int))), (vs=[tx u, .ref a, .ref r]) → (SK u n) → (Wy4 n W H a) → (Dw n W H r rows) → (∀ (l : Addr) (zs : List Pt) (H' : Hp), H l=none → au H H' → H' l=some (.lst ((zs.map (·.1)).map V.ref)) → PtA H' zs → zs.map ptZ=aO rows u → Q (.ref l) H') → rn vs H Q u3_
theorem gm {n : Nat}{W : List (List L)}{H H' : Hp}{a r : Addr}{rows : List (List (Int × Int))}(hW : Wy4 n W H a)(dw : Dw n W H' r rows)(x : L) : (il rows x).length≤60 := by
  have g : (rows.getD (x.val % 6) []).length≤60 := by
    rw [xi]
    cases e : rows[x.val % 6]? with
    | none => exact xV _
    | some row =>
      show row.length≤60
      rw [(dw.pm _ _ e).length_eq]
      refine xH (ze _ _) ?_
      have := cB (fun w hw => (hW.ws w hw).2.1) W.length
      have hle := hW.le
      have : (ba W).length≤15*W.length := this
      omega
  unfold il
  split
  · exact g
  · rw [xW];exact g
abbrev rp : Stmt := top 13
theorem ub : aF ["surface", "ways", "drawing", "told", "end"] ["surface", "ways", "drawing"] (av rp) := ⟨rfl, rfl, rfl, by decide +kernel, rfl, by decide +kernel, by decide +kernel⟩
theorem vC (D : Df K mg "points" rp)(T : Bt K w mg aB)(F_metat : Fnc P w K mg base "met_at" ["drawing", "end"] 2 iV) : Fnc P w K mg base "points" ["surface", "ways", "drawing"] 3 rn := by
  have sc := ub
  refine D.ok sc (fun _ _ _ _ _ _ us hl => by obtain ⟨_, _, _, rfl⟩ := qV hl;rfl) (fun vs H Q E h => ?_) (fun f cdv A outer s H vs Q E hr h => ?_)
  · obtain ⟨u, a, r, n, W, rows, rfl, _⟩ := h
    rfl
  · obtain ⟨u, a, r, n, W, rows, rfl, U, hW, dw, k⟩ := h
    have l16 := a8
    have hul := U.len
    have h6 := U.hi
    refine ⟨_, (@ag _ _ _ _ _ (@aC _ _ (3) _ _ _ _ sc.nd rfl (Or.inl rfl) (@bj _ _ _ _ ae) (by rfl) (by first | exact .inl rfl | exact .inr rfl | assumption)) (@ag _ _ _ _ _ (@bA _ _ _ _ _ _ _ _ xG rfl (@js _ _ _ _ (pv 0)) (@aA _ _ (4) _ sc.nd rfl (Or.inr rfl) (by first | exact .inl rfl | exact .inr rfl | assumption)) (@aq _ _ _ (@bQ _ _ _ _ (@bV _ _ _ _ _ _ _ _ _ _ _ _ xx yO yP de (pv 3) (@aa _ _ _ _ _ (@bp _ _ _ _ _ _ _ (["strand", "end"]) (["strand"]) ([4]) _ _ _ _ (@bH _ _ _ _ _ _ rfl (by kernel_rfl)) rfl (@eG _ _ _ _ (@aJ _ _ _ _ _ _ _ _ _ _ _ F_metat hr (by decide) rfl (@aa _ _ _ _ _ (pv 2) (@aa _ _ _ _ _ (pv 4) ae (by rfl)) (by rfl)) (by decide) (by rfl) (by rfl))) (fun _ _ _ _ => @aA _ _ (0) _ (show (["strand", "end"] : List Str).Nodup from by decide +kernel) rfl (Or.inl rfl) (by first | exact .inl rfl | exact .inr rfl | assumption)) (fun _ _ _ _ => a9) (fun _ _ _ _ => by (exact (@a4 _ _ _ _ _ (@aa _ _ _ _ _ (pv 1) (@aa _ _ _ _ _ (pv 0) ae (by rfl)) (by rfl))))) (by intro _ ;rfl)) ae (by rfl)) (by rfl) (by rfl) (by rfl) (by rfl) (by rfl)) (by rfl))) (by intro _ ;rfl)) (@aq _ _ _ (@aE _ _ _ _ (pv 3))))), ?_⟩
    refine ⟨(by show 0≤sizeLine;decide), fun l hl => ?_⟩
    have s1 : au H (upd H l (.lst [])) := au.new hl
    have f1 : (upd H l (.lst [])) l=some (.lst ((([] : List Pt).map (·.1)).map V.ref)) := ab
    generalize upd H l (.lst [])=H1 at s1 f1 ⊢
    refine ⟨_, rfl, _, rfl, iI (z := toS u) (fun i σ H' => ∃ (v4 : Option V) (zs : List Pt), σ = [some (tx u), some (.ref a), some (.ref r), some (.ref l), v4] ∧ H' l=some (.lst ((zs.map (·.1)).map V.ref)) ∧ PtA H' zs ∧ zs.length≤60*i ∧ zs.map ptZ=aO rows (u.take i) ∧ au H H') ⟨none, [], rfl, f1, (fun z hz => by cases hz), wZ _, rfl, s1⟩ ?_ ?_⟩
    · rintro i cc σ H2 hc ⟨v4, zs, rfl, f2, hz, zl, ez, s2⟩
      obtain ⟨x, hx, ex⟩ := eT hc
      rw [ex]
      have hi : i < u.length := (xh.mp hx).1
      have hxn : x.val % 6 < n := (U.mem x).mp (xc hx)
      refine ⟨_, rfl, .inl ⟨rfl, _, SqL.of f2⟩, _, rfl, _, rfl, r, n, W, rows, x, rfl, dw.same s2, hxn, fun b row H3 s3 hb st er => ⟨b, rfl, ⟨_, SqT.of hb⟩, ?_⟩⟩
      have rl : row.length≤60 := by
        have := gm hW dw x
        rw [← er, fu] at this
        exact this
      refine cR (xs := (row.map (·.1)).map V.ref) (own := ["strand"]) (cap := [4]) (fun j ys σ H' => ∃ (v : Option V) (ps : List Pt), σ = [v, some (tx [x])] ∧ ys=(ps.map (·.1)).map V.ref ∧ ps.length=j ∧ PtA H' ps ∧ ps.map ptZ=(row.take j).map (fun z => (x, z.2)) ∧ au H3 H') ⟨none, [], rfl, rfl, rfl, (fun z hz => by cases hz), rfl, au.refl _⟩ (fun j ys σ H' hj ⟨_, ps, _, e, e2, _⟩ => by rw [e, fu, fu];omega) (by rw [fu, fu];omega) (fun j ys σ H' ⟨_, _, _, _, _, _, _, q⟩ => SqT.of (q _ _ hb)) ?_ ?_
      · rintro j ys σ H4 y N hy ⟨v, ps, rfl, rfl, pl, hp, ep, s4⟩ hN
        rw [w_, w_] at hy
        cases hzj : row[j]? with
        | none => rw [hzj] at hy;cases hy
        | some z =>
          rw [hzj] at hy
          obtain rfl := xb hy
          have hm := xc hzj
          refine ⟨_, rfl, _, rfl, (aD (n := 2) (by decide)), fun t ht => hN _ _ _ ⟨_, ps++[(t, x, z.1, z.2)], rfl, by rw [w9, w9];rfl, by rw [w4, pl];rfl, ?_, ?_, s4.then ht⟩⟩
          · refine (hp.to fun c xs e => au.new ht _ _ e).app fun y hy => ?_
            rw [xf.mp hy]
            exact ⟨ab, au.new ht _ _ (s4 _ _ (st z hm))⟩
          · rw [w9, ep, yM, hzj, Ax, w9]
            rfl
      · rintro ys σ H4 q ⟨v, ps, rfl, rfl, pl, hp, ep, s4⟩ hq
        rw [fu, fu] at pl ep
        rw [xI] at ep
        have s5 : au H4 (upd H4 q (.lst ((ps.map (·.1)).map V.ref))) := au.new hq
        have g5 : (upd H4 q (.lst ((ps.map (·.1)).map V.ref))) q=some (.lst ((ps.map (·.1)).map V.ref)) := ab
        generalize upd H4 q (.lst ((ps.map (·.1)).map V.ref))=H5 at s5 g5 ⊢
        have s25 := s3.trans (s4.trans s5)
        have f5 := s25 _ _ f2
        refine ⟨l, q, _, _, rfl, rfl, f5, g5, by rw [fu, fu, fu, fu];omega, ?_⟩
        have keepT : ∀ (zz : List V) b xs, H5 b=some (.tup xs) → (upd H5 l (.lst zz)) b=some (.tup xs) := fun zz b xs e => by
          rw [ay (cH e f5 (by intro z;cases z))];exact e
        refine ⟨_, zs++ps, rfl, by rw [ab, w9, w9], ?_, by rw [w4];omega, ?_, fun b o e => ?_⟩
        · exact ((hz.to fun c xs e => s25 _ _ e).app (hp.to fun c xs e => s5 _ _ e)).to (keepT _)
        · rw [w9, ez, ep, cu hx]
          unfold aO
          rw [zm, yz, A2, yL, ← er, za]
          rfl
        · rw [ay (ak e hl)];exact s25 _ _ (s2 _ _ e)
    · rintro σ H2 ⟨v4, zs, rfl, f2, hz, zl, ez, s2⟩
      rw [bW, xI] at ez
      exact ⟨_, rfl, k l zs _ hl s2 f2 hz ez⟩
end
end Kx
namespace Kx
open PySem PySem.Spec PyProof.Rows L2 Wd
section
variable {P : Program} {w : World} {K : PySem.W.Frag} {mg : Str → Option Value} {base : Heap} {aB : Addr}
inductive iX (vs : List V)(H : Hp)(Q : VK)(u3_ : XK) : Prop
  | mk : ∀ (u : List L) (r : Addr) (n : Nat) (W : List (List L)) (rows : List (List (Int × Int))), (vs=[tx u, .ref r]) → (SK u n) → (Dw n W H r rows) → (∀ x, (il rows x).length≤60) → (∀ (l : Addr) (zs : List Pt) (H' : Hp), H l=none → au H H' → H' l=some (.lst ((zs.map (·.1)).map V.ref)) → PtA H' zs → zs.map ptZ=aO rows u → Q (.ref l) H') → iX vs H Q u3_
theorem my {t u : TS}{D : fm}{σ : L2.St}{H : Hp}(R : L2.St → Hp → Prop)(h1 : ∀ D' : fm, (∀ σ2 H2, R σ2 H2 → D'.nx σ2 H2) → t D' σ H)(h2 : ∀ σ2 H2, R σ2 H2 → u D σ2 H2) : vK t u D σ H := h1 _ h2
theorem mz {nx : L2.St → Hp → Prop}{rt : VK}{bk ct : L2.St → Hp → Prop}{i : Nat}{σ : L2.St}{x : V}{H : Hp}(h : nx (σ.set i (some x)) H) : eF (iF i) ⟨nx, rt, bk, ct⟩ σ x H := h
abbrev iY : Stmt := top 33
theorem oM : aF ["_law_surface", "_law_drawing", "_law_found", "_law_end", "_law_row"] ["_law_surface", "_law_drawing"] (av iY) := ⟨rfl, rfl, rfl, by decide +kernel, rfl, by decide +kernel, by decide +kernel⟩
theorem rq (D : Df K mg "_law_all_spots" iY)(T : Bt K w mg aB) : Fnc P w K mg base "_law_all_spots" ["_law_surface", "_law_drawing"] 1 iX := by
  have sc := oM
  refine D.ok sc (fun _ _ _ _ _ _ us hl => by obtain ⟨_, _, rfl⟩ := jK hl;rfl) (fun vs H Q E h => ?_) (fun f cdv A outer s H vs Q E hr h => ?_)
  · obtain ⟨u, r, n, W, rows, rfl, _⟩ := h
    rfl
  · obtain ⟨u, r, n, W, rows, rfl, U, dw, rlen, k⟩ := h
    have l16 := a8
    have hul := U.len
    have h6 := U.hi
    refine ⟨_, (@ag _ _ _ _ _ (@aC _ _ (2) _ _ _ _ sc.nd rfl (Or.inl rfl) (@bj _ _ _ _ ae) (by rfl) (by first | exact .inl rfl | exact .inr rfl | assumption)) (@ag _ _ _ _ _ (@bA _ _ _ _ _ _ _ _ xG rfl (@js _ _ _ _ (pv 0)) (@aA _ _ (3) _ sc.nd rfl (Or.inr rfl) (by first | exact .inl rfl | exact .inr rfl | assumption)) (@ag _ _ _ _ _ (@aC _ _ (4) _ _ _ _ sc.nd rfl (Or.inl rfl) (@aX _ _ _ _ _ _ _ _ _ cK (by rfl) T.list jv (@aa _ _ _ _ _ (@aL _ _ _ _ _ _ _ aY (pv 1) (@bV _ _ _ _ _ _ _ _ _ _ _ _ xy zK zL fV bP (@aa _ _ _ _ _ (@eM _ _ _ _ _ _ _ _ _ xy yY yZ eg (pv 3) (by rfl) (by rfl)) ae (by rfl)) (by rfl) (by rfl) (by rfl) (by rfl) (by rfl)) (fun _ _ => rfl)) ae (by rfl)) (by decide) (by decide) (by rfl) (by rfl)) (by rfl) (by first | exact .inl rfl | exact .inr rfl | assumption)) (@ag _ _ _ _ _ (@bN _ _ _ _ _ _ _ _ (@aH _ _ _ _ _ _ _ _ gG (pv 3) bP rfl) (@aq _ _ _ (@bQ _ _ _ _ (@eM _ _ _ _ _ _ _ _ _ xx PySem.F.slot_list_reverse PySem.F.type_list_reverse jZ (pv 4) (by rfl) (by rfl)) (by rfl))) aR) (@aq _ _ _ (@bQ _ _ _ _ (@bV _ _ _ _ _ _ _ _ _ _ _ _ xx yO yP de (pv 2) (@aa _ _ _ _ _ (@bp _ _ _ _ _ _ _ (["_law_strand", "_law_end"]) (["_law_strand"]) ([3]) _ _ _ _ (@bH _ _ _ _ _ _ rfl (by kernel_rfl)) rfl (@c5 _ _ _ _ (pv 4)) (fun _ _ _ _ => @aA _ _ (0) _ (show (["_law_strand", "_law_end"] : List Str).Nodup from by decide +kernel) rfl (Or.inl rfl) (by first | exact .inl rfl | exact .inr rfl | assumption)) (fun _ _ _ _ => a9) (fun _ _ _ _ => by (exact (@a4 _ _ _ _ _ (@aa _ _ _ _ _ (pv 1) (@aa _ _ _ _ _ (pv 0) ae (by rfl)) (by rfl))))) (by intro _ ;rfl)) ae (by rfl)) (by rfl) (by rfl) (by rfl) (by rfl) (by rfl)) (by rfl))))) (by intro _ ;rfl)) (@aq _ _ _ (@aE _ _ _ _ (pv 2))))), ?_⟩
    refine ⟨(by show 0≤sizeLine;decide), fun l hl => ?_⟩
    have s1 : au H (upd H l (.lst [])) := au.new hl
    have f1 : (upd H l (.lst [])) l=some (.lst ((([] : List Pt).map (·.1)).map V.ref)) := ab
    generalize upd H l (.lst [])=H1 at s1 f1 ⊢
    refine ⟨_, rfl, _, rfl, iI (z := toS u) (fun i σ H' => ∃ (v3 v4 : Option V) (zs : List Pt), σ = [some (tx u), some (.ref r), some (.ref l), v3, v4] ∧ H' l=some (.lst ((zs.map (·.1)).map V.ref)) ∧ PtA H' zs ∧ zs.length≤60*i ∧ zs.map ptZ=aO rows (u.take i) ∧ au H H') ⟨none, none, [], rfl, f1, (fun z hz => by cases hz), wZ _, rfl, s1⟩ ?_ ?_⟩
    · rintro i cc σ H2 hc ⟨v3, v4, zs, rfl, f2, hz, zl, ez, s2⟩
      obtain ⟨x, hx, ex⟩ := eT hc
      rw [ex]
      have hi : i < u.length := (xh.mp hx).1
      have hxn : x.val % 6 < n := (U.mem x).mp (xc hx)
      obtain ⟨bs, h1, h2, h3⟩ := (dw.same s2).ex
      obtain ⟨b, hb⟩ : ∃ b, bs[x.val % 6]? = some b := ⟨_, wY (by omega)⟩
      obtain ⟨row, g1, g2, g3⟩ := h3 _ b hb
      have er : rows.getD (x.val % 6) []=row.map (·.2) := by rw [xi, g3];rfl
      obtain ⟨rest, ho⟩ := pU (x := ⟨x.val % 6, by omega⟩) (by show x.val % 6 < 6;omega)
      refine ⟨_, rfl, rfl, _, rfl, rfl, _, rfl, rfl, (by show 1≤5592405;decide), ?_⟩
      rw [pT]
      refine ⟨_, _, _, rest, rfl, rfl, ho, r, _, _, _, rfl, rfl, SqT.of h1, bZ (v := .ref b) (by rw [w_, hb];rfl), b, _, rfl, .inr (SqT.of g1), fun lr hlr => ?_⟩
      have s3 : au H2 (upd H2 lr (.lst ((row.map (·.1)).map V.ref))) := au.new hlr
      have f3 : (upd H2 lr (.lst ((row.map (·.1)).map V.ref))) lr=some (.lst ((row.map (·.1)).map V.ref)) := ab
      have nlr : l≠lr := ak f2 hlr
      generalize upd H2 lr (.lst ((row.map (·.1)).map V.ref))=H3 at s3 f3 ⊢
      refine mz ?_
      refine my (fun σ2 H4 => ∃ row' : List (Addr × Int × Int), σ2=[some (tx u), some (.ref r), some (.ref l), some (tx [x]), some (.ref lr)] ∧ H4 lr=some (.lst ((row'.map (·.1)).map V.ref)) ∧ StA H4 row' ∧ row'.map (·.2)=il rows x ∧ au H2 H4) (fun D' nx => ?_) ?_
      · refine ⟨_, rfl, _, _, rfl, rfl, _, rfl, ?_⟩
        rw [pL]
        by_cases c : x.val < 6
        · rw [xg (show ¬ ¬ x.val < 6 from fun q => q c)]
          refine pR (nx _ _ ⟨row, rfl, f3, g2.same s3, ?_, s3⟩)
          unfold il
          rw [if_pos c, er]
        · rw [xq c]
          refine fC ⟨_, rfl, .inl ⟨rfl, _, SqL.of f3⟩, lr, _, rfl, rfl, f3, nx _ _ ⟨row.reverse, rfl, by rw [ab, yU, yU], fun z hz' => ?_, ?_, fun q o e => ?_⟩⟩
          · have := s3 _ _ (g2 z (yT.mp hz'))
            rw [ay (cH this f3 (by intro z;cases z))]
            exact this
          · unfold il
            rw [if_neg c, er, yU]
          · rw [ay (ak e hlr)]
            exact s3 _ _ e
      rintro σ2 H4 ⟨row', rfl, f4, st, er', s4⟩
      have rl : row'.length≤60 := by
        have := rlen x
        rw [← er', fu] at this
        exact this
      have fl4 := s4 _ _ f2
      refine ⟨_, rfl, .inl ⟨rfl, _, SqL.of fl4⟩, _, rfl, lr, rfl, ⟨_, SqL.of f4⟩, ?_⟩
      refine hU (xs := (row'.map (·.1)).map V.ref) (own := ["_law_strand"]) (cap := [3]) (fun j ys σ H' => ∃ (v : Option V) (ps : List Pt), σ = [v, some (tx [x])] ∧ ys=(ps.map (·.1)).map V.ref ∧ ps.length=j ∧ PtA H' ps ∧ ps.map ptZ=(row'.take j).map (fun z => (x, z.2)) ∧ au H4 H') ⟨none, [], rfl, rfl, rfl, (fun z hz => by cases hz), rfl, au.refl _⟩ (fun j ys σ H' hj ⟨_, ps, _, e, e2, _⟩ => by rw [e, fu, fu];omega) (by rw [fu, fu];omega) (fun j ys σ H' ⟨_, _, _, _, _, _, _, q⟩ => SqL.of (q _ _ f4)) ?_ ?_
      · rintro j ys σ H5 y N hy ⟨v, ps, rfl, rfl, pl, hp, ep, s5⟩ hN
        rw [w_, w_] at hy
        cases hzj : row'[j]? with
        | none => rw [hzj] at hy;cases hy
        | some z =>
          rw [hzj] at hy
          obtain rfl := xb hy
          have hm := xc hzj
          refine ⟨_, rfl, _, rfl, (aD (n := 2) (by decide)), fun t ht => hN _ _ _ ⟨_, ps++[(t, x, z.1, z.2)], rfl, by rw [w9, w9];rfl, by rw [w4, pl];rfl, ?_, ?_, s5.then ht⟩⟩
          · refine (hp.to fun c xs e => au.new ht _ _ e).app fun y hy => ?_
            rw [xf.mp hy]
            exact ⟨ab, au.new ht _ _ (s5 _ _ (st z hm))⟩
          · rw [w9, ep, yM, hzj, Ax, w9]
            rfl
      · rintro ys σ H5 q ⟨v, ps, rfl, rfl, pl, hp, ep, s5⟩ hq
        rw [fu, fu] at pl ep
        rw [xI] at ep
        have s6 : au H5 (upd H5 q (.lst ((ps.map (·.1)).map V.ref))) := au.new hq
        have g6 : (upd H5 q (.lst ((ps.map (·.1)).map V.ref))) q=some (.lst ((ps.map (·.1)).map V.ref)) := ab
        generalize upd H5 q (.lst ((ps.map (·.1)).map V.ref))=H6 at s6 g6 ⊢
        have s26 := s4.trans (s5.trans s6)
        have f6 := s26 _ _ f2
        refine ⟨l, q, _, _, rfl, rfl, f6, g6, by rw [fu, fu, fu, fu];omega, ?_⟩
        have keepT : ∀ (zz : List V) b xs, H6 b=some (.tup xs) → (upd H6 l (.lst zz)) b=some (.tup xs) := fun zz b xs e => by
          rw [ay (cH e f6 (by intro z;cases z))];exact e
        refine ⟨_, _, zs++ps, rfl, by rw [ab, w9, w9], ?_, by rw [w4];omega, ?_, fun b o e => ?_⟩
        · exact ((hz.to fun c xs e => s26 _ _ e).app (hp.to fun c xs e => s6 _ _ e)).to (keepT _)
        · rw [w9, ez, ep, cu hx]
          unfold aO
          rw [zm, yz, A2, yL, ← er', za]
          rfl
        · rw [ay (ak e hl)];exact s26 _ _ (s2 _ _ e)
    · rintro σ H2 ⟨v3, v4, zs, rfl, f2, hz, zl, ez, s2⟩
      rw [bW, xI] at ez
      exact ⟨_, rfl, k l zs _ hl s2 f2 hz ez⟩
end
end Kx
namespace Kx
open PySem PySem.Spec PyProof.Rows L2 Wd
def ltZ (W : List (List L))(p : Int × Int) : L := (W.getD p.1.toNat []).getD p.2.toNat 0
def ee (z : L × (Int × Int)) : Str × List Int := (toS [z.1], [z.2.1, z.2.2])
theorem gq {y z : L × (Int × Int)}(h : ee y=ee z) : y=z := by
  obtain ⟨a, b, c⟩ := y
  obtain ⟨a', b', c'⟩ := z
  have h1 : toS [a]=toS [a'] := xA Prod.fst h
  have h2 : [b, c]=[b', c'] := xA Prod.snd h
  have h1 := k4 h1
  cases h1
  cases h2
  rfl
theorem fe (z : L × (Int × Int)) : PyData.strOk (ee z).1=true := by
  have q : ∀ x : L, PyData.strOk (toS [x])=true := by decide +kernel
  exact q z.1
def cdZ (pts : List (L × (Int × Int)))(W : List (List L))(p : Int × Int) : Nat × Nat := (pts.idxOf (inv (ltZ W p), p), pts.idxOf (ltZ W (nxZ W p), nxZ W p))
theorem rz {n : Nat}{W : List (List L)}{H : Hp}{r : Addr}{rows : List (List (Int × Int))}(dw : Dw n W H r rows)(x : L) : (il rows x).Nodup := by
  have g : (rows.getD (x.val % 6) []).Nodup := by
    rw [xi]
    cases e : rows[x.val % 6]? with
    | none => exact zV
    | some row => exact (dw.pm _ _ e).nodup_iff.mpr (f_ (oo W _))
  unfold il
  split
  · exact g
  · exact (List.reverse_perm _).nodup_iff.mpr g
theorem oN {n : Nat}{W : List (List L)}{H : Hp}{r : Addr}{rows : List (List (Int × Int))}(dw : Dw n W H r rows){x : L}(hx : x.val % 6 < n){p : Int × Int}(ok : okS W p=true)(h : ltS W p=x.val % 6) : p∈il rows x := by
  have hl : x.val % 6 < rows.length := by rw [dw.len];exact hx
  have e : rows[x.val % 6]? = some rows[x.val % 6] := wY hl
  have m : p∈rows[x.val % 6] := by
    rw [(dw.pm _ _ e).mem_iff]
    unfold rR
    rw [Ai]
    exact ⟨bT.mpr ok, by simpa using h⟩
  unfold il
  rw [xi, e, Aa]
  split
  · exact m
  · exact yT.mpr m
theorem mB {n : Nat}{W : List (List L)}{H : Hp}{r : Addr}{rows : List (List (Int × Int))}{u : List L}(U : SK u n)(dw : Dw n W H r rows) : (aO rows u).Nodup := by
  have nd : u.Nodup := U.pm.nodup_iff.mpr (hX ⟨n, by have := U.hi;omega⟩).1
  unfold aO List.Nodup
  rw [z1]
  refine ⟨fun x _ => ?_, yN ?_ nd⟩
  · rw [zR]
    exact yN (fun h e => h (xA Prod.snd e)) (rz dw x)
  · intro a b h y hy z hz e
    obtain ⟨_, _, rfl⟩ := xC.mp hy
    obtain ⟨_, _, rfl⟩ := xC.mp hz
    exact h (xA Prod.fst e)
theorem mD {n : Nat}{W : List (List L)}{H : Hp}{r : Addr}{rows : List (List (Int × Int))}{u : List L}(U : SK u n)(dw : Dw n W H r rows){x : L}(hx : x.val % 6 < n){p : Int × Int}(ok : okS W p=true)(h : ltS W p=x.val % 6) : (x, p)∈aO rows u := by
  unfold aO
  rw [yD]
  exact ⟨x, (U.mem x).mpr hx, xC.mpr ⟨p, oN dw hx ok h, rfl⟩⟩
theorem oO {W : List (List L)}{p : Int × Int}(ok : okS W p=true) : okS W (nxZ W p)=true := by
  unfold okS at ok ⊢
  unfold nxZ
  simp only [xp, xK] at ok ⊢
  obtain ⟨⟨h1, h2⟩, h3, h4⟩ := ok
  have hp : 0 < ((W.getD p.1.toNat []).length : Int) := by omega
  exact ⟨⟨h1, h2⟩, yg _ (by omega), x3 _ hp⟩
theorem mE {n : Nat}{W : List (List L)}{H : Hp}{r : Addr}{rows : List (List (Int × Int))}{u : List L}(U : SK u n)(dw : Dw n W H r rows)(hW : ∀ w∈W, InM n w){p : Int × Int}(ok : okS W p=true) : (inv (ltZ W p), p)∈aO rows u ∧ (ltZ W (nxZ W p), nxZ W p)∈aO rows u := by
  have l1 := mr hW ok
  have l2 := mr hW (oO ok)
  exact ⟨mD U dw (by rw [lM];exact l1) ok (by rw [lM];rfl), mD U dw l2 (oO ok) rfl⟩
def esZ : Nat → List Pt → List NE
  | _, [] => []
  | k, z::r => (ee (ptZ z), z.1, (k : Int))::esZ (k+1) r
theorem pV : ∀ (k : Nat) (zs : List Pt), (esZ k zs).length=zs.length
  | _, [] => rfl
  | k, z::r => by show (esZ (k+1) r).length+1=_;rw [pV];rfl
theorem pX : ∀ (k : Nat) (zs : List Pt) (z : Pt), esZ k (zs++[z])=esZ k zs++[(ee (ptZ z), z.1, ((k+zs.length : Nat) : Int))]
  | _, [], _ => rfl
  | k, y::r, z => by
    show _::esZ (k+1) (r++[z])=_
    rw [pX (k+1) r z]
    show _=_::(esZ (k+1) r++_)
    rw [show k+1+r.length=k+(y::r).length by rw [xM];omega]
theorem mF : ∀ (k : Nat) (zs : List Pt), (esZ k zs).map (·.1)=(zs.map ptZ).map ee
  | _, [] => rfl
  | k, z::r => by show ee (ptZ z)::(esZ (k+1) r).map (·.1)=_;rw [mF];rfl
theorem mG : ∀ (k : Nat) (zs : List Pt) {q : L × (Int × Int)}, q∈zs.map ptZ → qS (esZ k zs) (ee q)=some ((k+(zs.map ptZ).idxOf q : Nat) : Int)
  | _, [], q, h => by cases h
  | k, z::r, q, h => by
    rw [xv] at h ⊢
    unfold qS
    show ((((ee (ptZ z), z.1, (k : Int)) : NE)::esZ (k+1) r).find? _).map _=_
    by_cases c : ptZ z=q
    · rw [zI (by simpa using xA ee c), c, List.idxOf_cons_self]
      rfl
    · have hq : q∈r.map ptZ := by
        rcases xr.mp h with h | h
        · exact absurd h.symm c
        · exact h
      have ih := mG (k+1) r hq
      unfold qS at ih
      rw [zJ (by simpa using fun e => c (gq e)), ih, List.idxOf_cons, show (ptZ z == q)=false from zk.mpr c]
      show some (((k+1+_ : Nat) : Int))=some (((k+(_+1) : Nat) : Int))
      congr 2
      omega
theorem uc {zs : List Pt}{z : Pt}(h : ptZ z∉zs.map ptZ) : ou (esZ 0 zs) (ee (ptZ z)) z.1 (zs.length : Int)=esZ 0 (zs++[z]) := by
  unfold ou
  rw [pX, Bm, if_neg]
  rw [mF]
  intro q
  obtain ⟨y, hy, e⟩ := xC.mp q
  exact h (gq e ▸ hy)
theorem pY : ∀ (k : Nat) (zs : List Pt) {x : NE}, x∈esZ k zs → ∃ z∈zs, x.1=ee (ptZ z) ∧ x.2.1=z.1
  | _, [], _, h => by cases h
  | k, z::r, x, h => by
    rcases xr.mp h with h | h
    · exact ⟨z, xt, by rw [h], by rw [h]⟩
    · obtain ⟨y, hy, e⟩ := pY (k+1) r h
      exact ⟨y, xk _ hy, e⟩
theorem pZ {H : Hp}{z : Pt}(h : H z.1=some (.tup [tx [z.2.1], .ref z.2.2.1]) ∧ H z.2.2.1=some (.tup [.int z.2.2.2.1, .int z.2.2.2.2])) : kh H (ee (ptZ z)) z.1 := ⟨⟨z.2.2.1, h.1, h.2⟩, fe _⟩
theorem rA {H : Hp}{zs : List Pt}(h : PtA H zs) : ∀ x∈esZ 0 zs, kh H x.1 x.2.1 := fun x hx => by
  obtain ⟨z, hz, e1, e2⟩ := pY 0 zs hx
  rw [e1, e2]
  exact pZ (h z hz)
def keyT (p : Int × Int) : List Key := [.inl p.1, .inl p.2]
theorem gr {p q : Int × Int}(h : keyT p=keyT q) : p=q := by
  obtain ⟨a, b⟩ := p
  obtain ⟨c, d⟩ := q
  cases h
  rfl
structure CdA (H : Hp) (pts : List (L × (Int × Int))) (W : List (List L)) (ps : List (Int × Int)) (kvs : List (List Key × V)) : Prop where
  ks : kvs.map (·.1)=ps.map keyT
  vl : ∀ p∈ps, ∃ b, eO kvs (keyT p)=some (.ref b) ∧ H b=some (.tup [.int ((cdZ pts W p).1 : Int), .int ((cdZ pts W p).2 : Int)])
theorem CdA.to {H H' : Hp}{pts : List (L × (Int × Int))}{W : List (List L)}{ps : List (Int × Int)}{kvs : List (List Key × V)}(h : CdA H pts W ps kvs)(k : ∀ a xs, H a=some (.tup xs) → H' a=some (.tup xs)) : CdA H' pts W ps kvs := ⟨h.ks, fun p hp => let ⟨b, h1, h2⟩ := h.vl p hp; ⟨b, h1, k _ _ h2⟩⟩
theorem oP {kvs : List (List Key × V)}{ps : List (Int × Int)}(h : kvs.map (·.1)=ps.map keyT){p : Int × Int}(hp : p∉ps) : eO kvs (keyT p)=none := by
  unfold eO
  rw [Option.map_eq_none_iff, List.find?_eq_none]
  intro x hx e
  have e : x.1=keyT p := by simpa using e
  have : keyT p∈ps.map keyT := by rw [← h, ← e];exact xC.mpr ⟨x, hx, rfl⟩
  obtain ⟨q, hq, e2⟩ := xC.mp this
  exact hp (gr e2 ▸ hq)
theorem CdA.put {H H' : Hp}{pts : List (L × (Int × Int))}{W : List (List L)}{ps : List (Int × Int)}{kvs : List (List Key × V)}{p : Int × Int}{b : Addr}(h : CdA H pts W ps kvs)(hp : p∉ps)(k : ∀ a xs, H a=some (.tup xs) → H' a=some (.tup xs))(hb : H' b=some (.tup [.int ((cdZ pts W p).1 : Int), .int ((cdZ pts W p).2 : Int)])) : CdA H' pts W (ps++[p]) (gE kvs (keyT p) (.ref b)) := by
  refine ⟨by rw [nH _ (oP h.ks hp), w9, w9, h.ks];rfl, fun q hq => ?_⟩
  rw [nG]
  by_cases e : q=p
  · subst e
    rw [if_pos rfl]
    exact ⟨b, rfl, hb⟩
  · rw [if_neg fun z => e (gr z)]
    rcases xF.mp hq with hq | hq
    · obtain ⟨c, h1, h2⟩ := h.vl q hq
      exact ⟨c, h1, k _ _ h2⟩
    · exact absurd (xf.mp hq) e
def stD (p : Int × Int) : PyData := .tuple ([p.1, p.2].map .int)
theorem ud {H : Hp}{a : Addr}{i j : Int}(h : H a=some (.tup [.int i, .int j])) : Dt H (.ref a) (stD (i, j)) := .tup h (.cons (.int _) (.cons (.int _) .nil))
theorem vD {H : Hp}{zs : List Pt}(h : PtA H zs) : Dts H ((zs.map (·.1)).map V.ref) ((zs.map ptZ).map fun z => du (ee z)) := by
  induction zs with
  | nil => exact .nil
  | cons z r ih =>
    have h1 := h z xt
    exact .cons (.tup h1.1 (.cons (.str _) (.cons (ud h1.2) .nil))) (ih fun y hy => h y (xk _ hy))
theorem jM {α : Type}{l : List α}(nd : l.Nodup){j : Nat}{p : α}(h : l[j]? = some p) : p∉l.take j := by
  intro m
  obtain ⟨hl, e⟩ := xh.mp h
  have nd' := nd
  rw [← zZ j l, List.nodup_append] at nd'
  exact nd'.2.2 p m p (by rw [zj hl, e];exact xt) rfl
theorem iZ (rows : List (List (Int × Int)))(h : ∀ x, (il rows x).length≤60) : ∀ u : List L, (aO rows u).length≤60*u.length
  | [] => xV _
  | x::r => by
    have ih := iZ rows h r
    unfold aO at ih ⊢
    rw [yz, w4, fu, xM]
    have := h x
    omega
theorem bw {α : Type}{l : List α}{i : Nat}{x : α}(h : l[i]? = some x) : l.take (i+1)=l.take i++[x] := by
  rw [yM, h]
  rfl
section
variable {P : Program} {w : World} {K : PySem.W.Frag} {mg : Str → Option Value} {base : Heap} {aB : Addr}
inductive gs (vs : List V)(H : Hp)(Q : VK)(u3_ : XK) : Prop
  | mk : ∀ (u : List L) (a r : Addr) (n : Nat) (W : List (List L)) (rows : List (List (Int × Int))), (vs=[tx u, .ref a, .ref r]) → (SK u n) → (Wy4 n W H a) → (Dw n W H r rows) → (∀ (d : Addr) (kvs : List (List Key × V)) (H' : Hp), H d=none → au H H' → H' d=some (.dT kvs) → CdA H' (aO rows u) W (ba W) kvs → Q (.ref d) H') → gs vs H Q u3_
abbrev gu : Stmt := top 15
theorem mH : aF ["surface", "ways", "drawing", "numbers", "number", "point", "found", "strand", "onward", "start"] ["surface", "ways", "drawing"] (av gu) := ⟨rfl, rfl, rfl, by decide +kernel, rfl, by decide +kernel, by decide +kernel⟩
theorem oQ (D : Df K mg "chords" gu)(T : Bt K w mg aB)(Te : mg "enumerate" = none)(F_back : Fnc P w K mg base "back" ["word"] 1 qD)(F_lof : Fnc P w K mg base "letter_of" ["ways", "strand"] 1 qR)(F_behind : Fnc P w K mg base "strand_behind" ["ways", "strand"] 2 fc)(F_pts : Fnc P w K mg base "points" ["surface", "ways", "drawing"] 3 rn)(F_str : Fnc P w K mg base "strands_of" ["ways"] 1 j8) : Fnc P w K mg base "chords" ["surface", "ways", "drawing"] 4 gs := by
  have sc := mH
  refine D.ok sc (fun _ _ _ _ _ _ us hl => by obtain ⟨_, _, _, rfl⟩ := qV hl;rfl) (fun vs H Q E h => ?_) (fun f cdv A outer s H vs Q E hr h => ?_)
  · obtain ⟨u, a, r, n, W, rows, rfl, _⟩ := h
    rfl
  · obtain ⟨u, a, r, n, W, rows, rfl, U, hW, dw, k⟩ := h
    have l16 := a8
    have hu := sQ hr
    have iw : ∀ w∈W, InM n w := fun w hw => (hW.ws w hw).2.2
    refine ⟨_, (@ag _ _ _ _ _ (@aC _ _ (3) _ _ _ _ sc.nd rfl (Or.inl rfl) (oy (P := P) (w := w) rfl rfl) (by rfl) (by first | exact .inl rfl | exact .inr rfl | assumption)) (@ag _ _ _ _ _ (@bA _ _ _ _ _ _ _ _ xG rfl (@tm _ _ rfl _ _ _ _ _ _ _ rfl Te lR (@aa _ _ _ _ _ (@aJ _ _ _ _ _ _ _ _ _ _ _ F_pts hr (by decide) rfl (@aa _ _ _ _ _ (pv 0) (@aa _ _ _ _ _ (pv 1) (@aa _ _ _ _ _ (pv 2) ae (by rfl)) (by rfl)) (by rfl)) (by decide) (by rfl) (by rfl)) ae (by rfl)) (by rfl)) (@dX _ _ _ _ _ _ rfl (@aW _ _ _ _ _ (@aA _ _ (4) _ sc.nd rfl (Or.inl rfl) (by first | exact .inl rfl | exact .inr rfl | assumption)) (@aW _ _ _ _ _ (@aA _ _ (5) _ sc.nd rfl (Or.inl rfl) (by first | exact .inl rfl | exact .inr rfl | assumption)) cI (by rfl)) (by rfl)) (by rfl) (by rfl)) (@aq _ _ _ (oz (P := P) (w := w) rfl rfl (lt9 hr.units) (pv 3) (pv 5) (pv 4) rfl)) (by intro _ ;rfl)) (@ag _ _ _ _ _ (@aC _ _ (6) _ _ _ _ sc.nd rfl (Or.inl rfl) nK (by rfl) (by first | exact .inl rfl | exact .inr rfl | assumption)) (@ag _ _ _ _ _ (@bA _ _ _ _ _ _ _ _ xG rfl (@c5 _ _ _ _ (@aJ _ _ _ _ _ _ _ _ _ _ _ F_str hr (by decide) rfl (@aa _ _ _ _ _ (pv 1) ae (by rfl)) (by decide) (by rfl) (by rfl))) (@aA _ _ (7) _ sc.nd rfl (Or.inl rfl) (by first | exact .inl rfl | exact .inr rfl | assumption)) (@ag _ _ _ _ _ (@aC _ _ (8) _ _ _ _ sc.nd rfl (Or.inl rfl) (@aJ _ _ _ _ _ _ _ _ _ _ _ F_behind hr (by decide) rfl (@aa _ _ _ _ _ (pv 1) (@aa _ _ _ _ _ (pv 7) ae (by rfl)) (by rfl)) (by decide) (by rfl) (by rfl)) (by rfl) (by first | exact .inl rfl | exact .inr rfl | assumption)) (@ag _ _ _ _ _ (@aC _ _ (9) _ _ _ _ sc.nd rfl (Or.inl rfl) (@a4 _ _ _ _ _ (@aa _ _ _ _ _ (@aJ _ _ _ _ _ _ _ _ _ _ _ F_back hr (by decide) rfl (@aa _ _ _ _ _ (@aJ _ _ _ _ _ _ _ _ _ _ _ F_lof hr (by decide) rfl (@aa _ _ _ _ _ (pv 1) (@aa _ _ _ _ _ (pv 7) ae (by rfl)) (by rfl)) (by decide) (by rfl) (by rfl)) ae (by rfl)) (by decide) (by rfl) (by rfl)) (@aa _ _ _ _ _ (pv 7) ae (by rfl)) (by rfl))) (by rfl) (by first | exact .inl rfl | exact .inr rfl | assumption)) (@aq _ _ _ (@qu _ _ _ _ _ _ _ _ _ hu (pv 6) (pv 7) (@a4 _ _ _ _ _ (@aa _ _ _ _ _ (jH (P := P) (w := w) rfl rfl (lt9 hr.units) (pv 3) (pv 9) (fun _ _ => rfl)) (@aa _ _ _ _ _ (jH (P := P) (w := w) rfl rfl (lt9 hr.units) (pv 3) (@a4 _ _ _ _ _ (@aa _ _ _ _ _ (@aJ _ _ _ _ _ _ _ _ _ _ _ F_lof hr (by decide) rfl (@aa _ _ _ _ _ (pv 1) (@aa _ _ _ _ _ (pv 8) ae (by rfl)) (by rfl)) (by decide) (by rfl) (by rfl)) (@aa _ _ _ _ _ (pv 8) ae (by rfl)) (by rfl))) (fun _ _ => rfl)) ae (by rfl)) (by rfl))) rfl)))) (by intro _ ;rfl)) (@aq _ _ _ (@aE _ _ _ _ (pv 6))))))), ?_⟩
    refine ⟨fun nd hnd => ?_⟩
    have s1 : au H (upd H nd (Nd P w nd [])) := au.new hnd
    have f1 : (upd H nd (Nd P w nd [])) nd=some (Nd P w nd []) := ab
    generalize upd H nd (Nd P w nd [])=H1 at s1 f1 ⊢
    refine ⟨_, rfl, _, rfl, _, rfl, u, a, r, n, W, rows, rfl, U, hW.same s1, dw.same s1, fun l zs H2 hl s2 g2 hz ez => ⟨l, rfl, ⟨_, SqL.of g2⟩, ?_⟩⟩
    have nl : nd≠l := ak f1 hl
    have ndp : (zs.map ptZ).Nodup := by rw [ez];exact mB U dw
    have zl : zs.length≤720 := by
      have := iZ rows (fun x => gm hW dw x) u
      rw [← ez, fu] at this
      have := U.len
      have := U.hi
      omega
    have s02 := s1.trans s2
    refine qK (xs := (zs.map (·.1)).map V.ref) (fun i σ H' => ∃ (v4 v5 : Option V), σ = [some (tx u), some (.ref a), some (.ref r), some (.ref nd), v4, v5, none, none, none, none] ∧ H' nd=some (Nd P w nd (esZ 0 (zs.take i))) ∧ H' l=some (.lst ((zs.map (·.1)).map V.ref)) ∧ PtA H' zs ∧ Wy4 n W H' a ∧ au H H') ⟨none, none, rfl, s2 _ _ f1, g2, hz, hW.same s02, s02⟩ (fun i σ H' _ ⟨_, _, _, _, q, _⟩ => SqL.of q) ?_ ?_
    · rintro i x σ H3 t hx ⟨v4, v5, rfl, f3, g3, hz3, hW3, s3⟩ ht
      rw [w_, w_] at hx
      cases hzi : zs[i]? with
      | none => rw [hzi] at hx;cases hx
      | some z =>
        rw [hzi] at hx
        obtain rfl := xb hx
        have hi : i < zs.length := (xh.mp hzi).1
        have hm := xc hzi
        have s4 : au H3 (upd H3 t (.tup [.int (i : Int), .ref z.1])) := au.new ht
        have g4 : (upd H3 t (.tup [.int (i : Int), .ref z.1])) t=some (.tup [.int (i : Int), .ref z.1]) := ab
        refine ⟨t, _, rfl, SqT.of ab, rfl, _, _, rfl, _, _, rfl, rfl, ?_⟩
        generalize upd H3 t (.tup [.int (i : Int), .ref z.1])=H4 at s4 g4 ⊢
        have f4 := s4 _ _ f3
        have hz4 : PtA H4 zs := hz3.to fun b xs e => s4 _ _ e
        have tl : (zs.take i).length=i := by rw [xo];omega
        have np : ptZ z∉(zs.take i).map ptZ := by
          rw [Ae]
          exact jM ndp (by rw [w_, hzi];rfl)
        have ep : ou (esZ 0 (zs.take i)) (ee (ptZ z)) z.1 (i : Int)=esZ 0 (zs.take (i+1)) := by
          have := uc np
          rw [tl] at this
          rw [this, bw hzi]
        refine ⟨_, rfl, _, rfl, _, rfl, nd, z.1, _, _, (i : Int), rfl, rfl, rfl, f4, rA (fun y hy => hz4 y (ya hy)), pZ (hz4 z hm), (by rw [pV, tl];omega), ?_⟩
        rw [ep]
        have keepT : ∀ b xs, H4 b=some (.tup xs) → (upd H4 nd (Nd P w nd (esZ 0 (zs.take (i+1))))) b=some (.tup xs) := fun b xs e => by
          rw [ay (cH e f4 (by intro z;cases z))];exact e
        refine ⟨_, _, rfl, ab, ?_, hz4.to keepT, ⟨keepT _ _ (s4 _ _ hW3.at_), hW3.le, hW3.lo, hW3.ws⟩, fun b o e => ?_⟩
        · rw [ay nl.symm];exact s4 _ _ g3
        · rw [ay (ak e hnd)];exact s4 _ _ (s3 _ _ e)
    · rintro σ H3 ⟨v4, v5, rfl, f3, g3, hz3, hW3, s3⟩
      rw [fu, fu, xI] at f3
      refine fun fd hfd => ?_
      have s4 : au H3 (upd H3 fd (.dT [])) := au.new hfd
      have d4 : (upd H3 fd (.dT [])) fd=some (.dT []) := ab
      have nfd : nd≠fd := ak f3 hfd
      have hfH : H fd=none := none_of s3 hfd
      generalize upd H3 fd (.dT [])=H4 at s4 d4 ⊢
      refine ⟨_, rfl, a, n, W, rfl, hW3.same s4, fun l2 ss H5 hl2 s5 g5 hst est => ⟨l2, rfl, ⟨_, SqL.of g5⟩, ?_⟩⟩
      have s35 := s4.trans s5
      have nl2 : fd≠l2 := ak d4 hl2
      have nda : (ba W).Nodup := f_ (eh W)
      have sl : ss.length≤60 := by
        have := cB (fun w hw => (hW.ws w hw).2.1) W.length
        have e : (ba W).length=(ki W W.length).length := rfl
        have hle := hW.le
        rw [← e, ← est, fu] at this
        omega
      refine c9 (xs := (ss.map (·.1)).map V.ref) (fun j σ H' => ∃ (v7 v8 v9 : Option V) (kvs : List (List Key × V)), σ = [some (tx u), some (.ref a), some (.ref r), some (.ref nd), v4, v5, some (.ref fd), v7, v8, v9] ∧ H' nd=some (Nd P w nd (esZ 0 zs)) ∧ PtA H' zs ∧ H' fd=some (.dT kvs) ∧ H' l2=some (.lst ((ss.map (·.1)).map V.ref)) ∧ StA H' ss ∧ Wy4 n W H' a ∧ CdA H' (aO rows u) W ((ba W).take j) kvs ∧ au H H') ⟨none, none, none, [], rfl, s35 _ _ f3, (hz3.to fun b xs e => s35 _ _ e), s5 _ _ d4, g5, hst, hW3.same s35, ⟨rfl, fun p hp => by cases hp⟩, s3.trans s35⟩ (fun j σ H' _ ⟨_, _, _, _, _, _, _, _, q, _⟩ => SqL.of q) ?_ ?_
      · rintro j x σ H6 hx ⟨v7, v8, v9, kvs, rfl, f6, hz6, d6, g6, st6, hW6, cd6, s6⟩
        rw [w_, w_] at hx
        cases hzj : ss[j]? with
        | none => rw [hzj] at hx;cases hx
        | some z =>
          rw [hzj] at hx
          obtain rfl := xb hx
          have hm := xc hzj
          have hj : j < ss.length := (xh.mp hzj).1
          have aj : (ba W)[j]? = some z.2 := by rw [← est, w_, hzj];rfl
          have ok : okS W z.2=true := bT.mp (xc aj)
          have hz0 := st6 z hm
          obtain ⟨z0, p1, p2⟩ := z
          have hz0 : H6 z0=some (.tup [.int p1, .int p2]) := hz0
          have ok : okS W (p1, p2)=true := ok
          obtain ⟨in1, in2⟩ := mE U dw iw ok
          have okn := oO ok
          refine ⟨_, rfl, _, rfl, a, z0, n, W, p1, p2, rfl, hW6, hz0, ok, fun t ht => ?_⟩
          have s7 : au H6 (upd H6 t (.tup [.int (nxZ W (p1, p2)).1, .int (nxZ W (p1, p2)).2])) := au.new ht
          have t7 : (upd H6 t (.tup [.int (nxZ W (p1, p2)).1, .int (nxZ W (p1, p2)).2])) t=some (.tup [.int (nxZ W (p1, p2)).1, .int (nxZ W (p1, p2)).2]) := ab
          generalize upd H6 t (.tup [.int (nxZ W (p1, p2)).1, .int (nxZ W (p1, p2)).2])=H7 at s7 t7 ⊢
          refine ⟨_, rfl, _, rfl, a, z0, n, W, p1, p2, rfl, hW6.same s7, s7 _ _ hz0, ok, [ltZ W (p1, p2)], rfl, (by show 1≤_;decide), fun H8 s8 => ⟨_, rfl, (aD (n := 2) (by decide)), fun b ht1 => ?_⟩⟩
          have s9 : au H8 (upd H8 b (.tup [tx [inv (ltZ W (p1, p2))], .ref z0])) := au.new ht1
          have t9 : (upd H8 b (.tup [tx [inv (ltZ W (p1, p2))], .ref z0])) b=some (.tup [tx [inv (ltZ W (p1, p2))], .ref z0]) := ab
          change eF (iF 9) _ _ (.ref b) (upd H8 b (.tup [tx [inv (ltZ W (p1, p2))], .ref z0]))
          generalize upd H8 b (.tup [tx [inv (ltZ W (p1, p2))], .ref z0])=H9 at s9 t9 ⊢
          have s69 := s7.trans (s8.trans s9)
          have hz9 := s69 _ _ hz0
          have hn9 := (s8.trans s9) _ _ t7
          refine ⟨_, rfl, _, rfl, nd, b, _, ee (inv (ltZ W (p1, p2)), (p1, p2)), _, rfl, rfl, s69 _ _ f6, rA (hz6.to fun c xs e => s69 _ _ e), ⟨⟨z0, t9, hz9⟩, fe _⟩, mG 0 zs (by rw [ez];exact in1), ?_⟩
          refine ⟨_, rfl, _, rfl, _, rfl, a, t, n, W, (nxZ W (p1, p2)).1, (nxZ W (p1, p2)).2, rfl, hW6.same s69, hn9, okn, _, rfl, (aD (n := 2) (by decide)), fun b2 ht2 => ?_⟩
          have s10 : au H9 (upd H9 b2 (.tup [tx [ltZ W (nxZ W (p1, p2))], .ref t])) := au.new ht2
          have t10 : (upd H9 b2 (.tup [tx [ltZ W (nxZ W (p1, p2))], .ref t])) b2=some (.tup [tx [ltZ W (nxZ W (p1, p2))], .ref t]) := ab
          change qT P w _ (.ref b2) (upd H9 b2 (.tup [tx [ltZ W (nxZ W (p1, p2))], .ref t])) _
          generalize upd H9 b2 (.tup [tx [ltZ W (nxZ W (p1, p2))], .ref t])=H10 at s10 t10 ⊢
          have s610 := s69.trans s10
          refine ⟨nd, b2, _, ee (ltZ W (nxZ W (p1, p2)), nxZ W (p1, p2)), _, rfl, rfl, s610 _ _ f6, rA (hz6.to fun c xs e => s610 _ _ e), ⟨⟨t, t10, s10 _ _ hn9⟩, fe _⟩, mG 0 zs (by rw [ez];exact in2), (aD (n := 2) (by decide)), fun b3 ht3 => ?_⟩
          rw [ez, Bm, Bm]
          have s11 : au H10 (upd H10 b3 (.tup [.int ((cdZ (aO rows u) W (p1, p2)).1 : Int), .int ((cdZ (aO rows u) W (p1, p2)).2 : Int)])) := au.new ht3
          have t11 : (upd H10 b3 (.tup [.int ((cdZ (aO rows u) W (p1, p2)).1 : Int), .int ((cdZ (aO rows u) W (p1, p2)).2 : Int)])) b3=some (.tup [.int ((cdZ (aO rows u) W (p1, p2)).1 : Int), .int ((cdZ (aO rows u) W (p1, p2)).2 : Int)]) := ab
          have s611 := s610.trans s11
          refine ⟨_, rfl, _, rfl, fd, _, rfl, nI.t (k := keyT (p1, p2)) (s611 _ _ d6) (s611 _ _ hz0) (by
            have := xA List.length cd6.ks
            rw [fu, fu, xo] at this
            omega), ?_⟩
          have d11 := s611 _ _ d6
          have keepT : ∀ (kv : List (List Key × V)) c xs, (upd H10 b3 (.tup [.int ((cdZ (aO rows u) W (p1, p2)).1 : Int), .int ((cdZ (aO rows u) W (p1, p2)).2 : Int)])) c=some (.tup xs) → (upd (upd H10 b3 (.tup [.int ((cdZ (aO rows u) W (p1, p2)).1 : Int), .int ((cdZ (aO rows u) W (p1, p2)).2 : Int)])) fd (.dT kv)) c=some (.tup xs) := fun kv c xs e => by
            rw [ay (cH e d11 (by intro z;cases z))];exact e
          have keep6 : ∀ (kv : List (List Key × V)) c xs, H6 c=some (.tup xs) → (upd (upd H10 b3 (.tup [.int ((cdZ (aO rows u) W (p1, p2)).1 : Int), .int ((cdZ (aO rows u) W (p1, p2)).2 : Int)])) fd (.dT kv)) c=some (.tup xs) := fun kv c xs e => keepT kv _ _ (s611 _ _ e)
          refine ⟨_, _, _, _, rfl, ?_, hz6.to (keep6 _), ab, ?_, fun y hy => keep6 _ _ _ (st6 y hy), ⟨keep6 _ _ _ hW6.at_, hW6.le, hW6.lo, hW6.ws⟩, ?_, fun c o e => ?_⟩
          · rw [ay nfd];exact s611 _ _ f6
          · rw [ay nl2.symm];exact s611 _ _ g6
          · rw [bw aj]
            exact cd6.put (jM nda aj) (keep6 _) (keepT _ _ _ t11)
          · rw [ay (ak e hfH)];exact s611 _ _ (s6 _ _ e)
      · rintro σ H6 ⟨v7, v8, v9, kvs, rfl, f6, hz6, d6, g6, st6, hW6, cd6, s6⟩
        have al : (ba W).length=ss.length := by rw [← est, fu]
        rw [fu, fu, ← al, xI] at cd6
        exact ⟨_, rfl, k fd kvs _ hfH s6 d6 cd6⟩
end
end Kx
namespace Kx
open PySem PySem.Spec PyProof.Rows L2 Wd
theorem ip {n : Nat}{W : List (List L)}{H : Hp}{a : Addr}(hW : Wy4 n W H a) : (ba W).length≤60 := by
  have := cB (fun w hw => (hW.ws w hw).2.1) W.length
  have e : (ba W).length=(ki W W.length).length := rfl
  have hle := hW.le
  omega
section
variable {P : Program} {w : World} {K : PySem.W.Frag} {mg : Str → Option Value} {base : Heap} {aB : Addr}
abbrev Ln5 := Addr × (Addr × Int × Int) × Nat × Nat
def LnA (H : Hp)(zs : List Ln5) : Prop := ∀ z∈zs, H z.1=some (.tup [.ref z.2.1.1, .int (z.2.2.1 : Int), .int (z.2.2.2 : Int)]) ∧ H z.2.1.1=some (.tup [.int z.2.1.2.1, .int z.2.1.2.2])
theorem LnA.to {H H' : Hp}{zs : List Ln5}(h : LnA H zs)(k : ∀ a xs, H a=some (.tup xs) → H' a=some (.tup xs)) : LnA H' zs := fun z hz => ⟨k _ _ (h z hz).1, k _ _ (h z hz).2⟩
def lnZ (pts : List (L × (Int × Int)))(W : List (List L))(p : Int × Int) : (Int × Int) × Nat × Nat := (p, cdZ pts W p)
inductive ff (vs : List V)(H : Hp)(Q : VK)(u3_ : XK) : Prop
  | mk : ∀ (u : List L) (a r : Addr) (n : Nat) (W : List (List L)) (rows : List (List (Int × Int))), (vs=[tx u, .ref a, .ref r]) → (SK u n) → (Wy4 n W H a) → (Dw n W H r rows) → (∀ (l : Addr) (zs : List Ln5) (H' : Hp), H l=none → au H H' → H' l=some (.lst ((zs.map (·.1)).map V.ref)) → LnA H' zs → zs.map (fun z => (z.2.1.2, z.2.2))=(ba W).map (lnZ (aO rows u) W) → Q (.ref l) H') → ff vs H Q u3_
theorem iq : ∀ zs : List (L × (Int × Int)), PyData.canLayAll0 (zs.map fun z => du (ee z))=true
  | [] => rfl
  | z::r => by rw [xv, PyData.canLayAll0, iq r, eA (fe z)];rfl
theorem fH : ∀ zs : List (L × (Int × Int)), PyData.depthAll (zs.map fun z => du (ee z))≤2
  | [] => xV _
  | z::r => by
    have := fH r
    have h := ig (ee z)
    show max (du (ee z)).depth (PyData.depthAll (r.map fun z => du (ee z)))≤2
    omega
theorem ir {α : Type}[BEq α][LawfulBEq α]{a : α} : ∀ {l : List α} {i : Nat} (h : i < l.length), l[i]=a → l.idxOf a≤i
  | [], _, h, _ => absurd h (Nat.not_lt_zero _)
  | x::r, i, h, e => by
    rw [List.idxOf_cons]
    cases c : x == a with
    | true => exact xV _
    | false =>
      cases i with
      | zero =>
        have e : x=a := e
        rw [e, beq_self_eq_true] at c
        cases c
      | succ i => exact Nat.succ_le_succ (ir (l := r) (by simpa using h) e)
theorem mI {H : Hp}{l b c : Addr}{zs : List Pt}{x : L}{p : Int × Int}{Q : VK}(hl : H l=some (.lst ((zs.map (·.1)).map V.ref)))(hz : PtA H zs)(hn : zs.length≤1000)(hb : H b=some (.tup [tx [x], .ref c]))(hc : H c=some (.tup [.int p.1, .int p.2]))(hm : (x, p)∈zs.map ptZ)(h : Q (.int (((zs.map ptZ).idxOf (x, p) : Nat) : Int)) H) : tL (.ref l) [.ref b] H Q := by
  have hd : Dt H (.ref b) (du (ee (x, p))) := .tup hb (.cons (.str _) (.cons (ud hc) .nil))
  have hi := xQ hm
  have ge : ∀ i (hi : i < (zs.map ptZ).length), (((zs.map ptZ).map fun z => du (ee z))[i]?).map (fun d => PyData.eqv d (du (ee (x, p))))=some (decide ((zs.map ptZ)[i]=(x, p))) := fun i hi => by
    rw [w_, wY hi, yA, yA, jE]
    congr 1
    rw [yd, yG, yG]
    exact ⟨gq, fun e => by rw [e]⟩
  refine ⟨l, _, _, _, _, _, rfl, rfl, hl, vD hz, hd, iq _, eA (fe _), xH (fH _) (by decide), by rw [fu, fu];omega, ?_, fun i hij => ?_, h⟩
  · rw [ge _ hi, xq (y7 hi)]
  · have hi2 : i < (zs.map ptZ).length := by omega
    rw [ge _ hi2, xg]
    intro e
    have := ir hi2 e
    omega
abbrev fg : Stmt := top 34
theorem ke : aF ["_law_surface", "_law_ways", "_law_drawing", "_law_spots", "_law_found", "_law_i", "_law_p", "_law_follower", "_law_begin"] ["_law_surface", "_law_ways", "_law_drawing"] (av fg) := ⟨rfl, rfl, rfl, by decide +kernel, rfl, by decide +kernel, by decide +kernel⟩
theorem mJ (D : Df K mg "_law_all_chords" fg)(T : Bt K w mg aB)(F_lback : Fnc P w K mg base "_law_back" ["_law_word"] 1 qD)(F_spots : Fnc P w K mg base "_law_all_spots" ["_law_surface", "_law_drawing"] 1 iX)(F_alls : Fnc P w K mg base "_law_all_strands" ["_law_ways"] 1 j8) : Fnc P w K mg base "_law_all_chords" ["_law_surface", "_law_ways", "_law_drawing"] 2 ff := by
  have sc := ke
  refine D.ok sc (fun _ _ _ _ _ _ us hl => by obtain ⟨_, _, _, rfl⟩ := qV hl;rfl) (fun vs H Q E h => ?_) (fun f cdv A outer s H vs Q E hr h => ?_)
  · obtain ⟨u, a, r, n, W, rows, rfl, _⟩ := h
    rfl
  · obtain ⟨u, a, r, n, W, rows, rfl, U, hW, dw, k⟩ := h
    have l16 := a8
    have al := ip hW
    have iw : ∀ w∈W, InM n w := fun w hw => (hW.ws w hw).2.2
    refine ⟨_, (@ag _ _ _ _ _ (@aC _ _ (3) _ _ _ _ sc.nd rfl (Or.inl rfl) (@aJ _ _ _ _ _ _ _ _ _ _ _ F_spots hr (by decide) rfl (@aa _ _ _ _ _ (pv 0) (@aa _ _ _ _ _ (pv 2) ae (by rfl)) (by rfl)) (by decide) (by rfl) (by rfl)) (by rfl) (by first | exact .inl rfl | exact .inr rfl | assumption)) (@ag _ _ _ _ _ (@aC _ _ (4) _ _ _ _ sc.nd rfl (Or.inl rfl) (@bj _ _ _ _ ae) (by rfl) (by first | exact .inl rfl | exact .inr rfl | assumption)) (@ag _ _ _ _ _ (@bA _ _ _ _ _ _ _ _ xG rfl (@c5 _ _ _ _ (@aJ _ _ _ _ _ _ _ _ _ _ _ F_alls hr (by decide) rfl (@aa _ _ _ _ _ (pv 1) ae (by rfl)) (by decide) (by rfl) (by rfl))) (@dX _ _ _ _ _ _ rfl (@aW _ _ _ _ _ (@aA _ _ (5) _ sc.nd rfl (Or.inl rfl) (by first | exact .inl rfl | exact .inr rfl | assumption)) (@aW _ _ _ _ _ (@aA _ _ (6) _ sc.nd rfl (Or.inl rfl) (by first | exact .inl rfl | exact .inr rfl | assumption)) cI (by rfl)) (by rfl)) (by rfl) (by rfl)) (@ag _ _ _ _ _ (@aC _ _ (7) _ _ _ _ sc.nd rfl (Or.inl rfl) (@aG _ _ _ _ _ _ _ _ dY (@aG _ _ _ _ _ _ _ _ bt (pv 6) ao) (@ar _ _ _ _ _ _ _ _ _ aI (by rfl) T.len xn (@aa _ _ _ _ _ (@aL _ _ _ _ _ _ _ aY (pv 1) (pv 5) (fun _ _ => rfl)) ae (by rfl)) (by decide) (by decide) (by rfl) (by rfl))) (by rfl) (by first | exact .inl rfl | exact .inr rfl | assumption)) (@ag _ _ _ _ _ (@aC _ _ (8) _ _ _ _ sc.nd rfl (Or.inl rfl) (@bV _ _ _ _ _ _ _ _ _ _ _ _ xx AX AY (fD (by exact hr.units)) (pv 3) (@aa _ _ _ _ _ (@a4 _ _ _ _ _ (@aa _ _ _ _ _ (@aJ _ _ _ _ _ _ _ _ _ _ _ F_lback hr (by decide) rfl (@aa _ _ _ _ _ (@aL _ _ _ _ _ _ _ d5 (@aL _ _ _ _ _ _ _ aY (pv 1) (pv 5) (fun _ _ => rfl)) (pv 6) (fun _ _ => rfl)) ae (by rfl)) (by decide) (by rfl) (by rfl)) (@aa _ _ _ _ _ (@a4 _ _ _ _ _ (@aa _ _ _ _ _ (pv 5) (@aa _ _ _ _ _ (pv 6) ae (by rfl)) (by rfl))) ae (by rfl)) (by rfl))) ae (by rfl)) (by rfl) (by rfl) (by rfl) (by rfl) (by rfl)) (by rfl) (by first | exact .inl rfl | exact .inr rfl | assumption)) (@aq _ _ _ (@bQ _ _ _ _ (@bV _ _ _ _ _ _ _ _ _ _ _ _ xx yn zr eN (pv 4) (@aa _ _ _ _ _ (@a4 _ _ _ _ _ (@aa _ _ _ _ _ (@a4 _ _ _ _ _ (@aa _ _ _ _ _ (pv 5) (@aa _ _ _ _ _ (pv 6) ae (by rfl)) (by rfl))) (@aa _ _ _ _ _ (pv 8) (@aa _ _ _ _ _ (@bV _ _ _ _ _ _ _ _ _ _ _ _ xx AX AY (fD (by exact hr.units)) (pv 3) (@aa _ _ _ _ _ (@a4 _ _ _ _ _ (@aa _ _ _ _ _ (@aL _ _ _ _ _ _ _ d5 (@aL _ _ _ _ _ _ _ aY (pv 1) (pv 5) (fun _ _ => rfl)) (pv 7) (fun _ _ => rfl)) (@aa _ _ _ _ _ (@a4 _ _ _ _ _ (@aa _ _ _ _ _ (pv 5) (@aa _ _ _ _ _ (pv 7) ae (by rfl)) (by rfl))) ae (by rfl)) (by rfl))) ae (by rfl)) (by rfl) (by rfl) (by rfl) (by rfl) (by rfl)) ae (by rfl)) (by rfl)) (by rfl))) ae (by rfl)) (by rfl) (by rfl) (by rfl) (by rfl) (by rfl)) (by rfl))))) (by intro _ ;rfl)) (@aq _ _ _ (@aE _ _ _ _ (pv 4)))))), ?_⟩
    refine ⟨_, rfl, _, rfl, u, r, n, W, rows, rfl, U, dw, (fun x => gm hW dw x), fun sp zs H1 hsp s1 f1 hz ez => ?_⟩
    have zl : zs.length≤1000 := by
      have := iZ rows (fun x => gm hW dw x) u
      rw [← ez, fu] at this
      have := U.len
      have := U.hi
      omega
    refine ⟨(by show 0≤sizeLine;decide), fun l hl => ?_⟩
    have s2 : au H1 (upd H1 l (.lst [])) := au.new hl
    have f2 : (upd H1 l (.lst [])) l=some (.lst ((([] : List Ln5).map (·.1)).map V.ref)) := ab
    have nl : sp≠l := ak f1 hl
    have hlH : H l=none := none_of s1 hl
    generalize upd H1 l (.lst [])=H2 at s2 f2 ⊢
    have s02 := s1.trans s2
    refine ⟨_, rfl, a, n, W, rfl, hW.same s02, fun l2 ss H3 hl2 s3 g3 hst est => ⟨l2, rfl, ⟨_, SqL.of g3⟩, ?_⟩⟩
    have s03 := s02.trans s3
    have nl2 : l≠l2 := ak f2 hl2
    have s13 := s2.trans s3
    refine c9 (xs := (ss.map (·.1)).map V.ref) (fun j σ H' => ∃ (v5 v6 v7 v8 : Option V) (ls : List Ln5), σ = [some (tx u), some (.ref a), some (.ref r), some (.ref sp), some (.ref l), v5, v6, v7, v8] ∧ H' sp=some (.lst ((zs.map (·.1)).map V.ref)) ∧ PtA H' zs ∧ H' l2=some (.lst ((ss.map (·.1)).map V.ref)) ∧ StA H' ss ∧ Wy4 n W H' a ∧ H' l=some (.lst ((ls.map (·.1)).map V.ref)) ∧ LnA H' ls ∧ ls.map (fun z => (z.2.1.2, z.2.2))=((ba W).take j).map (lnZ (aO rows u) W) ∧ au H H') ⟨none, none, none, none, [], rfl, s13 _ _ f1, hz.to (fun b xs e => s13 _ _ e), g3, hst, hW.same s03, s3 _ _ f2, (fun z hz => by cases hz), rfl, s03⟩ (fun j σ H' _ ⟨_, _, _, _, _, _, _, _, q, _⟩ => SqL.of q) ?_ ?_
    · rintro j x σ H4 hx ⟨v5, v6, v7, v8, ls, rfl, f4, hz4, g4, st4, hW4, l4, hl4, el4, s4⟩
      rw [w_, w_] at hx
      cases hzj : ss[j]? with
      | none => rw [hzj] at hx;cases hx
      | some z =>
        rw [hzj] at hx
        obtain rfl := xb hx
        have hm := xc hzj
        have aj : (ba W)[j]? = some z.2 := by rw [← est, w_, hzj];rfl
        have hj : j < (ba W).length := (xh.mp aj).1
        have ok : okS W z.2=true := bT.mp (xc aj)
        have hz0 := st4 z hm
        obtain ⟨z0, p1, p2⟩ := z
        have hz0 : H4 z0=some (.tup [.int p1, .int p2]) := hz0
        have aj : (ba W)[j]? = some (p1, p2) := aj
        have ok : okS W (p1, p2)=true := ok
        obtain ⟨in1, in2⟩ := mE U dw iw ok
        have okn := oO ok
        have ok' := ok
        have okn' := okn
        unfold okS at ok' okn'
        simp only [xp, xK] at ok' okn'
        obtain ⟨⟨o1, o2⟩, o3, o4⟩ := ok'
        obtain ⟨_, o5, o6⟩ := okn'
        have hwl := eC hW p1.toNat
        have aw := e_ (W := W) o1 o2
        refine ⟨z0, _, rfl, SqT.of hz0, rfl, _, _, rfl, _, _, rfl, rfl, ?_⟩
        refine ⟨_, rfl, _, _, rfl, rfl, _, rfl, _, rfl, a, _, _, _, rfl, rfl, SqT.of hW4.at_, aw, _, rfl, (by rw [ah];omega), _, _, rfl, rfl, (by rw [ah];omega), ?_⟩
        rw [ah]
        change eF (iF 7) _ _ (.int (nxZ W (p1, p2)).2) H4
        refine ⟨_, rfl, .inl ⟨rfl, _, SqL.of f4⟩, _, rfl, _, rfl, a, _, _, _, rfl, rfl, SqT.of hW4.at_, aw, _, rfl, _, _, _, rfl, rfl, (by rw [ah];omega), jL o3 o4, [ltZ W (p1, p2)], rfl, (by show 1≤5000;decide), fun H5 s5 => ?_⟩
        refine ⟨_, rfl, _, rfl, (aD (n := 2) (by decide)), fun b1 hb1 => ?_⟩
        have s6 : au H5 (upd H5 b1 (.tup [.int p1, .int p2])) := au.new hb1
        have g6 : (upd H5 b1 (.tup [.int p1, .int p2])) b1=some (.tup [.int p1, .int p2]) := ab
        generalize upd H5 b1 (.tup [.int p1, .int p2])=H6 at s6 g6 ⊢
        refine ⟨(aD (n := 2) (by decide)), fun b2 hb2 => ?_⟩
        have s7 : au H6 (upd H6 b2 (.tup [tx [inv (ltZ W (p1, p2))], .ref b1])) := au.new hb2
        have g7 : (upd H6 b2 (.tup [tx [inv (ltZ W (p1, p2))], .ref b1])) b2=some (.tup [tx [inv (ltZ W (p1, p2))], .ref b1]) := ab
        change tL (.ref sp) [.ref b2] (upd H6 b2 (.tup [tx [inv (ltZ W (p1, p2))], .ref b1])) _
        generalize upd H6 b2 (.tup [tx [inv (ltZ W (p1, p2))], .ref b1])=H7 at s7 g7 ⊢
        have s47 := s5.trans (s6.trans s7)
        refine mI (p := (p1, p2)) (s47 _ _ f4) (hz4.to fun c xs e => s47 _ _ e) zl g7 (s7 _ _ g6) (by rw [ez];exact in1) ?_
        rw [ez]
        refine ⟨_, rfl, .inl ⟨rfl, _, SqL.of (s47 _ _ l4)⟩, _, rfl, _, rfl, (aD (n := 2) (by decide)), fun b3 hb3 => ?_⟩
        have s8 : au H7 (upd H7 b3 (.tup [.int p1, .int p2])) := au.new hb3
        have g8 : (upd H7 b3 (.tup [.int p1, .int p2])) b3=some (.tup [.int p1, .int p2]) := ab
        generalize upd H7 b3 (.tup [.int p1, .int p2])=H8 at s8 g8 ⊢
        have s48 := s47.trans s8
        have hW8 := hW4.same s48
        refine ⟨_, rfl, _, rfl, .inl ⟨rfl, _, SqL.of (s48 _ _ f4)⟩, _, rfl, _, rfl, a, _, _, _, rfl, rfl, SqT.of hW8.at_, aw, _, rfl, _, _, _, rfl, rfl, (by rw [ah];omega), jL o5 o6, ?_⟩
        refine ⟨_, rfl, _, rfl, (aD (n := 2) (by decide)), fun b4 hb4 => ?_⟩
        have s9 : au H8 (upd H8 b4 (.tup [.int p1, .int (nxZ W (p1, p2)).2])) := au.new hb4
        have g9 : (upd H8 b4 (.tup [.int p1, .int (nxZ W (p1, p2)).2])) b4=some (.tup [.int p1, .int (nxZ W (p1, p2)).2]) := ab
        generalize upd H8 b4 (.tup [.int p1, .int (nxZ W (p1, p2)).2])=H9 at s9 g9 ⊢
        refine ⟨(aD (n := 2) (by decide)), fun b5 hb5 => ?_⟩
        have s10 : au H9 (upd H9 b5 (.tup [tx [ltZ W (nxZ W (p1, p2))], .ref b4])) := au.new hb5
        have g10 : (upd H9 b5 (.tup [tx [ltZ W (nxZ W (p1, p2))], .ref b4])) b5=some (.tup [tx [ltZ W (nxZ W (p1, p2))], .ref b4]) := ab
        change tL (.ref sp) [.ref b5] (upd H9 b5 (.tup [tx [ltZ W (nxZ W (p1, p2))], .ref b4])) _
        generalize upd H9 b5 (.tup [tx [ltZ W (nxZ W (p1, p2))], .ref b4])=H10 at s10 g10 ⊢
        have s410 := s48.trans (s9.trans s10)
        refine mI (p := nxZ W (p1, p2)) (s410 _ _ f4) (hz4.to fun c xs e => s410 _ _ e) zl g10 (s10 _ _ g9) (by rw [ez];exact in2) ?_
        rw [ez]
        refine ⟨(aD (n := 3) (by decide)), fun b6 hb6 => ?_⟩
        have s11 : au H10 (upd H10 b6 (.tup [.ref b3, .int ((cdZ (aO rows u) W (p1, p2)).1 : Int), .int ((cdZ (aO rows u) W (p1, p2)).2 : Int)])) := au.new hb6
        have g11 : (upd H10 b6 (.tup [.ref b3, .int ((cdZ (aO rows u) W (p1, p2)).1 : Int), .int ((cdZ (aO rows u) W (p1, p2)).2 : Int)])) b6=some (.tup [.ref b3, .int ((cdZ (aO rows u) W (p1, p2)).1 : Int), .int ((cdZ (aO rows u) W (p1, p2)).2 : Int)]) := ab
        have s411 := s410.trans s11
        have l11 := s411 _ _ l4
        have lsl : ls.length≤60 := by
          have := xA List.length el4
          rw [fu, fu, xo] at this
          omega
        refine ⟨l, _, _, rfl, rfl, l11, by rw [fu, fu];omega, ?_⟩
        have keepT : ∀ (vv : List V) c xs, (upd H10 b6 (.tup [.ref b3, .int ((cdZ (aO rows u) W (p1, p2)).1 : Int), .int ((cdZ (aO rows u) W (p1, p2)).2 : Int)])) c=some (.tup xs) → (upd (upd H10 b6 (.tup [.ref b3, .int ((cdZ (aO rows u) W (p1, p2)).1 : Int), .int ((cdZ (aO rows u) W (p1, p2)).2 : Int)])) l (.lst vv)) c=some (.tup xs) := fun vv c xs e => by
          rw [ay (cH e l11 (by intro z;cases z))];exact e
        have keep4 : ∀ (vv : List V) c xs, H4 c=some (.tup xs) → (upd (upd H10 b6 (.tup [.ref b3, .int ((cdZ (aO rows u) W (p1, p2)).1 : Int), .int ((cdZ (aO rows u) W (p1, p2)).2 : Int)])) l (.lst vv)) c=some (.tup xs) := fun vv c xs e => keepT vv _ _ (s411 _ _ e)
        refine ⟨_, _, _, _, ls++[(b6, (b3, p1, p2), cdZ (aO rows u) W (p1, p2))], rfl, ?_, hz4.to (keep4 _), ?_, fun y hy => keep4 _ _ _ (st4 y hy), ⟨keep4 _ _ _ hW4.at_, hW4.le, hW4.lo, hW4.ws⟩, by rw [ab, w9, w9];rfl, fun y hy => ?_, ?_, fun c o e => ?_⟩
        · rw [ay nl];exact s411 _ _ f4
        · rw [ay nl2.symm];exact s411 _ _ g4
        · rcases xF.mp hy with hy | hy
          · exact ⟨keep4 _ _ _ (hl4 y hy).1, keep4 _ _ _ (hl4 y hy).2⟩
          · rw [xf.mp hy]
            exact ⟨keepT _ _ _ g11, keepT _ _ _ ((s9.trans (s10.trans s11)) _ _ g8)⟩
        · rw [w9, el4, bw aj, w9]
          rfl
        · rw [ay (ak e hlH)];exact s411 _ _ (s4 _ _ e)
    · rintro σ H4 ⟨v5, v6, v7, v8, ls, rfl, f4, hz4, g4, st4, hW4, l4, hl4, el4, s4⟩
      have e : (ba W).length=ss.length := by rw [← est, fu]
      rw [fu, fu, ← e, xI] at el4
      exact ⟨_, rfl, k l ls _ hlH s4 l4 hl4 el4⟩
end
end Kx
namespace Kx
open PySem PySem.Spec PyProof.Rows L2 Wd
section
variable {P : Program} {w : World} {K : PySem.W.Frag} {mg : Str → Option Value} {base : Heap} {aB : Addr}
abbrev i0 : Stmt := top 6
theorem oR : aF ["thing"] ["thing"] (av i0) := ⟨rfl, rfl, rfl, by decide +kernel, rfl, by decide +kernel, by decide +kernel⟩
theorem rB (D : Df K mg "is_whole" i0)(T : Bt K w mg aB)(Tbool : mg "bool" = none) : Fnc P w K mg base "is_whole" ["thing"] 1 (fY K) := by
  have sc := oR
  refine D.ok sc (fun _ _ _ _ _ _ us hl => by obtain ⟨_, rfl⟩ := m9 hl;rfl) (fun vs H Q E h => ?_) (fun f cdv A outer s H vs Q E hr h => ?_)
  · obtain ⟨x, rfl, _⟩ := h
    rfl
  · obtain ⟨x, rfl, ⟨ty, e1, e2, hx⟩, k⟩ := h
    rw [hx] at k
    refine ⟨_, (@aq _ _ _ (@aE _ _ _ _ (@dW _ _ _ _ _ _ _ (@ar _ _ _ _ _ _ _ _ _ (@bG _ (K) rfl) (by rfl) T.isinstance aQ (@aa _ _ _ _ _ (pv 0) (@aa _ _ _ _ _ (@bY _ _ (.ty "int") _ _ rfl T.int sW rfl (by decide) (by decide)) ae (by rfl)) (by rfl)) (by decide) (by decide) (by rfl) (by rfl)) (@dU _ _ _ _ _ (@pb _ _ _ _ (@ar _ _ _ _ _ _ _ _ _ (@bG _ (K) rfl) (by rfl) T.isinstance aQ (@aa _ _ _ _ _ (pv 0) (@aa _ _ _ _ _ (@bY _ _ (.ty "bool") _ _ rfl Tbool pQ rfl (by decide) (by decide)) ae (by rfl)) (by rfl)) (by decide) (by decide) (by rfl) (by rfl))))))), ?_⟩
    refine ⟨_, rfl, _, _, _, _, rfl, ty, e1, _, rfl, ?_⟩
    rename_i b1 b2
    cases b1 with
    | false => exact iz k
    | true => exact kg ⟨_, rfl, _, _, _, _, rfl, ty, e2, _, rfl, k⟩
end
end Kx
namespace Kx
open PySem PySem.Spec PyProof.Rows L2 Wd
section
variable {P : Program} {w : World} {K : PySem.W.Frag} {mg : Str → Option Value} {base : Heap} {aB : Addr}
abbrev mK : Stmt := top 19
theorem rD : aF ["surface", "thing"] ["surface", "thing"] (av mK) := ⟨rfl, rfl, rfl, by decide +kernel, rfl, by decide +kernel, by decide +kernel⟩
theorem ue (D : Df K mg "are_counts" mK)(T : Bt K w mg aB)(mgM : ∃ t, mg "MOST_STRANDS" = some (.int 60 t))(Tsum : mg "sum" = none)(F_whole : Fnc P w K mg base "is_whole" ["thing"] 1 (fY K)) : Fnc P w K mg base "are_counts" ["surface", "thing"] 2 (l9 K) := by
  obtain ⟨_, mgM⟩ := mgM
  have sc := rD
  refine D.ok sc (fun _ _ _ _ _ _ us hl => by obtain ⟨_, _, rfl⟩ := jK hl;rfl) (fun vs H Q E h => ?_) (fun f cdv A outer s H vs Q E hr h => ?_)
  · obtain ⟨u, n, x, c, rfl, _⟩ := h
    rfl
  · obtain ⟨u, n, x, c, rfl, U, hx, k⟩ := h
    have l16 := a8
    have hul := U.len
    have h6 := U.hi
    have e2 : ((toS u).length : Int) / 2=(n : Int) := by rw [ah];omega
    refine ⟨_, (@ag _ _ _ _ _ (@bN _ _ _ _ _ _ _ _ (@PW.pt _ _ _ (@dE _ _ _ _ _ _ _ (@cU _ _ _ _ (@bC _ _ _ (@ar _ _ _ _ _ _ _ _ _ (@bG _ (K) rfl) (by rfl) T.isinstance aQ (@aa _ _ _ _ _ (pv 1) (@aa _ _ _ _ _ (@bY _ _ (.ty "tuple") _ _ rfl T.tuple bq rfl (by decide) (by decide)) ae (by rfl)) (by rfl)) (by decide) (by decide) (by rfl) (by rfl)) (fun _ => rfl))) (@c8 _ _ _ _ (@aH _ _ _ _ _ _ _ _ fK (@ar _ _ _ _ _ _ _ _ _ az (by rfl) T.len xn (@aa _ _ _ _ _ (pv 1) ae (by rfl)) (by decide) (by decide) (by rfl) (by rfl)) (@aG _ _ _ _ _ _ _ _ cv (@ar _ _ _ _ _ _ _ _ _ aI (by rfl) T.len xn (@aa _ _ _ _ _ (pv 0) ae (by rfl)) (by decide) (by decide) (by rfl) (by rfl)) ao) (aK _))))) (@aq _ _ _ (@aE _ _ _ _ c4)) aR) (@aq _ _ _ (@aE _ _ _ _ (@dW _ _ _ _ _ _ _ (@ar _ _ _ _ _ _ _ _ _ (@cf _ rfl) (by rfl) T.all qC (@aa _ _ _ _ _ (@bp _ _ _ _ _ _ _ (["part"]) (["part"]) ([]) _ _ _ _ (@bH _ _ _ _ _ _ rfl (by kernel_rfl)) rfl (@eG _ _ _ _ (pv 1)) (fun _ _ _ _ => @aA _ _ (0) _ (show (["part"] : List Str).Nodup from by decide +kernel) rfl (Or.inl rfl) (by first | exact .inl rfl | exact .inr rfl | assumption)) (fun _ _ _ _ => a9) (fun _ _ _ _ => by (exact @dW _ _ _ _ _ _ _ (by (exact (@aJ _ _ _ _ _ _ _ _ _ _ _ F_whole hr (by decide) rfl (@aa _ _ _ _ _ (pv 0) ae (by rfl)) (by decide) (by rfl) (by rfl)))) (by (exact @dU _ _ _ _ _ (by (exact @c6 _ _ _ _ _ _ _ _ ny (by (exact (pv 0))) (by (exact ao)) (aK _))))))) (by intro _ ;rfl)) ae (by rfl)) (by decide) (by decide) (by rfl) (by rfl)) (@dU _ _ _ _ _ (@c6 _ _ _ _ _ _ _ _ si (@ar _ _ _ _ _ _ _ _ _ (@dz _ rfl) (by rfl) Tsum l6 (@aa _ _ _ _ _ (pv 1) ae (by rfl)) (by decide) (by decide) (by rfl) (by rfl)) (@kr _ _ (.int 60) _ _ rfl mgM ⟨_, rfl⟩ (by decide)) (aK _))))))), ?_⟩
    cases hx with
    | oth ty e => exact ⟨_, rfl, _, _, _, _, rfl, ty, e, _, rfl, oq (fC (k _ (au.refl _)))⟩
    | @tup a xs h hx hl =>
      refine ⟨_, rfl, _, _, _, _, rfl, .tup h, bX, _, rfl, m8 ⟨_, rfl, a, xs, rfl, .inr (SqT.of h), _, rfl, _, rfl, (by rw [ah];omega), _, _, rfl, rfl, ⟨by decide, by decide⟩, ?_⟩⟩
      have k : ∀ H', au H H' → Q (.bl (decide (xs.length=n) && (xs.all nnV && decide (fj xs≤60)))) H' := k
      refine ⟨rfl, _, rfl, ?_⟩
      by_cases hn : xs.length=n
      · rw [show (!decide (V.int (xs.length : Int)=V.int (((toS u).length : Int) / 2)))=false by rw [e2, hn];simp]
        rw [xq hn, x9] at k
        refine pR ?_
        refine ⟨_, rfl, a, rfl, ⟨xs, SqT.of h⟩, ?_⟩
        refine cR (xs := xs) (own := ["part"]) (cap := []) (fun i ys σ H' => ∃ v : Option V, σ = [v] ∧ ys=((xs.take i).map nnV).map V.bl ∧ H'=H) ⟨none, rfl, rfl, rfl⟩ (fun i ys σ H' hi ⟨v, _, e, _⟩ => ?_) (by omega) (fun i ys σ H' ⟨_, _, _, e⟩ => by rw [e];exact SqT.of h) ?_ ?_
        · rw [e, fu, fu, xo];omega
        · rintro i ys σ H2 z N hyi ⟨v, rfl, rfl, rfl⟩ hN
          have fin : ∀ b : Bool, b=nnV z → N (((xs.take i).map nnV).map V.bl++[V.bl b]) [some z] H2 := fun b e => hN _ _ _ ⟨_, rfl, by rw [ik nnV hyi, w9, e];rfl, rfl⟩
          refine ⟨_, rfl, z, rfl, hx z (xc hyi), _, rfl, ?_⟩
          cases c : whV z with
          | false => exact iz (fin _ (by unfold nnV;rw [c];rfl))
          | true =>
            have e := fG c
            refine kg ⟨_, rfl, _, _, (by exact e), rfl, ?_⟩
            refine fin _ ?_
            unfold nnV
            rw [c]
            rfl
        · rintro ys σ H2 q ⟨v, rfl, rfl, rfl⟩ hq
          rw [xI]
          refine ⟨q, _, rfl, SqL.of ab, _, rfl, ?_⟩
          have s3 : au H2 (upd H2 q (.lst ((xs.map nnV).map V.bl))) := au.new hq
          generalize upd H2 q (.lst ((xs.map nnV).map V.bl))=H3 at s3 ⊢
          rw [A9]
          cases al : xs.all nnV with
          | false =>
            have al' : xs.all (id ∘ nnV)=false := al
            rw [al']
            rw [al] at k
            exact iz (k _ s3)
          | true =>
            have al' : xs.all (id ∘ nnV)=true := al
            rw [al']
            rw [al, x9] at k
            refine kg ⟨_, rfl, a, xs.map e8, rfl, (by rw [← jJ (l8 al)];exact SqT.of (s3 _ _ h)), _, _, rfl, rfl, ?_⟩
            exact k _ s3
      · rw [show (!decide (V.int (xs.length : Int)=V.int (((toS u).length : Int) / 2)))=true by rw [e2, xg fun e => hn (by have := V.int.inj e;omega)];rfl]
        rw [xg hn, yy] at k
        exact fC (k _ (au.refl _))
end
end Kx
namespace Kx
open PySem PySem.Spec PyProof.Rows L2 Wd
section
variable {P : Program} {w : World} {K : PySem.W.Frag} {mg : Str → Option Value} {base : Heap} {aB : Addr}
abbrev i3 : Stmt := top 20
theorem oS : aF ["size", "thing"] ["size", "thing"] (av i3) := ⟨rfl, rfl, rfl, by decide +kernel, rfl, by decide +kernel, by decide +kernel⟩
theorem rE (D : Df K mg "are_joins" i3)(T : Bt K w mg aB)(Te : mg "enumerate" = none)(F_whole : Fnc P w K mg base "is_whole" ["thing"] 1 (fY K)) : Fnc P w K mg base "are_joins" ["size", "thing"] 2 (iQ K) := by
  have sc := oS
  refine D.ok sc (fun _ _ _ _ _ _ us hl => by obtain ⟨_, _, rfl⟩ := jK hl;rfl) (fun vs H Q E h => ?_) (fun f cdv A outer s H vs Q E hr h => ?_)
  · obtain ⟨size, x, c, rfl, _⟩ := h
    rfl
  · obtain ⟨size, x, c, rfl, hx, k⟩ := h
    have l16 := a8
    refine ⟨_, (@ag _ _ _ _ _ (@bN _ _ _ _ _ _ _ _ (@PW.pt _ _ _ (@dE _ _ _ _ _ _ _ (@cU _ _ _ _ (@bC _ _ _ (@ar _ _ _ _ _ _ _ _ _ (@bG _ (K) rfl) (by rfl) T.isinstance aQ (@aa _ _ _ _ _ (pv 1) (@aa _ _ _ _ _ (@bY _ _ (.ty "tuple") _ _ rfl T.tuple bq rfl (by decide) (by decide)) ae (by rfl)) (by rfl)) (by decide) (by decide) (by rfl) (by rfl)) (fun _ => rfl))) (@c8 _ _ _ _ (@aH _ _ _ _ _ _ _ _ fK (@ar _ _ _ _ _ _ _ _ _ az (by rfl) T.len xn (@aa _ _ _ _ _ (pv 1) ae (by rfl)) (by decide) (by decide) (by rfl) (by rfl)) (pv 0) (aK _))))) (@aq _ _ _ (@aE _ _ _ _ c4)) aR) (@ag _ _ _ _ _ (@bN _ _ _ _ _ _ _ _ (@cU _ _ _ _ (@bC _ _ _ (@ar _ _ _ _ _ _ _ _ _ (@cf _ rfl) (by rfl) T.all qC (@aa _ _ _ _ _ (@bp _ _ _ _ _ _ _ (["part", "size"]) (["part"]) ([0]) _ _ _ _ (@bH _ _ _ _ _ _ rfl (by kernel_rfl)) rfl (@eG _ _ _ _ (pv 1)) (fun _ _ _ _ => @aA _ _ (0) _ (show (["part", "size"] : List Str).Nodup from by decide +kernel) rfl (Or.inl rfl) (by first | exact .inl rfl | exact .inr rfl | assumption)) (fun _ _ _ _ => a9) (fun _ _ _ _ => by (exact @dW _ _ _ _ _ _ _ (by (exact (@aJ _ _ _ _ _ _ _ _ _ _ _ F_whole hr (by decide) rfl (@aa _ _ _ _ _ (pv 0) ae (by rfl)) (by decide) (by rfl) (by rfl)))) (by (exact @dU _ _ _ _ _ (by (exact (@nA _ _ _ _ _ _ _ _ _ _ _ _ si qc ao (pv 0) (pv 1) (by with_unfolding_all rfl)))))))) (by intro _ ;rfl)) ae (by rfl)) (by decide) (by decide) (by rfl) (by rfl)) (fun _ => rfl))) (@aq _ _ _ (@aE _ _ _ _ c4)) aR) (@aq _ _ _ (@aE _ _ _ _ (@ar _ _ _ _ _ _ _ _ _ (@cf _ rfl) (by rfl) T.all qC (@aa _ _ _ _ _ (@bp _ _ _ _ _ _ _ (["point", "part", "thing"]) (["point", "part"]) ([1]) _ _ _ _ (@bH _ _ _ _ _ _ rfl (by kernel_rfl)) rfl (@pO _ _ rfl _ _ _ _ _ _ _ rfl Te lR (@aa _ _ _ _ _ (pv 1) ae (by rfl)) (by rfl)) (fun _ _ _ _ => @qE _ (K) _ _ _ (2) _ rfl rfl (@aW _ _ _ _ _ (@aA _ _ (0) _ (show (["point", "part", "thing"] : List Str).Nodup from by decide +kernel) rfl (Or.inl rfl) (by first | exact .inl rfl | exact .inr rfl | assumption)) (@aW _ _ _ _ _ (@aA _ _ (1) _ (show (["point", "part", "thing"] : List Str).Nodup from by decide +kernel) rfl (Or.inl rfl) (by first | exact .inl rfl | exact .inr rfl | assumption)) cI (by rfl)) (by rfl)) (by rfl) (by rfl)) (fun _ _ _ _ => a9) (fun _ _ _ _ => by (exact @dW _ _ _ _ _ _ _ (by (exact @c6 _ _ _ _ _ _ _ _ fK (by (exact (pv 1))) (by (exact (pv 0))) (aK _))) (by (exact @dU _ _ _ _ _ (by (exact @c6 _ _ _ _ _ _ _ _ cS (by (exact (@aL _ _ _ _ _ _ _ (@qM _ (K) rfl) (pv 2) (pv 1) (fun _ _ => rfl)))) (by (exact (pv 0))) (aK _))))))) (by intro _ ;rfl)) ae (by rfl)) (by decide) (by decide) (by rfl) (by rfl)))))), ?_⟩
    cases hx with
    | oth ty e => exact ⟨_, rfl, _, _, _, _, rfl, ty, e, _, rfl, oq (fC (k _ (au.refl _)))⟩
    | @tup a xs h hx hl =>
      refine ⟨_, rfl, _, _, _, _, rfl, .tup h, bX, _, rfl, m8 ⟨_, rfl, a, xs, rfl, .inr (SqT.of h), _, rfl, rfl, _, rfl, ?_⟩⟩
      have k : ∀ H', au H H' → Q (.bl (decide ((xs.length : Int)=size) && (xs.all (inR size) && (List.range xs.length).all (joK xs)))) H' := k
      by_cases hn : (xs.length : Int)=size
      · rw [show (!decide (V.int (xs.length : Int)=V.int size))=false by rw [hn];simp]
        rw [xq hn, x9] at k
        refine pR ?_
        refine ⟨_, rfl, a, rfl, ⟨xs, SqT.of h⟩, ?_⟩
        refine cR (xs := xs) (own := ["part"]) (cap := [0]) (fun i ys σ H' => ∃ v : Option V, σ = [v, some (.int size)] ∧ ys=((xs.take i).map (inR size)).map V.bl ∧ H'=H) ⟨none, rfl, rfl, rfl⟩ (fun i ys σ H' hi ⟨v, _, e, _⟩ => ?_) (by omega) (fun i ys σ H' ⟨_, _, _, e⟩ => by rw [e];exact SqT.of h) ?_ ?_
        · rw [e, fu, fu, xo];omega
        · rintro i ys σ H2 z N hyi ⟨v, rfl, rfl, rfl⟩ hN
          have fin : ∀ b : Bool, b=inR size z → N (((xs.take i).map (inR size)).map V.bl++[V.bl b]) [some z, some (.int size)] H2 := fun b e => hN _ _ _ ⟨_, rfl, by rw [ik (inR size) hyi, w9, e];rfl, rfl⟩
          refine ⟨_, rfl, z, rfl, hx z (xc hyi), _, rfl, ?_⟩
          cases c : whV z with
          | false => exact iz (fin _ (by unfold inR;rw [c];rfl))
          | true =>
            have e := fG c
            have fin' : ∀ b : Bool, b=(decide (0≤e8 z) && decide (e8 z < size)) → N (((xs.take i).map (inR size)).map V.bl++[V.bl b]) [some z, some (.int size)] H2 := fun b e => fin b (by unfold inR;rw [c, e, x9])
            refine kg ⟨_, rfl, _, _, rfl, e, _, rfl, ?_⟩
            by_cases h1 : 0≤e8 z
            · exact lq (xq h1) ⟨_, rfl, _, _, e, rfl, fin' _ (by rw [xq h1, x9])⟩
            · exact pI (xg h1) (fin' _ (by rw [xg h1];rfl))
        · rintro ys σ H2 q ⟨v, rfl, rfl, rfl⟩ hq
          rw [xI]
          refine ⟨q, _, rfl, SqL.of ab, ?_⟩
          have s3 : au H2 (upd H2 q (.lst ((xs.map (inR size)).map V.bl))) := au.new hq
          generalize upd H2 q (.lst ((xs.map (inR size)).map V.bl))=H3 at s3 ⊢
          rw [A9]
          cases al : xs.all (inR size) with
          | false =>
            have al' : xs.all (id ∘ inR size)=false := al
            rw [al']
            rw [al] at k
            exact ⟨_, rfl, nkF (fC (k _ s3))⟩
          | true =>
            have al' : xs.all (id ∘ inR size)=true := al
            rw [al']
            rw [al, x9] at k
            refine ⟨_, rfl, nkT (pR ?_)⟩
            have h3 := s3 _ _ h
            have ea : ∀ i, i < xs.length → ∃ j : Int, xs[i]? = some (.int j) ∧ xs.getD i .non = .int j ∧ 0≤j ∧ j < xs.length := fun i hi => by
              have hm := xP.mp al _ (yc hi)
              unfold inR at hm
              simp only [xp, xK] at hm
              have e := fG hm.1
              refine ⟨e8 xs[i], ?_, ?_, hm.2.1, by omega⟩
              · rw [wY hi, ← e]
              · rw [xi, wY hi, Aa];exact e
            refine ⟨_, rfl, a, rfl, ⟨xs, SqT.of h3⟩, ?_⟩
            refine bS (own := ["point", "part"]) (cap := [1]) (J := qJ K a) xs.length (fun i ys σ H' => ∃ v1 v2 : Option V, σ = [v1, v2, some (.ref a)] ∧ ys=((List.range i).map (joK xs)).map V.bl ∧ au H3 H') ⟨none, none, rfl, rfl, au.refl _⟩
              (fun i ys σ H' hi ⟨_, _, _, e, _⟩ => by rw [e, fu, fu, x8];omega) (by omega) (fun i ys σ H' hi ⟨_, _, _, _, s5⟩ => ?_) (fun ys σ H' ⟨_, _, _, _, s5⟩ => ?_) ?_ ?_
            · exact ⟨xs, xs[i]'(by omega), SqT.of (s5 _ _ h3), wY _⟩
            · exact ⟨xs, SqT.of (s5 _ _ h3), wZ _⟩
            · rintro i ys σ H5 x H6 N hi ⟨v1, v2, rfl, rfl, s5⟩ ⟨t, y, hnn, rfl, hy1, rfl⟩ hN
              have hy1 := hy1 _ (SqT.of (s5 _ _ h3))
              obtain ⟨j, e1, e2, j0, j1⟩ := ea i hi
              rw [e1] at hy1
              obtain rfl := xb hy1
              obtain ⟨j', e3, e4, _, _⟩ := ea j.toNat (by omega)
              have s6 := s5.then (o := .tup [.int (i : Int), .int j]) hnn
              refine ⟨t, _, rfl, SqT.of ab, rfl, _, _, rfl, _, _, rfl, rfl, ?_⟩
              generalize upd H5 t (.tup [.int (i : Int), .int j])=H6 at s6 ⊢
              have fin : ∀ b : Bool, b=joK xs i → N (((List.range i).map (joK xs)).map V.bl++[V.bl b]) [some (.int (i : Int)), some (.int j), some (.ref a)] H6 := fun b e => hN _ _ _ ⟨_, _, rfl, by rw [zd, w9, w9, e];rfl, s6⟩
              have ej : joK xs i=(!decide (j=(i : Int)) && decide (j'=(i : Int))) := by
                unfold joK
                rw [e2]
                show (!decide (j=(i : Int)) && decide (e8 (xs.getD j.toNat .non)=(i : Int)))=_
                rw [e4]
                rfl
              refine ⟨_, rfl, _, rfl, rfl, _, rfl, ?_⟩
              have d1 : (!decide (V.int j=V.int (i : Int)))=!decide (j=(i : Int)) := by rw [show decide (V.int j=V.int (i : Int))=decide (j=(i : Int)) by rw [yd, yG, yG];exact ⟨V.int.inj, xA V.int⟩]
              rw [d1]
              cases c : decide (j=(i : Int)) with
              | true => exact iz (fin _ (by rw [ej, c];rfl))
              | false =>
                refine kg ⟨_, rfl, _, rfl, a, _, _, _, rfl, rfl, SqT.of (s6 _ _ h3), (bZ (j := j.toNat) e3 |> fun q => by rw [zo j0] at q;exact q), _, rfl, rfl, ?_⟩
                refine fin _ ?_
                rw [ej, c, Bool.not_false, x9, yd, yG, yG]
                exact ⟨V.int.inj, xA V.int⟩
            · rintro ys σ H5 q ⟨v1, v2, rfl, rfl, s5⟩ hq
              refine ⟨q, _, rfl, SqL.of ab, ?_⟩
              rw [A9]
              exact k _ ((s3.trans s5).then hq)
      · rw [show (!decide (V.int (xs.length : Int)=V.int size))=true by rw [xg fun e => hn (by have := V.int.inj e;omega)];rfl]
        rw [xg hn, yy] at k
        exact fC (k _ (au.refl _))
end
end Kx
namespace Kx
open PySem PySem.Spec PyProof.Rows L2 Wd
section
variable {P : Program} {w : World} {K : PySem.W.Frag} {mg : Str → Option Value} {base : Heap} {aB : Addr}
abbrev i4 : Stmt := top 18
theorem oT : aF ["surface", "thing"] ["surface", "thing"] (av i4) := ⟨rfl, rfl, rfl, by decide +kernel, rfl, by decide +kernel, by decide +kernel⟩
theorem rF (D : Df K mg "is_picture" i4)(T : Bt K w mg aB)(Tsum : mg "sum" = none)(F_cnts : Fnc P w K mg base "are_counts" ["surface", "thing"] 2 (l9 K))(F_joins : Fnc P w K mg base "are_joins" ["size", "thing"] 2 (iQ K)) : Fnc P w K mg base "is_picture" ["surface", "thing"] 3 (dR K) := by
  have sc := oT
  refine D.ok sc (fun _ _ _ _ _ _ us hl => by obtain ⟨_, _, rfl⟩ := jK hl;rfl) (fun vs H Q E h => ?_) (fun f cdv A outer s H vs Q E hr h => ?_)
  · obtain ⟨u, n, x, c, rfl, _⟩ := h
    rfl
  · obtain ⟨u, n, x, c, rfl, U, hx, k⟩ := h
    have l16 := a8
    refine ⟨_, (@ag _ _ _ _ _ (@bN _ _ _ _ _ _ _ _ (@PW.pt _ _ _ (@dE _ _ _ _ _ _ _ (@cU _ _ _ _ (@bC _ _ _ (@ar _ _ _ _ _ _ _ _ _ (@bG _ (K) rfl) (by rfl) T.isinstance aQ (@aa _ _ _ _ _ (pv 1) (@aa _ _ _ _ _ (@bY _ _ (.ty "tuple") _ _ rfl T.tuple bq rfl (by decide) (by decide)) ae (by rfl)) (by rfl)) (by decide) (by decide) (by rfl) (by rfl)) (fun _ => rfl))) (@dE _ _ _ _ _ _ _ (@aH _ _ _ _ _ _ _ _ fK (@ar _ _ _ _ _ _ _ _ _ az (by rfl) T.len xn (@aa _ _ _ _ _ (pv 1) ae (by rfl)) (by decide) (by decide) (by rfl) (by rfl)) ao (aK _)) (@c8 _ _ _ _ (@cU _ _ _ _ (@bC _ _ _ (@aJ _ _ _ _ _ _ _ _ _ _ _ F_cnts hr (by decide) rfl (@aa _ _ _ _ _ (pv 0) (@aa _ _ _ _ _ (@aL _ _ _ _ _ _ _ aY (pv 1) ao (fun _ _ => rfl)) ae (by rfl)) (by rfl)) (by decide) (by rfl) (by rfl)) (fun _ => rfl))))))) (@aq _ _ _ (@aE _ _ _ _ c4)) aR) (@aq _ _ _ (@aE _ _ _ _ (@aJ _ _ _ _ _ _ _ _ _ _ _ F_joins hr (by decide) rfl (@aa _ _ _ _ _ (@aG _ _ _ _ _ _ _ _ cW ao (@ar _ _ _ _ _ _ _ _ _ (@dz _ rfl) (by rfl) Tsum l6 (@aa _ _ _ _ _ (@aL _ _ _ _ _ _ _ aY (pv 1) ao (fun _ _ => rfl)) ae (by rfl)) (by decide) (by decide) (by rfl) (by rfl))) (@aa _ _ _ _ _ (@aL _ _ _ _ _ _ _ aY (pv 1) ao (fun _ _ => rfl)) ae (by rfl)) (by rfl)) (by decide) (by rfl) (by rfl))))), ?_⟩
    cases hx with
    | oth ty e => exact ⟨_, rfl, _, _, _, _, rfl, ty, e, _, rfl, oq (fC (k _ (au.refl _)))⟩
    | @tup a xs h ne hl =>
      refine ⟨_, rfl, _, _, _, _, rfl, .tup h, bX, _, rfl, m8 ⟨_, rfl, a, xs, rfl, .inr (SqT.of h), rfl, _, rfl, ?_⟩⟩
      rw [show (!decide (V.int (xs.length : Int)=V.int 2))=true by rw [xg fun e => ne (by have := V.int.inj e;omega)];rfl]
      exact oq (fC (k _ (au.refl _)))
    | @two a x y c d h hx hy =>
      refine ⟨_, rfl, _, _, _, _, rfl, .tup h, bX, _, rfl, m8 ⟨_, rfl, a, [x, y], rfl, .inr (SqT.of h), rfl, _, rfl, kW rfl ?_⟩⟩
      have k : ∀ H', au H H' → Q (.bl (rV n c && rW (2*uz c) d)) H' := k
      refine ⟨_, rfl, _, rfl, a, _, _, _, rfl, rfl, SqT.of h, rfl, u, n, x, c, rfl, U, hx, fun H1 s1 => ⟨_, rfl, ?_⟩⟩
      cases cb : rV n c with
      | false =>
        rw [cb, yy] at k
        exact nkF (fC (k _ s1))
      | true =>
        rw [cb, x9] at k
        refine nkT (pR ?_)
        cases hx with
        | oth ty e => cases cb
        | @tup b xs hb hx hl =>
          have cb : (decide (xs.length=n) && (xs.all nnV && decide (fj xs≤60)))=true := cb
          simp only [xp] at cb
          refine ⟨_, rfl, a, _, _, _, rfl, rfl, SqT.of (s1 _ _ h), rfl, b, xs.map e8, rfl, (by rw [← jJ (l8 cb.2.1)];exact SqT.of (s1 _ _ hb)), _, _, rfl, rfl, .inl ⟨by decide, by decide⟩, ?_⟩
          exact ⟨_, rfl, a, _, _, _, rfl, rfl, SqT.of (s1 _ _ h), rfl, 2*fj xs, y, d, rfl, hy.same s1, fun H2 s2 => k _ (s1.trans s2)⟩
abbrev gv : Stmt := top 36
theorem mL : aF ["_law_thing"] ["_law_thing"] (av gv) := ⟨rfl, rfl, rfl, by decide +kernel, rfl, by decide +kernel, by decide +kernel⟩
theorem oU (D : Df K mg "_law_whole" gv)(T : Bt K w mg aB)(Tbool : mg "bool" = none) : Fnc P w K mg base "_law_whole" ["_law_thing"] 1 (gh K) := by
  have sc := mL
  refine D.ok sc (fun _ _ _ _ _ _ us hl => by obtain ⟨_, rfl⟩ := m9 hl;rfl) (fun vs H Q E h => ?_) (fun f cdv A outer s H vs Q E hr h => ?_)
  · obtain ⟨x, rfl, _⟩ := h
    rfl
  · obtain ⟨x, rfl, ⟨ty, e1, e2, hx⟩, k⟩ := h
    refine ⟨_, (@aq _ _ _ (@aE _ _ _ _ (@dW _ _ _ _ _ _ _ (@ar _ _ _ _ _ _ _ _ _ (@bG _ (K) rfl) (by rfl) T.isinstance aQ (@aa _ _ _ _ _ (pv 0) (@aa _ _ _ _ _ (@bY _ _ (.ty "int") _ _ rfl T.int sW rfl (by decide) (by decide)) ae (by rfl)) (by rfl)) (by decide) (by decide) (by rfl) (by rfl)) (@dW _ _ _ _ _ _ _ (@pb _ _ _ _ (@ar _ _ _ _ _ _ _ _ _ (@bG _ (K) rfl) (by rfl) T.isinstance aQ (@aa _ _ _ _ _ (pv 0) (@aa _ _ _ _ _ (@bY _ _ (.ty "bool") _ _ rfl Tbool pQ rfl (by decide) (by decide)) ae (by rfl)) (by rfl)) (by decide) (by decide) (by rfl) (by rfl))) (@dU _ _ _ _ _ (@c6 _ _ _ _ _ _ _ _ ny (pv 0) ao (aK _))))))), ?_⟩
    refine ⟨_, rfl, _, _, _, _, rfl, ty, e1, _, rfl, ?_⟩
    rename_i b1 b2
    cases b1 with
    | false =>
      have c : nnV x=false := by unfold nnV;rw [hx];rfl
      rw [c] at k
      exact iz k
    | true =>
      refine kg ⟨_, rfl, _, _, _, _, rfl, ty, e2, _, rfl, _, rfl, ?_⟩
      cases b2 with
      | true =>
        have c : nnV x=false := by unfold nnV;rw [hx];rfl
        rw [c] at k
        exact iz k
      | false =>
        have e := fG (x := x) hx
        have c : nnV x=decide (0≤e8 x) := by unfold nnV;rw [hx];rfl
        rw [c] at k
        exact kg ⟨_, rfl, _, _, e, rfl, k⟩
theorem mM (zs : List V) : (!(zs.filter (fun z => !nnV z)).isEmpty)=!zs.all nnV := by
  congr 1
  rw [yd, List.isEmpty_iff, List.filter_eq_nil_iff, xP]
  exact ⟨fun h x hx => by simpa using h x hx, fun h x hx => by simpa using h x hx⟩
theorem vE {m : Int}{ys : List V}(h : ys.all (inR m)=true) : ys.all nnV=true := by
  rw [xP] at h ⊢
  intro x hx
  have := h x hx
  unfold inR at this
  unfold nnV
  simp only [xp] at this ⊢
  exact ⟨this.1, this.2.1⟩
abbrev gx : Stmt := top 37
theorem mN : aF ["_law_surface", "_law_thing", "_law_many", "_law_joins", "_law_k"] ["_law_surface", "_law_thing"] (av gx) := ⟨rfl, rfl, rfl, by decide +kernel, rfl, by decide +kernel, by decide +kernel⟩
theorem oV (D : Df K mg "_law_is_picture" gx)(T : Bt K w mg aB)(Tsum : mg "sum" = none)(F_lwhole : Fnc P w K mg base "_law_whole" ["_law_thing"] 1 (gh K)) : Fnc P w K mg base "_law_is_picture" ["_law_surface", "_law_thing"] 2 (dR K) := by
  have sc := mN
  refine D.ok sc (fun _ _ _ _ _ _ us hl => by obtain ⟨_, _, rfl⟩ := jK hl;rfl) (fun vs H Q E h => ?_) (fun f cdv A outer s H vs Q E hr h => ?_)
  · obtain ⟨u, n, x, c, rfl, _⟩ := h
    rfl
  · obtain ⟨u, n, x, c, rfl, U, hx, k⟩ := h
    have l16 := a8
    have hul := U.len
    have h6 := U.hi
    have e2 : ((toS u).length : Int) / 2=(n : Int) := by rw [ah];omega
    refine ⟨_, (@ag _ _ _ _ _ (@bN _ _ _ _ _ _ _ _ (@PW.pt _ _ _ (@dE _ _ _ _ _ _ _ (@cU _ _ _ _ (@bC _ _ _ (@ar _ _ _ _ _ _ _ _ _ (@bG _ (K) rfl) (by rfl) T.isinstance aQ (@aa _ _ _ _ _ (pv 1) (@aa _ _ _ _ _ (@bY _ _ (.ty "tuple") _ _ rfl T.tuple bq rfl (by decide) (by decide)) ae (by rfl)) (by rfl)) (by decide) (by decide) (by rfl) (by rfl)) (fun _ => rfl))) (@c8 _ _ _ _ (@aH _ _ _ _ _ _ _ _ fK (@ar _ _ _ _ _ _ _ _ _ az (by rfl) T.len xn (@aa _ _ _ _ _ (pv 1) ae (by rfl)) (by decide) (by decide) (by rfl) (by rfl)) ao (aK _))))) (@aq _ _ _ (@aE _ _ _ _ c4)) aR) (@ag _ _ _ _ _ (@cD _ _ _ _ _ _ (pv 1) (@dX _ _ _ _ _ _ rfl (@aW _ _ _ _ _ (@aA _ _ (2) _ sc.nd rfl (Or.inl rfl) (by first | exact .inl rfl | exact .inr rfl | assumption)) (@aW _ _ _ _ _ (@aA _ _ (3) _ sc.nd rfl (Or.inl rfl) (by first | exact .inl rfl | exact .inr rfl | assumption)) cI (by rfl)) (by rfl)) (by rfl) (by rfl)) (by rfl) (by rfl) (by rfl)) (@ag _ _ _ _ _ (@bN _ _ _ _ _ _ _ _ (@PW.pt _ _ _ (@dE _ _ _ _ _ _ _ (@cU _ _ _ _ (@bC _ _ _ (@ar _ _ _ _ _ _ _ _ _ (@bG _ (K) rfl) (by rfl) T.isinstance aQ (@aa _ _ _ _ _ (pv 2) (@aa _ _ _ _ _ (@bY _ _ (.ty "tuple") _ _ rfl T.tuple bq rfl (by decide) (by decide)) ae (by rfl)) (by rfl)) (by decide) (by decide) (by rfl) (by rfl)) (fun _ => rfl))) (@dE _ _ _ _ _ _ _ (@cU _ _ _ _ (@bC _ _ _ (@ar _ _ _ _ _ _ _ _ _ (@bG _ (K) rfl) (by rfl) T.isinstance aQ (@aa _ _ _ _ _ (pv 3) (@aa _ _ _ _ _ (@bY _ _ (.ty "tuple") _ _ rfl T.tuple bq rfl (by decide) (by decide)) ae (by rfl)) (by rfl)) (by decide) (by decide) (by rfl) (by rfl)) (fun _ => rfl))) (@c8 _ _ _ _ (@aH _ _ _ _ _ _ _ _ fK (@ar _ _ _ _ _ _ _ _ _ az (by rfl) T.len xn (@aa _ _ _ _ _ (pv 2) ae (by rfl)) (by decide) (by decide) (by rfl) (by rfl)) (@aG _ _ _ _ _ _ _ _ cv (@ar _ _ _ _ _ _ _ _ _ aI (by rfl) T.len xn (@aa _ _ _ _ _ (pv 0) ae (by rfl)) (by decide) (by decide) (by rfl) (by rfl)) ao) (aK _)))))) (@aq _ _ _ (@aE _ _ _ _ c4)) aR) (@ag _ _ _ _ _ (@bN _ _ _ _ _ _ _ _ (@PW.pt _ _ _ (@dE _ _ _ _ _ _ _ (@aH _ _ _ _ _ _ _ _ (@g_ _ (by exact hr.units)) (@bp _ _ _ _ _ _ _ (["_law_one"]) (["_law_one"]) ([]) _ _ _ _ (@bH _ _ _ _ _ _ rfl (by kernel_rfl)) rfl (@eG _ _ _ _ (@aG _ _ _ _ _ _ _ _ cO (pv 2) (pv 3))) (fun _ _ _ _ => @aA _ _ (0) _ (show (["_law_one"] : List Str).Nodup from by decide +kernel) rfl (Or.inl rfl) (by first | exact .inl rfl | exact .inr rfl | assumption)) (fun _ _ _ _ => (@nN _ _ _ (by exact (@cU _ _ _ _ (@u6 _ _ _ (@aJ _ _ _ _ _ _ _ _ _ _ _ F_lwhole hr (by decide) rfl (@aa _ _ _ _ _ (pv 0) ae (by rfl)) (by decide) (by rfl) (by rfl)) (fun _ => rfl)))))) (fun _ _ _ _ => by (exact (pv 0))) (by intro _ ;rfl)) (@bj _ _ _ _ ae) (aK _)) (@dE _ _ _ _ _ _ _ (@aH _ _ _ _ _ _ _ _ nu (@ar _ _ _ _ _ _ _ _ _ (@dz _ rfl) (by rfl) Tsum l6 (@aa _ _ _ _ _ (pv 2) ae (by rfl)) (by decide) (by decide) (by rfl) (by rfl)) ao (aK _)) (@c8 _ _ _ _ (@aH _ _ _ _ _ _ _ _ fK (@ar _ _ _ _ _ _ _ _ _ az (by rfl) T.len xn (@aa _ _ _ _ _ (pv 3) ae (by rfl)) (by decide) (by decide) (by rfl) (by rfl)) (@aG _ _ _ _ _ _ _ _ cW ao (@ar _ _ _ _ _ _ _ _ _ (@dz _ rfl) (by rfl) Tsum l6 (@aa _ _ _ _ _ (pv 2) ae (by rfl)) (by decide) (by decide) (by rfl) (by rfl))) (aK _)))))) (@aq _ _ _ (@aE _ _ _ _ c4)) aR) (@ag _ _ _ _ _ (@bA _ _ _ _ _ _ _ _ xG rfl (@bh _ _ _ _ _ _ rfl T.range (@aa _ _ _ _ _ (@ar _ _ _ _ _ _ _ _ _ az (by rfl) T.len xn (@aa _ _ _ _ _ (pv 3) ae (by rfl)) (by decide) (by decide) (by rfl) (by rfl)) ae (by rfl)) (by rfl)) (@aA _ _ (4) _ sc.nd rfl (Or.inl rfl) (by first | exact .inl rfl | exact .inr rfl | assumption)) (@aq _ _ _ (@bN _ _ _ _ _ _ _ _ (@PW.pt _ _ _ (@dE _ _ _ _ _ _ _ (@aH _ _ _ _ _ _ _ _ ny (@aL _ _ _ _ _ _ _ aY (pv 3) (pv 4) (fun _ _ => rfl)) (@ar _ _ _ _ _ _ _ _ _ az (by rfl) T.len xn (@aa _ _ _ _ _ (pv 3) ae (by rfl)) (by decide) (by decide) (by rfl) (by rfl)) (aK _)) (@dE _ _ _ _ _ _ _ (@aH _ _ _ _ _ _ _ _ cS (@aL _ _ _ _ _ _ _ aY (pv 3) (pv 4) (fun _ _ => rfl)) (pv 4) (aK _)) (@c8 _ _ _ _ (@aH _ _ _ _ _ _ _ _ fK (@aL _ _ _ _ _ _ _ aY (pv 3) (@aL _ _ _ _ _ _ _ aY (pv 3) (pv 4) (fun _ _ => rfl)) (fun _ _ => rfl)) (pv 4) (aK _)))))) (@aq _ _ _ (@aE _ _ _ _ c4)) aR)) (by intro _ ;rfl)) (@aq _ _ _ (@aE _ _ _ _ c4))))))), ?_⟩
    cases hx with
    | oth ty e => exact ⟨_, rfl, _, _, _, _, rfl, ty, e, _, rfl, oq (fC (k _ (au.refl _)))⟩
    | @tup a xs h ne hl =>
      refine ⟨_, rfl, _, _, _, _, rfl, .tup h, bX, _, rfl, m8 ⟨_, rfl, a, xs, rfl, .inr (SqT.of h), rfl, _, rfl, ?_⟩⟩
      rw [show (!decide (V.int (xs.length : Int)=V.int 2))=true by rw [xg fun e => ne (by have := V.int.inj e;omega)];rfl]
      exact fC (k _ (au.refl _))
    | @two a x y c d h hx hy =>
      refine ⟨_, rfl, _, _, _, _, rfl, .tup h, bX, _, rfl, m8 ⟨_, rfl, a, [x, y], rfl, .inr (SqT.of h), rfl, _, rfl, kW rfl ?_⟩⟩
      have k : ∀ H', au H H' → Q (.bl (rV n c && rW (2*uz c) d)) H' := k
      refine ⟨_, rfl, a, _, rfl, SqT.of h, rfl, _, _, rfl, _, _, rfl, rfl, ?_⟩
      cases hx with
      | oth ty e => exact ⟨_, rfl, _, _, _, _, rfl, ty, e, _, rfl, oq (fC (k _ (au.refl _)))⟩
      | @tup am xs hm hxm hlm =>
        refine ⟨_, rfl, _, _, _, _, rfl, .tup hm, bX, _, rfl, m8 ?_⟩
        cases hy with
        | oth ty e => exact ⟨_, rfl, _, _, _, _, rfl, ty, e, _, rfl, oq (fC (by have := k _ (au.refl _);rwa [show rW (2*uz (some xs)) none=false from rfl, AB] at this))⟩
        | @tup aj ys hj hxj hlj =>
          refine ⟨_, rfl, _, _, _, _, rfl, .tup hj, bX, _, rfl, m8 ⟨_, rfl, am, xs, rfl, .inr (SqT.of hm), _, rfl, _, rfl, (by rw [ah];omega), _, _, rfl, rfl, ⟨by decide, by decide⟩, rfl, _, rfl, ?_⟩⟩
          have k : ∀ H', au H H' → Q (.bl ((decide (xs.length=n) && (xs.all nnV && decide (fj xs≤60))) && (decide ((ys.length : Int)=2*fj xs) && (ys.all (inR (2*fj xs)) && (List.range ys.length).all (joK ys))))) H' := k
          by_cases hn : xs.length=n
          · rw [show (!decide (V.int (xs.length : Int)=V.int (((toS u).length : Int) / 2)))=false by rw [e2, hn];simp]
            rw [xq hn, x9] at k
            refine pR ?_
            refine ⟨_, rfl, _, rfl, am, aj, xs, ys, rfl, rfl, hm, hj, (by omega), fun z0 H1 s1 hz0 => ⟨z0, rfl, ⟨_, SqT.of hz0⟩, ?_⟩⟩
            have hxa : ∀ z∈xs++ys, Wh K H1 z := fun z hz => ((xF.mp hz).elim (hxm z) (hxj z)).same s1
            refine cR (xs := xs++ys) (own := ["_law_one"]) (cap := []) (fun i acc σ H' => ∃ v : Option V, σ = [v] ∧ acc=((xs++ys).take i).filter (fun z => !nnV z) ∧ H'=H1) ⟨none, rfl, rfl, rfl⟩ (fun i acc σ H' hi ⟨v, _, e, _⟩ => ?_) (by rw [w4];omega) (fun i acc σ H' ⟨_, _, _, e⟩ => by rw [e];exact SqT.of hz0) ?_ ?_
            · rw [e]
              exact xH (ze _ _) (by rw [xo];omega)
            · rintro i acc σ H2 z N hzi ⟨v, rfl, rfl, rfl⟩ hN
              have et : ((xs++ys).take (i+1)).filter (fun z => !nnV z)=((xs++ys).take i).filter (fun z => !nnV z)++(if (!nnV z)=true then [z] else []) := by
                rw [bw hzi, Az]
                congr 1
                by_cases c : (!nnV z)=true
                · rw [if_pos c, AV (by exact c)];rfl
                · rw [if_neg c, AW (by exact c)];rfl
              refine ⟨_, rfl, z, rfl, hxa z (xc hzi), _, rfl, ?_⟩
              cases c : nnV z with
              | true => exact nkT (iz (hN _ _ _ ⟨_, rfl, by rw [et, c];simp, rfl⟩))
              | false => exact nkF (kg ⟨_, rfl, hN _ _ _ ⟨_, rfl, by rw [et, c];simp, rfl⟩⟩)
            · rintro acc σ H2 q ⟨v, rfl, rfl, rfl⟩ hq
              rw [xI]
              have s3 : au H2 (upd H2 q (.lst ((xs++ys).filter (fun z => !nnV z)))) := au.new hq
              have g3 : (upd H2 q (.lst ((xs++ys).filter (fun z => !nnV z)))) q=some (.lst ((xs++ys).filter (fun z => !nnV z))) := ab
              generalize upd H2 q (.lst ((xs++ys).filter (fun z => !nnV z)))=H3 at s3 g3 ⊢
              refine ⟨(by show 0≤sizeLine;decide), fun q2 hq2 => ⟨q, q2, _, rfl, rfl, au.new hq2 _ _ g3, ab, _, rfl, ?_⟩⟩
              have s4 := s3.then (o := .lst []) hq2
              generalize upd H3 q2 (.lst [])=H4 at s4 ⊢
              have s04 := s1.trans s4
              rw [mM]
              cases al : (xs++ys).all nnV with
              | false =>
                have kf : ((xs.all nnV && decide (fj xs≤60)) && (decide ((ys.length : Int)=2*fj xs) && (ys.all (inR (2*fj xs)) && (List.range ys.length).all (joK ys))))=false := by
                  rw [List.all_append, Bool.and_eq_false_iff] at al
                  rcases al with al | al
                  · rw [al];rfl
                  · rw [show ys.all (inR (2*fj xs))=false by
                      cases c : ys.all (inR (2*fj xs)) with
                      | false => rfl
                      | true => rw [vE c] at al;exact al, yy, AB, AB]
                rw [kf] at k
                exact oq (fC (k _ s04))
              | true =>
                rw [List.all_append, xp] at al
                rw [al.1, x9] at k
                have exs := jJ (l8 al.1)
                have hm4 : SqT K H4 am ((xs.map e8).map V.int) := by rw [← exs];exact SqT.of (s04 _ _ hm)
                have hj4 := s04 _ _ hj
                refine m8 ⟨_, rfl, am, xs.map e8, rfl, hm4, _, _, rfl, rfl, _, rfl, ?_⟩
                by_cases h60 : fj xs≤60
                · refine pI (xg (by show ¬ (60 : Int) < fj xs;omega)) ?_
                  rw [xq h60, x9] at k
                  refine ⟨_, rfl, aj, ys, rfl, .inr (SqT.of hj4), _, rfl, am, xs.map e8, rfl, hm4, _, _, rfl, rfl, .inl ⟨by decide, by decide⟩, rfl, _, rfl, ?_⟩
                  by_cases hsz : (ys.length : Int)=2*fj xs
                  · refine kW (xA V.int hsz) ?_
                    rw [xq hsz, x9, ← hsz] at k
                    have ea : ∀ i, i < ys.length → ∃ j : Int, ys[i]? = some (.int j) ∧ ys.getD i .non = .int j ∧ 0≤j := fun i hi => by
                      have hm := xP.mp al.2 _ (yc hi)
                      unfold nnV at hm
                      simp only [xp, xK] at hm
                      have e := fG hm.1
                      refine ⟨e8 ys[i], ?_, ?_, hm.2⟩
                      · rw [wY hi, ← e]
                      · rw [xi, wY hi, Aa];exact e
                    refine ⟨_, rfl, aj, _, rfl, .inr (SqT.of hj4), _, rfl, by omega, by omega, ?_⟩
                    rw [xB]
                    refine cj (lo := 0) (n := ys.length) (fun i σ H' => ∃ (v4 : Option V), σ = [some (tx u), some (.ref a), some (.ref am), some (.ref aj), v4] ∧ H'=H4 ∧ ∀ m, m < i → inR (ys.length : Int) (ys.getD m .non)=true ∧ joK ys m=true) ⟨none, rfl, rfl, fun m hm => absurd hm (Nat.not_lt_zero _)⟩ ?_ ?_
                    · rintro i σ H5 hi ⟨v4, rfl, rfl, hall⟩
                      rw [Ay]
                      obtain ⟨j, e1, e3, j0⟩ := ea i hi
                      have ati : atI ys (i : Int)=some (.int j) := bZ e1
                      have bad : ((!decide (j < (ys.length : Int))) || !joK ys i)=true → Q (.bl false) H5 := fun c => by
                        have kf : (ys.all (inR (ys.length : Int)) && (List.range ys.length).all (joK ys))=false := by
                          cases c2 : (ys.all (inR (ys.length : Int)) && (List.range ys.length).all (joK ys)) with
                          | false => rfl
                          | true =>
                            rw [xp, xP, xP] at c2
                            have r1 := c2.1 _ (xc e1)
                            have r2 := c2.2 i (yw.mpr hi)
                            unfold inR at r1
                            simp only [xp, xK] at r1
                            rw [r2, xq (show j < (ys.length : Int) from r1.2.2)] at c
                            cases c
                        have := k _ s04
                        rwa [kf] at this
                      refine ⟨_, rfl, _, rfl, aj, _, _, _, rfl, rfl, SqT.of hj4, ati, _, rfl, aj, ys, rfl, .inr (SqT.of hj4), _, _, rfl, rfl, _, rfl, ?_⟩
                      by_cases hjl : j < (ys.length : Int)
                      · refine pI (xg (by omega)) ⟨_, rfl, _, rfl, aj, _, _, _, rfl, rfl, SqT.of hj4, ati, _, rfl, rfl, _, rfl, ?_⟩
                        obtain ⟨j', e4, e5, _⟩ := ea j.toNat (by omega)
                        have atj : atI ys j=some (.int j') := by
                          have q := bZ (j := j.toNat) e4
                          rwa [zo j0] at q
                        have ej : joK ys i=(!decide (j=(i : Int)) && decide (j'=(i : Int))) := by
                          unfold joK
                          rw [e3]
                          show (!decide (j=(i : Int)) && decide (e8 (ys.getD j.toNat .non)=(i : Int)))=_
                          rw [e5]
                          rfl
                        by_cases hji : j=(i : Int)
                        · exact lq (xq (by rw [hji])) (fC (bad (by rw [ej, xq hji];simp)))
                        · refine pI (xg (fun e => hji (V.int.inj e))) ⟨_, rfl, _, rfl, _, rfl, aj, _, _, _, rfl, rfl, SqT.of hj4, ati, aj, _, _, _, rfl, rfl, SqT.of hj4, atj, _, rfl, rfl, _, rfl, ?_⟩
                          by_cases hj2 : j'=(i : Int)
                          · refine kW (xA V.int hj2) ⟨_, rfl, rfl, fun m hm => ?_⟩
                            by_cases em : m=i
                            · rw [em, ej, e3, xg hji, xq hj2]
                              refine ⟨?_, rfl⟩
                              unfold inR
                              show (true && (decide (0≤j) && decide (j < (ys.length : Int))))=true
                              rw [xq j0, xq hjl]
                              rfl
                            · exact hall m (by omega)
                          · exact lq (by rw [xg (fun e => hj2 (V.int.inj e))];rfl) (bad (by rw [ej, xg hj2];simp))
                      · exact lq (xq (by omega)) (fC (bad (by rw [xg hjl];rfl)))
                    · rintro σ H5 ⟨v4, rfl, rfl, hall⟩
                      have kt : (ys.all (inR (ys.length : Int)) && (List.range ys.length).all (joK ys))=true := by
                        rw [xp, xP, xP]
                        refine ⟨fun z hz => ?_, fun m hm => (hall m (yw.mp hm)).2⟩
                        obtain ⟨m, hm, rfl⟩ := yI.mp hz
                        have := (hall m hm).1
                        rwa [xi, wY hm] at this
                      rw [kt] at k
                      exact k _ s04
                  · refine lq (by show (!decide (V.int (ys.length : Int)=V.int (2*fj xs)))=true;rw [xg (fun e => hsz (V.int.inj e))];rfl) ?_
                    rw [xg hsz, yy] at k
                    exact k _ s04
                · rw [xg h60, yy] at k
                  exact lq (xq (by show (60 : Int) < fj xs;omega)) (fC (k _ s04))
          · rw [show (!decide (V.int (xs.length : Int)=V.int (((toS u).length : Int) / 2)))=true by rw [e2, xg fun e => hn (by have := V.int.inj e;omega)];rfl]
            rw [xg hn, yy] at k
            exact fC (k _ (au.refl _))
end
end Kx
namespace Kx
open PySem PySem.Spec PyProof.Rows L2 Wd
def gy (l : List Int)(c : Nat × Nat) : List Int := (l.set c.1 (c.2 : Int)).set c.2 (c.1 : Int)
def fh (cs : List (Nat × Nat)) : List Nat := cs.flatMap fun c => [c.1, c.2]
theorem jN (l : List Int)(c : Nat × Nat) : (gy l c).length=l.length := by unfold gy; rw [ye, ye]
theorem eD : ∀ (cs : List (Nat × Nat)) (l : List Int), (cs.foldl gy l).length=l.length
  | [], _ => rfl
  | c::r, l => by rw [zw, eD r, jN]
theorem gz : ∀ (cs : List (Nat × Nat)) (l : List Int) (i : Nat), i∉fh cs → (cs.foldl gy l)[i]? = l[i]?
  | [], _, _, _ => rfl
  | c::r, l, i, h => by
    have h : i∉c.1::c.2::fh r := h
    simp only [xr, not_or] at h
    rw [zw, gz r _ i h.2.2]
    unfold gy
    rw [yH (Ne.symm h.2.1), yH (Ne.symm h.1)]
theorem mO : ∀ (cs : List (Nat × Nat)) (l : List Int), (fh cs).Nodup → (∀ e∈fh cs, e < l.length) → ∀ c∈cs, (cs.foldl gy l)[c.1]? = some (c.2 : Int) ∧ (cs.foldl gy l)[c.2]? = some (c.1 : Int)
  | [], _, _, _, _, h => by cases h
  | d::r, l, nd, lt, c, h => by
    have nd : (d.1::d.2::fh r).Nodup := nd
    have lt : ∀ e∈d.1::d.2::fh r, e < l.length := lt
    obtain ⟨n1, nd2⟩ := ym.mp nd
    obtain ⟨n2, nd3⟩ := ym.mp nd2
    rw [zw]
    rcases xr.mp h with rfl | h
    · have ne : c.1≠c.2 := fun e => n1 (by rw [e];exact xt)
      rw [gz r _ _ (fun m => n1 (xk _ m)), gz r _ _ n2]
      have l1 := lt c.1 xt
      have l2 := lt c.2 (xk _ xt)
      unfold gy
      constructor
      · rw [yH (Ne.symm ne), yX l1]
      · rw [yX (by rw [ye];exact l2)]
    · exact mO r _ nd3 (fun e he => by rw [jN];exact lt e (xk _ (xk _ he))) c h
def pvZ (W : List (List L))(p : Int × Int) : Int × Int := (p.1, (p.2 - 1) % ((W.getD p.1.toNat []).length : Int))
theorem vF {W : List (List L)}{p : Int × Int}(ok : okS W p=true) : okS W (pvZ W p)=true ∧ nxZ W (pvZ W p)=p := by
  unfold okS at ok
  simp only [xp, xK] at ok
  obtain ⟨⟨h1, h2⟩, h3, h4⟩ := ok
  have hp : 0 < ((W.getD p.1.toNat []).length : Int) := by omega
  have g1 := yg (p.2 - 1) (show ((W.getD p.1.toNat []).length : Int)≠0 by omega)
  have g2 := x3 (p.2 - 1) hp
  constructor
  · unfold okS pvZ
    simp only [xp, xK]
    exact ⟨⟨h1, h2⟩, g1, g2⟩
  · unfold nxZ pvZ
    refine Bn rfl ?_
    show ((p.2 - 1) % _+1) % _=p.2
    rw [Int.emod_add_emod, Int.sub_add_cancel, Int.emod_eq_of_lt h3 h4]
theorem nx_inj {W : List (List L)}{p q : Int × Int}(hp : okS W p=true)(hq : okS W q=true)(h : nxZ W p=nxZ W q) : p=q := by
  have e : ∀ {p : Int × Int}, okS W p=true → pvZ W (nxZ W p)=p := fun {p} ok => by
    unfold okS at ok
    simp only [xp, xK] at ok
    obtain ⟨⟨h1, h2⟩, h3, h4⟩ := ok
    unfold nxZ pvZ
    refine Bn rfl ?_
    show ((p.2+1) % _ - 1) % _=p.2
    rw [Int.emod_sub_emod, Int.add_sub_cancel, Int.emod_eq_of_lt h3 h4]
  rw [← e hp, h, e hq]
def ptE (W : List (List L))(p : Int × Int) : List (L × (Int × Int)) := [(inv (ltZ W p), p), (ltZ W (nxZ W p), nxZ W p)]
theorem p5 : ∀ x : L, inv x≠x := by decide
theorem two_of : ∀ x y : L, x.val % 6=y.val % 6 → x=y ∨ x=inv y := by decide
theorem p6 {W : List (List L)} : ((ba W).flatMap (ptE W)).Nodup := by
  have no : ∀ a b : Int × Int, (inv (ltZ W a), a)≠(ltZ W b, b) := fun a b e => by
    have e2 : a=b := xA Prod.snd e
    subst e2
    exact p5 _ (xA Prod.fst e)
  unfold List.Nodup
  rw [z1]
  refine ⟨fun p _ => List.pairwise_cons.mpr ⟨fun y hy => by rw [xf.mp hy];exact no _ _, List.pairwise_singleton _ _⟩, ?_⟩
  refine AO ?_ (f_ (eh W))
  intro p q hp hq ne x hx y hy
  have hx : x=(inv (ltZ W p), p) ∨ x=(ltZ W (nxZ W p), nxZ W p) := by simpa [ptE] using hx
  have hy : y=(inv (ltZ W q), q) ∨ y=(ltZ W (nxZ W q), nxZ W q) := by simpa [ptE] using hy
  rcases hx with rfl | rfl <;> rcases hy with rfl | rfl
  · exact fun e => ne (xA Prod.snd e)
  · exact no _ _
  · exact (no _ _).symm
  · exact fun e => ne (nx_inj (bT.mp hp) (bT.mp hq) (xA Prod.snd e))
theorem jO {n : Nat}{W : List (List L)}{H : Hp}{r : Addr}{rows : List (List (Int × Int))}{u : List L}(U : SK u n)(dw : Dw n W H r rows)(hW : ∀ w∈W, InM n w) : (aO rows u).Perm ((ba W).flatMap (ptE W)) := by
  refine (List.perm_ext_iff_of_nodup (mB U dw) p6).mpr fun z => ?_
  constructor
  · intro h
    unfold aO at h
    obtain ⟨x, hx, hz⟩ := yD.mp h
    obtain ⟨p, hp, rfl⟩ := xC.mp hz
    have g : p∈rows.getD (x.val % 6) [] := by
      unfold il at hp
      split at hp
      · exact hp
      · exact yT.mp hp
    rw [xi] at g
    cases e : rows[x.val % 6]? with
    | none => rw [e] at g;cases g
    | some row =>
      rw [e] at g
      have g : p∈rR W (x.val % 6) := (dw.pm _ _ e).mem_iff.mp g
      obtain ⟨g1, g2⟩ := Ai.mp g
      have g2 : ltS W p=x.val % 6 := by simpa using g2
      have g2 : x.val % 6=(ltZ W p).val % 6 := g2.symm
      rw [yD]
      rcases two_of _ _ g2 with rfl | rfl
      · obtain ⟨o1, o2⟩ := vF (bT.mp g1)
        exact ⟨pvZ W p, bT.mpr o1, xk _ (xf.mpr (by rw [o2]))⟩
      · exact ⟨p, g1, xt⟩
  · intro h
    obtain ⟨p, hp, hz⟩ := yD.mp h
    obtain ⟨i1, i2⟩ := mE U dw hW (bT.mp hp)
    have hz : z=(inv (ltZ W p), p) ∨ z=(ltZ W (nxZ W p), nxZ W p) := by simpa [ptE] using hz
    rcases hz with rfl | rfl
    · exact i1
    · exact i2
theorem mP (W : List (List L)) : ∀ ps : List (Int × Int), (ps.flatMap (ptE W)).length=2*ps.length
  | [] => rfl
  | p::r => by rw [yz, w4, mP W r, xM];show 2+_=_;omega
theorem i5 {n : Nat}{W : List (List L)}{H : Hp}{r : Addr}{rows : List (List (Int × Int))}{u : List L}(U : SK u n)(dw : Dw n W H r rows)(hW : ∀ w∈W, InM n w) : (aO rows u).length=2*(ba W).length := by
  rw [(jO U dw hW).length_eq, mP]
def dA (pts : List (L × (Int × Int)))(W : List (List L)) : List Int := ((ba W).map (cdZ pts W)).foldl gy (List.replicate (2*(ba W).length) 0)
theorem i6 (pts : List (L × (Int × Int)))(W : List (List L)) : ∀ ps : List (Int × Int), fh (ps.map (cdZ pts W))=(ps.flatMap (ptE W)).map fun z => pts.idxOf z
  | [] => rfl
  | p::r => by
    show (cdZ pts W p).1::(cdZ pts W p).2::fh (r.map (cdZ pts W))=_
    rw [i6 pts W r, yz, w9]
    rfl
theorem idx_inj {α : Type}[BEq α][LawfulBEq α]{l : List α}{a b : α}(ha : a∈l)(hb : b∈l)(h : l.idxOf a=l.idxOf b) : a=b := by
  have h1 := xQ ha
  have h2 := xQ hb
  have e1 := y7 h1
  have e2 := y7 h2
  rw [← e1, ← e2]
  congr 1
theorem mQ {n : Nat}{W : List (List L)}{H : Hp}{r : Addr}{rows : List (List (Int × Int))}{u : List L}(U : SK u n)(dw : Dw n W H r rows)(hW : ∀ w∈W, InM n w) :
    ∀ i, i < 2*(ba W).length → ∃ j : Nat, j < 2*(ba W).length ∧ j≠i ∧ (dA (aO rows u) W)[i]? = some (j : Int) ∧ (dA (aO rows u) W)[j]? = some (i : Int) := by
  have hl := i5 U dw hW
  have pm := jO U dw hW
  have nd := mB U dw
  have en : (fh ((ba W).map (cdZ (aO rows u) W))).Nodup := by
    rw [i6]
    unfold List.Nodup
    rw [zR]
    exact AO (fun {a b} ha hb ne e => ne (idx_inj (pm.mem_iff.mpr ha) (pm.mem_iff.mpr hb) e)) p6
  have lt : ∀ e∈fh ((ba W).map (cdZ (aO rows u) W)), e < 2*(ba W).length := fun e he => by
    rw [i6] at he
    obtain ⟨z, hz, rfl⟩ := xC.mp he
    rw [← hl]
    exact xQ (pm.mem_iff.mpr hz)
  have fi := mO _ (List.replicate (2*(ba W).length) 0) en (by rw [x5];exact lt)
  intro i hi
  have hi2 : i < (aO rows u).length := by omega
  have hm := pm.mem_iff.mp (yc hi2)
  have ix := nd.idxOf_getElem i hi2
  obtain ⟨p, hp, hz⟩ := yD.mp hm
  have hz : (aO rows u)[i]=(inv (ltZ W p), p) ∨ (aO rows u)[i]=(ltZ W (nxZ W p), nxZ W p) := by simpa [ptE] using hz
  have hc : cdZ (aO rows u) W p∈(ba W).map (cdZ (aO rows u) W) := xC.mpr ⟨p, hp, rfl⟩
  obtain ⟨f1, f2⟩ := fi _ hc
  have me : ∀ e, e∈[(cdZ (aO rows u) W p).1, (cdZ (aO rows u) W p).2] → e∈fh ((ba W).map (cdZ (aO rows u) W)) := fun e he => yD.mpr ⟨_, hc, he⟩
  have l1 := lt _ (me _ xt)
  have l2 := lt _ (me _ (xk _ xt))
  obtain ⟨i1, i2⟩ := mE U dw hW (bT.mp hp)
  have ne : (cdZ (aO rows u) W p).1≠(cdZ (aO rows u) W p).2 := fun e => by
    have e := idx_inj i1 i2 e
    have e2 : p=nxZ W p := xA Prod.snd e
    have e3 : inv (ltZ W p)=ltZ W (nxZ W p) := xA Prod.fst e
    rw [← e2] at e3
    exact p5 _ e3
  rcases hz with hz | hz
  · rw [hz] at ix
    have ix : (cdZ (aO rows u) W p).1=i := ix
    rw [ix] at f1 f2 ne
    exact ⟨_, l2, ne.symm, f1, f2⟩
  · rw [hz] at ix
    have ix : (cdZ (aO rows u) W p).2=i := ix
    rw [ix] at f1 f2 ne
    exact ⟨_, l1, ne, f2, f1⟩
theorem dC (pts : List (L × (Int × Int)))(W : List (List L)) : (dA pts W).length=2*(ba W).length := by unfold dA; rw [eD, x5]
def bM (rows : List (List (Int × Int))) : List Int := rows.map fun r => (r.length : Int)
theorem oW {f : L → Nat} : ∀ {u v : List L}, u.Perm v → (u.map f).sum=(v.map f).sum := fun p => (p.map f).sum_nat
theorem mR (f : Nat → Nat) : ∀ k, k≤6 → ((fam k).map fun x => f (x.val % 6)).sum=2*((List.range k).map f).sum
  | 0, _ => rfl
  | k+1, h => by
    rw [jz (by omega), w9, Ba, mR f k (by omega), zd, w9, Ba]
    show _+(f (k % 6)+(f ((k+6) % 6)+0))=2*(_+(f k+0))
    rw [Nat.add_mod_right, Nat.mod_eq_of_lt (show k < 6 by omega)]
    omega
theorem mS (rows : List (List (Int × Int))) : ∀ u : List L, (aO rows u).length=(u.map fun x => (rows.getD (x.val % 6) []).length).sum
  | [] => rfl
  | x::r => by
    have ih := mS rows r
    unfold aO at ih ⊢
    rw [yz, w4, fu, ih, xv, zD]
    congr 1
    unfold il
    split
    · rfl
    · rw [xW]
theorem rG {n : Nat}{W : List (List L)}{H : Hp}{r : Addr}{rows : List (List (Int × Int))}{u : List L}(U : SK u n)(dw : Dw n W H r rows)(hW : ∀ w∈W, InM n w) : (bM rows).sum=((ba W).length : Int) := by
  have h1 := i5 U dw hW
  rw [mS, oW U.pm, mR (fun m => (rows.getD m []).length) n U.hi] at h1
  have e : rows.map List.length=(List.range n).map fun m => (rows.getD m []).length := by
    refine List.ext_getElem (by rw [fu, fu, x8, dw.len]) fun i h2 h3 => ?_
    rw [List.getElem_map, List.getElem_map, List.getElem_range, xi, wY (by simpa using h2)]
    rfl
  have e2 : ∀ l : List Nat, (l.map fun m : Nat => (m : Int)).sum=((l.sum : Nat) : Int) := fun l => by
    induction l with
    | nil => rfl
    | cons a r ih => rw [xv, zD, zD, ih];omega
  have e3 : bM rows=(rows.map List.length).map fun m : Nat => (m : Int) := by unfold bM;rw [za];rfl
  rw [e3, e2, e]
  omega
section
variable {P : Program} {w : World} {K : PySem.W.Frag} {mg : Str → Option Value} {base : Heap} {aB : Addr}
theorem uf {n : Nat}{W : List (List L)}{H H' : Hp}{r a : Addr}{rows : List (List (Int × Int))}{u : List L}(U : SK u n)(hWy : Wy4 n W H' a)(dw : Dw n W H r rows) : wb n (some (some ((bM rows).map V.int), some ((dA (aO rows u) W).map V.int)))=true := by
  have hW : ∀ w∈W, InM n w := fun w hw => (hWy.ws w hw).2.2
  have al := ip hWy
  have cs := rG U dw hW
  have sv : ∀ l : List Int, fj (l.map V.int)=l.sum := fun l => by unfold fj;rw [za];exact xA List.sum (List.map_id l)
  have ok := mQ U dw hW
  show (rV n (some ((bM rows).map V.int)) && rW (2*fj ((bM rows).map V.int)) (some ((dA (aO rows u) W).map V.int)))=true
  rw [sv, cs]
  have gJ : ∀ i, ((dA (aO rows u) W).map V.int).getD i .non=((dA (aO rows u) W)[i]?.map V.int).getD .non := fun i => by rw [xi, w_]
  have len : ((dA (aO rows u) W).map V.int).length=2*(ba W).length := by rw [fu, dC]
  rw [xp]
  constructor
  · show (decide (((bM rows).map V.int).length=n) && (((bM rows).map V.int).all nnV && decide (fj ((bM rows).map V.int)≤60)))=true
    rw [sv, cs, xq (show ((bM rows).map V.int).length=n by rw [fu];unfold bM;rw [fu];exact dw.len), xq (show ((ba W).length : Int)≤60 by omega), x9, Bool.and_true, xP]
    intro x hx
    obtain ⟨i, hi, rfl⟩ := xC.mp hx
    obtain ⟨row, _, rfl⟩ := xC.mp hi
    show (true && decide (0≤(row.length : Int)))=true
    rw [xq (by omega)]
    rfl
  · show (decide ((((dA (aO rows u) W).map V.int).length : Int)=2*((ba W).length : Int)) && (((dA (aO rows u) W).map V.int).all (inR (2*((ba W).length : Int))) && (List.range ((dA (aO rows u) W).map V.int).length).all (joK ((dA (aO rows u) W).map V.int))))=true
    rw [len, xq (by omega), x9, xp, xP, xP]
    refine ⟨fun x hx => ?_, fun i hi => ?_⟩
    · obtain ⟨z, hz, rfl⟩ := xC.mp hx
      obtain ⟨i, hi, rfl⟩ := yI.mp hz
      obtain ⟨j, j1, _, j3, _⟩ := ok i (by rw [dC] at hi;exact hi)
      rw [wY hi] at j3
      rw [xb j3]
      show (true && (decide (0≤(j : Int)) && decide ((j : Int) < 2*((ba W).length : Int))))=true
      rw [xq (by omega), xq (by omega)]
      rfl
    · obtain ⟨j, j1, j2, j3, j4⟩ := ok i (yw.mp hi)
      unfold joK
      rw [gJ i, j3]
      show (!decide ((j : Int)=(i : Int)) && decide (e8 (((dA (aO rows u) W).map V.int).getD (j : Int).toNat .non)=(i : Int)))=true
      rw [xB, gJ j, j4, xg (by omega)]
      show (true && decide ((i : Int)=(i : Int)))=true
      rw [xq rfl]
      rfl
inductive rH (vs : List V)(H : Hp)(Q : VK)(u3_ : XK) : Prop
  | mk : ∀ (u : List L) (a r : Addr) (n : Nat) (W : List (List L)) (rows : List (List (Int × Int))), (vs=[tx u, .ref a, .ref r]) → (SK u n) → (Wy4 n W H a) → (Dw n W H r rows) → (∀ (p c j : Addr) (H' : Hp), au H H' → H' p=some (.tup [.ref c, .ref j]) → H' c=some (.tup ((bM rows).map V.int)) → H' j=some (.tup ((dA (aO rows u) W).map V.int)) → Q (.ref p) H') → rH vs H Q u3_
theorem mT {d : Addr}{o : Obj}{kvs : List (List Key × V)}{g : TG}{tb : TS}{D : fm}{σ : L2.St}{H : Hp}(Pv : Nat → L2.St → Hp → Prop)(h0 : Pv 0 σ H)(hl : ∀ i σ H, i≤kvs.length → Pv i σ H → H d=some (.frz o (.dT kvs)))
    (hs : ∀ i k v σ H, kvs[i]? = some (k, v) → Pv i σ H → g v σ H fun σ2 H2 => tb { D with nx := Pv (i+1), ct := Pv (i+1), bk := D.nx } σ2 H2) (hd : ∀ σ H, Pv kvs.length σ H → D.nx σ H) :
    ∃ W : Nat → Nat → L2.St → Hp → Prop, (∃ m, W 0 m σ H) ∧ ∀ i m σ H, W i m σ H →
      ((rT d o kvs).stop i H ∧ D.nx σ H) ∨ ((rT d o kvs).go i H ∧ ∃ N : L2.St → Hp → Prop, (∀ σ' H', N σ' H' → ∃ m', m' < m ∧ W (i+1) m' σ' H') ∧ ∀ x H', (rT d o kvs).yld i H x H' → g x σ H' fun σ2 H2 => tb { D with nx := N, ct := N, bk := D.nx } σ2 H2) := by
  refine ⟨fun i m σ H => m=kvs.length - i ∧ i≤kvs.length ∧ Pv i σ H, ⟨kvs.length, by simp, xV _, h0⟩, ?_⟩
  rintro i m σ H ⟨rfl, hi, p⟩
  have q := hl i σ H hi p
  by_cases hlt : i < kvs.length
  · refine .inr ⟨⟨hlt, q⟩, Pv (i+1), fun σ' H' p' => ⟨kvs.length - (i+1), by omega, rfl, hlt, p'⟩, ?_⟩
    rintro v H' ⟨rfl, key, hkv⟩
    exact hs i key v σ _ hkv p
  · obtain rfl : i=kvs.length := by omega
    exact .inl ⟨⟨rfl, q⟩, hd σ H p⟩
theorem CdA.at {H : Hp}{pts : List (L × (Int × Int))}{W : List (List L)}{ps : List (Int × Int)}{kvs : List (List Key × V)}(h : CdA H pts W ps kvs){m : Nat}{key : List Key}{val : V}(e : kvs[m]? = some (key, val)) : ∃ q, ps[m]? = some q ∧ key=keyT q := by
  have := xA (fun l => l[m]?) h.ks
  simp only [w_] at this
  rw [e] at this
  cases hq : ps[m]? with
  | none => rw [hq] at this;cases this
  | some q => rw [hq] at this;exact ⟨q, rfl, xb this⟩
theorem CdA.len {H : Hp}{pts : List (L × (Int × Int))}{W : List (List L)}{ps : List (Int × Int)}{kvs : List (List Key × V)}(h : CdA H pts W ps kvs) : kvs.length=ps.length := by
  have := xA List.length h.ks
  rwa [fu, fu] at this
theorem mU : ∀ {kvs : List (List Key × V)} {i : Nat} {k : List Key} {v : V}, (kvs.map (·.1)).Nodup → kvs[i]? = some (k, v) → eO kvs k=some v
  | [], i, k, v, _, h => by simp at h
  | (k', v')::r, 0, k, v, _, h => by
    cases h
    unfold eO
    rw [zI (by simp)]
    rfl
  | (k', v')::r, i+1, k, v, nd, h => by
    have h : r[i]? = some (k, v) := h
    rw [xv] at nd
    obtain ⟨n1, nd⟩ := ym.mp nd
    have ne : k'≠k := fun e => n1 (by rw [show (k', v').1=k from e];exact xC.mpr ⟨(k, v), xc h, rfl⟩)
    have ih := mU nd h
    unfold eO at ih ⊢
    rw [zJ (by simpa using ne)]
    exact ih
theorem rJ {W : List (List L)} : ((ba W).map keyT).Nodup := by
  unfold List.Nodup
  rw [zR]
  exact yN (fun h e => h (gr e)) (f_ (eh W))
theorem ixN_nat {n j : Nat}(h : j < n) : ixN n (j : Int)=some j := by
  unfold ixN
  rw [if_pos (by omega), if_pos (by omega)]
  simp
theorem put_map (l : List Int)(c : Nat × Nat) : ((l.map V.int).set c.1 (.int (c.2 : Int))).set c.2 (.int (c.1 : Int))=(gy l c).map V.int := by
  unfold gy
  rw [z9, z9]
theorem eE (n : Nat) : (List.replicate n [V.int 0]).flatten=(List.replicate n (0 : Int)).map V.int := by
  induction n with
  | zero => rfl
  | succ n ih => rw [x6, zg, ih, x6, xv];rfl
theorem ug {n : Nat}{W : List (List L)}{H : Hp}{r : Addr}{rows : List (List (Int × Int))}{u : List L}(U : SK u n)(dw : Dw n W H r rows)(hW : ∀ w∈W, InM n w){p : Int × Int}(hp : p∈ba W) : (cdZ (aO rows u) W p).1 < 2*(ba W).length ∧ (cdZ (aO rows u) W p).2 < 2*(ba W).length := by
  obtain ⟨i1, i2⟩ := mE U dw hW (bT.mp hp)
  have hl := i5 U dw hW
  rw [← hl]
  exact ⟨xQ i1, xQ i2⟩
abbrev rK : Stmt := top 21
theorem uh : aF ["surface", "ways", "drawing", "found", "joins", "chord"] ["surface", "ways", "drawing"] (av rK) := ⟨rfl, rfl, rfl, by decide +kernel, rfl, by decide +kernel, by decide +kernel⟩
theorem vG (D : Df K mg "picture_of" rK)(T : Bt K w mg aB)(F_chords : Fnc P w K mg base "chords" ["surface", "ways", "drawing"] 4 gs) : Fnc P w K mg base "picture_of" ["surface", "ways", "drawing"] 5 rH := by
  have sc := uh
  refine D.ok sc (fun _ _ _ _ _ _ us hl => by obtain ⟨_, _, _, rfl⟩ := qV hl;rfl) (fun vs H Q E h => ?_) (fun f cdv A outer s H vs Q E hr h => ?_)
  · obtain ⟨u, a, r, n, W, rows, rfl, _⟩ := h
    rfl
  · obtain ⟨u, a, r, n, W, rows, rfl, U, hW, dw, k⟩ := h
    have l16 := a8
    have al := ip hW
    have iw : ∀ w∈W, InM n w := fun w hw => (hW.ws w hw).2.2
    have h6 := U.hi
    refine ⟨_, (@ag _ _ _ _ _ (@aC _ _ (3) _ _ _ _ sc.nd rfl (Or.inl rfl) (@aJ _ _ _ _ _ _ _ _ _ _ _ F_chords hr (by decide) rfl (@aa _ _ _ _ _ (pv 0) (@aa _ _ _ _ _ (pv 1) (@aa _ _ _ _ _ (pv 2) ae (by rfl)) (by rfl)) (by rfl)) (by decide) (by rfl) (by rfl)) (by rfl) (by first | exact .inl rfl | exact .inr rfl | assumption)) (@ag _ _ _ _ _ (@aC _ _ (4) _ _ _ _ sc.nd rfl (Or.inl rfl) (@aG _ _ _ _ _ _ _ _ jo (@bj _ _ _ _ (@aa _ _ _ _ _ ao ae (by rfl))) (@aG _ _ _ _ _ _ _ _ cW ao (@ar _ _ _ _ _ _ _ _ _ ka (by rfl) T.len xn (@aa _ _ _ _ _ (pv 3) ae (by rfl)) (by decide) (by decide) (by rfl) (by rfl)))) (by rfl) (by first | exact .inl rfl | exact .inr rfl | assumption)) (@ag _ _ _ _ _ (@bA _ _ _ _ _ _ _ _ xG rfl (@oD _ _ _ _ _ _ (pv 3) (by rfl) (by rfl)) (@aA _ _ (5) _ sc.nd rfl (Or.inl rfl) (by first | exact .inl rfl | exact .inr rfl | assumption)) (@ag _ _ _ _ _ (@cD _ _ _ _ _ _ (@aL _ _ _ _ _ _ _ aY (pv 5) ao (fun _ _ => rfl)) (@cV _ _ _ _ _ _ _ (pv 4) (@aL _ _ _ _ _ _ _ aY (pv 5) ao (fun _ _ => rfl)) bD (by intro _ ;rfl)) (by rfl) (by rfl) (by rfl)) (@aq _ _ _ (@cD _ _ _ _ _ _ (@aL _ _ _ _ _ _ _ aY (pv 5) ao (fun _ _ => rfl)) (@cV _ _ _ _ _ _ _ (pv 4) (@aL _ _ _ _ _ _ _ aY (pv 5) ao (fun _ _ => rfl)) bD (by intro _ ;rfl)) (by rfl) (by rfl) (by rfl)))) (by intro _ ;rfl)) (@aq _ _ _ (@aE _ _ _ _ (@a4 _ _ _ _ _ (@aa _ _ _ _ _ (@aX _ _ _ _ _ _ _ _ _ aP (by rfl) T.tuple bq (@aa _ _ _ _ _ (@bp _ _ _ _ _ _ _ (["order"]) (["order"]) ([]) _ _ _ _ (@bH _ _ _ _ _ _ rfl (by kernel_rfl)) rfl (@eG _ _ _ _ (pv 2)) (fun _ _ _ _ => @aA _ _ (0) _ (show (["order"] : List Str).Nodup from by decide +kernel) rfl (Or.inl rfl) (by first | exact .inl rfl | exact .inr rfl | assumption)) (fun _ _ _ _ => a9) (fun _ _ _ _ => by (exact (@ar _ _ _ _ _ _ _ _ _ (@dq _ (K) rfl) (by rfl) T.len xn (@aa _ _ _ _ _ (pv 0) ae (by rfl)) (by decide) (by decide) (by rfl) (by rfl)))) (by intro _ ;rfl)) ae (by rfl)) (by decide) (by decide) (by rfl) (by rfl)) (@aa _ _ _ _ _ (@aX _ _ _ _ _ _ _ _ _ aP (by rfl) T.tuple bq (@aa _ _ _ _ _ (pv 4) ae (by rfl)) (by decide) (by decide) (by rfl) (by rfl)) ae (by rfl)) (by rfl)))))))), ?_⟩
    refine ⟨_, rfl, _, rfl, _, rfl, u, a, r, n, W, rows, rfl, U, hW, dw, fun d kvs H1 hd s1 d1 cd1 => ?_⟩
    have kl := cd1.len
    have kn : (kvs.map (·.1)).Nodup := by rw [cd1.ks];exact rJ
    refine ⟨(aD (n := 1) (by decide)), fun z hz => ⟨_, rfl, d, kvs, rfl, au.new hz _ _ d1, _, _, rfl, rfl, .inl ⟨by decide, by decide⟩, z, 2*(kvs.length : Int), _, rfl, rfl, ab, by omega, by omega, by show 1*_≤_;omega, fun l hl => ?_⟩⟩
    have e0 : (List.replicate (2*(kvs.length : Int)).toNat [V.int 0]).flatten=(List.replicate (2*(ba W).length) (0 : Int)).map V.int := by
      rw [eE, show (2*(kvs.length : Int)).toNat=2*(ba W).length by omega]
    rw [e0]
    have s2 := (au.new (o := .lst [.int 0]) hz).then (o := .lst ((List.replicate (2*(ba W).length) (0 : Int)).map V.int)) hl
    have f2 : (upd (upd H1 z (.lst [.int 0])) l (.lst ((List.replicate (2*(ba W).length) (0 : Int)).map V.int))) l=some (.lst ((List.replicate (2*(ba W).length) (0 : Int)).map V.int)) := ab
    have hlH : H l=none := none_of (s1.then hz) hl
    have nld : l≠d := (ak (au.new hz _ _ d1) hl).symm
    generalize upd (upd H1 z (.lst [.int 0])) l (.lst ((List.replicate (2*(ba W).length) (0 : Int)).map V.int))=H2 at s2 f2 ⊢
    have s02 := s1.trans s2
    refine ⟨_, rfl, d, kvs, rfl, s2 _ _ d1, fun o v H3 hv e3 k3 => ?_⟩
    have nlv : l≠v := ak f2 hv
    have k3T : ∀ b xs, H2 b=some (.tup xs) → H3 b=some (.tup xs) := fun b xs e => by
      rw [k3 b (cH e (s2 _ _ d1) (by intro z;cases z)) (ak e hv)];exact e
    have s03 : au H H3 := fun b o' e => by
      rw [k3 b (ak e hd) (ak (s02 _ _ e) hv)];exact s02 _ _ e
    refine mT (o := o) (kvs := kvs) (fun i σ H' => ∃ (v5 : Option V), σ = [some (tx u), some (.ref a), some (.ref r), some (.ref d), some (.ref l), v5] ∧ H' d=some (.frz o (.dT kvs)) ∧ H' l=some (.lst (((((ba W).take i).map (cdZ (aO rows u) W)).foldl gy (List.replicate (2*(ba W).length) 0)).map V.int)) ∧ CdA H' (aO rows u) W (ba W) kvs ∧ au H H') ⟨none, rfl, e3, by rw [k3 l nld nlv];exact f2, (cd1.to fun b xs e => s2 _ _ e).to k3T, s03⟩ (fun i σ H' _ ⟨_, _, q, _⟩ => q) ?_ ?_
    · rintro i key val σ H4 hkv ⟨v5, rfl, e4, f4, cd4, s4⟩
      obtain ⟨p, ap, rfl⟩ := cd4.at hkv
      have hp := xc ap
      obtain ⟨b, hvb, hb⟩ := cd4.vl p hp
      rw [mU kn hkv] at hvb
      obtain rfl := xb hvb
      obtain ⟨c1, c2⟩ := ug U dw iw hp
      generalize hJ : (((ba W).take i).map (cdZ (aO rows u) W)).foldl gy (List.replicate (2*(ba W).length) 0)=J at f4
      have jl : J.length=2*(ba W).length := by rw [← hJ, eD, x5]
      have eJ : (((ba W).take (i+1)).map (cdZ (aO rows u) W)).foldl gy (List.replicate (2*(ba W).length) 0)=gy J (cdZ (aO rows u) W p) := by
        rw [bw ap, w9, List.foldl_append, hJ]
        rfl
      rw [eJ]
      generalize cdZ (aO rows u) W p=c at hb c1 c2 ⊢
      refine ⟨_, rfl, b, _, _, _, rfl, rfl, SqT.of hb, rfl, _, rfl, _, rfl, b, _, _, _, rfl, rfl, SqT.of hb, rfl, l, _, (c.1 : Int), c.1, rfl, rfl, f4, ixN_nat (by rw [fu];omega), ?_⟩
      have f5 : (upd H4 l (.lst ((J.map V.int).set c.1 (.int (c.2 : Int))))) l=some (.lst ((J.map V.int).set c.1 (.int (c.2 : Int)))) := ab
      have k5 : ∀ x o', x≠l → H4 x=some o' → (upd H4 l (.lst ((J.map V.int).set c.1 (.int (c.2 : Int))))) x=some o' := fun x o' nx e => by rw [ay nx];exact e
      generalize upd H4 l (.lst ((J.map V.int).set c.1 (.int (c.2 : Int))))=H5 at f5 k5 ⊢
      have hb5 := k5 _ _ (cH hb f4 (by intro z;cases z)) hb
      refine ⟨_, rfl, b, _, _, _, rfl, rfl, SqT.of hb5, rfl, _, rfl, _, rfl, b, _, _, _, rfl, rfl, SqT.of hb5, rfl, l, _, (c.2 : Int), c.2, rfl, rfl, f5, ixN_nat (by rw [ye, fu];omega), ?_⟩
      rw [put_map]
      have k6 : ∀ (vv : List V) x o', x≠l → H4 x=some o' → (upd H5 l (.lst vv)) x=some o' := fun vv x o' nx e => by rw [ay nx];exact k5 _ _ nx e
      exact ⟨_, rfl, k6 _ _ _ nld.symm e4, ab, cd4.to fun x xs e => k6 _ _ _ (cH e f4 (by intro z;cases z)) e, fun x o' e => k6 _ _ _ (ak e hlH) (s4 _ _ e)⟩
    · rintro σ H4 ⟨v5, rfl, e4, f4, cd4, s4⟩
      rw [kl, xI] at f4
      have f4 : H4 l=some (.lst ((dA (aO rows u) W).map V.int)) := f4
      have dw4 := dw.same s4
      obtain ⟨bs, h1, h2, h3⟩ := dw4.ex
      have rl := dw.len
      refine ⟨_, rfl, r, rfl, ⟨_, SqT.of h1⟩, ?_⟩
      refine cR (xs := bs.map V.ref) (own := ["order"]) (cap := []) (fun i ys σ H' => ∃ v : Option V, σ = [v] ∧ ys=((bM rows).take i).map V.int ∧ H'=H4) ⟨none, rfl, rfl, rfl⟩ (fun i ys σ H' hi ⟨v, _, e, _⟩ => by rw [e, fu, xo];omega) (by rw [fu];omega) (fun i ys σ H' ⟨_, _, _, e⟩ => by rw [e];exact SqT.of h1) ?_ ?_
      · rintro i ys σ H5 y N hy ⟨v, rfl, rfl, rfl⟩ hN
        rw [w_] at hy
        cases hbi : bs[i]? with
        | none => rw [hbi] at hy;cases hy
        | some b =>
          rw [hbi] at hy
          obtain rfl := xb hy
          obtain ⟨row, g1, g2, g3⟩ := h3 i b hbi
          have ec : (bM rows)[i]? = some (row.length : Int) := by
            unfold bM
            rw [w_, g3, yA, fu]
          refine ⟨_, rfl, b, _, rfl, .inr (SqT.of g1), hN _ _ _ ⟨_, rfl, ?_, rfl⟩⟩
          rw [bw ec, w9, fu, fu]
          rfl
      · rintro ys σ H5 q ⟨v, rfl, rfl, rfl⟩ hq
        have ef : ((bM rows).take (bs.map V.ref).length).map V.int=(bM rows).map V.int := by
          rw [xR]
          unfold bM
          rw [fu, fu]
          omega
        rw [ef]
        have s6 : au H5 (upd H5 q (.lst ((bM rows).map V.int))) := au.new hq
        have g6 : (upd H5 q (.lst ((bM rows).map V.int))) q=some (.lst ((bM rows).map V.int)) := ab
        generalize upd H5 q (.lst ((bM rows).map V.int))=H6 at s6 g6 ⊢
        refine ⟨q, _, rfl, .inl ⟨SqL.of g6, fun c hc => ?_⟩⟩
        have s7 : au H6 (upd H6 c (.tup ((bM rows).map V.int))) := au.new hc
        have g7 : (upd H6 c (.tup ((bM rows).map V.int))) c=some (.tup ((bM rows).map V.int)) := ab
        generalize upd H6 c (.tup ((bM rows).map V.int))=H7 at s7 g7 ⊢
        have s57 := s6.trans s7
        refine ⟨_, rfl, l, _, rfl, .inl ⟨SqL.of (s57 _ _ f4), fun j hj => ⟨(aD (n := 2) (by decide)), fun p hp => ?_⟩⟩⟩
        have s8 := (au.new (o := .tup ((dA (aO rows u) W).map V.int)) hj).then (o := .tup [.ref c, .ref j]) hp
        exact k p c j _ (s4.trans (s57.trans s8)) ab (s8 _ _ g7) ((au.new hp) _ _ ab)
end
end Kx
namespace Kx
open PySem PySem.Spec PyProof.Rows L2 Wd
section
variable {P : Program} {w : World} {K : PySem.W.Frag} {mg : Str → Option Value} {base : Heap} {aB : Addr}
inductive vH (vs : List V)(H : Hp)(Q : VK)(u3_ : XK) : Prop
  | mk : ∀ (d c : Addr) (m : Nat), (vs=[.ref d, .int (2*(m : Int))]) → (Tp H d c) → (m≤61) → (∀ (j : Addr) (J : List Int) (H' : Hp), Tp H' d c → aU d H H' → H' j=some (.tup (J.map V.int)) → J.length=2*m → (∀ x∈J, 0≤x ∧ x < 200) → Q (.ref j) H') → vH vs H Q u3_
theorem uk {n : Nat}{y : Int}(h0 : 0≤y)(h1 : y < n) : seqIndex? y n=some y.toNat := by
  unfold seqIndex?
  simp only [if_neg (show ¬ y < 0 by omega)]
  rw [if_pos (by simp;omega)]
theorem p7 : ∀ (l : List Int) (i : Nat), (l.map V.int).eraseIdx i=(l.eraseIdx i).map V.int
  | [], _ => rfl
  | x::r, 0 => rfl
  | x::r, i+1 => by
    rw [xv, zv, zv, xv, p7 r i]
theorem mV {l : List Int}{i : Nat}{v x : Int}{P : Int → Prop}(h : ∀ x∈l, P x)(hv : P v)(hx : x∈l.set i v) : P x := by
  rcases AE hx with hx | rfl
  · exact h x hx
  · exact hv
abbrev gA : Stmt := top 35
theorem mX : aF ["_law_tape_here", "_law_many", "_law_left", "_law_joins", "_law_one", "_law_other"] ["_law_tape_here", "_law_many"] (av gA) := ⟨rfl, rfl, rfl, by decide +kernel, rfl, by decide +kernel, by decide +kernel⟩
theorem oX (D : Df K mg "_law_any_joins" gA)(T : Bt K w mg aB)(F_draw : Fnc P w K mg base "_law_draw" ["_law_tape_here", "_law_many"] 1 cg) : Fnc P w K mg base "_law_any_joins" ["_law_tape_here", "_law_many"] 2 vH := by
  have sc := mX
  refine D.ok sc (fun _ _ _ _ _ _ us hl => by obtain ⟨_, _, rfl⟩ := jK hl;rfl) (fun vs H Q E h => ?_) (fun f cdv A outer s H vs Q E hr h => ?_)
  · obtain ⟨d, c, m, rfl, _⟩ := h
    rfl
  · obtain ⟨d, c, m, rfl, F, hm, k⟩ := h
    have l16 := a8
    have e2 : (2*(m : Int)).toNat=2*m := by omega
    refine ⟨_, (@ag _ _ _ _ _ (@aC _ _ (2) _ _ _ _ sc.nd rfl (Or.inl rfl) (@aX _ _ _ _ _ _ _ _ _ (@fZ _ rfl) (by rfl) T.list jv (@aa _ _ _ _ _ (@aX _ _ _ _ _ _ _ _ _ lQ (by rfl) T.range boot_range (@aa _ _ _ _ _ (pv 1) ae (by rfl)) (by decide) (by decide) (by rfl) (by rfl)) ae (by rfl)) (by decide) (by decide) (by rfl) (by rfl)) (by rfl) (by first | exact .inl rfl | exact .inr rfl | assumption)) (@ag _ _ _ _ _ (@aC _ _ (3) _ _ _ _ sc.nd rfl (Or.inl rfl) (@aG _ _ _ _ _ _ _ _ jo (@bj _ _ _ _ (@aa _ _ _ _ _ ao ae (by rfl))) (pv 1)) (by rfl) (by first | exact .inl rfl | exact .inr rfl | assumption)) (@ag _ _ _ _ _ (@je _ _ _ _ _ _ xG (@aH _ _ _ _ _ _ _ _ (@g_ _ (by exact hr.units)) (pv 2) (@bj _ _ _ _ ae) (aK _)) (@ag _ _ _ _ _ (@aC _ _ (4) _ _ _ _ sc.nd rfl (Or.inl rfl) (@bV _ _ _ _ _ _ _ _ _ _ _ _ xx z7 z8 jm (pv 2) (@aa _ _ _ _ _ ao ae (by rfl)) (by rfl) (by rfl) (by rfl) (by rfl) (by rfl)) (by rfl) (by first | exact .inl rfl | exact .inr rfl | assumption)) (@ag _ _ _ _ _ (@aC _ _ (5) _ _ _ _ sc.nd rfl (Or.inl rfl) (@bV _ _ _ _ _ _ _ _ _ _ _ _ xx z7 z8 jm (pv 2) (@aa _ _ _ _ _ (@aJ _ _ _ _ _ _ _ _ _ _ _ F_draw hr (by decide) rfl (@aa _ _ _ _ _ (pv 0) (@aa _ _ _ _ _ (@ar _ _ _ _ _ _ _ _ _ az (by rfl) T.len xn (@aa _ _ _ _ _ (pv 2) ae (by rfl)) (by decide) (by decide) (by rfl) (by rfl)) ae (by rfl)) (by rfl)) (by decide) (by rfl) (by rfl)) ae (by rfl)) (by rfl) (by rfl) (by rfl) (by rfl) (by rfl)) (by rfl) (by first | exact .inl rfl | exact .inr rfl | assumption)) (@ag _ _ _ _ _ (@cD _ _ _ _ _ _ (pv 5) (@cV _ _ _ _ _ _ _ (pv 3) (pv 4) bD (by intro _ ;rfl)) (by rfl) (by rfl) (by rfl)) (@aq _ _ _ (@cD _ _ _ _ _ _ (pv 4) (@cV _ _ _ _ _ _ _ (pv 3) (pv 5) bD (by intro _ ;rfl)) (by rfl) (by rfl) (by rfl))))))) (@aq _ _ _ (@aE _ _ _ _ (@aX _ _ _ _ _ _ _ _ _ aP (by rfl) T.tuple bq (@aa _ _ _ _ _ (pv 3) ae (by rfl)) (by decide) (by decide) (by rfl) (by rfl))))))), ?_⟩
    refine ⟨_, rfl, _, rfl, fun p hp => ⟨p, 2*m, rfl, (by rw [ab];rfl), by omega, fun l hl => ?_⟩⟩
    have sl := (au.new (o := .rng 0 (2*(m : Int))) hp).then (o := .lst ((List.range (2*m)).map fun i : Nat => V.int (i : Int))) hl
    have fl : (upd (upd H p (.rng 0 (2*(m : Int)))) l (.lst ((List.range (2*m)).map fun i : Nat => V.int (i : Int)))) l=some (.lst (((List.range (2*m)).map fun i : Nat => (i : Int)).map V.int)) := by rw [ab, za];rfl
    have hlH : H l=none := none_of (au.new hp) hl
    generalize upd (upd H p (.rng 0 (2*(m : Int)))) l (.lst ((List.range (2*m)).map fun i : Nat => V.int (i : Int)))=H1 at sl fl ⊢
    refine ⟨(aD (n := 1) (by decide)), fun z hz => ⟨_, rfl, z, 2*(m : Int), _, rfl, rfl, ab, by omega, by omega, by show 1*_≤_;omega, fun l2 hl2 => ?_⟩⟩
    rw [eE, e2]
    have s2 := (au.new (o := .lst [.int 0]) hz).then (o := .lst ((List.replicate (2*m) (0 : Int)).map V.int)) hl2
    have f2 : (upd (upd H1 z (.lst [.int 0])) l2 (.lst ((List.replicate (2*m) (0 : Int)).map V.int))) l2=some (.lst ((List.replicate (2*m) (0 : Int)).map V.int)) := ab
    have hl2H : H l2=none := none_of (sl.then hz) hl2
    have nll : l≠l2 := ak (au.new hz _ _ fl) hl2
    generalize upd (upd H1 z (.lst [.int 0])) l2 (.lst ((List.replicate (2*m) (0 : Int)).map V.int))=H2 at s2 f2 ⊢
    have s02 := sl.trans s2
    have nld := F.ne hlH
    have nlc := F.nec hlH
    have nl2d := F.ne hl2H
    have nl2c := F.nec hl2H
    refine n4 (fun n σ H' => ∃ (ls J : List Int) (b4 b5 : Option V) (g : Nat), σ = [some (.ref d), some (.int (2*(m : Int))), some (.ref l), some (.ref l2), b4, b5] ∧ H' l=some (.lst (ls.map V.int)) ∧ H' l2=some (.lst (J.map V.int)) ∧ ls.length=2*g ∧ g≤m ∧ (∀ x∈ls, 0≤x ∧ x < 2*m) ∧ J.length=2*m ∧ (∀ x∈J, 0≤x ∧ x < 200) ∧ Tp H' d c ∧ aU d H H' ∧ n=ls.length)
      (fun σ H' => ∃ (J : List Int) (b4 b5 : Option V), σ = [some (.ref d), some (.int (2*(m : Int))), some (.ref l), some (.ref l2), b4, b5] ∧ H' l2=some (.lst (J.map V.int)) ∧ J.length=2*m ∧ (∀ x∈J, 0≤x ∧ x < 200) ∧ Tp H' d c ∧ aU d H H')
      ⟨_, (List.range (2*m)).map fun i : Nat => (i : Int), List.replicate (2*m) 0, none, none, m, rfl, s2 _ _ fl, f2, by rw [fu, x8], wZ _, fun x hx => ?_, by rw [x5], fun x hx => ?_, F.same s02, s02.b, rfl⟩ ?_ ?_
    · obtain ⟨i, hi, rfl⟩ := xC.mp hx
      have := yw.mp hi
      omega
    · rw [List.eq_of_mem_replicate hx]
      omega
    · rintro nx hnx n σ H3 ⟨ls, J, b4, b5, g, rfl, f3, g3, ll, hg, bl, jl, bJ, F3, sb3, rfl⟩
      refine ⟨_, rfl, (by show 0≤sizeLine;decide), fun q hq => ⟨l, q, _, rfl, rfl, au.new hq _ _ f3, ab, _, rfl, ?_⟩⟩
      have s4 : au H3 (upd H3 q (.lst [])) := au.new hq
      generalize upd H3 q (.lst [])=H4 at s4 ⊢
      have f4 := s4 _ _ f3
      have g4 := s4 _ _ g3
      have F4 := F3.same s4
      have sb4 := sb3.trans s4.b
      cases ls with
      | nil => exact iz (hnx _ _ ⟨J, b4, b5, rfl, g4, jl, bJ, F4, sb4⟩)
      | cons x r =>
        have rl : r.length+1=2*g := ll
        refine kg ⟨fun σ' H' => ∃ m', m' < (x::r).length ∧ _, fun _ _ h => h, ?_⟩
        have bx := bl x xt
        refine ⟨_, rfl, .inl ⟨rfl, _, SqL.of f4⟩, l, _, 0, 0, .int x, rfl, rfl, f4, by decide, by decide, uk (by decide) (by rw [xv, xM];omega), rfl, ?_⟩
        have f5 : (upd H4 l (.lst (((x::r).map V.int).eraseIdx 0))) l=some (.lst (r.map V.int)) := ab
        have k5 : ∀ b o, b≠l → H4 b=some o → (upd H4 l (.lst (((x::r).map V.int).eraseIdx 0))) b=some o := fun b o nb e => by rw [ay nb];exact e
        have F5 : Tp (upd H4 l (.lst (((x::r).map V.int).eraseIdx 0))) d c := F4.but nld nlc aU.upd
        generalize upd H4 l (.lst (((x::r).map V.int).eraseIdx 0))=H5 at f5 k5 F5 ⊢
        have rlen : (r.map V.int).length=r.length := fu _
        refine ⟨_, rfl, .inl ⟨rfl, _, SqL.of f5⟩, _, rfl, _, rfl, l, _, rfl, .inl (SqL.of f5), d, c, _, rfl, F5, by omega, by omega, fun y H6 y0 y1 F6 sb6 => ?_⟩
        rw [rlen] at y1
        have f6 := sb6 _ _ nld f5
        have hy : y.toNat < r.length := by omega
        have br := bl r[y.toNat] (xk _ (yc hy))
        refine ⟨l, _, y, y.toNat, .int r[y.toNat], rfl, rfl, f6, by omega, by omega, uk y0 (by omega), (by rw [w_, wY hy];rfl), ?_⟩
        generalize hw : r[y.toNat]=w' at br ⊢
        have er : (r.map V.int).eraseIdx y.toNat=(r.eraseIdx y.toNat).map V.int := p7 r _
        rw [er]
        have g6 := sb6 _ _ nl2d (k5 _ _ nll.symm g4)
        have f7 : (upd H6 l (.lst ((r.eraseIdx y.toNat).map V.int))) l=some (.lst ((r.eraseIdx y.toNat).map V.int)) := ab
        have g7 : (upd H6 l (.lst ((r.eraseIdx y.toNat).map V.int))) l2=some (.lst (J.map V.int)) := by rw [ay nll.symm];exact g6
        have F7 : Tp (upd H6 l (.lst ((r.eraseIdx y.toNat).map V.int))) d c := F6.but nld nlc aU.upd
        have k7 : ∀ b o, b≠d → b≠l → H4 b=some o → (upd H6 l (.lst ((r.eraseIdx y.toNat).map V.int))) b=some o := fun b o n1 n2 e => by rw [ay n2];exact sb6 _ _ n1 (k5 _ _ n2 e)
        generalize upd H6 l (.lst ((r.eraseIdx y.toNat).map V.int))=H7 at f7 g7 F7 k7 ⊢
        refine ⟨_, rfl, _, rfl, _, rfl, l2, _, x, x.toNat, rfl, rfl, g7, (by rw [← ixN_nat (show x.toNat < (J.map V.int).length by rw [fu];omega), zo bx.1]), ?_⟩
        have g8 : (upd H7 l2 (.lst ((J.map V.int).set x.toNat (.int w')))) l2=some (.lst ((J.set x.toNat w').map V.int)) := by rw [ab, z9]
        have k8 : ∀ b o, b≠l2 → H7 b=some o → (upd H7 l2 (.lst ((J.map V.int).set x.toNat (.int w')))) b=some o := fun b o nb e => by rw [ay nb];exact e
        have F8 : Tp (upd H7 l2 (.lst ((J.map V.int).set x.toNat (.int w')))) d c := F7.but nl2d nl2c aU.upd
        generalize upd H7 l2 (.lst ((J.map V.int).set x.toNat (.int w')))=H8 at g8 k8 F8 ⊢
        refine ⟨_, rfl, _, rfl, _, rfl, l2, _, w', w'.toNat, rfl, rfl, g8, (by rw [← ixN_nat (show w'.toNat < ((J.set x.toNat w').map V.int).length by rw [fu, ye];omega), zo br.1]), ?_⟩
        have el : (r.eraseIdx y.toNat).length+1=r.length := by rw [List.length_eraseIdx_of_lt hy];omega
        refine ⟨(r.eraseIdx y.toNat).length, by rw [xM];omega, r.eraseIdx y.toNat, (J.set x.toNat w').set w'.toNat x, _, _, g - 1, rfl, ?_, by rw [ab, z9, z9, z9], by omega, by omega, fun z hz => bl z (xk _ (List.mem_of_mem_eraseIdx hz)), by rw [ye, ye];exact jl, fun z hz => ?_, F8.but nl2d nl2c aU.upd, fun b o nb e => ?_, rfl⟩
        · rw [ay nll];exact k8 _ _ nll f7
        · exact mV (P := fun z => 0≤z ∧ z < 200) (fun y hy => mV (P := fun z => 0≤z ∧ z < 200) bJ ⟨br.1, by omega⟩ hy) ⟨bx.1, by omega⟩ hz
        · have n1 := ak e hlH
          have n2 := ak e hl2H
          rw [ay n2]
          exact k8 _ _ n2 (k7 _ _ nb n1 (sb4 _ _ nb e))
    · rintro σ H3 ⟨J, b4, b5, rfl, g3, jl, bJ, F3, sb3⟩
      exact ⟨_, rfl, l2, _, rfl, .inl ⟨SqL.of g3, fun j hj => k j J _ (F3.new hj) (sb3.trans (au.new hj).b) ab jl bJ⟩⟩
end
end Kx
namespace Kx
open PySem PySem.Spec PyProof.Rows L2 Wd
theorem wU {u : TT}{σ : L2.St}{Q : Bool → Hp → Prop}{H : Hp}{b : Bool}(h1 : b=true → Q true H)(h2 : b=false → u σ H Q) : jd u σ Q b H := by
  cases b with
  | true => exact oq (h1 rfl)
  | false => exact m8 (h2 rfl)
theorem bU (xs : List V)(k : Nat) : (d3 xs none (some (k : Int))).length=min k xs.length := by
  unfold d3
  rw [HT.da, HT.cJ, xo, xX]
  omega
theorem bK (xs : List V)(k : Nat) : (d3 xs (some (k : Int)) none).length=xs.length - k := by
  unfold d3
  rw [HT.da, HT.cJ, xo, xX]
  omega
theorem gC (xs : List V)(k m : Nat) : (d3 xs (some (k : Int)) (some (m : Int))).length=min m xs.length - k := by
  unfold d3
  rw [HT.cJ, HT.cJ, xo, xX]
  omega
theorem cC {d e : Addr}{H : Hp}{b n : Nat}{xs : List V}{lo hi : Option Int}(h : ∀ y∈xs, Pl d e H b n y) : ∀ y∈d3 xs lo hi, Pl d e H b n y := fun y hy => h y (nZ hy)
theorem c7 {d e : Addr}{H : Hp}{b n : Nat}{xs ys : List V}(h : ∀ y∈xs, Pl d e H b n y)(g : ∀ y∈ys, Pl d e H b n y) : ∀ y∈xs++ys, Pl d e H b n y := fun y hy => (xF.mp hy).elim (h y) (g y)
theorem i7 {d e : Addr}{H : Hp}{b n : Nat}{x : V}(h : Pl d e H b n x) : ∀ y∈[x], Pl d e H b n y := fun y hy => by rw [xf.mp hy]; exact h
theorem jP {α : Type}{xs : List α}{j : Int}(h0 : 0≤j)(h1 : j < xs.length) : ∃ v, v∈xs ∧ atI xs j=some v := by
  have hj : j.toNat < xs.length := by omega
  refine ⟨xs[j.toNat], yc hj, ?_⟩
  unfold atI ixN
  rw [if_pos h0, if_pos (by omega)]
  exact wY hj
theorem rL {d e : Addr}{H : Hp}{b n : Nat}{xs : List V}(h : xs.all qp=true) : ∀ y∈xs, Pl d e H b n y := fun y hy => .flat (xP.mp h y hy)
section
variable {P : Program} {w : World} {K : PySem.W.Frag} {mg : Str → Option Value} {base : Heap} {aB : Addr}
inductive rM (vs : List V)(H : Hp)(Q : VK)(u3_ : XK) : Prop
  | mk : ∀ (d c r e : Addr) (xs : List V), (vs=[.ref d, .ref r]) → (Tp H d c) → (∃ o, H e=some o) → (H r=some (.tup xs)) → (xs.length≤130) → (∀ y∈xs, ∃ i : Int, y = .int i) → (∀ (x : V) (H' : Hp), Tp H' d c → aU d H H' → Pl d e H' 140 2 x → Q x H') → rM vs H Q u3_
abbrev i8 : Stmt := top 38
theorem oY : aF ["_law_tape_here", "_law_row", "_law_at", "_law_way", "_law_odd"] ["_law_tape_here", "_law_row"] (av i8) := ⟨rfl, rfl, rfl, by decide +kernel, rfl, by decide +kernel, by decide +kernel⟩
theorem rN (D : Df K mg "_law_row_bent" i8)(T : Bt K w mg aB)(F_draw : Fnc P w K mg base "_law_draw" ["_law_tape_here", "_law_many"] 1 cg) : Fnc P w K mg base "_law_row_bent" ["_law_tape_here", "_law_row"] 2 rM := by
  have sc := oY
  refine D.ok sc (fun _ _ _ _ _ _ us hl => by obtain ⟨_, _, rfl⟩ := jK hl;rfl) (fun vs H Q E h => ?_) (fun f cdv A outer s H vs Q E hr h => ?_)
  · obtain ⟨d, c, r, e, xs, rfl, _⟩ := h
    rfl
  · obtain ⟨d, c, r, e, xs, rfl, F, he, hr0, hl, hx, k⟩ := h
    have l16 := a8
    refine ⟨_, (@ag _ _ _ _ _ (@aC _ _ (2) _ _ _ _ sc.nd rfl (Or.inl rfl) (@aJ _ _ _ _ _ _ _ _ _ _ _ F_draw hr (by decide) rfl (@aa _ _ _ _ _ (pv 0) (@aa _ _ _ _ _ (@aG _ _ _ _ _ _ _ _ bt (@ar _ _ _ _ _ _ _ _ _ az (by rfl) T.len xn (@aa _ _ _ _ _ (pv 1) ae (by rfl)) (by decide) (by decide) (by rfl) (by rfl)) ao) ae (by rfl)) (by rfl)) (by decide) (by rfl) (by rfl)) (by rfl) (by first | exact .inl rfl | exact .inr rfl | assumption)) (@ag _ _ _ _ _ (@aC _ _ (3) _ _ _ _ sc.nd rfl (Or.inl rfl) (@aJ _ _ _ _ _ _ _ _ _ _ _ F_draw hr (by decide) rfl (@aa _ _ _ _ _ (pv 0) (@aa _ _ _ _ _ ao ae (by rfl)) (by rfl)) (by decide) (by rfl) (by rfl)) (by rfl) (by first | exact .inl rfl | exact .inr rfl | assumption)) (@ag _ _ _ _ _ (@bN _ _ _ _ _ _ _ _ (@aH _ _ _ _ _ _ _ _ cS (pv 3) ao (aK _)) (@aq _ _ _ (@aE _ _ _ _ (@aG _ _ _ _ _ _ _ _ cO (@aN _ _ _ _ _ _ _ _ _ _ cA (pv 1) bf (@aV _ _ _ (pv 2))) (@aN _ _ _ _ _ _ _ _ _ _ cA (pv 1) (@aV _ _ _ (@aG _ _ _ _ _ _ _ _ bt (pv 2) ao)) bf)))) aR) (@ag _ _ _ _ _ (@bN _ _ _ _ _ _ _ _ (@aH _ _ _ _ _ _ _ _ cS (pv 3) ao (aK _)) (@aq _ _ _ (@aE _ _ _ _ (@aG _ _ _ _ _ _ _ _ cO (@aG _ _ _ _ _ _ _ _ cO (@aN _ _ _ _ _ _ _ _ _ _ cA (pv 1) bf (@aV _ _ _ (pv 2))) (@a4 _ _ _ _ _ (@aa _ _ _ _ _ ao ae (by rfl)))) (@aN _ _ _ _ _ _ _ _ _ _ cA (pv 1) (@aV _ _ _ (pv 2)) bf)))) aR) (@ag _ _ _ _ _ (@bN _ _ _ _ _ _ _ _ (@aH _ _ _ _ _ _ _ _ cS (pv 3) ao (aK _)) (@aq _ _ _ (@aE _ _ _ _ (@aG _ _ _ _ _ _ _ _ cO (@aG _ _ _ _ _ _ _ _ cO (@aN _ _ _ _ _ _ _ _ _ _ cA (pv 1) bf (@aV _ _ _ (pv 2))) (@lP _ _ _ _ _ _ _ (@aN _ _ _ _ _ _ _ _ _ _ cA (pv 1) (@aV _ _ _ (pv 2)) (@aV _ _ _ (@aG _ _ _ _ _ _ _ _ bt (pv 2) ao))) (@iG _ _ _ _ _ _ eI ao))) (@aN _ _ _ _ _ _ _ _ _ _ cA (pv 1) (@aV _ _ _ (@aG _ _ _ _ _ _ _ _ bt (pv 2) ao)) bf)))) aR) (@ag _ _ _ _ _ (@bN _ _ _ _ _ _ _ _ (@PW.pt _ _ _ (@dE _ _ _ _ _ _ _ (@aH _ _ _ _ _ _ _ _ cS (pv 3) ao (aK _)) (@c8 _ _ _ _ (@aH _ _ _ _ _ _ _ _ cS (pv 2) (@ar _ _ _ _ _ _ _ _ _ az (by rfl) T.len xn (@aa _ _ _ _ _ (pv 1) ae (by rfl)) (by decide) (by decide) (by rfl) (by rfl)) (aK _))))) (@aq _ _ _ (@aE _ _ _ _ (@aX _ _ _ _ _ _ _ _ _ cK (by rfl) T.list jv (@aa _ _ _ _ _ (pv 1) ae (by rfl)) (by decide) (by decide) (by rfl) (by rfl)))) aR) (@ag _ _ _ _ _ (@aC _ _ (4) _ _ _ _ sc.nd rfl (Or.inl rfl) (@bj _ _ _ _ (@g0 _ _ _ _ _ c4 (@g0 _ _ _ _ _ c4 (@g0 _ _ _ _ _ o9 (@g0 _ _ _ _ _ (@aG _ _ _ _ _ _ _ _ bt (@aL _ _ _ _ _ _ _ aY (pv 1) (pv 2) (fun _ _ => rfl)) ao) (@g0 _ _ _ _ _ (@aG _ _ _ _ _ _ _ _ pf (@aL _ _ _ _ _ _ _ aY (pv 1) (pv 2) (fun _ _ => rfl)) ao) (@g0 _ _ _ _ _ (@iG _ _ _ _ _ _ eI ao) (@g0 _ _ _ _ _ (pv 2) (@g0 _ _ _ _ _ bP (@g0 _ _ _ _ _ (@a4 _ _ _ _ _ (@aa _ _ _ _ _ (@aL _ _ _ _ _ _ _ aY (pv 1) (pv 2) (fun _ _ => rfl)) ae (by rfl))) (@g0 _ _ _ _ _ ao (@g0 _ _ _ _ _ (@aG _ _ _ _ _ _ _ _ ph ao ao) ae (by rfl)) (by rfl)) (by rfl)) (by rfl)) (by rfl)) (by rfl)) (by rfl)) (by rfl)) (by rfl)) (by rfl)) (by rfl))) (by rfl) (by first | exact .inl rfl | exact .inr rfl | assumption)) (@aq _ _ _ (@aE _ _ _ _ (@aG _ _ _ _ _ _ _ _ cO (@aG _ _ _ _ _ _ _ _ cO (@aN _ _ _ _ _ _ _ _ _ _ cA (pv 1) bf (@aV _ _ _ (pv 2))) (@a4 _ _ _ _ _ (@aa _ _ _ _ _ (@aL _ _ _ _ _ _ _ a_ (pv 4) (@aJ _ _ _ _ _ _ _ _ _ _ _ F_draw hr (by decide) rfl (@aa _ _ _ _ _ (pv 0) (@aa _ _ _ _ _ ao ae (by rfl)) (by rfl)) (by decide) (by rfl) (by rfl)) (fun _ _ => rfl)) ae (by rfl)))) (@aN _ _ _ _ _ _ _ _ _ _ cA (pv 1) (@aV _ _ _ (@aG _ _ _ _ _ _ _ _ bt (pv 2) ao)) bf))))))))))), ?_⟩
    refine ⟨_, rfl, _, rfl, r, _, rfl, .inr (SqT.of hr0), _, _, rfl, rfl, d, c, _, rfl, F, by omega, by omega, fun p0 H1 a0 a1 F1 sb1 => ?_⟩
    obtain ⟨p, rfl⟩ := yu a0
    refine ⟨_, rfl, d, c, _, rfl, F1, by decide, by decide, fun w H2 w0 w1 F2 sb2 => ?_⟩
    have sb2 := sb1.trans sb2
    have h2 := sb2 _ _ (F.nt hr0) hr0
    have x2 : ∀ (H' : Hp), ∀ y∈xs, Pl d e H' 140 1 y := fun H' y hy => by obtain ⟨i, rfl⟩ := hx y hy;exact .flat rfl
    have ep : (p : Int)+1=((p+1 : Nat) : Int) := by omega
    have ep2 : (p : Int)+2=((p+2 : Nat) : Int) := by omega
    have fin : ∀ (q : Addr) (zs : List V) (H' : Hp), Tp H' d c → aU d H H' → H' q=some (.tup zs) → zs.length≤140 → (∀ y∈zs, Pl d e H' 140 1 y) → Q (.ref q) H' := fun q zs H' F' sb' g' l' x' => k _ _ F' sb' (.tup g' l' x')
    have lst : ∀ (H' : Hp) (l : Addr), Tp H' d c → aU d H H' → H' l=none → Q (.ref l) (upd H' l (.lst xs)) := fun H' l F' sb' h' => k _ _ (F'.new h') (sb'.trans (au.new h').b) (.lst ab (F'.ne h') (tH (uy he F' sb') h') (by omega) (x2 _))
    refine ⟨_, rfl, rfl, _, rfl, gF (fun _ => ?_) (fun _ => ?_)⟩
    · refine ⟨_, rfl, _, rfl, _, rfl, r, xs, rfl, h2, fun p1 H3 s3 g3 => ?_⟩
      refine ⟨_, rfl, _, rfl, _, _, rfl, rfl, _, rfl, r, xs, rfl, s3 _ _ h2, fun p2 H4 s4 g4 => ?_⟩
      have s24 := s3.trans s4
      refine ⟨p1, p2, _, _, rfl, rfl, s4 _ _ g3, g4, (by rw [ep, bU, bK];omega), fun q H5 s5 g5 => ?_⟩
      have s25 := s24.trans s5
      refine fin q _ _ (F2.same s25) (sb2.trans s25.b) g5 (by rw [w4, ep, bU, bK];omega) (c7 (cC (x2 _)) (cC (x2 _)))
    refine ⟨_, rfl, rfl, _, rfl, gF (fun _ => ?_) (fun _ => ?_)⟩
    · refine ⟨_, rfl, _, rfl, _, rfl, r, xs, rfl, h2, fun p1 H3 s3 g3 => ?_⟩
      refine ⟨(aD (n := 1) (by decide)), fun t2 ht2 => ?_⟩
      have s5 : au H3 (upd H3 t2 (.tup [.int 0])) := au.new ht2
      have g5 : (upd H3 t2 (.tup [.int 0])) t2=_ := ab
      generalize upd H3 t2 (.tup [.int 0])=H5 at s5 g5 ⊢
      refine ⟨p1, t2, _, _, rfl, rfl, s5 _ _ g3, g5, (by rw [bU];show _+1≤sizeLine;omega), fun q H6 s6 g6 => ?_⟩
      have s26 := s3.trans (s5.trans s6)
      refine ⟨_, rfl, _, rfl, _, rfl, r, xs, rfl, s26 _ _ h2, fun p4 H7 s7 g7 => ?_⟩
      refine ⟨q, p4, _, _, rfl, rfl, s7 _ _ g6, g7, (by rw [w4, bU, bK];show _+1+_≤sizeLine;omega), fun q2 H8 s8 g8 => ?_⟩
      have s28 := s26.trans (s7.trans s8)
      refine fin q2 _ _ (F2.same s28) (sb2.trans s28.b) g8 (by rw [w4, w4, bU, bK];show _+1+_≤_;omega) (c7 (c7 (cC (x2 _)) (i7 (.flat rfl))) (cC (x2 _)))
    refine ⟨_, rfl, rfl, _, rfl, gF (fun _ => ?_) (fun _ => ?_)⟩
    · refine ⟨_, rfl, _, rfl, _, rfl, r, xs, rfl, h2, fun p1 H3 s3 g3 => ?_⟩
      refine ⟨_, rfl, _, rfl, _, rfl, _, rfl, _, _, rfl, rfl, _, rfl, r, xs, rfl, s3 _ _ h2, fun p2 H4 s4 g4 => ?_⟩
      have s24 := s3.trans s4
      refine ⟨_, rfl, p2, _, rfl, rfl, g4, fun p3 h3 => ?_⟩
      have s5 : au H4 (upd H4 p3 (.tup (d3 xs (some (p : Int)) (some ((p : Int)+2))).reverse)) := au.new h3
      have g5 : (upd H4 p3 (.tup (d3 xs (some (p : Int)) (some ((p : Int)+2))).reverse)) p3=_ := ab
      generalize upd H4 p3 (.tup (d3 xs (some (p : Int)) (some ((p : Int)+2))).reverse)=H5 at s5 g5 ⊢
      have s25 := s24.trans s5
      refine ⟨p1, p3, _, _, rfl, rfl, s5 _ _ (s4 _ _ g3), g5, (by rw [xW, ep2, bU, gC];omega), fun q H6 s6 g6 => ?_⟩
      refine ⟨_, rfl, _, rfl, _, _, rfl, rfl, _, rfl, r, xs, rfl, (s25.trans s6) _ _ h2, fun p4 H7 s7 g7 => ?_⟩
      refine ⟨q, p4, _, _, rfl, rfl, s7 _ _ g6, g7, (by rw [w4, xW, ep2, bU, gC, bK];omega), fun q2 H8 s8 g8 => ?_⟩
      have s28 := s25.trans (s6.trans (s7.trans s8))
      refine fin q2 _ _ (F2.same s28) (sb2.trans s28.b) g8 (by rw [w4, w4, xW, ep2, bU, gC, bK];omega) (c7 (c7 (cC (x2 _)) (fun y hy => cC (x2 _) y (yT.mp hy))) (cC (x2 _)))
    refine ⟨_, rfl, rfl, _, rfl, wU (fun _ => fC ?_) (fun _ => ?_)⟩
    · exact ⟨_, rfl, r, xs, rfl, .inr (SqT.of h2), fun l hl' => lst H2 l F2 sb2 hl'⟩
    refine ⟨_, rfl, _, rfl, r, _, rfl, .inr (SqT.of h2), rfl, _, rfl, gF (fun _ => ?_) (fun hb => ?_)⟩
    · exact ⟨_, rfl, r, xs, rfl, .inr (SqT.of h2), fun l hl' => lst H2 l F2 sb2 hl'⟩
    have hpl : p < xs.length := by
      have : ¬ p=xs.length := fun e => hb (by rw [e];simp)
      omega
    have ax : xs[p]? = some xs[p] := wY hpl
    obtain ⟨i, hi⟩ := hx xs[p] (yc hpl)
    rw [hi] at ax
    refine ⟨_, rfl, _, rfl, r, _, _, _, rfl, rfl, SqT.of h2, bZ ax, _, _, rfl, rfl, ?_⟩
    refine ⟨_, rfl, _, rfl, r, _, _, _, rfl, rfl, SqT.of h2, bZ ax, _, _, rfl, rfl, ?_⟩
    refine ⟨_, rfl, _, rfl, _, rfl, _, rfl, r, _, _, _, rfl, rfl, SqT.of h2, bZ ax, (aD (n := 1) (by decide)), fun t1 ht1 => ?_⟩
    have s3 : au H2 (upd H2 t1 (.tup [.int i])) := au.new ht1
    have g3 : (upd H2 t1 (.tup [.int i])) t1=some (.tup [.int i]) := ab
    generalize upd H2 t1 (.tup [.int i])=H3 at s3 g3 ⊢
    refine ⟨_, _, rfl, rfl, ⟨by decide, by decide, by decide⟩, (aD (n := 11) (by decide)), fun lo hlo => ?_⟩
    have s4 : au H3 (upd H3 lo (.lst [.bl true, .bl false, .non, .int (i+1), .int (i - 1), .int (-1), .int (p : Int), .str "0", .ref t1, .int 60, .int (10 ^ 30)])) := au.new hlo
    have g4 : (upd H3 lo (.lst [.bl true, .bl false, .non, .int (i+1), .int (i - 1), .int (-1), .int (p : Int), .str "0", .ref t1, .int 60, .int (10 ^ 30)])) lo=some (.lst [.bl true, .bl false, .non, .int (i+1), .int (i - 1), .int (-1), .int (p : Int), .str "0", .ref t1, .int 60, .int (10 ^ 30)]) := ab
    have nlo : lo≠d := (F2.same s3).ne hlo
    change eF (iF 4) _ _ (.ref lo) (upd H3 lo (.lst [.bl true, .bl false, .non, .int (i+1), .int (i - 1), .int (-1), .int (p : Int), .str "0", .ref t1, .int 60, .int (10 ^ 30)]))
    generalize upd H3 lo (.lst [.bl true, .bl false, .non, .int (i+1), .int (i - 1), .int (-1), .int (p : Int), .str "0", .ref t1, .int 60, .int (10 ^ 30)])=H4 at s4 g4 ⊢
    have s24 := s3.trans s4
    have F4 := F2.same s24
    refine ⟨_, rfl, _, rfl, _, rfl, r, xs, rfl, s24 _ _ h2, fun p1 H5 s5 g5 => ?_⟩
    refine ⟨_, rfl, _, rfl, d, c, _, rfl, F4.same s5, by decide, by decide, fun y H6 y0 y1 F6 sb6 => ?_⟩
    obtain ⟨x, hxm, ax2⟩ := jP (xs := [V.bl true, .bl false, .non, .int (i+1), .int (i - 1), .int (-1), .int (p : Int), .str "0", .ref t1, .int 60, .int (10 ^ 30)]) y0 y1
    have g6 := sb6 _ _ nlo (s5 _ _ g4)
    refine ⟨lo, _, _, _, rfl, rfl, SqL.of g6, ax2, (aD (n := 1) (by decide)), fun t ht => ?_⟩
    have t6 := sb6 _ _ ((F4.same s5).nt (s5 _ _ (s4 _ _ g3))) (s5 _ _ (s4 _ _ g3))
    have px : Pl d e H6 140 1 x := by
      simp only [xr, xE, yF] at hxm
      rcases hxm with rfl | rfl | rfl | rfl | rfl | rfl | rfl | rfl | rfl | rfl | rfl
      iterate 8 (first | exact .flat rfl | skip)
      all_goals first | exact .flat rfl | exact .tup t6 (by show 1≤140;decide) (rL rfl)
    have s7 : au H6 (upd H6 t (.tup [x])) := au.new ht
    have g7 : (upd H6 t (.tup [x])) t=some (.tup [x]) := ab
    generalize upd H6 t (.tup [x])=H7 at s7 g7 ⊢
    have sb26 : aU d H2 H7 := (s24.trans s5).b.trans (sb6.trans s7.b)
    have g57 := s7 _ _ (sb6 _ _ ((F4.same s5).nt g5) g5)
    refine ⟨p1, t, _, _, rfl, rfl, g57, g7, (by rw [bU];show _+1≤sizeLine;omega), fun q H8 s8 g8 => ?_⟩
    refine ⟨_, rfl, _, rfl, _, _, rfl, rfl, _, rfl, r, xs, rfl, s8 _ _ (sb26 _ _ (F2.nt h2) h2), fun p4 H9 s9 g9 => ?_⟩
    refine ⟨q, p4, _, _, rfl, rfl, s9 _ _ g8, g9, (by rw [w4, ep, bU, bK];show _+1+_≤sizeLine;omega), fun q2 H10 s10 g10 => ?_⟩
    have s710 := s8.trans (s9.trans s10)
    refine fin q2 _ _ ((F6.same s7).same s710) (sb2.trans (sb26.trans s710.b)) g10 (by rw [w4, w4, ep, bU, bK];show _+1+_≤_;omega) (c7 (c7 (cC (x2 _)) (i7 (px.same (s7.trans s710)))) (cC (x2 _)))
end
end Kx
namespace Kx
open PySem PySem.Spec PyProof.Rows L2 Wd
section
variable {P : Program} {w : World} {K : PySem.W.Frag} {mg : Str → Option Value} {base : Heap} {aB : Addr}
inductive i9 (vs : List V)(H : Hp)(Q : VK)(u3_ : XK) : Prop
  | mk : ∀ (d c r a1 a2 e : Addr) (xs ys : List V), (vs=[.ref d, .ref r]) → (Tp H d c) → (∃ o, H e=some o) → (H r=some (.tup [.ref a1, .ref a2])) → (H a1=some (.tup xs)) → (H a2=some (.tup ys)) → (xs.length≤130) → (ys.length≤130) → (∀ y∈xs, ∃ i : Int, y = .int i) → (∀ y∈ys, ∃ i : Int, y = .int i) → (∀ (x : V) (H' : Hp), Tp H' d c → aU d H H' → Pl d e H' 140 3 x → Q x H') → i9 vs H Q u3_
abbrev mY : Stmt := top 39
theorem rO : aF ["_law_tape_here", "_law_picture", "_law_many", "_law_joins", "_law_way"] ["_law_tape_here", "_law_picture"] (av mY) := ⟨rfl, rfl, rfl, by decide +kernel, rfl, by decide +kernel, by decide +kernel⟩
theorem um (D : Df K mg "_law_bent" mY)(T : Bt K w mg aB)(F_draw : Fnc P w K mg base "_law_draw" ["_law_tape_here", "_law_many"] 1 cg)(F_rbent : Fnc P w K mg base "_law_row_bent" ["_law_tape_here", "_law_row"] 2 rM) : Fnc P w K mg base "_law_bent" ["_law_tape_here", "_law_picture"] 3 i9 := by
  have sc := rO
  refine D.ok sc (fun _ _ _ _ _ _ us hl => by obtain ⟨_, _, rfl⟩ := jK hl;rfl) (fun vs H Q E h => ?_) (fun f cdv A outer s H vs Q E hr h => ?_)
  · obtain ⟨d, c, r, a1, a2, e, xs, ys, rfl, _⟩ := h
    rfl
  · obtain ⟨d, c, r, a1, a2, e, xs, ys, rfl, F, he, hr0, h1, h2, l1, l2, x1, x2, k⟩ := h
    have l16 := a8
    have fl : ∀ {zs : List V}, (∀ y∈zs, ∃ i : Int, y = .int i) → ∀ (H' : Hp) (n : Nat), ∀ y∈zs, Pl d e H' 140 n y := fun h H' n y hy => by obtain ⟨i, rfl⟩ := h y hy;exact .flat rfl
    have p1 : ∀ (H' : Hp) (n : Nat), H' a1=some (.tup xs) → Pl d e H' 140 (n+1) (.ref a1) := fun H' n h => .tup h (by omega) (fl x1 H' n)
    have p2 : ∀ (H' : Hp) (n : Nat), H' a2=some (.tup ys) → Pl d e H' 140 (n+1) (.ref a2) := fun H' n h => .tup h (by omega) (fl x2 H' n)
    refine ⟨_, (@ag _ _ _ _ _ (@cD _ _ _ _ _ _ (pv 1) (@dX _ _ _ _ _ _ rfl (@aW _ _ _ _ _ (@aA _ _ (2) _ sc.nd rfl (Or.inl rfl) (by first | exact .inl rfl | exact .inr rfl | assumption)) (@aW _ _ _ _ _ (@aA _ _ (3) _ sc.nd rfl (Or.inl rfl) (by first | exact .inl rfl | exact .inr rfl | assumption)) cI (by rfl)) (by rfl)) (by rfl) (by rfl)) (by rfl) (by rfl) (by rfl)) (@ag _ _ _ _ _ (@aC _ _ (4) _ _ _ _ sc.nd rfl (Or.inl rfl) (@aJ _ _ _ _ _ _ _ _ _ _ _ F_draw hr (by decide) rfl (@aa _ _ _ _ _ (pv 0) (@aa _ _ _ _ _ ao ae (by rfl)) (by rfl)) (by decide) (by rfl) (by rfl)) (by rfl) (by first | exact .inl rfl | exact .inr rfl | assumption)) (@ag _ _ _ _ _ (@bN _ _ _ _ _ _ _ _ (@aH _ _ _ _ _ _ _ _ cS (pv 4) ao (aK _)) (@aq _ _ _ (@aE _ _ _ _ (@aL _ _ _ _ _ _ _ a_ (@bj _ _ _ _ (@g0 _ _ _ _ _ (@bj _ _ _ _ (@aa _ _ _ _ _ (pv 2) (@aa _ _ _ _ _ (pv 3) ae (by rfl)) (by rfl))) (@g0 _ _ _ _ _ (@a4 _ _ _ _ _ (@aa _ _ _ _ _ (pv 2) ae (by rfl))) (@g0 _ _ _ _ _ (@a4 _ _ _ _ _ (@aa _ _ _ _ _ (pv 2) (@aa _ _ _ _ _ (pv 3) (@aa _ _ _ _ _ (@a4 _ _ _ _ _ ae) ae (by rfl)) (by rfl)) (by rfl))) (@g0 _ _ _ _ _ (@a4 _ _ _ _ _ (@aa _ _ _ _ _ (pv 3) (@aa _ _ _ _ _ (pv 2) ae (by rfl)) (by rfl))) (@g0 _ _ _ _ _ (pv 2) (@g0 _ _ _ _ _ o9 ae (by rfl)) (by rfl)) (by rfl)) (by rfl)) (by rfl)) (by rfl))) (@aJ _ _ _ _ _ _ _ _ _ _ _ F_draw hr (by decide) rfl (@aa _ _ _ _ _ (pv 0) (@aa _ _ _ _ _ ao ae (by rfl)) (by rfl)) (by decide) (by rfl) (by rfl)) (fun _ _ => rfl)))) aR) (@aq _ _ _ (@aE _ _ _ _ (@fJ _ _ _ _ _ _ _ _ (@aH _ _ _ _ _ _ _ _ qc (pv 4) ao (aK _)) (@a4 _ _ _ _ _ (@aa _ _ _ _ _ (@aJ _ _ _ _ _ _ _ _ _ _ _ F_rbent hr (by decide) rfl (@aa _ _ _ _ _ (pv 0) (@aa _ _ _ _ _ (pv 2) ae (by rfl)) (by rfl)) (by decide) (by rfl) (by rfl)) (@aa _ _ _ _ _ (pv 3) ae (by rfl)) (by rfl))) (@a4 _ _ _ _ _ (@aa _ _ _ _ _ (pv 2) (@aa _ _ _ _ _ (@aJ _ _ _ _ _ _ _ _ _ _ _ F_rbent hr (by decide) rfl (@aa _ _ _ _ _ (pv 0) (@aa _ _ _ _ _ (pv 3) ae (by rfl)) (by rfl)) (by decide) (by rfl) (by rfl)) ae (by rfl)) (by rfl))))))))), ?_⟩
    refine ⟨_, rfl, r, _, rfl, SqT.of hr0, rfl, _, _, rfl, _, _, rfl, rfl, ?_⟩
    refine ⟨_, rfl, d, c, _, rfl, F, by decide, by decide, fun w H1 w0 w1 F1 sb1 => ?_⟩
    have g1 := sb1 _ _ (F.nt h1) h1
    have g2 := sb1 _ _ (F.nt h2) h2
    refine ⟨_, rfl, rfl, _, rfl, gF (fun _ => ?_) (fun _ => ?_)⟩
    · refine ⟨_, rfl, _, rfl, (aD (n := 2) (by decide)), fun t1 ht1 => ?_⟩
      have s1 : au H1 (upd H1 t1 (.lst [.ref a1, .ref a2])) := au.new ht1
      have q1 : (upd H1 t1 (.lst [.ref a1, .ref a2])) t1=some (.lst [.ref a1, .ref a2]) := ab
      have n1 := F1.ne ht1
      have e1 := tH (uy he F1 sb1) ht1
      generalize upd H1 t1 (.lst [.ref a1, .ref a2])=H2 at s1 q1 ⊢
      refine ⟨_, rfl, (aD (n := 1) (by decide)), fun t2 ht2 => ?_⟩
      have s2 : au H2 (upd H2 t2 (.tup [.ref a1])) := au.new ht2
      have q2 : (upd H2 t2 (.tup [.ref a1])) t2=some (.tup [.ref a1]) := ab
      generalize upd H2 t2 (.tup [.ref a1])=H3 at s2 q2 ⊢
      refine ⟨_, rfl, _, rfl, (aD (n := 0) (by decide)), fun t3 ht3 => ?_⟩
      have s3 : au H3 (upd H3 t3 (.tup [])) := au.new ht3
      have q3 : (upd H3 t3 (.tup [])) t3=some (.tup []) := ab
      generalize upd H3 t3 (.tup [])=H4 at s3 q3 ⊢
      refine ⟨(aD (n := 3) (by decide)), fun t4 ht4 => ?_⟩
      have s4 : au H4 (upd H4 t4 (.tup [.ref a1, .ref a2, .ref t3])) := au.new ht4
      have q4 : (upd H4 t4 (.tup [.ref a1, .ref a2, .ref t3])) t4=some (.tup [.ref a1, .ref a2, .ref t3]) := ab
      generalize upd H4 t4 (.tup [.ref a1, .ref a2, .ref t3])=H5 at s4 q4 ⊢
      refine ⟨_, rfl, _, rfl, (aD (n := 2) (by decide)), fun t5 ht5 => ?_⟩
      have s5 : au H5 (upd H5 t5 (.tup [.ref a2, .ref a1])) := au.new ht5
      have q5 : (upd H5 t5 (.tup [.ref a2, .ref a1])) t5=some (.tup [.ref a2, .ref a1]) := ab
      generalize upd H5 t5 (.tup [.ref a2, .ref a1])=H6 at s5 q5 ⊢
      refine ⟨_, rfl, (aD (n := 6) (by decide)), fun lo hlo => ?_⟩
      have s6 : au H6 (upd H6 lo (.lst [.ref t1, .ref t2, .ref t4, .ref t5, .ref a1, .non])) := au.new hlo
      have q6 : (upd H6 lo (.lst [.ref t1, .ref t2, .ref t4, .ref t5, .ref a1, .non])) lo=some (.lst [.ref t1, .ref t2, .ref t4, .ref t5, .ref a1, .non]) := ab
      have s26 := s2.trans (s3.trans (s4.trans s5))
      have s16 := s1.trans s26
      have nlo := (F1.same s16).ne hlo
      generalize upd H6 lo (.lst [.ref t1, .ref t2, .ref t4, .ref t5, .ref a1, .non])=H7 at s6 q6 ⊢
      have s17 := s16.trans s6
      have F7 := F1.same s17
      refine ⟨_, rfl, d, c, _, rfl, F7, by decide, by decide, fun y H8 y0 y1 F8 sb8 => ?_⟩
      obtain ⟨x, hxm, ax⟩ := jP (xs := [V.ref t1, .ref t2, .ref t4, .ref t5, .ref a1, .non]) y0 y1
      refine ⟨lo, _, _, _, rfl, rfl, SqL.of (sb8 _ _ nlo q6), ax, ?_⟩
      have all : ∀ z∈[V.ref t1, .ref t2, .ref t4, .ref t5, .ref a1, .non], Pl d e H7 140 3 z := by
        have u1 := p1 H7 0 (s17 _ _ g1)
        have u2 := p2 H7 0 (s17 _ _ g2)
        have u3 : Pl d e H7 140 1 (.ref t3) := .tup ((s4.trans (s5.trans s6)) _ _ q3) (by show 0≤140;decide) (fun y hy => by cases hy)
        intro z hz
        simp only [xr, xE, yF] at hz
        rcases hz with rfl | rfl | rfl | rfl | rfl | rfl
        · refine .lst ((s26.trans s6) _ _ q1) n1 e1 (by show 2≤140;decide) fun y hy => ?_
          simp only [xr, xE, yF] at hy
          rcases hy with rfl | rfl
          · exact u1.up (wZ _) (by omega)
          · exact u2.up (wZ _) (by omega)
        · exact .tup ((s3.trans (s4.trans (s5.trans s6))) _ _ q2) (by show 1≤140;decide) (i7 (u1.up (wZ _) (by omega)))
        · refine .tup ((s5.trans s6) _ _ q4) (by show 3≤140;decide) fun y hy => ?_
          simp only [xr, xE, yF] at hy
          rcases hy with rfl | rfl | rfl
          · exact u1.up (wZ _) (by omega)
          · exact u2.up (wZ _) (by omega)
          · exact u3.up (wZ _) (by omega)
        · refine .tup (s6 _ _ q5) (by show 2≤140;decide) fun y hy => ?_
          simp only [xr, xE, yF] at hy
          rcases hy with rfl | rfl
          · exact u2.up (wZ _) (by omega)
          · exact u1.up (wZ _) (by omega)
        · exact u1.up (wZ _) (by omega)
        · exact .flat rfl
      exact k _ _ F8 (sb1.trans (s17.b.trans sb8)) ((all x hxm).sb F7 sb8)
    · refine ⟨_, rfl, _, _, rfl, rfl, _, rfl, gF (fun _ => ?_) (fun _ => ?_)⟩
      · refine ⟨_, rfl, _, rfl, d, c, a1, e, xs, rfl, F1, uy he F1 sb1, g1, l1, x1, fun x H2 F2 sb2 px => ⟨_, rfl, (aD (n := 2) (by decide)), fun t ht => ?_⟩⟩
        have q2 := sb2 _ _ (F1.nt g2) g2
        refine k _ _ (F2.new ht) (sb1.trans (sb2.trans (au.new ht).b)) (.tup ab (by show 2≤140;decide) fun y hy => ?_)
        simp only [xr, xE, yF] at hy
        rcases hy with rfl | rfl
        · exact px.same (au.new ht)
        · exact p2 _ _ (au.new ht _ _ q2)
      · refine ⟨_, rfl, _, rfl, _, rfl, d, c, a2, e, ys, rfl, F1, uy he F1 sb1, g2, l2, x2, fun x H2 F2 sb2 px => ⟨(aD (n := 2) (by decide)), fun t ht => ?_⟩⟩
        have q1 := sb2 _ _ (F1.nt g1) g1
        refine k _ _ (F2.new ht) (sb1.trans (sb2.trans (au.new ht).b)) (.tup ab (by show 2≤140;decide) fun y hy => ?_)
        simp only [xr, xE, yF] at hy
        rcases hy with rfl | rfl
        · exact p1 _ _ (au.new ht _ _ q1)
        · exact px.same (au.new ht)
end
end Kx
namespace Kx
open PySem PySem.Spec PyProof.Rows L2 Wd
structure SmW (n k : Nat) (d : PyData) : Prop where
  sh : d.showable=true
  nd : d.hasDict=false
  dp : d.depth≤k
  lv : d.leavesShort 40=true
  wt : d.weight≤n
theorem mZ {n k : Nat} : ∀ {ds : List PyData}, (∀ d∈ds, SmW n k d) → PyData.showableAll ds=true ∧ PyData.hasDictAll ds=false ∧ PyData.depthAll ds≤k ∧ PyData.leavesShortAll 40 ds=true ∧ PyData.weightAll ds≤ds.length*(n+1)
  | [], _ => ⟨rfl, rfl, xV _, rfl, xV _⟩
  | d::r, h => by
    obtain ⟨a, b, c, e, f⟩ := mZ (ds := r) fun x hx => h x (xk _ hx)
    have S := h d xt
    refine ⟨?_, ?_, ?_, ?_, ?_⟩
    · show (PyData.showable d && PyData.showableAll r)=true
      rw [S.sh, a];rfl
    · show (PyData.hasDict d || PyData.hasDictAll r)=false
      rw [S.nd, b];rfl
    · show max (PyData.depth d) (PyData.depthAll r)≤k
      have := S.dp
      omega
    · show (PyData.leavesShort 40 d && PyData.leavesShortAll 40 r)=true
      rw [S.lv, e];rfl
    · show PyData.weight d+1+PyData.weightAll r≤(r.length+1)*(n+1)
      have := S.wt
      rw [Bk]
      omega
theorem i_ {n k m : Nat}{ds : List PyData}(h : ∀ d∈ds, SmW n k d)(hm : ds.length*(n+1)≤m) : SmW m (k+1) (.tuple ds) := by
  obtain ⟨a, b, c, e, f⟩ := mZ h
  exact ⟨a, b, by show PyData.depthAll ds+1≤_;omega, e, xH f hm⟩
theorem m3 {i : Int}(h0 : 0≤i)(h1 : i < 200) : SmW 8 0 (.int i) := by
  have q : ∀ x : Fin 200, PyData.showable (.int (x.val : Int))=true ∧ PyData.leavesShort 40 (.int (x.val : Int))=true ∧ PyData.weight (.int (x.val : Int))≤8 := by decide +kernel
  have := q ⟨i.toNat, by omega⟩
  rw [show ((⟨i.toNat, by omega⟩ : Fin 200).val : Int)=i by show ((i.toNat : Nat) : Int)=i;omega] at this
  exact ⟨this.1, rfl, wZ _, this.2.1, this.2.2⟩
section
variable {P : Program} {w : World} {K : PySem.W.Frag} {mg : Str → Option Value} {base : Heap} {aB : Addr}
inductive rP (vs : List V)(H : Hp)(Q : VK)(u3_ : XK) : Prop
  | mk : ∀ (d c : Addr) (u : List L) (n : Nat), (vs=[.ref d, tx u]) → (Tp H d c) → (SK u n) → (∀ (H' : Hp), Tp H' d c → Q (.bl true) H') → rP vs H Q u3_
theorem oZ (W : List (List L)) : (ba W).length=W.flatten.length := by
  have h : ∀ k, k≤W.length → (ki W k).length=((W.take k).flatten).length := fun k => by
    induction k with
    | zero => exact fun _ => rfl
    | succ k ih =>
      intro hk
      have e : W[k]? = some W[k] := wY (by omega)
      rw [e9, w4, ih (by omega), bw e, List.flatten_append, w4, fu, x8, mi e]
      simp
  have := h W.length (wZ _)
  rwa [xI] at this
theorem uo {n : Nat}{W : List (List L)}{H H' : Hp}{r a : Addr}{rows : List (List (Int × Int))}{u : List L}(U : SK u n)(hWy : Wy4 n W H' a)(dw : Dw n W H r rows) : Sh (.tuple [.tuple ((bM rows).map PyData.int), .tuple ((dA (aO rows u) W).map PyData.int)]) := by
  have hW : ∀ w∈W, InM n w := fun w hw => (hWy.ws w hw).2.2
  have al := ip hWy
  have h6 := U.hi
  have i1 : ∀ d∈(bM rows).map PyData.int, SmW 8 0 d := fun d hd => by
    obtain ⟨i, hi, rfl⟩ := xC.mp hd
    unfold bM at hi
    obtain ⟨row, hr, rfl⟩ := xC.mp hi
    obtain ⟨m, hm, rfl⟩ := yI.mp hr
    have := (dw.pm m _ (wY hm)).length_eq
    have : (rR W m).length≤(ba W).length := ze _ _
    exact m3 (by omega) (by omega)
  have i2 : ∀ d∈(dA (aO rows u) W).map PyData.int, SmW 8 0 d := fun d hd => by
    obtain ⟨i, hi, rfl⟩ := xC.mp hd
    obtain ⟨m, hm, rfl⟩ := yI.mp hi
    obtain ⟨j, j1, _, j3, _⟩ := mQ U dw hW m (by rw [dC] at hm;exact hm)
    rw [wY hm] at j3
    rw [xb j3]
    exact m3 (by omega) (by omega)
  have l1 : ((bM rows).map PyData.int).length≤6 := by rw [fu];unfold bM;rw [fu, dw.len];exact h6
  have l2 : ((dA (aO rows u) W).map PyData.int).length≤120 := by rw [fu, dC];omega
  have t1 : SmW 1200 1 (.tuple ((bM rows).map PyData.int)) := i_ i1 (by omega)
  have t2 : SmW 1200 1 (.tuple ((dA (aO rows u) W).map PyData.int)) := i_ i2 (by omega)
  have t := i_ (n := 1200) (k := 1) (m := 2402) (ds := [.tuple ((bM rows).map PyData.int), .tuple ((dA (aO rows u) W).map PyData.int)]) (fun d hd => by
    simp only [xr, xE, yF] at hd
    rcases hd with rfl | rfl
    · exact t1
    · exact t2) (by show 2*1201≤2402;decide)
  exact ⟨t.sh, t.nd, by have := t.dp;omega, tD t.lv (by have := t.wt;omega)⟩
theorem ja {H : Hp} : ∀ l : List Int, Dts H (l.map V.int) (l.map PyData.int)
  | [] => .nil
  | i::r => .cons (.int i) (ja r)
theorem p8 {H : Hp}{p c j : Addr}{x y : List Int}(h : H p=some (.tup [.ref c, .ref j]))(hc : H c=some (.tup (x.map V.int)))(hj : H j=some (.tup (y.map V.int))) : Dt H (.ref p) (.tuple [.tuple (x.map PyData.int), .tuple (y.map PyData.int)]) := .tup h (.cons (.tup hc (ja x)) (.cons (.tup hj (ja y)) .nil))
abbrev gD : Stmt := top 40
theorem m4 : aF ["_law_tape_here", "_law_surface", "_law_ways", "_law_drawing", "_law_joins", "_law_strand", "_law_one", "_law_other", "_law_due", "_law_found"] ["_law_tape_here", "_law_surface"] (av gD) := ⟨rfl, rfl, rfl, by decide +kernel, rfl, by decide +kernel, by decide +kernel⟩
theorem o7 (D : Df K mg "_law_told_right" gD)(T : Bt K w mg aB)(F_sways : Fnc P w K mg base "_law_some_ways" ["_law_tape_here", "_law_many", "_law_most", "_law_long"] 4 iM)(F_adrw : Fnc P w K mg base "_law_any_drawing" ["_law_tape_here", "_law_surface", "_law_ways"] 2 iU)(F_lchords : Fnc P w K mg base "_law_all_chords" ["_law_surface", "_law_ways", "_law_drawing"] 2 ff)(F_pic : Fnc P w K mg base "picture_of" ["surface", "ways", "drawing"] 5 rH)(F_ispic : Fnc P w K mg base "is_picture" ["surface", "thing"] 3 (dR K)) : Fnc P w K mg base "_law_told_right" ["_law_tape_here", "_law_surface"] 6 rP := by
  have sc := m4
  refine D.ok sc (fun _ _ _ _ _ _ us hl => by obtain ⟨_, _, rfl⟩ := jK hl;rfl) (fun vs H Q E h => ?_) (fun f cdv A outer s H vs Q E hr h => ?_)
  · obtain ⟨d, c, u, n, rfl, _⟩ := h
    rfl
  · obtain ⟨d, c, u, n, rfl, F, U, k⟩ := h
    have l16 := a8
    have hul := U.len
    have h1 := U.lo
    have h6 := U.hi
    have hll : (toS u).length≤sizeLine := by rw [ah];omega
    have e2 : ((toS u).length : Int) / 2=(n : Int) := by rw [ah];omega
    refine ⟨_, (@ag _ _ _ _ _ (@aC _ _ (2) _ _ _ _ sc.nd rfl (Or.inl rfl) (@aJ _ _ _ _ _ _ _ _ _ _ _ F_sways hr (by decide) rfl (@aa _ _ _ _ _ (pv 0) (@aa _ _ _ _ _ (@aG _ _ _ _ _ _ _ _ cv (@ar _ _ _ _ _ _ _ _ _ aI (by rfl) T.len xn (@aa _ _ _ _ _ (pv 1) ae (by rfl)) (by decide) (by decide) (by rfl) (by rfl)) ao) (@aa _ _ _ _ _ ao (@aa _ _ _ _ _ ao ae (by rfl)) (by rfl)) (by rfl)) (by rfl)) (by decide) (by rfl) (by rfl)) (by rfl) (by first | exact .inl rfl | exact .inr rfl | assumption)) (@ag _ _ _ _ _ (@aC _ _ (3) _ _ _ _ sc.nd rfl (Or.inl rfl) (@aJ _ _ _ _ _ _ _ _ _ _ _ F_adrw hr (by decide) rfl (@aa _ _ _ _ _ (pv 0) (@aa _ _ _ _ _ (pv 1) (@aa _ _ _ _ _ (pv 2) ae (by rfl)) (by rfl)) (by rfl)) (by decide) (by rfl) (by rfl)) (by rfl) (by first | exact .inl rfl | exact .inr rfl | assumption)) (@ag _ _ _ _ _ (@aC _ _ (4) _ _ _ _ sc.nd rfl (Or.inl rfl) (@aG _ _ _ _ _ _ _ _ jo (@bj _ _ _ _ (@aa _ _ _ _ _ ao ae (by rfl))) (@aG _ _ _ _ _ _ _ _ cW ao (@ar _ _ _ _ _ _ _ _ _ aI (by rfl) T.len xn (@aa _ _ _ _ _ (@bV _ _ _ _ _ _ _ _ _ _ _ _ xy yo yq og bP (@aa _ _ _ _ _ (pv 2) ae (by rfl)) (by rfl) (by rfl) (by rfl) (by rfl) (by rfl)) ae (by rfl)) (by decide) (by decide) (by rfl) (by rfl)))) (by rfl) (by first | exact .inl rfl | exact .inr rfl | assumption)) (@ag _ _ _ _ _ (@bA _ _ _ _ _ _ _ _ xG rfl (@c5 _ _ _ _ (@aJ _ _ _ _ _ _ _ _ _ _ _ F_lchords hr (by decide) rfl (@aa _ _ _ _ _ (pv 1) (@aa _ _ _ _ _ (pv 2) (@aa _ _ _ _ _ (pv 3) ae (by rfl)) (by rfl)) (by rfl)) (by decide) (by rfl) (by rfl))) (@dX _ _ _ _ _ _ rfl (@aW _ _ _ _ _ (@aA _ _ (5) _ sc.nd rfl (Or.inl rfl) (by first | exact .inl rfl | exact .inr rfl | assumption)) (@aW _ _ _ _ _ (@aA _ _ (6) _ sc.nd rfl (Or.inl rfl) (by first | exact .inl rfl | exact .inr rfl | assumption)) (@aW _ _ _ _ _ (@aA _ _ (7) _ sc.nd rfl (Or.inl rfl) (by first | exact .inl rfl | exact .inr rfl | assumption)) cI (by rfl)) (by rfl)) (by rfl)) (by rfl) (by rfl)) (@ag _ _ _ _ _ (@cD _ _ _ _ _ _ (pv 7) (@cV _ _ _ _ _ _ _ (pv 4) (pv 6) bD (by intro _ ;rfl)) (by rfl) (by rfl) (by rfl)) (@aq _ _ _ (@cD _ _ _ _ _ _ (pv 6) (@cV _ _ _ _ _ _ _ (pv 4) (pv 7) bD (by intro _ ;rfl)) (by rfl) (by rfl) (by rfl)))) (by intro _ ;rfl)) (@ag _ _ _ _ _ (@aC _ _ (8) _ _ _ _ sc.nd rfl (Or.inl rfl) (@a4 _ _ _ _ _ (@aa _ _ _ _ _ (@aX _ _ _ _ _ _ _ _ _ aP (by rfl) T.tuple bq (@aa _ _ _ _ _ (@bp _ _ _ _ _ _ _ (["_law_row"]) (["_law_row"]) ([]) _ _ _ _ (@bH _ _ _ _ _ _ rfl (by kernel_rfl)) rfl (@eG _ _ _ _ (pv 3)) (fun _ _ _ _ => @aA _ _ (0) _ (show (["_law_row"] : List Str).Nodup from by decide +kernel) rfl (Or.inl rfl) (by first | exact .inl rfl | exact .inr rfl | assumption)) (fun _ _ _ _ => a9) (fun _ _ _ _ => by (exact (@ar _ _ _ _ _ _ _ _ _ (@dq _ (K) rfl) (by rfl) T.len xn (@aa _ _ _ _ _ (pv 0) ae (by rfl)) (by decide) (by decide) (by rfl) (by rfl)))) (by intro _ ;rfl)) ae (by rfl)) (by decide) (by decide) (by rfl) (by rfl)) (@aa _ _ _ _ _ (@aX _ _ _ _ _ _ _ _ _ aP (by rfl) T.tuple bq (@aa _ _ _ _ _ (pv 4) ae (by rfl)) (by decide) (by decide) (by rfl) (by rfl)) ae (by rfl)) (by rfl))) (by rfl) (by first | exact .inl rfl | exact .inr rfl | assumption)) (@ag _ _ _ _ _ (@aC _ _ (9) _ _ _ _ sc.nd rfl (Or.inl rfl) (@aJ _ _ _ _ _ _ _ _ _ _ _ F_pic hr (by decide) rfl (@aa _ _ _ _ _ (pv 1) (@aa _ _ _ _ _ (pv 2) (@aa _ _ _ _ _ (pv 3) ae (by rfl)) (by rfl)) (by rfl)) (by decide) (by rfl) (by rfl)) (by rfl) (by first | exact .inl rfl | exact .inr rfl | assumption)) (@aq _ _ _ (@aE _ _ _ _ (@dW _ _ _ _ _ _ _ (@c6 _ _ _ _ _ _ _ _ cS (@ar _ _ _ _ _ _ _ _ _ (@dn _ (by exact hr.gd) (by exact hr.units)) (by rfl) T.repr jw (@aa _ _ _ _ _ (pv 9) ae (by rfl)) (by decide) (by decide) (by rfl) (by rfl)) (@ar _ _ _ _ _ _ _ _ _ (@dn _ (by exact hr.gd) (by exact hr.units)) (by rfl) T.repr jw (@aa _ _ _ _ _ (pv 8) ae (by rfl)) (by decide) (by decide) (by rfl) (by rfl)) (aK _)) (@dU _ _ _ _ _ (@c6 _ _ _ _ _ _ _ _ tE (@aJ _ _ _ _ _ _ _ _ _ _ _ F_ispic hr (by decide) rfl (@aa _ _ _ _ _ (pv 1) (@aa _ _ _ _ _ (pv 9) ae (by rfl)) (by rfl)) (by decide) (by rfl) (by rfl)) c4 (aK _)))))))))))), ?_⟩
    refine ⟨_, rfl, _, rfl, _, rfl, hll, _, _, rfl, rfl, ⟨by decide, by decide⟩, d, c, n, 8, xA (fun z => [V.ref d, .int z, .int 4, .int 8]) e2, F, h1, h6, by decide, by decide, fun aw W H1 F1 sb1 hW => ?_⟩
    refine ⟨_, rfl, _, rfl, _, rfl, d, c, u, n, aw, W, rfl, F1, U, hW, fun r rows H2 F2 sb2 dw => ?_⟩
    have hW2 := hW.sb F1 sb2
    have al := ip hW2
    have iw : ∀ w∈W, InM n w := fun w hw => (hW.ws w hw).2.2
    have af := oZ W
    have jf := lL W
    have fle : W.flatten.length≤60 := by omega
    refine ⟨(aD (n := 1) (by decide)), fun z hz => ?_⟩
    have sz : au H2 (upd H2 z (.lst [.int 0])) := au.new hz
    have fz : (upd H2 z (.lst [.int 0])) z=some (.lst [.int 0]) := ab
    generalize upd H2 z (.lst [.int 0])=H3 at sz fz ⊢
    have ews : (W.map toS).map V.str=W.map tx := by rw [za];rfl
    refine ⟨rfl, _, rfl, "", aw, W.map toS, rfl, rfl, (by rw [ews];exact SqT.of (sz _ _ hW2.at_)), ?_, _, rfl, ?_, _, _, rfl, rfl, .inl ⟨by decide, by decide⟩, z, 2*(((toS W.flatten).length : Nat) : Int), _, rfl, (by rw [jf]), fz, ?_, ?_, ?_, fun l hl => ?_⟩
    · have e : ((W.map toS).map (·.length)).sum=W.flatten.length := by
        rw [za, List.length_flatten]
        congr 1
        exact List.map_congr_left fun w _ => ah w
      rw [e]
      show W.flatten.length+(W.map toS).length*0≤16777216
      omega
    · rw [jf, ah];omega
    · rw [ah];omega
    · rw [ah];omega
    · rw [ah];show 1*_≤_;omega
    have e0 : (List.replicate (2*(((toS W.flatten).length : Nat) : Int)).toNat [V.int 0]).flatten=(List.replicate (2*(ba W).length) (0 : Int)).map V.int := by
      rw [eE, ah, ← af, show (2*((ba W).length : Int)).toNat=2*(ba W).length by omega]
    rw [e0]
    have s4 : au H3 (upd H3 l (.lst ((List.replicate (2*(ba W).length) (0 : Int)).map V.int))) := au.new hl
    have f4 : (upd H3 l (.lst ((List.replicate (2*(ba W).length) (0 : Int)).map V.int))) l=some (.lst ((List.replicate (2*(ba W).length) (0 : Int)).map V.int)) := ab
    have hl2 : H2 l=none := none_of sz hl
    generalize upd H3 l (.lst ((List.replicate (2*(ba W).length) (0 : Int)).map V.int))=H4 at s4 f4 ⊢
    have s24 := sz.trans s4
    refine ⟨_, rfl, _, rfl, _, rfl, u, aw, r, n, W, rows, rfl, U, hW2.same s24, dw.same s24, fun ln ls H5 hln s5 f5 hls els => ⟨ln, rfl, ⟨_, SqL.of f5⟩, ?_⟩⟩
    have nll : l≠ln := ak f4 hln
    have s25 := s24.trans s5
    have lat : ∀ (i : Nat) (z : Ln5), ls[i]? = some z → (ba W)[i]? = some z.2.1.2 ∧ z.2.2=cdZ (aO rows u) W z.2.1.2 := fun i z h => by
      have := xA (fun l => l[i]?) els
      simp only [w_] at this
      rw [h] at this
      cases hq : (ba W)[i]? with
      | none => rw [hq] at this;cases this
      | some q =>
        rw [hq] at this
        have e := xb this
        have e1 : z.2.1.2=q := xA Prod.fst e
        have e2 : z.2.2=cdZ (aO rows u) W q := xA Prod.snd e
        exact ⟨by rw [e1], by rw [e1, e2]⟩
    have lll : ls.length=(ba W).length := by
      have := xA List.length els
      rwa [fu, fu] at this
    refine c9 (xs := (ls.map (·.1)).map V.ref) (fun i σ H' => ∃ (v5 v6 v7 : Option V), σ = [some (.ref d), some (tx u), some (.ref aw), some (.ref r), some (.ref l), v5, v6, v7, none, none] ∧ H' l=some (.lst (((((ba W).take i).map (cdZ (aO rows u) W)).foldl gy (List.replicate (2*(ba W).length) 0)).map V.int)) ∧ H' ln=some (.lst ((ls.map (·.1)).map V.ref)) ∧ LnA H' ls ∧ au H2 H') ⟨none, none, none, rfl, s5 _ _ f4, f5, hls, s25⟩ (fun i σ H' _ ⟨_, _, _, _, _, q, _⟩ => SqL.of q) ?_ ?_
    · rintro i x σ H6 hx ⟨v5, v6, v7, rfl, f6, g6, hl6, s6⟩
      rw [w_, w_] at hx
      cases hzi : ls[i]? with
      | none => rw [hzi] at hx;cases hx
      | some z =>
        rw [hzi] at hx
        obtain rfl := xb hx
        obtain ⟨ai, ci⟩ := lat i z hzi
        obtain ⟨y1, y2⟩ := hl6 z (xc hzi)
        obtain ⟨c1, c2⟩ := ug U dw iw (xc ai)
        generalize hJ : (((ba W).take i).map (cdZ (aO rows u) W)).foldl gy (List.replicate (2*(ba W).length) 0)=J at f6
        have jl : J.length=2*(ba W).length := by rw [← hJ, eD, x5]
        have eJ : (((ba W).take (i+1)).map (cdZ (aO rows u) W)).foldl gy (List.replicate (2*(ba W).length) 0)=gy J z.2.2 := by
          rw [bw ai, w9, List.foldl_append, hJ, ci]
          rfl
        rw [← ci] at c1 c2
        rw [eJ]
        generalize z.2.2=cc at y1 c1 c2 ⊢
        refine ⟨z.1, _, rfl, SqT.of y1, rfl, _, _, rfl, _, _, rfl, _, _, rfl, rfl, ?_⟩
        refine ⟨_, rfl, _, rfl, _, rfl, l, _, (cc.1 : Int), cc.1, rfl, rfl, f6, ixN_nat (by rw [fu];omega), ?_⟩
        have f7 : (upd H6 l (.lst ((J.map V.int).set cc.1 (.int (cc.2 : Int))))) l=some (.lst ((J.map V.int).set cc.1 (.int (cc.2 : Int)))) := ab
        have k7 : ∀ x o', x≠l → H6 x=some o' → (upd H6 l (.lst ((J.map V.int).set cc.1 (.int (cc.2 : Int))))) x=some o' := fun x o' nx e => by rw [ay nx];exact e
        generalize upd H6 l (.lst ((J.map V.int).set cc.1 (.int (cc.2 : Int))))=H7 at f7 k7 ⊢
        refine ⟨_, rfl, _, rfl, _, rfl, l, _, (cc.2 : Int), cc.2, rfl, rfl, f7, ixN_nat (by rw [ye, fu];omega), ?_⟩
        rw [put_map]
        have k8 : ∀ (vv : List V) x o', x≠l → H6 x=some o' → (upd H7 l (.lst vv)) x=some o' := fun vv x o' nx e => by rw [ay nx];exact k7 _ _ nx e
        exact ⟨_, _, _, rfl, ab, k8 _ _ _ nll.symm g6, hl6.to fun x xs e => k8 _ _ _ (cH e f6 (by intro z;cases z)) e, fun x o' e => k8 _ _ _ (ak e hl2) (s6 _ _ e)⟩
    · rintro σ H6 ⟨v5, v6, v7, rfl, f6, g6, hl6, s6⟩
      rw [fu, fu, lll, xI] at f6
      have f6 : H6 l=some (.lst ((dA (aO rows u) W).map V.int)) := f6
      have dw6 := dw.same s6
      obtain ⟨bs, q1, q2, q3⟩ := dw6.ex
      have rl := dw.len
      refine ⟨_, rfl, r, rfl, ⟨_, SqT.of q1⟩, ?_⟩
      refine cR (xs := bs.map V.ref) (own := ["_law_row"]) (cap := []) (fun i ys σ H' => ∃ v : Option V, σ = [v] ∧ ys=((bM rows).take i).map V.int ∧ H'=H6) ⟨none, rfl, rfl, rfl⟩ (fun i ys σ H' hi ⟨v, _, e, _⟩ => by rw [e, fu, xo];omega) (by rw [fu];omega) (fun i ys σ H' ⟨_, _, _, e⟩ => by rw [e];exact SqT.of q1) ?_ ?_
      · rintro i ys σ H7 y N hy ⟨v, rfl, rfl, rfl⟩ hN
        rw [w_] at hy
        cases hbi : bs[i]? with
        | none => rw [hbi] at hy;cases hy
        | some b =>
          rw [hbi] at hy
          obtain rfl := xb hy
          obtain ⟨row, g1, g2, g3⟩ := q3 i b hbi
          have ec : (bM rows)[i]? = some (row.length : Int) := by
            unfold bM
            rw [w_, g3, yA, fu]
          refine ⟨_, rfl, b, _, rfl, .inr (SqT.of g1), hN _ _ _ ⟨_, rfl, ?_, rfl⟩⟩
          rw [bw ec, w9, fu, fu]
          rfl
      · rintro ys σ H7 q ⟨v, rfl, rfl, rfl⟩ hq
        have ef : ((bM rows).take (bs.map V.ref).length).map V.int=(bM rows).map V.int := by
          rw [xR]
          unfold bM
          rw [fu, fu]
          omega
        rw [ef]
        have s8 : au H7 (upd H7 q (.lst ((bM rows).map V.int))) := au.new hq
        have g8 : (upd H7 q (.lst ((bM rows).map V.int))) q=some (.lst ((bM rows).map V.int)) := ab
        generalize upd H7 q (.lst ((bM rows).map V.int))=H8 at s8 g8 ⊢
        refine ⟨q, _, rfl, .inl ⟨SqL.of g8, fun b1 hb1 => ?_⟩⟩
        have s9 : au H8 (upd H8 b1 (.tup ((bM rows).map V.int))) := au.new hb1
        have g9 : (upd H8 b1 (.tup ((bM rows).map V.int))) b1=some (.tup ((bM rows).map V.int)) := ab
        generalize upd H8 b1 (.tup ((bM rows).map V.int))=H9 at s9 g9 ⊢
        have s79 := s8.trans s9
        refine ⟨_, rfl, l, _, rfl, .inl ⟨SqL.of (s79 _ _ f6), fun b2 hb2 => ?_⟩⟩
        have s10 : au H9 (upd H9 b2 (.tup ((dA (aO rows u) W).map V.int))) := au.new hb2
        have g10 : (upd H9 b2 (.tup ((dA (aO rows u) W).map V.int))) b2=some (.tup ((dA (aO rows u) W).map V.int)) := ab
        generalize upd H9 b2 (.tup ((dA (aO rows u) W).map V.int))=H10 at s10 g10 ⊢
        refine ⟨(aD (n := 2) (by decide)), fun b3 hb3 => ?_⟩
        have s11 : au H10 (upd H10 b3 (.tup [.ref b1, .ref b2])) := au.new hb3
        have g11 : (upd H10 b3 (.tup [.ref b1, .ref b2])) b3=some (.tup [.ref b1, .ref b2]) := ab
        generalize upd H10 b3 (.tup [.ref b1, .ref b2])=H11 at s11 g11 ⊢
        have s211 := s6.trans (s79.trans (s10.trans s11))
        have hW11 := hW2.same s211
        have dw11 := dw.same s211
        refine ⟨_, rfl, _, rfl, _, rfl, u, aw, r, n, W, rows, rfl, U, hW11, dw11, fun p pc pj H12 s12 gp gc gj => ?_⟩
        have shp := uo U hW2 dw
        have hd1 := p8 gp gc gj
        have hd2 := p8 (s12 _ _ g11) ((s10.trans (s11.trans s12)) _ _ g9) ((s11.trans s12) _ _ g10)
        generalize PyData.tuple [.tuple ((bM rows).map PyData.int), .tuple ((dA (aO rows u) W).map PyData.int)]=dd at hd1 hd2 shp
        refine ⟨_, rfl, p, dd, rfl, hd1, shp, _, rfl, b3, dd, rfl, hd2, shp, rfl, _, rfl, ?_⟩
        refine lq (xq rfl) ?_
        have wh : ∀ (H' : Hp) (x : List Int), ∀ y∈x.map V.int, Wh K H' y := fun H' x y hy => by
          obtain ⟨i, _, rfl⟩ := xC.mp hy
          exact .mk (.int i) tF tG rfl
        have pc' : Pc K H12 (.ref p) (some (some ((bM rows).map V.int), some ((dA (aO rows u) W).map V.int))) := .two gp (.tup gc (wh _ _) (by rw [fu];unfold bM;rw [fu];omega)) (.tup gj (wh _ _) (by rw [fu, dC];omega))
        refine ⟨_, rfl, _, rfl, u, n, .ref p, _, rfl, U, pc', fun H13 s13 => ?_⟩
        rw [uf U hW2 dw]
        exact ⟨_, _, rfl, rfl, k _ ((F2.same s211).same (s12.trans s13))⟩
end
end Kx
namespace Kx
open PySem PySem.Spec PyProof.Rows L2 Wd
inductive m5 (K : PySem.W.Frag)(vs : List V)(H : Hp)(Q : VK)(u3_ : XK) : Prop
  | mk : ∀ (a : Addr) (ns : List Int), (vs=[.ref a]) → (SqL K H a (ns.map V.int)) → (ns.length≤63) → (∀ H', Q (.bl true) H') → m5 K vs H Q u3_
section
variable {P : Program} {w : World} {K : PySem.W.Frag} {mg : Str → Option Value} {base : Heap} {aB : Addr}
theorem iu : ∀ {ms : List Int}, (∀ x∈ms, 0≤x ∧ x < 4) → ∃ m : Nat, ms.sum=(m : Int) ∧ m≤3*ms.length
  | [], _ => ⟨0, rfl, wZ _⟩
  | x::r, h => by
    obtain ⟨m, e, hm⟩ := iu (ms := r) fun y hy => h y (xk _ hy)
    have := h x xt
    refine ⟨x.toNat+m, by rw [zD, e];omega, by rw [xM];omega⟩
abbrev iy : Stmt := top 41
theorem uq : aF ["_law_script", "_law_tape_here", "_law_k", "_law_surface", "_law_letters", "_law_many", "_law_picture", "_law_things", "_law_thing"] ["_law_script"] (av iy) := ⟨rfl, rfl, rfl, by decide +kernel, rfl, by decide +kernel, by decide +kernel⟩
theorem vI {f : Addr}{fd : FuncData}(D : Fun K "law" "law" iy f fd)(T : Bt K w mg aB)(Tsum : mg "sum" = none)(F_tape : Fnc P w K mg base "_law_tape" ["_law_script"] 1 (lE K))(F_draw : Fnc P w K mg base "_law_draw" ["_law_tape_here", "_law_many"] 1 cg)(F_row : Fnc P w K mg base "_law_any_row" ["_law_tape_here", "_law_most"] 2 mf)(F_ajoins : Fnc P w K mg base "_law_any_joins" ["_law_tape_here", "_law_many"] 2 vH)
    (F_bent : Fnc P w K mg base "_law_bent" ["_law_tape_here", "_law_picture"] 3 i9) (F_ispic : Fnc P w K mg base "is_picture" ["surface", "thing"] 3 (dR K)) (F_lispic : Fnc P w K mg base "_law_is_picture" ["_law_surface", "_law_thing"] 2 (dR K)) (F_tright : Fnc P w K mg base "_law_told_right" ["_law_tape_here", "_law_surface"] 6 rP) : m7 P w K mg base CX0 8 f fd ["_law_script"] (m5 K) := by
  have sc := uq
  refine D.ok sc (fun vs H Q E h => ?_) (fun cdv A outer s H vs Q E hr h => ?_)
  · obtain ⟨a, ns, rfl, _⟩ := h
    rfl
  · obtain ⟨a, ns, rfl, hS, hlen, q⟩ := h
    have l16 := a8
    refine ⟨_, (@ag _ _ _ _ _ (@aC _ _ (1) _ _ _ _ sc.nd rfl (Or.inr rfl) (@aJ _ _ _ _ _ _ _ _ _ _ _ F_tape hr (by decide) rfl (@aa _ _ _ _ _ (pv 0) ae (by rfl)) (by decide) (by rfl) (by rfl)) (by rfl) (by first | exact .inl rfl | exact .inr rfl | assumption)) (@ag _ _ _ _ _ (@bA _ _ _ _ _ _ _ _ xG rfl (@bh _ _ _ _ _ _ rfl T.range (@aa _ _ _ _ _ ao ae (by rfl)) (by rfl)) (@aA _ _ (2) _ sc.nd rfl (Or.inl rfl) (by first | exact .inl rfl | exact .inr rfl | assumption)) (@ag _ _ _ _ _ (@aC _ _ (3) _ _ _ _ sc.nd rfl (Or.inl rfl) (@aJ _ _ _ _ _ _ _ _ _ _ _ F_row hr (by decide) rfl (@aa _ _ _ _ _ (pv 1) (@aa _ _ _ _ _ ao ae (by rfl)) (by rfl)) (by decide) (by rfl) (by rfl)) (by rfl) (by first | exact .inl rfl | exact .inr rfl | assumption)) (@ag _ _ _ _ _ (@aC _ _ (4) _ _ _ _ sc.nd rfl (Or.inl rfl) (@aG _ _ _ _ _ _ _ _ cv (@ar _ _ _ _ _ _ _ _ _ aI (by rfl) T.len xn (@aa _ _ _ _ _ (pv 3) ae (by rfl)) (by decide) (by decide) (by rfl) (by rfl)) ao) (by rfl) (by first | exact .inl rfl | exact .inr rfl | assumption)) (@ag _ _ _ _ _ (@lA _ (5) _ _ _ _ _ _ _ _ _ (["_law_j", "_law_tape_here"]) (["_law_j"]) ([1]) _ _ _ _ sc.nd rfl (Or.inl rfl) (@bH _ _ _ _ _ _ rfl (by kernel_rfl)) rfl (@bh _ _ _ _ _ _ rfl T.range (@aa _ _ _ _ _ (pv 4) ae (by rfl)) (by rfl)) (fun _ _ _ _ => @aA _ _ (0) _ (show (["_law_j", "_law_tape_here"] : List Str).Nodup from by decide +kernel) rfl (Or.inl rfl) (by first | exact .inl rfl | exact .inr rfl | assumption)) (fun _ _ _ _ => a9) (fun _ _ _ _ => by (exact (@aJ _ _ _ _ _ _ _ _ _ _ _ F_draw hr (by decide) rfl (@aa _ _ _ _ _ (pv 1) (@aa _ _ _ _ _ ao ae (by rfl)) (by rfl)) (by decide) (by rfl) (by rfl)))) (by intro _ ;rfl) (by rfl) (by first | exact .inl rfl | exact .inr rfl | assumption)) (@ag _ _ _ _ _ (@bN _ _ _ _ _ _ _ _ (@aH _ _ _ _ _ _ _ _ cS (@aJ _ _ _ _ _ _ _ _ _ _ _ F_draw hr (by decide) rfl (@aa _ _ _ _ _ (pv 1) (@aa _ _ _ _ _ ao ae (by rfl)) (by rfl)) (by decide) (by rfl) (by rfl)) ao (aK _)) (@aq _ _ _ (@aC _ _ (5) _ _ _ _ sc.nd rfl (Or.inl rfl) (@aG _ _ _ _ _ _ _ _ pz (@aG _ _ _ _ _ _ _ _ jo (@bj _ _ _ _ (@aa _ _ _ _ _ ao ae (by rfl))) (@aG _ _ _ _ _ _ _ _ pf (pv 4) ao)) (@bj _ _ _ _ (@aa _ _ _ _ _ (@aG _ _ _ _ _ _ _ _ bt ao (@aJ _ _ _ _ _ _ _ _ _ _ _ F_draw hr (by decide) rfl (@aa _ _ _ _ _ (pv 1) (@aa _ _ _ _ _ ao ae (by rfl)) (by rfl)) (by decide) (by rfl) (by rfl))) ae (by rfl)))) (by rfl) (by first | exact .inl rfl | exact .inr rfl | assumption))) aR) (@ag _ _ _ _ _ (@aC _ _ (6) _ _ _ _ sc.nd rfl (Or.inr rfl) (@a4 _ _ _ _ _ (@aa _ _ _ _ _ (@aX _ _ _ _ _ _ _ _ _ aP (by rfl) T.tuple bq (@aa _ _ _ _ _ (pv 5) ae (by rfl)) (by decide) (by decide) (by rfl) (by rfl)) (@aa _ _ _ _ _ (@aJ _ _ _ _ _ _ _ _ _ _ _ F_ajoins hr (by decide) rfl (@aa _ _ _ _ _ (pv 1) (@aa _ _ _ _ _ (@aG _ _ _ _ _ _ _ _ cW ao (@ar _ _ _ _ _ _ _ _ _ (@oA _ rfl) (by rfl) Tsum l6 (@aa _ _ _ _ _ (pv 5) ae (by rfl)) (by decide) (by decide) (by rfl) (by rfl))) ae (by rfl)) (by rfl)) (by decide) (by rfl) (by rfl)) ae (by rfl)) (by rfl))) (by rfl) (by first | exact .inl rfl | exact .inr rfl | assumption)) (@ag _ _ _ _ _ (@aC _ _ (7) _ _ _ _ sc.nd rfl (Or.inl rfl) (@aG _ _ _ _ _ _ _ _ pz (@bj _ _ _ _ (@aa _ _ _ _ _ (pv 6) ae (by rfl))) (@bp _ _ _ _ _ _ _ (["_law_j", "_law_tape_here", "_law_picture"]) (["_law_j"]) ([1, 6]) _ _ _ _ (@bH _ _ _ _ _ _ rfl (by kernel_rfl)) rfl (@bh _ _ _ _ _ _ rfl T.range (@aa _ _ _ _ _ ao ae (by rfl)) (by rfl)) (fun _ _ _ _ => @aA _ _ (0) _ (show (["_law_j", "_law_tape_here", "_law_picture"] : List Str).Nodup from by decide +kernel) rfl (Or.inl rfl) (by first | exact .inl rfl | exact .inr rfl | assumption)) (fun _ _ _ _ => a9) (fun _ _ _ _ => by (exact (@aJ _ _ _ _ _ _ _ _ _ _ _ F_bent hr (by decide) rfl (@aa _ _ _ _ _ (pv 1) (@aa _ _ _ _ _ (pv 2) ae (by rfl)) (by rfl)) (by decide) (by rfl) (by rfl)))) (by intro _ ;rfl))) (by rfl) (by first | exact .inl rfl | exact .inr rfl | assumption)) (@ag _ _ _ _ _ (@bA _ _ _ _ _ _ _ _ xG rfl (@c5 _ _ _ _ (pv 7)) (@aA _ _ (8) _ sc.nd rfl (Or.inl rfl) (by first | exact .inl rfl | exact .inr rfl | assumption)) (@aq _ _ _ (@bN _ _ _ _ _ _ _ _ (@aH _ _ _ _ _ _ _ _ fK (@ar _ _ _ _ _ _ _ _ _ cZ (by rfl) T.repr jw (@aa _ _ _ _ _ (@aJ _ _ _ _ _ _ _ _ _ _ _ F_ispic hr (by decide) rfl (@aa _ _ _ _ _ (pv 3) (@aa _ _ _ _ _ (pv 8) ae (by rfl)) (by rfl)) (by decide) (by rfl) (by rfl)) ae (by rfl)) (by decide) (by decide) (by rfl) (by rfl)) (@ar _ _ _ _ _ _ _ _ _ cZ (by rfl) T.repr jw (@aa _ _ _ _ _ (@aJ _ _ _ _ _ _ _ _ _ _ _ F_lispic hr (by decide) rfl (@aa _ _ _ _ _ (pv 3) (@aa _ _ _ _ _ (pv 8) ae (by rfl)) (by rfl)) (by decide) (by rfl) (by rfl)) ae (by rfl)) (by decide) (by decide) (by rfl) (by rfl)) (aK _)) (@aq _ _ _ (@aE _ _ _ _ c4)) aR)) (by intro _ ;rfl)) (@aq _ _ _ (@bN _ _ _ _ _ _ _ _ (@cU _ _ _ _ (@bC _ _ _ (@aJ _ _ _ _ _ _ _ _ _ _ _ F_tright hr (by decide) rfl (@aa _ _ _ _ _ (pv 1) (@aa _ _ _ _ _ (pv 3) ae (by rfl)) (by rfl)) (by decide) (by rfl) (by rfl)) (fun _ => rfl))) (@aq _ _ _ (@aE _ _ _ _ c4)) aR))))))))) (by intro _ ;rfl)) (@aq _ _ _ (@aE _ _ _ _ c4)))), ?_⟩
    refine ⟨_, rfl, a, ns, rfl, hS, hlen, fun d c H1 _ _ F1 _ => ?_⟩
    refine ⟨_, rfl, by decide, by decide, cj (lo := 0) (n := 4) (fun i σ H' => ∃ (b2 b3 b4 b5 b6 b7 b8 : Option V), σ = [some (.ref a), some (.ref d), b2, b3, b4, b5, b6, b7, b8] ∧ Tp H' d c) ⟨none, none, none, none, none, none, none, rfl, F1⟩ ?_ ?_⟩
    · rintro i σ H1 hi ⟨b2, b3, b4, b5, b6, b7, b8, rfl, F1⟩
      refine ⟨_, rfl, d, c, _, rfl, F1, by decide, by decide, fun u n H2 U hn F2 _ => ?_⟩
      have hul := U.len
      have h1 := U.lo
      have h6 := U.hi
      have hll : (toS u).length≤sizeLine := by rw [ah];omega
      have e2 : ((toS u).length : Int) / 2=(n : Int) := by rw [ah];omega
      refine ⟨_, rfl, _, rfl, hll, _, _, rfl, rfl, ⟨by decide, by decide⟩, ?_⟩
      rw [e2]
      refine ⟨_, rfl, _, rfl, by omega, by omega, ?_⟩
      rw [xB]
      refine bS (own := ["_law_j"]) (cap := [1]) (J := Itr 0 n) n (fun i ys σ H' => ∃ (v : Option V) (ms : List Int), σ = [v, some (.ref d)] ∧ ys=ms.map V.int ∧ ms.length=i ∧ (∀ x∈ms, 0≤x ∧ x < 4) ∧ Tp H' d c)
        ⟨none, [], rfl, rfl, rfl, (fun x hx => by cases hx), F2⟩ (fun i ys σ H' hi ⟨v, ms, _, e, e2, _⟩ => by rw [e, fu, e2];exact wZ _) (by omega) (fun i ys σ H' hi _ => hi) (fun ys σ H' _ => wZ _) ?_ ?_
      · rintro j ys σ H3 x H4 N hj ⟨v, ms, rfl, rfl, ml, mb, F3⟩ ⟨rfl, rfl⟩ hN
        refine ⟨_, rfl, d, c, _, rfl, F3, by decide, by decide, fun y H5 y0 y1 F5 _ => hN _ _ _ ⟨_, ms++[y], rfl, by rw [w9];rfl, by rw [w4, ml];rfl, fun z hz => ?_, F5⟩⟩
        rcases xF.mp hz with hz | hz
        · exact mb z hz
        · rw [xf.mp hz];exact ⟨y0, y1⟩
      rintro ys σ H3 l ⟨v, ms, rfl, rfl, ml, mb, F3⟩ hl
      have F4 := F3.new (o := .lst (ms.map V.int)) hl
      have f4 : (upd H3 l (.lst (ms.map V.int))) l=some (.lst (ms.map V.int)) := ab
      have nld := F3.ne hl
      generalize upd H3 l (.lst (ms.map V.int))=H4 at F4 f4 ⊢
      refine mz ?_
      refine my (fun σ2 H5 => ∃ (l : Addr) (ms : List Int) (m : Nat), σ2=[some (.ref a), some (.ref d), some (.int (0+(i : Int))), some (tx u), some (.int (n : Int)), some (.ref l), b6, b7, b8] ∧ H5 l=some (.lst (ms.map V.int)) ∧ ms.length≤6 ∧ ms.sum=(m : Int) ∧ m≤61 ∧ l≠d ∧ Tp H5 d c) (fun D' nx => ?_) ?_
      · refine ⟨_, rfl, d, c, _, rfl, F4, by decide, by decide, fun y H5 y0 y1 F5 sb5 => ⟨rfl, _, rfl, ?_⟩⟩
        have f5 := sb5 _ _ nld f4
        generalize decide (V.int y=V.int 0)=b
        cases b
        · obtain ⟨m, hm, hb⟩ := iu mb
          exact pR (nx _ _ ⟨l, ms, m, rfl, f5, by omega, hm, by omega, nld, F5⟩)
        · refine fC ⟨(aD (n := 1) (by decide)), fun z hz => ⟨_, rfl, _, _, rfl, rfl, z, (n : Int) - 1, _, rfl, rfl, ab, by omega, by omega, by show 1*_≤_;omega, fun z2 hz2 => ?_⟩⟩
          rw [eE, show ((n : Int) - 1).toNat=n - 1 by omega]
          have s6 := (au.new (o := .lst [.int 0]) hz).then (o := .lst ((List.replicate (n - 1) (0 : Int)).map V.int)) hz2
          have g6 : (upd (upd H5 z (.lst [.int 0])) z2 (.lst ((List.replicate (n - 1) (0 : Int)).map V.int))) z2=some (.lst ((List.replicate (n - 1) (0 : Int)).map V.int)) := ab
          have hz2' := none_of (au.new hz) hz2
          generalize upd (upd H5 z (.lst [.int 0])) z2 (.lst ((List.replicate (n - 1) (0 : Int)).map V.int))=H6 at s6 g6 ⊢
          have F6 := F5.same s6
          have nz2 := F5.ne hz2'
          refine ⟨_, rfl, d, c, _, rfl, F6, by decide, by decide, fun y2 H7 y20 y21 F7 sb7 => ⟨_, _, rfl, rfl, (aD (n := 1) (by decide)), fun z3 hz3 => ?_⟩⟩
          have g7 := sb7 _ _ nz2 g6
          have s8 : au H7 (upd H7 z3 (.lst [.int (59+y2)])) := au.new hz3
          have g8 : (upd H7 z3 (.lst [.int (59+y2)])) z3=some (.lst [.int (59+y2)]) := ab
          generalize upd H7 z3 (.lst [.int (59+y2)])=H8 at s8 g8 ⊢
          refine ⟨z2, z3, _, _, rfl, rfl, s8 _ _ g7, g8, (by rw [fu, x5];show _+1≤sizeLine;omega), fun z4 hz4 => ?_⟩
          have F8 := F7.same s8
          refine nx _ _ ⟨z4, List.replicate (n - 1) 0++[59+y2], 59+y2.toNat, rfl, by rw [ab, w9];rfl, by rw [w4, x5];show _+1≤6;omega, ?_, by omega, F8.ne hz4, F8.new hz4⟩
          rw [Ba, show (List.replicate (n - 1) (0 : Int)).sum=0 by generalize n - 1=k;induction k with | zero => rfl | succ k ih => rw [x6, zD, ih];rfl]
          show 0+(59+y2+0)=((59+y2.toNat : Nat) : Int)
          omega
      · rintro σ2 H5 ⟨l, ms, m, rfl, f5, ml, hm, hmb, nld, F5⟩
        refine ⟨_, rfl, l, _, rfl, .inl ⟨SqL.of f5, fun a1 ha1 => ?_⟩⟩
        have s6 : au H5 (upd H5 a1 (.tup (ms.map V.int))) := au.new ha1
        have g6 : (upd H5 a1 (.tup (ms.map V.int))) a1=some (.tup (ms.map V.int)) := ab
        generalize upd H5 a1 (.tup (ms.map V.int))=H6 at s6 g6 ⊢
        have F6 := F5.same s6
        refine ⟨_, rfl, _, rfl, l, ms, rfl, SqL.of (s6 _ _ f5), _, _, rfl, rfl, .inl ⟨by decide, by decide⟩, d, c, m, (by rw [hm];rfl), F6, hmb, fun a2 J H7 F7 sb7 gJ jl bJ => ⟨(aD (n := 2) (by decide)), fun pic hpic => ?_⟩⟩
        have g7 := sb7 _ _ (F6.nt g6) g6
        have s8 : au H7 (upd H7 pic (.tup [.ref a1, .ref a2])) := au.new hpic
        have g8 : (upd H7 pic (.tup [.ref a1, .ref a2])) pic=some (.tup [.ref a1, .ref a2]) := ab
        generalize upd H7 pic (.tup [.ref a1, .ref a2])=H8 at s8 g8 ⊢
        have F8 := F7.same s8
        have i1 : ∀ y∈ms.map V.int, ∃ i : Int, y = .int i := fun y hy => let ⟨i, _, e⟩ := xC.mp hy;⟨i, e.symm⟩
        have i2 : ∀ y∈J.map V.int, ∃ i : Int, y = .int i := fun y hy => let ⟨i, _, e⟩ := xC.mp hy;⟨i, e.symm⟩
        have b1 : (ms.map V.int).length≤130 := by rw [fu];omega
        have b2 : (J.map V.int).length≤130 := by rw [fu];omega
        have plp : ∀ H', H' pic=some (.tup [.ref a1, .ref a2]) → H' a1=some (.tup (ms.map V.int)) → H' a2=some (.tup (J.map V.int)) → Pl d d H' 140 3 (.ref pic) := fun H' e1 e2 e3 => .tup e1 (by show 2≤140;decide) fun y hy => by
          simp only [xr, xE, yF] at hy
          rcases hy with rfl | rfl
          · exact .tup e2 (by omega) fun y hy => by obtain ⟨i, rfl⟩ := i1 y hy;exact .flat rfl
          · exact .tup e3 (by omega) fun y hy => by obtain ⟨i, rfl⟩ := i2 y hy;exact .flat rfl
        refine ⟨_, rfl, (aD (n := 1) (by decide)), fun z hz => ?_⟩
        have s9 : au H8 (upd H8 z (.lst [.ref pic])) := au.new hz
        have g9 : (upd H8 z (.lst [.ref pic])) z=some (.lst [.ref pic]) := ab
        have nzd := F8.ne hz
        generalize upd H8 z (.lst [.ref pic])=H9 at s9 g9 ⊢
        have F9 := F8.same s9
        refine ⟨_, rfl, by decide, by decide, ?_⟩
        refine bS (own := ["_law_j"]) (cap := [1, 6]) (J := Itr 0 6) 6 (fun i ys σ H' => ∃ (v : Option V), σ = [v, some (.ref d), some (.ref pic)] ∧ ys.length=i ∧ (∀ y∈ys, Pl d d H' 140 3 y) ∧ Tp H' d c ∧ aU d H9 H') ⟨none, rfl, rfl, (fun y hy => by cases hy), F9, aU.refl _ _⟩ (fun i ys σ H' hi ⟨v, _, e, _⟩ => by rw [e];exact wZ _) (by decide) (fun i ys σ H' hi _ => hi) (fun ys σ H' _ => wZ _) ?_ ?_
        · rintro j ys σ H10 x H11 N hj ⟨v, rfl, yl, yp, F10, sb10⟩ ⟨rfl, rfl⟩ hN
          have q1 := sb10 _ _ (F9.nt (s9 _ _ g8)) (s9 _ _ g8)
          have e7 := (s8.trans s9) _ _ g7
          have eJ := (s8.trans s9) _ _ gJ
          have q2 := sb10 _ _ (F9.nt e7) e7
          have q3 := sb10 _ _ (F9.nt eJ) eJ
          have hd0 : ∃ o, H11 d=some o := by obtain ⟨_, _, _, _, h, _⟩ := F10.ex;exact ⟨_, h⟩
          refine ⟨_, rfl, _, rfl, d, c, pic, a1, a2, d, ms.map V.int, J.map V.int, rfl, F10, hd0, q1, q2, q3, b1, b2, i1, i2, fun x H12 F12 sb12 px => hN _ _ _ ⟨_, rfl, by rw [w4, yl];rfl, fun y hy => ?_, F12, sb10.trans sb12⟩⟩
          rcases xF.mp hy with hy | hy
          · exact (yp y hy).sb F10 sb12
          · rw [xf.mp hy];exact px
        rintro ys σ H10 w' ⟨v, rfl, yl, yp, F10, sb10⟩ hw'
        have s11 : au H10 (upd H10 w' (.lst ys)) := au.new hw'
        have g11 : (upd H10 w' (.lst ys)) w'=some (.lst ys) := ab
        generalize upd H10 w' (.lst ys)=H11 at s11 g11 ⊢
        have F11 := F10.same s11
        refine ⟨z, w', _, _, rfl, rfl, s11 _ _ (sb10 _ _ nzd g9), g11, (by show 1+_≤sizeLine;omega), fun l2 hl2 => ?_⟩
        have s12 : au H11 (upd H11 l2 (.lst ([.ref pic]++ys))) := au.new hl2
        have g12 : (upd H11 l2 (.lst ([.ref pic]++ys))) l2=some (.lst ([.ref pic]++ys)) := ab
        generalize upd H11 l2 (.lst ([.ref pic]++ys))=H12 at s12 g12 ⊢
        have F12 := F11.same s12
        have s1012 := s11.trans s12
        have e7 := (s8.trans s9) _ _ g7
        have eJ := (s8.trans s9) _ _ gJ
        have all : ∀ y∈[V.ref pic]++ys, Pl d d H12 140 3 y := fun y hy => by
          rcases xF.mp hy with hy | hy
          · rw [xf.mp hy]
            exact plp _ (s1012 _ _ (sb10 _ _ (F9.nt (s9 _ _ g8)) (s9 _ _ g8))) (s1012 _ _ (sb10 _ _ (F9.nt e7) e7)) (s1012 _ _ (sb10 _ _ (F9.nt eJ) eJ))
          · exact (yp y hy).same s1012
        refine ⟨_, rfl, l2, rfl, ⟨_, SqL.of g12⟩, c9 (xs := [V.ref pic]++ys) (fun j σ H' => ∃ b8 : Option V, σ = [some (.ref a), some (.ref d), some (.int (0+(i : Int))), some (tx u), some (.int (n : Int)), some (.ref l), some (.ref pic), some (.ref l2), b8] ∧ au H12 H') ⟨b8, rfl, au.refl _⟩ (fun j σ H' _ ⟨_, _, s'⟩ => SqL.of (s' _ _ g12)) ?_ ?_⟩
        · rintro j x σ H13 hxj ⟨b8, rfl, s13⟩
          obtain ⟨pc, hpc⟩ := vo (K := K) ((all x (xc hxj)).same s13) (by omega)
          refine ⟨_, rfl, _, rfl, u, n, x, pc, rfl, U, hpc, fun H14 s14 => ⟨_, rfl, ?_⟩⟩
          refine ⟨_, rfl, _, rfl, u, n, x, pc, rfl, U, hpc.same s14, fun H15 s15 => ⟨_, rfl, rfl, _, rfl, kW rfl ?_⟩⟩
          exact ⟨_, rfl, s13.trans (s14.trans s15)⟩
        · rintro σ H13 ⟨b8, rfl, s13⟩
          refine ⟨_, rfl, _, rfl, d, c, u, n, rfl, F12.same s13, U, fun H14 F14 => ⟨_, rfl, nkT (pR ⟨_, _, _, _, _, _, _, rfl, F14⟩)⟩⟩
    · rintro σ H1 ⟨b2, b3, b4, b5, b6, b7, b8, rfl, F1⟩
      exact q _
end
end Kx
namespace Kx
open PySem PySem.Spec PyProof.Rows L2 Wd
theorem vJ {K : PySem.W.Frag}{h : Heap}{mg : Str → Option Value}{x : Str}{st : Stmt}{f : Addr}{oc : Value}{od an : Option Addr}{osl : Array (Option Value)}{kV doc pm cdv ct : Value}(X : K.In h)(G : h.Ns mainGlobals mg)(a : PySem.W.nsIn K mainGlobals x=some (some (.ref f)))
    (l : K.lookup f=some ⟨oc, od, .func (PySem.W.fnOf x x (b_ st) (bL st) (av st) .none kV doc pm an cdv ct), osl⟩) (c : PySem.W.codeIn K cdv x=true) (k : PySem.W.keepIn K (.ref f)=true) : Df K mg x st := ⟨f, _, zy X G a, pB l c k⟩
inductive DI (K : PySem.W.Frag)(x : Str)(st : Stmt) : Prop
  | mk {f : Addr} {oc : Value} {od an : Option Addr} {osl : Array (Option Value)} {kV doc pm cdv ct : Value} (a : PySem.W.nsIn K mainGlobals x=some (some (.ref f))) (l : K.lookup f=some ⟨oc, od, .func (PySem.W.fnOf x x (b_ st) (bL st) (av st) .none kV doc pm an cdv ct), osl⟩) (c : PySem.W.codeIn K cdv x=true) (k : PySem.W.keepIn K (.ref f)=true) : DI K x st
theorem DI.df {K : PySem.W.Frag}{h : Heap}{mg : Str → Option Value}{x : Str}{st : Stmt}(d : DI K x st)(X : K.In h)(G : h.Ns mainGlobals mg) : Df K mg x st := by
  cases d with
  | mk a l c k => exact vJ X G a l c k
inductive DL where
  | n
  | c (x : Str) (st : Stmt) (r : DL)
def DIs (K : PySem.W.Frag) : DL → Prop
  | .n => True
  | .c x st r => DI K x st ∧ DIs K r
theorem DIs.on {K : PySem.W.Frag}{x : Str}{st : Stmt}{r : DL}{f : Addr}{oc : Value}{od an : Option Addr}{osl : Array (Option Value)}{kV doc pm cdv ct : Value}(a : PySem.W.nsIn K mainGlobals x=some (some (.ref f)))(l : K.lookup f=some ⟨oc, od, .func (PySem.W.fnOf x x (b_ st) (bL st) (av st) .none kV doc pm an cdv ct), osl⟩)(c : PySem.W.codeIn K cdv x=true)(k : PySem.W.keepIn K (.ref f)=true)(hr : DIs K r) : DIs K (.c x st r) := ⟨.mk a l c k, hr⟩
theorem ur {l : PySem.W.OpenLaw}{w : World}{K : PySem.W.Frag}{h : Heap}{mg : Str → Option Value}{fa : Addr}(X : K.In h)(G : h.Ns mainGlobals mg)(hfa : mg "law" = some (.ref fa))
    {f32 : Addr} {od32 an32 : Option Addr} {sl32 : Array (Option Value)} {oc32 kV32 dc32 pm32 cd32 ct32 : Value} {aB : Addr} {es : Array DictEntry} {en : Nat} {tS : Tok}   {tM : Tok}  {t0 t1 t2 t3 t4 t5 t6 t7 t8 t9 t10 t11 : Tok}
    (hs : DIs K (.c "number_of" q8 <| .c "back" md <| .c "is_whole" i0 <| .c "strands_of" q9 <| .c "letter_of" q_ <| .c "strand_behind" gk <| .c "strand_on" vA <| .c "points" rp <| .c "met_at" iW <| .c "chords" gu <| .c "is_picture" i4 <| .c "are_counts" mK <| .c "are_joins" i3 <| .c "picture_of" rK <| .c "_law_tape" l_ <| .c "_law_draw" ma <| .c "_law_back" iR <| .c "_law_any_row" rf <| .c "_law_inner" iS <| .c "_law_rooted" fb <| .c "_law_any_way" vx <| .c "_law_some_ways" iT <| .c "_law_all_strands" mq <| .c "_law_any_drawing" mw <| .c "_law_all_spots" iY <| .c "_law_all_chords" fg <| .c "_law_any_joins" gA <| .c "_law_whole" gv <| .c "_law_is_picture" gx <| .c "_law_row_bent" i8 <| .c "_law_bent" mY <| .c "_law_told_right" gD <| .n))
    (a32 : PySem.W.nsIn K mainGlobals "law" = some (some (.ref f32)))
    (l32 : K.lookup f32=some ⟨oc32, od32, .func (PySem.W.fnOf "law" "law" (b_ iy) (bL iy) (av iy) .none kV32 dc32 pm32 an32 cd32 ct32), sl32⟩)
    (c32 : PySem.W.codeIn K cd32 "law" = true)
    (k32 : PySem.W.keepIn K (.ref f32)=true)
    (z_len : PySem.W.nsIn K mainGlobals "len" = some none)
    (z_repr : PySem.W.nsIn K mainGlobals "repr" = some none)
    (z_abs : PySem.W.nsIn K mainGlobals "abs" = some none)
    (z_max : PySem.W.nsIn K mainGlobals "max" = some none)
    (z_int : PySem.W.nsIn K mainGlobals "int" = some none)
    (z_list : PySem.W.nsIn K mainGlobals "list" = some none)
    (z_range : PySem.W.nsIn K mainGlobals "range" = some none)
    (z_reversed : PySem.W.nsIn K mainGlobals "reversed" = some none)
    (z_min : PySem.W.nsIn K mainGlobals "min" = some none)
    (z_sorted : PySem.W.nsIn K mainGlobals "sorted" = some none)
    (z_tuple : PySem.W.nsIn K mainGlobals "tuple" = some none)
    (z_isinstance : PySem.W.nsIn K mainGlobals "isinstance" = some none)
    (z_all : PySem.W.nsIn K mainGlobals "all" = some none)
    (z_str : PySem.W.nsIn K mainGlobals "str" = some none)
    (z_zip : PySem.W.nsIn K mainGlobals "zip" = some none)
    (aBk : PySem.W.nsIn K mainGlobals "BACKS" = some (some (.ref aB)))
    (lB : K.lookup aB=some ⟨.type "dict", none, .dict es en, #[]⟩)
    (kB : PySem.W.KeysLit w.params es.toList)
    (aS : PySem.W.nsIn K mainGlobals "SMALL" = some (some (.str "abcdef" tS)))
    (zE : PySem.W.nsIn K mainGlobals "enumerate" = some none)
    (zM : PySem.W.nsIn K mainGlobals "sum" = some none)
    (aM : PySem.W.nsIn K mainGlobals "MOST_STRANDS" = some (some (.int 60 tM)))
    (z_bool : PySem.W.nsIn K mainGlobals "bool" = some none)
    (gl0 : PySem.W.nsIn K aB "a" = some (some (.str "A" t0)))
    (gl1 : PySem.W.nsIn K aB "b" = some (some (.str "B" t1)))
    (gl2 : PySem.W.nsIn K aB "c" = some (some (.str "C" t2)))
    (gl3 : PySem.W.nsIn K aB "d" = some (some (.str "D" t3)))
    (gl4 : PySem.W.nsIn K aB "e" = some (some (.str "E" t4)))
    (gl5 : PySem.W.nsIn K aB "f" = some (some (.str "F" t5)))
    (gl6 : PySem.W.nsIn K aB "A" = some (some (.str "a" t6)))
    (gl7 : PySem.W.nsIn K aB "B" = some (some (.str "b" t7)))
    (gl8 : PySem.W.nsIn K aB "C" = some (some (.str "c" t8)))
    (gl9 : PySem.W.nsIn K aB "D" = some (some (.str "d" t9)))
    (gl10 : PySem.W.nsIn K aB "E" = some (some (.str "e" t10)))
    (gl11 : PySem.W.nsIn K aB "F" = some (some (.str "f" t11))) :
    ∃ fd : FuncData, (∀ (s : Shared) (v : Value), BindsTo s fd ⟨[v], []⟩ [("_law_script", v)]) ∧ ∀ base : Heap, K.In base → base.Ns mainGlobals mg → m7 l.prog w K mg base CX0 8 fa fd ["_law_script"] (m5 K) := by
  have e := hfa.symm.trans (zy X G a32)
  cases e
  have gB : ∀ x : L, ∃ t, PySem.W.nsIn K aB (toS [x])=some (some (.str (toS [inv x]) t)) := by
    have q : ∀ (x : L) (u v : Str) (t : Tok), PySem.W.nsIn K aB u=some (some (.str v t)) → toS [x]=u → toS [inv x]=v → ∃ t, PySem.W.nsIn K aB (toS [x])=some (some (.str (toS [inv x]) t)) := fun x u v t g e1 e2 => ⟨t, by rw [e1, e2];exact g⟩
    intro x
    match x with
    | ⟨0, _⟩ => exact q 0 "a" "A" _ gl0 (by decide +kernel) (by decide +kernel)
    | ⟨1, _⟩ => exact q 1 "b" "B" _ gl1 (by decide +kernel) (by decide +kernel)
    | ⟨2, _⟩ => exact q 2 "c" "C" _ gl2 (by decide +kernel) (by decide +kernel)
    | ⟨3, _⟩ => exact q 3 "d" "D" _ gl3 (by decide +kernel) (by decide +kernel)
    | ⟨4, _⟩ => exact q 4 "e" "E" _ gl4 (by decide +kernel) (by decide +kernel)
    | ⟨5, _⟩ => exact q 5 "f" "F" _ gl5 (by decide +kernel) (by decide +kernel)
    | ⟨6, _⟩ => exact q 6 "A" "a" _ gl6 (by decide +kernel) (by decide +kernel)
    | ⟨7, _⟩ => exact q 7 "B" "b" _ gl7 (by decide +kernel) (by decide +kernel)
    | ⟨8, _⟩ => exact q 8 "C" "c" _ gl8 (by decide +kernel) (by decide +kernel)
    | ⟨9, _⟩ => exact q 9 "D" "d" _ gl9 (by decide +kernel) (by decide +kernel)
    | ⟨10, _⟩ => exact q 10 "E" "e" _ gl10 (by decide +kernel) (by decide +kernel)
    | ⟨11, _⟩ => exact q 11 "F" "f" _ gl11 (by decide +kernel) (by decide +kernel)
  have T : Bt K w mg aB := ⟨xD X G z_len, xD X G z_repr, xD X G z_abs, xD X G z_max, xD X G z_int, xD X G z_list, xD X G z_range, xD X G z_reversed, xD X G z_min, xD X G z_sorted, xD X G z_tuple, xD X G z_isinstance, xD X G z_all, xD X G z_str, xD X G z_zip, zy X G aBk, ⟨es, en, lB, kB⟩, gB⟩
  have S : ∃ t, mg "SMALL" = some (.str "abcdef" t) := ⟨_, zy X G aS⟩
  have Te : mg "enumerate" = none := xD X G zE
  have Tsum : mg "sum" = none := xD X G zM
  have MM : ∃ t, mg "MOST_STRANDS" = some (.int 60 t) := ⟨_, zy X G aM⟩
  have Tbool : mg "bool" = none := xD X G z_bool
  refine ⟨PySem.W.fnOf "law" "law" (b_ iy) (bL iy) (av iy) .none kV32 dc32 pm32 an32 cd32 ct32, fun s v => .of_eq rfl, fun base _ _ => ?_⟩
  obtain ⟨h0, h1, h2, h3, h4, h5, h6, h7, h8, h9, h10, h11, h12, h13, h14, h15, h16, h17, h18, h19, h20, h21, h22, h23, h24, h25, h26, h27, h28, h29, h30, h31, _⟩ := hs
  have F_tape := tP (P := l.prog) (w := w) (base := base) (h14.df X G) T
  have F_draw := tQ (P := l.prog) (w := w) (base := base) (h15.df X G) T
  have F_back := tR (P := l.prog) (w := w) (base := base) (h1.df X G) T
  have F_lback := qZ (P := l.prog) (w := w) (base := base) (h16.df X G) 
  have F_num := vp (P := l.prog) (w := w) (base := base) (h0.df X G) T S
  have F_whole := rB (P := l.prog) (w := w) (base := base) (h2.df X G) T Tbool
  have F_str := vq (P := l.prog) (w := w) (base := base) (h3.df X G) T Te
  have F_lof := vt (P := l.prog) (w := w) (base := base) (h4.df X G) T
  have F_row := vw (P := l.prog) (w := w) (base := base) (h17.df X G) T F_draw
  have F_lrooted := mj (P := l.prog) (w := w) (base := base) (h19.df X G) T
  have F_inner := rg (P := l.prog) (w := w) (base := base) (h18.df X G) T F_lback
  have F_aw := wQ (P := l.prog) (w := w) (base := base) (h20.df X G) T F_draw F_inner F_lrooted
  have F_sways := rh (P := l.prog) (w := w) (base := base) (h21.df X G) T F_draw F_lback F_aw
  have F_alls := tZ (P := l.prog) (w := w) (base := base) (h22.df X G) T
  have F_adrw := ua (P := l.prog) (w := w) (base := base) (h23.df X G) T F_draw F_alls
  have F_on := wR (P := l.prog) (w := w) (base := base) (h6.df X G) T
  have F_behind := oJ (P := l.prog) (w := w) (base := base) (h5.df X G) T F_on
  have F_metat := rm (P := l.prog) (w := w) (base := base) (h8.df X G) T F_num
  have F_pts := vC (P := l.prog) (w := w) (base := base) (h7.df X G) T F_metat
  have F_spots := rq (P := l.prog) (w := w) (base := base) (h24.df X G) T
  have F_chords := oQ (P := l.prog) (w := w) (base := base) (h9.df X G) T Te F_back F_lof F_behind F_pts F_str
  have F_lchords := mJ (P := l.prog) (w := w) (base := base) (h25.df X G) T F_lback F_spots F_alls
  have F_cnts := ue (P := l.prog) (w := w) (base := base) (h11.df X G) T MM Tsum F_whole
  have F_joins := rE (P := l.prog) (w := w) (base := base) (h12.df X G) T Te F_whole
  have F_ispic := rF (P := l.prog) (w := w) (base := base) (h10.df X G) T Tsum F_cnts F_joins
  have F_pic := vG (P := l.prog) (w := w) (base := base) (h13.df X G) T F_chords
  have F_lwhole := oU (P := l.prog) (w := w) (base := base) (h27.df X G) T Tbool
  have F_lispic := oV (P := l.prog) (w := w) (base := base) (h28.df X G) T Tsum F_lwhole
  have F_ajoins := oX (P := l.prog) (w := w) (base := base) (h26.df X G) T F_draw
  have F_rbent := rN (P := l.prog) (w := w) (base := base) (h29.df X G) T F_draw
  have F_bent := um (P := l.prog) (w := w) (base := base) (h30.df X G) T F_draw F_rbent
  have F_tright := o7 (P := l.prog) (w := w) (base := base) (h31.df X G) T F_sways F_adrw F_lchords F_pic F_ispic
  exact vI (pB l32 c32 k32) T Tsum F_tape F_draw F_row F_ajoins F_bent F_ispic F_lispic F_tright
theorem wV {l : PySem.W.OpenLaw}{q : Program}{loose : List Str}{XP : (Str → Option Value) → Heap → Prop}{YP : World → Heap → Prop}{d : DefRec}{K : Params → PySem.W.Frag}(hn : l.most=some 63)(hdf : d.params.defaults=[])
    (hY : ∀ (w : World) (h : Heap), YP w h → (K w.params).In h)
    (F : ∀ (w : World) (mg : Str → Option Value) (fa : Addr) (h : Heap), (K w.params).In h → h.Ns mainGlobals mg → mg d.name=some (.ref fa) →
      ∃ fd : FuncData, (∀ (s : Shared) (u : Value), BindsTo s fd ⟨[u], []⟩ [("_law_script", u)]) ∧ ∀ base : Heap, (K w.params).In base → base.Ns mainGlobals mg → m7 l.prog w (K w.params) mg base CX0 8 fa fd ["_law_script"] (m5 (K w.params))) :
    PySem.W.WalkO q loose XP YP l.row.toRowW d [] (fun f vs => PySem.call f vs) :=
  L2.kU (n := 63) (k := 8) (x := "_law_script") (CX := fun _ => CX0) (sp := fun w => m5 (K w.params)) hn (by decide) hdf ⟨rfl, by decide, by decide, rfl⟩ hY F (fun _ _ a ns hl _ hS => ⟨a, ns, rfl, hS, hl, fun _ => rfl⟩) fun _ _ _ _ _ z => z
end Kx
namespace Kx
open PySem
def uu (s : String) : Str := ⟨⟨PySem.W.R.mapR Char.toNat (PySem.W.S.toListS s)⟩⟩
theorem o8 : Str.ofString=uu := by
  funext s
  rw [Str.ofString_eq_toList, PySem.W.S.toListS_eq]
  show _=(⟨⟨PySem.W.R.mapR Char.toNat (PySem.W.S.toListS s)⟩⟩ : Str)
  rw [← PySem.W.R.mapR_eq]
def apG (G : (String → Str) → Program)(x : String → Str) : Program := G x
def Gs : { G : (String → Str) → Program // apG G Str.ofString=PySem.Challenge.pw_ringwords_k36_pictures_by_kind } := by
  refine ⟨?G, ?h⟩
  case h =>
    delta PySem.Challenge.pw_ringwords_k36_pictures_by_kind
    generalize Str.ofString=x
    exact rfl
end Kx
def PySem.W.Fast.tw8033433266876651831 : PySem.Program := Kx.Gs.1 Kx.uu
theorem PySem.W.Fast.te8033433266876651831 : PySem.Challenge.pw_ringwords_k36_pictures_by_kind=PySem.W.Fast.tw8033433266876651831 := Kx.Gs.2.symm.trans (xA (Kx.apG Kx.Gs.1) Kx.o8)
theorem PySem.W.Fast.te3033454087453267182 : True := trivial
theorem PySem.W.Fast.tw1419183562177051601 : True := trivial
theorem PySem.W.Fast.tw10869054379120556918 : True := trivial
theorem PySem.W.Fast.tw17582371413031914127 : True := trivial
theorem PySem.W.Fast.tw5665005797252230867 : True := trivial
theorem PySem.W.Fast.tw13491761224181119180 : True := trivial
theorem PySem.W.Fast.tw3885443100664822448 : True := trivial
theorem PySem.W.Fast.tw15633488909526088595 : True := trivial
theorem PySem.W.Fast.tw12910735485386572392 : True := trivial
theorem PySem.W.Fast.tw2981453183137966781 : True := trivial
theorem PySem.W.Fast.tw9200822799485420733 : True := trivial
theorem PySem.W.Fast.tw8164992945932746543 : True := trivial
theorem PySem.W.Fast.tw13191371461049735758 : True := trivial
theorem PySem.W.Fast.tw7267299436559208658 : True := trivial
theorem PySem.W.Fast.tw16139044351599843207 : True := trivial
open PySem PySem.W PyProof.Rows
set_option maxRecDepth 100000 in
set_option maxHeartbeats 0 in
theorem PySem.Challenge.cw_ringwords_k36_pictures_by_kind_holds : PySem.Challenge.rw_ringwords_k36_pictures_by_kind.Holds := by
  w_on; o_law; k_head; (case hw => w_witness2)
  k_fill
  refine Kx.wV (l := PySem.Challenge.rw_ringwords_k36_pictures_by_kind) rfl rfl (fun w h Y => PySem.W.kIn_of Y) ?F
  case F =>
    intro w mg fa h KX G hmg
    refine' Kx.ur KX G hmg ?hs ?a32 ?l32 ?c32 ?k32 ?z_len ?z_repr ?z_abs ?z_max ?z_int ?z_list ?z_range ?z_reversed ?z_min ?z_sorted ?z_tuple ?z_isinstance ?z_all ?z_str ?z_zip ?aBk ?lB ?kB ?aS ?zE ?zM ?aM ?z_bool ?gl0 ?gl1 ?gl2 ?gl3 ?gl4 ?gl5 ?gl6 ?gl7 ?gl8 ?gl9 ?gl10 ?gl11
    (case hs => (iterate 32 (refine' Kx.DIs.on ?_ ?_ ?_ ?_ ?_; rotate_left 10; k_is; k_is; k_is; k_is)); exact trivial)
    (case a32 => k_is)
    (case l32 => k_is)
    (case c32 => k_is)
    (case k32 => k_is)
    (case z_len => k_is)
    (case z_repr => k_is)
    (case z_abs => k_is)
    (case z_max => k_is)
    (case z_int => k_is)
    (case z_list => k_is)
    (case z_range => k_is)
    (case z_reversed => k_is)
    (case z_min => k_is)
    (case z_sorted => k_is)
    (case z_tuple => k_is)
    (case z_isinstance => k_is)
    (case z_all => k_is)
    (case z_str => k_is)
    (case z_zip => k_is)
    (case aBk => k_is)
    (case lB => k_is)
    (case kB => exact ⟨⟨_, _, rfl, rfl⟩, ⟨_, _, rfl, rfl⟩, ⟨_, _, rfl, rfl⟩, ⟨_, _, rfl, rfl⟩, ⟨_, _, rfl, rfl⟩, ⟨_, _, rfl, rfl⟩, ⟨_, _, rfl, rfl⟩, ⟨_, _, rfl, rfl⟩, ⟨_, _, rfl, rfl⟩, ⟨_, _, rfl, rfl⟩, ⟨_, _, rfl, rfl⟩, ⟨_, _, rfl, rfl⟩, trivial⟩)
    (case aS => k_is)
    (case zE => k_is)
    (case zM => k_is)
    (case aM => k_is)
    (case z_bool => k_is)
    (case gl0 => k_is)
    (case gl1 => k_is)
    (case gl2 => k_is)
    (case gl3 => k_is)
    (case gl4 => k_is)
    (case gl5 => k_is)
    (case gl6 => k_is)
    (case gl7 => k_is)
    (case gl8 => k_is)
    (case gl9 => k_is)
    (case gl10 => k_is)
    (case gl11 => k_is)
end
